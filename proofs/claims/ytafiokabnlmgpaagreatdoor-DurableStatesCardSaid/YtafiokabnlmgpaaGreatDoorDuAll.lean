/- The files of a node whose power ends while it keeps a state, reckoned. Plain mathematics. Conditions: states of at most 3000 bytes. The pen of one byte. Conditions: lengths. The contracts of the eye: number, Num, Text, Byte, End read just what the document says of the bytes that are left, and move the eye on or leave it. Conditions: the bytes' rows are kept, lengths are short. The contracts of the eye's calls. Conditions: the eye's bytes are kept, lengths are short. A disk's life: kept, loaded, begun. Conditions: numbers of 64 bits; the table holds its numbers. A disk's life loaded and begun. Conditions: numbers of 64 bits; the table holds its numbers; what lies there is a life, or nothing. A disk's life loaded and begun. Conditions: numbers of 64 bits; the table holds its numbers; what lies there is a life, or nothing. A disk's life begun. Conditions: numbers of 64 bits; the table holds its numbers; what lies there is a life, or nothing. A group of which nothing lies there, opened. Conditions: the disk's power has no end; the table holds its numbers. The right groups: that of one number, which is 0. No condition. Maps with keys of type int and elements of any type, as functions from numbers to elements with their number of entries: look-up, store, removal, clearing, number; over any program. Conditions: keys are numbers of the type int; fewer entries than a length can be. A new life with the one group 0, of which nothing lies there. Conditions: the disk's power has no end; the table holds its numbers. What is asked of a keeper: its state, its life; a disk made that of a voter; the law's example. Condition: the table holds its numbers. The law's example of what a node keeps. Condition: the table holds its numbers. -/
import Derived.Test.YtafiokabnlmgpaaGreatDoorSaveP
import Derived.Test.YtafiokabnlmgpaaGreatDoorLOpen
import Derived.Test.YtafiokabnlmgpaaGreatDoorPen2
import Derived.Test.YtafiokabnlmgpaaGreatDoorLRecs
import Derived.Test.YtafiokabnlmgpaaGreatDoorMem
import Derived.Maps.OwnOps
import Derived.Maps.OwnSet
import Derived.Maps.Ext
namespace Go.Proofs.YtafiokabnlmgpaaGreatDoor
open Go.RowKit Go.Maps

/-- the body of a life. -/
def lb (n v : Nat) : Bs := num n ++ [UInt8.ofNat v]
def nL : Bs := [108, 105, 102, 101]
def nS : Bs := [115, 116, 97, 116, 101]
def lf (b : Bs) : PF := ⟨nL, pk b, (pk b).length⟩
def sf (b : Bs) : PF := ⟨nS, pk b, (pk b).length⟩
def sd (d : Bs) (m : Nat) : PF := ⟨nS ++ [126], d, m⟩
theorem lb_len (n v : Nat) (h : n < 2 ^ 64) : (lb n v).length ≤ 11 := by
  have := num_len n h
  unfold lb
  rw [List.length_append, List.length_singleton]
  omega
theorem pk_lb (n v : Nat) (h : n < 2 ^ 64) : (pk (lb n v)).length ≤ 100 := by
  have h0 := lb_len n v h
  have h1 := chunks_count (lb n v)
  have h2 := frames_flat (chunks (lb n v))
  rw [chunks_flat] at h2
  have h3 := num_len (lb n v).length (by omega)
  unfold pk
  rw [frames_cons, List.length_append, frameOf_len]
  omega
theorem pk_st (b : Bs) (h : b.length ≤ 3000) : (pk b).length ≤ 3100 := by
  have h1 := chunks_count b
  have h2 := frames_flat (chunks b)
  rw [chunks_flat] at h2
  have h3 := num_len b.length (by omega)
  unfold pk
  rw [frames_cons, List.length_append, frameOf_len]
  omega

/-- a life kept on a new disk. -/
theorem life_new (R : Nat) (hR : 1000 ≤ R) (n v : Nat) (hn : n < 2 ^ 64) : psave (pNew R) nL (lb n v) = (⟨R, -1, false, [lf (lb n v)]⟩, 0) := by
  have h1 := pk_lb n v hn
  rw [psave_on (pNew R) rfl rfl nL (lb n v) (by decide) (by decide) (by simp [pNew, pdel]) (by simp [pNew, pdel, ptotal]; omega)]
  rfl
/-- a life kept ahead of whatever else lies there. -/
theorem life_again (R : Nat) (n v n' v' : Nat) (hn : n < 2 ^ 64) (L : List PF) (hL : L = [] ∨ (∃ s, L = [s] ∧ s.name = nS) ∨ ∃ s t, L = [s, t] ∧ s.name = nS ∧ t.name = nS ++ [126]) (hR : ptotal L + 300 ≤ R) (hn' : n' < 2 ^ 64) : psave ⟨R, -1, false, lf (lb n' v') :: L⟩ nL (lb n v) = (⟨R, -1, false, lf (lb n v) :: L⟩, 0) := by
  have h1 := pk_lb n v hn
  have h1' := pk_lb n' v' hn'
  have hd : pdel (lf (lb n' v') :: L) (draft nL) = lf (lb n' v') :: L := by
    rcases hL with rfl | ⟨s, rfl, hs⟩ | ⟨s, t, rfl, hs, ht⟩
    · simp [lf, pdel, draft, nL]
    · simp [lf, pdel, draft, nL, hs, nS]
    · simp [lf, pdel, draft, nL, hs, ht, nS]
  have hd2 : pdel (lf (lb n' v') :: L) nL = L := by
    rcases hL with rfl | ⟨s, rfl, hs⟩ | ⟨s, t, rfl, hs, ht⟩
    · simp [lf, pdel, nL]
    · simp [lf, pdel, nL, hs, nS]
    · simp [lf, pdel, nL, hs, ht, nS]
  have hl : L.length ≤ 2 := by
    rcases hL with rfl | ⟨s, rfl, hs⟩ | ⟨s, t, rfl, hs, ht⟩ <;> simp
  rw [psave_on ⟨R, -1, false, lf (lb n' v') :: L⟩ rfl rfl nL (lb n v) (by decide) (by decide) (by dsimp only; rw [hd, List.length_cons]; omega) (by dsimp only; rw [hd]; show (pk (lb n' v')).length + ptotal L + _ ≤ _; omega)]
  dsimp only
  rw [hd, hd2]
  rcases hL with rfl | ⟨s, rfl, hs⟩ | ⟨s, t, rfl, hs, ht⟩
  · rfl
  · simp only [pins, hs]
    rw [if_pos (by decide)]
    rfl
  · simp only [pins, hs]
    rw [if_pos (by decide)]
    rfl
theorem life_load (R : Nat) (n v : Nat) (hn : n < 2 ^ 64) (L : List PF) : pload ⟨R, -1, false, lf (lb n v) :: L⟩ nL = (lb n v, 0) := by
  have h0 := lb_len n v hn
  have e : pRead ⟨R, -1, false, lf (lb n v) :: L⟩ nL = (pk (lb n v), 0) := by simp [pRead, lf, pfind]
  unfold pload
  rw [e, unpk_pk (lb n v) (by omega)]
  rfl
theorem life_none (R : Nat) : pload (pNew R) nL = ([], 60) := by
  have e : pRead (pNew R) nL = ([], 60) := by simp [pRead, pNew, pfind]
  unfold pload
  rw [e]
  rfl
/-- a state kept for the first time. -/
theorem state_new (n v : Nat) (hn : n < 2 ^ 64) (A : Bs) (h : A.length ≤ 3000) : psave ⟨262144, -1, false, [lf (lb n v)]⟩ nS A = (⟨262144, -1, false, [lf (lb n v), sf A]⟩, 0) := by
  have h1 := pk_st A h
  have h2 := pk_lb n v hn
  rw [psave_on ⟨262144, -1, false, [lf (lb n v)]⟩ rfl rfl nS A (by decide) (by decide) (by simp [lf, pdel, draft, nL, nS]) (by simp [lf, pdel, draft, nL, nS, ptotal]; omega)]
  simp [lf, sf, pdel, pins, draft, nL, nS, show Op.bytesLess [115, 116, 97, 116, 101] [108, 105, 102, 101] = false from by decide]
theorem state_load (R : Nat) (x A : Bs) (h : A.length ≤ 3000) (L : List PF) : pload ⟨R, -1, false, lf x :: sf A :: L⟩ nS = (A, 0) := by
  have e : pRead ⟨R, -1, false, lf x :: sf A :: L⟩ nS = (pk A, 0) := by simp [pRead, lf, sf, pfind, nL, nS]
  unfold pload
  rw [e, unpk_pk A (by omega)]
  rfl
/-- a state kept while the power ends: the elder one and a draft, or the new one. -/
theorem state_cut (x A B : Bs) (hx : (pk x).length ≤ 100) (h : A.length ≤ 3000) (h' : B.length ≤ 3000) (q : Int) (hq : 0 ≤ q) :
    (∃ m, m ≤ (pk B).length ∧ psave ⟨262144, q, false, [lf x, sf A]⟩ nS B = (⟨262144, 0, true, [lf x, sf A, sd (pk B) m]⟩, 3)) ∨ psave ⟨262144, q, false, [lf x, sf A]⟩ nS B = (⟨262144, q - 3, false, [lf x, sf B]⟩, 0) := by
  have h1 := pk_st A h
  have h2 := pk_st B h'
  have lt1 : Op.bytesLess [115, 116, 97, 116, 101, 126] [108, 105, 102, 101] = false := by decide
  have lt2 : Op.bytesLess [115, 116, 97, 116, 101, 126] [115, 116, 97, 116, 101] = false := by decide
  have lt3 : Op.bytesLess [115, 116, 97, 116, 101] [108, 105, 102, 101] = false := by decide
  have hr : pRemove ⟨262144, q, false, [lf x, sf A]⟩ (draft nS) = (⟨262144, q, false, [lf x, sf A]⟩, 60) := by simp [pRemove, pChange, lf, sf, pfind, draft, nL, nS]
  have ha : pAppend ⟨262144, q, false, [lf x, sf A]⟩ (draft nS) (pk B) = (pspend ⟨262144, q, false, [lf x, sf A, sd (pk B) 0]⟩, if q = 0 then 3 else 0) := by
    unfold pAppend
    rw [if_neg (by simp), if_neg (by simp [isNm, draft, nS]), if_neg (by simp [lf, sf, pfind, draft, nL, nS, ptotal]; omega)]
    simp [lf, sf, sd, pfind, draft, pput, pset, pins, nL, nS, lt1, lt2, pspendE]
  by_cases q0 : q = 0
  · subst q0
    refine .inl ⟨0, Nat.zero_le _, ?_⟩
    unfold psave
    rw [if_neg (by decide), hr, if_neg (by simp)]
    dsimp only
    rw [ha]
    simp [pspend]
  have ha' : pAppend ⟨262144, q, false, [lf x, sf A]⟩ (draft nS) (pk B) = (⟨262144, q - 1, false, [lf x, sf A, sd (pk B) 0]⟩, 0) := by
    rw [ha, if_neg q0]
    unfold pspend
    rw [if_neg q0, if_pos (by dsimp only; omega)]
  by_cases q1 : q = 1
  · subst q1
    have hs : pSync ⟨262144, 1 - 1, false, [lf x, sf A, sd (pk B) 0]⟩ (draft nS) = (⟨262144, 0, true, [lf x, sf A, sd (pk B) 0]⟩, 3) := by simp [pSync, pChange, lf, sf, sd, pfind, draft, pspend, nL, nS]
    refine .inl ⟨0, Nat.zero_le _, ?_⟩
    unfold psave
    rw [if_neg (by decide), hr, if_neg (by simp)]
    dsimp only
    rw [ha', if_neg (by simp)]
    dsimp only
    rw [hs]
    simp
  have hs : pSync ⟨262144, q - 1, false, [lf x, sf A, sd (pk B) 0]⟩ (draft nS) = (⟨262144, q - 2, false, [lf x, sf A, sd (pk B) (pk B).length]⟩, 0) := by
    unfold pSync pChange
    rw [if_neg (by simp)]
    simp only [lf, sf, sd, pfind, draft, nL, nS, List.cons_append, List.nil_append]
    rw [if_neg (by simp), if_neg (by simp), if_pos trivial]
    dsimp only
    rw [if_neg (by simp), if_neg (by omega)]
    unfold pspend
    rw [if_neg (by dsimp only; omega), if_pos (by dsimp only; omega)]
    simp [pset]
    omega
  by_cases q2 : q = 2
  · subst q2
    have hn : pRename ⟨262144, 2 - 2, false, [lf x, sf A, sd (pk B) (pk B).length]⟩ (draft nS) nS = (⟨262144, 0, true, [lf x, sf A, sd (pk B) (pk B).length]⟩, 3) := by simp [pRename, pChange, lf, sf, sd, pfind, draft, pspend, isNm, nL, nS]
    refine .inl ⟨(pk B).length, Nat.le_refl _, ?_⟩
    unfold psave
    rw [if_neg (by decide), hr, if_neg (by simp)]
    dsimp only
    rw [ha', if_neg (by simp)]
    dsimp only
    rw [hs, if_neg (by simp)]
    dsimp only
    exact hn
  have hn : pRename ⟨262144, q - 2, false, [lf x, sf A, sd (pk B) (pk B).length]⟩ (draft nS) nS = (⟨262144, q - 3, false, [lf x, sf B]⟩, 0) := by
    unfold pRename pChange
    rw [if_neg (by simp)]
    simp only [lf, sf, sd, pfind, draft, nL, nS, List.cons_append, List.nil_append]
    rw [if_neg (by simp), if_neg (by simp), if_pos trivial]
    dsimp only
    have hq2 : ¬ q - 2 = 0 := by omega
    have hq3 : 2 < q := by omega
    simp [isNm, pspend, hq2, hq3, pdel, pins, lt3]
    omega
  refine .inr ?_
  unfold psave
  rw [if_neg (by decide), hr, if_neg (by simp)]
  dsimp only
  rw [ha', if_neg (by simp)]
  dsimp only
  rw [hs, if_neg (by simp)]
  dsimp only
  exact hn
theorem crash_last (k : Bs) (d : Bs) (i : Int) : pcrashF ⟨k, d, d.length⟩ i = ⟨k, d, d.length⟩ := by
  have e : pkeep ⟨k, d, d.length⟩ i = d.length := by
    unfold pkeep
    dsimp only
    rw [Nat.sub_self]
    simp
  unfold pcrashF
  rw [e]
  simp
/-- behind the crash: the files that the next life finds. -/
theorem state_crash (x A B : Bs) (hx : (pk x).length ≤ 100) (h : A.length ≤ 3000) (h' : B.length ≤ 3000) (q : Int) (hq : 0 ≤ q) (ks : List Int) :
    ∃ C L, pCrash (psave ⟨262144, q, false, [lf x, sf A]⟩ nS B).1 ks = ⟨262144, -1, false, lf x :: sf C :: L⟩ ∧ (L = [] ∨ ∃ t, L = [t] ∧ t.name = nS ++ [126]) ∧ ptotal (sf C :: L) + 300 ≤ 262144 ∧ C.length ≤ 3000 ∧ ((psave ⟨262144, q, false, [lf x, sf A]⟩ nS B).2 = 0 ∧ C = B ∨ (psave ⟨262144, q, false, [lf x, sf A]⟩ nS B).2 = 3 ∧ C = A) := by
  have h1 := pk_st A h
  have h2 := pk_st B h'
  rcases state_cut x A B hx h h' q hq with ⟨m, hm, e⟩ | e
  · rw [e]
    refine ⟨A, [pcrashF (sd (pk B) m) (ks.tail.tail.headD 0)], ?_, .inr ⟨_, rfl, rfl⟩, ?_, h, .inr ⟨rfl, rfl⟩⟩
    · show (⟨262144, -1, false, [pcrashF (lf x) _, pcrashF (sf A) _, pcrashF _ _]⟩ : PD) = _
      unfold lf sf
      rw [crash_last, crash_last]
    · show (pk A).length + (((pk B).take _).length + 0) + 300 ≤ _
      rw [List.length_take]
      omega
  · rw [e]
    refine ⟨B, [], ?_, .inl rfl, ?_, h', .inl ⟨rfl, rfl⟩⟩
    · show (⟨262144, -1, false, [pcrashF (lf x) _, pcrashF (sf B) _]⟩ : PD) = _
      unfold lf sf
      rw [crash_last, crash_last]
    · show (pk B).length + 0 + 300 ≤ _
      omega

/-- a log of which nothing lies there. -/
theorem open_none (p : PD) (n : Bs) (sz : Nat) (h : ∀ j, j ≤ 9 → pfind p.files (lfile n j) = none) : lopen p n sz = (p, PL.new n sz) := by
  have hr : lread 10 p 0 (PL.new n sz) = (p, PL.new n sz) := by
    unfold lread
    rw [show (PL.new n sz).name = n from rfl, h 0 (by omega)]
  have hd : ∀ f, f ≤ 9 → ldel n 0 f p.files = p.files := by
    intro f
    induction f with
    | zero => intro _; rfl
    | succ f ih =>
      intro hf
      unfold ldel
      rw [del_none (h (0 + f + 1) (by omega))]
      exact ih (by omega)
  unfold lopen
  rw [hr]
  show ({ p with files := ldel n 0 (9 - 0) p.files }, _) = _
  rw [hd 9 (by omega)]
theorem no_log (R : Nat) (x : Bs) (L : List PF) (hL : L = [] ∨ (∃ s, L = [s] ∧ s.name = nS) ∨ ∃ s t, L = [s, t] ∧ s.name = nS ∧ t.name = nS ++ [126]) : lopen ⟨R, -1, false, lf x :: L⟩ [103, 48] 40960 = (⟨R, -1, false, lf x :: L⟩, PL.new [103, 48] 40960) := by
  refine open_none _ _ _ fun j hj => ?_
  have e : ∀ k : Bs, lfile [103, 48] j = 103 :: (lfile [103, 48] j).tail := fun _ => rfl
  rw [e []]
  generalize (lfile [103, 48] j).tail = t
  rcases hL with rfl | ⟨s, rfl, hs⟩ | ⟨s, u, rfl, hs, hu⟩
  · simp [pfind, lf, nL]
  · simp [pfind, lf, nL, hs, nS]
  · simp [pfind, lf, nL, hs, hu, nS]
end Go.Proofs.YtafiokabnlmgpaaGreatDoor

namespace Go.Proofs.YtafiokabnlmgpaaGreatDoor
open Go.RowKit

set_option maxRecDepth 100000 in
set_option maxHeartbeats 400000 in
theorem byte_any (w : World) (base g : Nat) (x : UInt8) (v : Value) (l : List UInt8) (hp : Pen w base g v l) (hb : base ≤ w.heap.size) (hl : l.length ≤ 1000000000) :
    Calls Tryz.prog 54 #[.pointer (some ⟨g, 0, none⟩), .int .u8 (x.toNat : Int)] w fun e w' => e = .returned (.tuple #[]) ∧ ∃ v', Wro w w' base g v v' (l ++ [x]) := by
  obtain ⟨i0, hi, hz0, hz1, hz2⟩ := info_parts byteInfo
  have hc := hp.bk.cell 0
  have hf := hp.bk.free 0
  simp only [List.getElem?_toArray, List.getElem?_cons_zero] at hc
  have HP := Lib.hid hp
  have HS := Lib.hid hl
  clear hp hl
  go_enter Tryz.func54, Tryz.ntmps54
  go_wp2_with (at_builtin; refine wpList_app rfl _ _ 55 rfl base 5 i0 (.int .u8 0) 1 Tryz.underlying55 hi hz0 hz1 hz2 rfl _ _ _ rfl (HP.out.own.alloc _) (some ⟨w.heap.size, 0, none⟩) 1 1 (cb [x]) rfl rfl ?c1 (cb_one _) ?c2 ?c3 ?c4 ?c5 ?_)
  case c1 => exact Rd.of_cells (Bk.new _ _ _)
  case c2 => intro h; cases h
  case c3 => have := HS.out; unfold maxLen; omega
  case c4 => have := HS.out; omega
  case c5 => simp; omega
  intro v'' w1 hown' hgrow _ hblk
  obtain ⟨A2, c2, rfl, _, _⟩ := own_form hown'
  have HX1 := Lib.hid (Wro.push (m := 1) (d := [x]) HP.out ((Fr.refl _ _).alloc _) hown' hgrow (by simpa using hblk) rfl)
  clear hown' hgrow hblk hc hf
  have hc1 : w1.cell? ⟨g, 0, none⟩ = some v := HX1.out.1.cell 0
  have hf1 := HX1.out.1.free 0
  go_wp2
  go_end0
  exact ⟨rfl, _, HX1.out.2⟩

end Go.Proofs.YtafiokabnlmgpaaGreatDoor

namespace Go.Proofs.YtafiokabnlmgpaaGreatDoor
open Go.RowKit

/-- what the document says of the number with which bytes begin, from the k-th on: the number, how many bytes it has, the error's number. -/
def numGo : Nat → Nat → List UInt8 → Nat × Nat × Nat
  | _, _, [] => (0, 0, 30)
  | k, n, b :: t =>
    if k = 9 ∧ 1 < b.toNat then (0, 0, 31)
    else if 128 ≤ b.toNat then numGo (k + 1) (n + b.toNat % 128 * 128 ^ k) t
    else if b.toNat = 0 ∧ 0 < k then (0, 0, 31)
    else (n + b.toNat % 128 * 128 ^ k, k + 1, 0)
def rdNum (l : List UInt8) : Nat × Nat × Nat := numGo 0 0 l

theorem drop_cons (l : List UInt8) (k : Nat) (h : k < l.length) : l.drop k = l.getD k 0 :: l.drop (k + 1) := by
  rw [List.drop_eq_getElem_cons h]
  simp [List.getD_eq_getElem?_getD, h]

theorem pow128 (k : Nat) : (128 : Nat) ^ k = 2 ^ (7 * k) := by rw [Nat.pow_mul]
theorem pow_le9 {k : Nat} (h : k ≤ 9) : (128 : Nat) ^ k ≤ 128 ^ 9 := Nat.pow_le_pow_right (by omega) h

theorem or_step (n x k : Nat) (hk : k ≤ 9) (hn : n < 128 ^ k) (h9 : k = 9 → x ≤ 1) :
    bits .or .u64 (n : Int) (IntKind.u64.wrap ((x : Int) % 128 * 2 ^ (7 * k))) = ((n + x % 128 * 128 ^ k : Nat) : Int) := by
  have hp := pow_le9 hk
  have hb : x % 128 * 128 ^ k < 18446744073709551616 := by
    by_cases h : k = 9
    · subst h
      have : x % 128 ≤ 1 := by have := h9 rfl; omega
      have := Nat.mul_le_mul_right (128 ^ 9) this
      omega
    · have h8 : (128 : Nat) ^ k ≤ 128 ^ 8 := Nat.pow_le_pow_right (by omega) (by omega)
      have : x % 128 * 128 ^ k ≤ 127 * 128 ^ 8 := Nat.mul_le_mul (by omega) h8
      omega
  have hc : ((x : Int) % 128 * 2 ^ (7 * k)) = ((x % 128 * 128 ^ k : Nat) : Int) := by
    rw [pow128]; push_cast; rfl
  rw [hc]
  have hw : IntKind.u64.wrap ((x % 128 * 128 ^ k : Nat) : Int) = ((x % 128 * 128 ^ k : Nat) : Int) := by
    generalize x % 128 * 128 ^ k = y at *
    simp only [IntKind.wrap, IntKind.bits, IntKind.signed]
    simp
    omega
  rw [hw, u64_or_nat _ _ (by omega) hb, Nat.or_comm, nat_join (7 * k) _ _ (by rw [pow128]; exact Nat.mul_mod_left _ _) (by rw [← pow128]; exact hn), Nat.add_comm]

theorem or_step9 (n x : Nat) (hn : n < 128 ^ 9) (hx : x ≤ 1) : bits .or .u64 (n : Int) ((x : Int) % 128 * 9223372036854775808) = ((n + x % 128 * 128 ^ 9 : Nat) : Int) := by
  have h := or_step n x 9 (by omega) hn (fun _ => hx)
  rw [show ((2 : Int) ^ (7 * 9)) = 9223372036854775808 from by decide] at h
  have hw : IntKind.u64.wrap ((x : Int) % 128 * 9223372036854775808) = (x : Int) % 128 * 9223372036854775808 := by
    simp only [IntKind.wrap, IntKind.bits, IntKind.signed]
    simp
    omega
  rwa [hw] at h

theorem numGo_form {k n : Nat} {x : UInt8} {t : List UInt8} (h : k = 9 ∧ 1 < x.toNat) : numGo k n (x :: t) = (0, 0, 31) := by rw [numGo, if_pos h]
theorem numGo_on {k n : Nat} {x : UInt8} {t : List UInt8} (h : ¬ k = 9) (hx : 128 ≤ x.toNat) : numGo k n (x :: t) = numGo (k + 1) (n + x.toNat % 128 * 128 ^ k) t := by
  rw [numGo, if_neg (fun e => h e.1), if_pos hx]
theorem numGo_nought {k n : Nat} {x : UInt8} {t : List UInt8} (h : ¬ (k = 9 ∧ 1 < x.toNat)) (h0 : x.toNat = 0) (hk : 0 < k) : numGo k n (x :: t) = (0, 0, 31) := by
  rw [numGo, if_neg h, if_neg (by omega), if_pos ⟨h0, hk⟩]
theorem numGo_end {k n : Nat} {x : UInt8} {t : List UInt8} (h : ¬ (k = 9 ∧ 1 < x.toNat)) (hx : ¬ 128 ≤ x.toNat) (h0 : ¬ (x.toNat = 0 ∧ 0 < k)) : numGo k n (x :: t) = (n + x.toNat % 128 * 128 ^ k, k + 1, 0) := by
  rw [numGo, if_neg h, if_neg hx, if_neg h0]

set_option maxRecDepth 100000 in
set_option maxHeartbeats 400000 in
theorem number_any (w : World) (A : Option Addr) (n c : Nat) (l : List UInt8) (hn : n = l.length) (hr : Rd w A (cb l)) (hl : l.length ≤ 1000000000) :
    Calls Tryz.prog 157 #[.slice A n c] w fun e w' => e = .returned (.tuple #[.int .u64 ((rdNum l).1 : Int), .int .i64 ((rdNum l).2.1 : Int), .int .i64 ((rdNum l).2.2 : Int)]) ∧ w = w' := by
  subst hn
  have HR := Lib.hid hr
  clear hr
  go_enter Tryz.func157, Tryz.ntmps157
  go_wp2
  go_loop [5, 10] (fun s i => ∃ k n : Nat, k ≤ l.length ∧ k ≤ 9 ∧ Hid (n < 128 ^ k) ∧ i = .int .i64 k ∧ s = .int .u64 n ∧ Hid (rdNum l = numGo k n (l.drop k))) (fun _ i => l.length - (intOf i).toNat)
  case atStart => exact ⟨0, 0, Nat.zero_le _, by omega, Lib.hid (by decide), rfl, rfl, rfl⟩
  case round =>
    obtain ⟨k, n, hk, hk9, HN, rfl, rfl, HG⟩ := hrel
    by_cases hlt : k < l.length
    · obtain ⟨b, o, rfl, hcell⟩ := HR.out.byte hlt
      have HD := Lib.hid (drop_cons l k hlt)
      generalize l.getD k 0 = x at *
      have hx : x.toNat < 256 := x.toNat_lt
      by_cases h9 : k = 9 ∧ 1 < x.toNat
      · have HX := Lib.hid (HG.out.trans (by rw [HD.out, numGo_form h9]))
        obtain ⟨rfl, h1⟩ := h9
        go_wp2
        go_ret3
        rw [HX.out]
        exact ⟨rfl, rfl⟩
      · have e1 := or_step n x.toNat k hk9 HN.out (fun e => by omega)
        by_cases hge : 128 ≤ x.toNat
        · have h9' : ¬ k = 9 := fun e => h9 ⟨e, by omega⟩
          have f1 : ((k : Int) == 9) = false := beq_eq_false_iff_ne.2 (by omega)
          have HX := Lib.hid (HG.out.trans (by rw [HD.out, numGo_on h9' hge]))
          have HB : Hid (n + x.toNat % 128 * 128 ^ k < 128 ^ (k + 1)) := by
            unfold Hid
            have h2 : x.toNat % 128 * 128 ^ k ≤ 127 * 128 ^ k := Nat.mul_le_mul_right _ (by omega)
            have h3 := HN.out
            rw [Nat.pow_succ]
            omega
          generalize n + x.toNat % 128 * 128 ^ k = n' at *
          clear h9
          go_wp2
          go_round
          case rel => exact ⟨k + 1, n', by omega, by omega, HB, by go_num, rfl, HX⟩
          case measure => simp [intOf]; omega
        · by_cases h0 : x.toNat = 0 ∧ 0 < k
          · have HX := Lib.hid (HG.out.trans (by rw [HD.out, numGo_nought h9 h0.1 h0.2]))
            have h01 := h0.2
            have f2 : ((x.toNat : Int) == 0) = true := beq_iff_eq.2 (by omega)
            have f3 : ¬ (128 : Int) ≤ (x.toNat : Int) := by omega
            by_cases hk99 : k = 9
            · subst hk99
              have f4 : ¬ (1 : Int) < (x.toNat : Int) := by omega
              clear h0 h9
              go_wp2
              all_goals
                go_ret3
                rw [HX.out]
                exact ⟨rfl, rfl⟩
            · have f1 : ((k : Int) == 9) = false := beq_eq_false_iff_ne.2 (by omega)
              clear h0 h9
              go_wp2
              all_goals
                go_ret3
                rw [HX.out]
                exact ⟨rfl, rfl⟩
          · have HX := Lib.hid (HG.out.trans (by rw [HD.out, numGo_end h9 hge h0]))
            have f3 : ¬ (128 : Int) ≤ (x.toNat : Int) := by omega
            by_cases hx0 : x.toNat = 0
            · have h01 : ¬ 0 < k := fun h => h0 ⟨hx0, h⟩
              have f1 : ((k : Int) == 9) = false := beq_eq_false_iff_ne.2 (by omega)
              have f2 : ((x.toNat : Int) == 0) = true := beq_iff_eq.2 (by omega)
              have f5 : ¬ (0 : Int) < (k : Int) := by omega
              generalize n + x.toNat % 128 * 128 ^ k = n' at *
              clear h0 h9 hx0 h01
              go_wp2
              all_goals
                go_ret3
                rw [HX.out]
                exact ⟨rfl, rfl⟩
            · have f2 : ((x.toNat : Int) == 0) = false := beq_eq_false_iff_ne.2 (by omega)
              by_cases hk99 : k = 9
              · subst hk99
                have f4 : ¬ (1 : Int) < (x.toNat : Int) := by omega
                have e9 := or_step9 n x.toNat HN.out (by omega)
                generalize n + x.toNat % 128 * 128 ^ 9 = n' at *
                clear h0 h9 e1
                go_wp2
                all_goals
                  go_ret3
                  rw [HX.out]
                  exact ⟨rfl, rfl⟩
              · have f1 : ((k : Int) == 9) = false := beq_eq_false_iff_ne.2 (by omega)
                generalize n + x.toNat % 128 * 128 ^ k = n' at *
                clear h0 h9
                go_wp2
                all_goals
                  go_ret3
                  rw [HX.out]
                  exact ⟨rfl, rfl⟩
    · go_wp2
      go_ret3
      have h0 : l.drop k = [] := List.drop_eq_nil_of_le (by omega)
      rw [HG.out, h0]
      exact ⟨rfl, rfl⟩
end Go.Proofs.YtafiokabnlmgpaaGreatDoor

namespace Go.Proofs.YtafiokabnlmgpaaGreatDoor
open Go.RowKit

/-- an eye: block g holds a slice of the bytes that are left, which lie elsewhere. -/
structure Eye (w : World) (g : Nat) (A : Option Addr) (c : Nat) (l : List UInt8) : Prop where
  bk : Bk w g 235 #[.slice A l.length c]
  rd : Rd w A (cb l)
  nil : A = none → c = 0
  cap : l.length ≤ c
  sep : ∀ k, ablk A k → k ≠ g

/-- what a call on an eye leaves: the eye at the bytes l', in the row in which it was. -/
structure Eyed (w w' : World) (g : Nat) (A A' : Option Addr) (c' : Nat) (l' : List UInt8) : Prop where
  eye : Eye w' g A' c' l'
  fr : Fr (fun k => k = g) w w'
  row : ∀ k, ablk A' k → ablk A k

theorem numGo_size (t : List UInt8) : ∀ k n, (numGo k n t).2.1 ≤ k + t.length := by
  induction t with
  | nil => intro k n; simp [numGo]
  | cons b t ih =>
    intro k n
    rw [numGo]
    split
    · exact Nat.zero_le _
    · split
      · have := ih (k + 1) (n + b.toNat % 128 * 128 ^ k)
        simp only [List.length_cons]
        omega
      · split
        · exact Nat.zero_le _
        · simp only [List.length_cons]; omega
theorem rdNum_size (l : List UInt8) : (rdNum l).2.1 ≤ l.length := by have := numGo_size l 0 0; unfold rdNum; omega

theorem Eye.keep {C : Nat → Prop} {w w' : World} {g : Nat} {A : Option Addr} {c : Nat} {l : List UInt8} (h : Eye w g A c l) (hf : Fr C w w') (hg : ¬ C g) (hr : ∀ k, ablk A k → ¬ C k) : Eye w' g A c l :=
  ⟨h.bk.fr hf hg, h.rd.fr hf hr, h.nil, h.cap, h.sep⟩
theorem Eye.keep' {C : Nat → Prop} {w w' : World} {g : Nat} {A : Option Addr} {c : Nat} {l : List UInt8} (h : Eye w g A c l) (hf : Fr C w w') (hg : ¬ C g) (hr : 0 < l.length → ∀ k, ablk A k → ¬ C k) : Eye w' g A c l :=
  ⟨h.bk.fr hf hg, h.rd.fr' hf (fun h0 => hr (by rwa [cb_length] at h0)), h.nil, h.cap, h.sep⟩
theorem ablk_cut {A : Option Addr} {c s k : Nat} (h : ablk (if c = s then A else A.map (·.add s)) k) : ablk A k := by
  obtain ⟨b, e, rfl⟩ := h
  split at e
  · exact ⟨b, e, rfl⟩
  · cases A with
    | none => cases e
    | some a =>
      injection e with e
      subst e
      exact ⟨a, rfl, by unfold Addr.add; split <;> rfl⟩

theorem Eyed.put {w : World} {g : Nat} {A A' : Option Addr} {c c' : Nat} {l l' : List UInt8} (h : Eye w g A c l) (hr : Rd w A' (cb l')) (hn : A' = none → c' = 0) (hc : l'.length ≤ c') (hrow : ∀ k, ablk A' k → ablk A k) (n : Nat) (hl : n = l'.length) :
    Eyed w (w.setCell ⟨g, 0, none⟩ (.slice A' n c')) g A A' c' l' := by
  subst hl
  refine ⟨⟨by simpa using h.bk.put 0 (.slice A' l'.length c'), ?_, hn, hc, fun k hk => h.sep k (hrow k hk)⟩, (Fr.refl (fun k => k = g) w).setCell (p := ⟨g, 0, none⟩) (fun _ => rfl) _, hrow⟩
  exact hr.fr (C := fun k => k = g) ((Fr.refl (fun k => k = g) w).setCell (p := ⟨g, 0, none⟩) (fun _ => rfl) _) (fun k hk => h.sep k (hrow k hk))
theorem Eyed.cut_full {w : World} {g : Nat} {A : Option Addr} {c s : Nat} {l : List UInt8} (h : Eye w g A c l) (hs : s ≤ l.length) (he : c = s) :
    Eyed w (w.setCell ⟨g, 0, none⟩ (.slice A (l.length - s) 0)) g A A 0 (l.drop s) := by
  have := h.cap
  have h0 : l.drop s = [] := List.drop_eq_nil_of_le (by omega)
  refine Eyed.put h ?_ (fun _ => rfl) (by rw [h0]; simp) (fun _ h => h) _ (by rw [List.length_drop])
  rw [h0]
  exact Rd.none_ _ _
theorem Eyed.cut_part {w : World} {g : Nat} {A : Option Addr} {c s : Nat} {l : List UInt8} (h : Eye w g A c l) (hs : s ≤ l.length) (he : ¬ c = s) :
    Eyed w (w.setCell ⟨g, 0, none⟩ (.slice (Option.map (fun x => x.add s) A) (l.length - s) (c - s))) g A (Option.map (fun x => x.add s) A) (c - s) (l.drop s) := by
  have hr := h.rd.cut (k := s) (cap := c) (by rw [cb_length]; exact hs) (by rw [cb_length]; exact h.cap)
  rw [if_neg he, ← cb_drop] at hr
  refine Eyed.put h hr ?_ ?_ ?_ _ (by rw [List.length_drop])
  · intro hn
    cases A with
    | none => have := h.nil rfl; omega
    | some a => cases hn
  · have := h.cap
    rw [List.length_drop]
    omega
  · intro k hk
    exact ablk_cut (c := c) (s := s) (by rw [if_neg he]; exact hk)
theorem Eyed.same {w : World} {g : Nat} {A : Option Addr} {c : Nat} {l : List UInt8} (h : Eye w g A c l) : Eyed w w g A A c l := ⟨h, Fr.refl _ _, fun _ h => h⟩
theorem Eyed.trans {w w1 w2 : World} {g : Nat} {A A1 A2 : Option Addr} {c1 c2 : Nat} {l1 l2 : List UInt8} (h : Eyed w w1 g A A1 c1 l1) (k : Eyed w1 w2 g A1 A2 c2 l2) : Eyed w w2 g A A2 c2 l2 :=
  ⟨k.eye, h.fr.trans k.fr, fun q hq => h.row q (k.row q hq)⟩

set_option maxRecDepth 100000 in
set_option maxHeartbeats 400000 in
theorem newEye_any (w : World) (A : Option Addr) (n c : Nat) (l : List UInt8) (hn : n = l.length) (hr : Rd w A (cb l)) (hA : A = none → c = 0) (hl : l.length ≤ 1000000000) :
    Calls Tryz.prog 109 #[.slice A n c] w fun e w' => ∃ g A' c', e = .returned (.pointer (some ⟨g, 0, none⟩)) ∧ Eye w' g A' c' l ∧ Fr NoBlk w w' ∧ w.heap.size ≤ g ∧ ∀ k, ablk A' k → w.heap.size ≤ k ∧ k < w'.heap.size := by
  subst hn
  have HR := Lib.hid hr
  have HA := Lib.hid hA
  have HL := Lib.hid hl
  clear hr hA hl
  go_enter Tryz.func109, Tryz.ntmps109
  go_wp2_with fail
  refine (clone_any w A _ c l rfl HR.out HA.out HL.out).mono ?_
  rintro e w1 ⟨v1, rfl, hn1⟩
  obtain ⟨A1, c1, rfl, hc1, hA1⟩ := own_form hn1.own
  have HN := Lib.hid hn1
  have HC := Lib.hid hc1
  have HA1 := Lib.hid hA1
  clear hn1 hc1 hA1
  go_wp2_with fail
  go_ret
  have hb : ∀ k, ablk A1 k → w.heap.size ≤ k ∧ k < w1.heap.size := by
    rintro k ⟨b, rfl, rfl⟩
    exact HN.out.own.lt _ rfl
  refine ⟨_, A1, c1, rfl, ⟨Bk.new _ _ _, (Rd.of_own HN.out.own).alloc _, HA1.out, HC.out, ?_⟩, HN.out.fr.alloc _, HN.out.fr.size, fun k hk => ⟨(hb k hk).1, by have := (hb k hk).2; simp; omega⟩⟩
  intro k hk
  have := (hb k hk).2
  omega

set_option maxRecDepth 100000 in
set_option maxHeartbeats 400000 in
theorem eyeNum_any (w : World) (g : Nat) (A : Option Addr) (c : Nat) (l : List UInt8) (he : Eye w g A c l) (hl : l.length ≤ 1000000000) :
    Calls Tryz.prog 140 #[.pointer (some ⟨g, 0, none⟩)] w fun e w' => e = .returned (.tuple #[.int .u64 ((rdNum l).1 : Int), .int .i64 ((rdNum l).2.2 : Int)]) ∧ ∃ A' c', Eyed w w' g A A' c' (l.drop (rdNum l).2.1) := by
  have hc := he.bk.cell 0
  have hf := he.bk.free 0
  simp only [List.getElem?_toArray, List.getElem?_cons_zero] at hc
  have HE := Lib.hid he
  have HL := Lib.hid hl
  have hs := rdNum_size l
  have hcap := he.cap
  clear he hl
  go_enter Tryz.func140, Tryz.ntmps140
  go_wp2_with fail
  refine (number_any w A _ c l rfl HE.out.rd HL.out).mono ?_
  rintro e w1 ⟨rfl, rfl⟩
  obtain ⟨m, s, k, hx⟩ : ∃ m s k, rdNum l = (m, s, k) := ⟨_, _, _, rfl⟩
  rw [hx] at hs ⊢
  have HX := Lib.hid hx
  clear hx
  simp only at hs ⊢
  by_cases h : c = s
  · have HZ := Lib.hid (Eyed.cut_full HE.out hs h)
    go_wp2_with fail
    go_ret2
    rw [HX.out]
    exact ⟨rfl, _, _, HZ.out⟩
  · have HZ := Lib.hid (Eyed.cut_part HE.out hs h)
    go_wp2_with fail
    go_ret2
    rw [HX.out]
    exact ⟨rfl, _, _, HZ.out⟩

set_option maxRecDepth 100000 in
set_option maxHeartbeats 400000 in
theorem eyeEnd_any (w : World) (g : Nat) (A : Option Addr) (c : Nat) (l : List UInt8) (he : Eye w g A c l) :
    Calls Tryz.prog 142 #[.pointer (some ⟨g, 0, none⟩)] w fun e w' => e = .returned (.int .i64 (if l = [] then 0 else 32)) ∧ w = w' := by
  have hc := he.bk.cell 0
  simp only [List.getElem?_toArray, List.getElem?_cons_zero] at hc
  clear he
  by_cases h : l = []
  · subst h
    go_enter Tryz.func142, Tryz.ntmps142
    go_wp2
    go_ret
    exact ⟨rfl, rfl⟩
  · have h0 := List.length_pos_iff.2 h
    rw [if_neg h]
    clear h
    go_enter Tryz.func142, Tryz.ntmps142
    go_wp2
    go_ret
    exact ⟨rfl, rfl⟩

set_option maxRecDepth 100000 in
set_option maxHeartbeats 400000 in
theorem eyeByte_any (w : World) (g : Nat) (A : Option Addr) (c : Nat) (l : List UInt8) (he : Eye w g A c l) :
    Calls Tryz.prog 110 #[.pointer (some ⟨g, 0, none⟩)] w fun e w' => e = .returned (.tuple #[.int .u8 ((l.headD 0).toNat : Int), .int .i64 (if l = [] then 30 else 0)]) ∧ ∃ A' c', Eyed w w' g A A' c' (l.drop 1) := by
  have hc := he.bk.cell 0
  have hf := he.bk.free 0
  simp only [List.getElem?_toArray, List.getElem?_cons_zero] at hc
  have HE := Lib.hid he
  have hcap := he.cap
  clear he
  cases l with
  | nil =>
    go_enter Tryz.func110, Tryz.ntmps110
    go_wp2
    go_ret2
    exact ⟨rfl, _, _, Eyed.same HE.out⟩
  | cons x t =>
    obtain ⟨b, o, rfl, hcell⟩ := HE.out.rd.byte (show 0 < (x :: t).length by simp)
    rw [show (x :: t).getD 0 0 = x from rfl, Nat.add_zero] at hcell
    simp only [List.length_cons] at hc hcap
    simp only [List.headD_cons, List.drop_one, List.tail_cons, if_neg (List.cons_ne_nil x t)]
    have f1 : ((t.length : Int) + 1 == 0) = false := beq_eq_false_iff_ne.2 (by omega)
    by_cases h : c = 1
    · have hz := Eyed.cut_full HE.out (s := 1) (by simp) h
      simp only [List.length_cons, Nat.add_sub_cancel, List.drop_succ_cons, List.drop_zero] at hz
      have HZ := Lib.hid hz
      clear hz
      go_enter Tryz.func110, Tryz.ntmps110
      go_wp2
      go_ret2
      exact ⟨rfl, _, _, HZ.out⟩
    · have hz := Eyed.cut_part HE.out (s := 1) (by simp) h
      simp only [List.length_cons, Nat.add_sub_cancel, List.drop_succ_cons, List.drop_zero] at hz
      have HZ := Lib.hid hz
      clear hz
      go_enter Tryz.func110, Tryz.ntmps110
      go_wp2
      go_ret2
      exact ⟨rfl, _, _, HZ.out⟩
end Go.Proofs.YtafiokabnlmgpaaGreatDoor

namespace Go.Proofs.YtafiokabnlmgpaaGreatDoor
open Go.RowKit Go.Maps

theorem AtS.less {w wr : World} {gd : Nat} {p : PD} {S S' : Nat → Prop} (h : AtS w wr gd p S') (hS : ∀ k, S k → S' k) : AtS w wr gd p S := h.prot (Fr.refl NoBlk _) (fun _ _ h => h.elim) fun k hk => .inl (hS k hk)
def vn (v : Bool) : Nat := bif v then 1 else 0
set_option maxRecDepth 100000 in
theorem voterByte_any (w : World) (n : Nat) (v : Bool) : Calls Tryz.prog 55 #[.agg #[.int .u64 n, .bool v]] w fun e w' => e = .returned (.int .u8 ((UInt8.ofNat (vn v)).toNat : Int)) ∧ Fr NoBlk w w' := by
  cases v
  all_goals
    go_enter Tryz.func55, Tryz.ntmps55
    go_wp2_with fail
    go_ret
    exact ⟨rfl, by first | exact Fr.refl _ _ | exact (Fr.refl _ _).alloc _⟩
set_option maxRecDepth 100000 in
set_option maxHeartbeats 1000000 in
theorem lsave_any (w wr : World) (gd : Nat) (p : PD) (S : Nat → Prop) (h : AtS w wr gd p S) (hS : ∀ k, S k → k < wr.heap.size) (ht : Tab w) (n : Nat) (hn : n < 2 ^ 64) (v : Bool) :
    Calls Tryz.prog 26 #[.agg #[.int .u64 n, .bool v], .pointer (some ⟨gd, 0, none⟩)] wr (CallPost w wr gd (psave p nL (lb n (vn v))) S) := by
  have HAT := Lib.hid h
  have HS := Lib.hid hS
  have HT := Lib.hid ht
  have HNL := Lib.hid (num_len n hn)
  have HVB := Lib.hid fun W => voterByte_any W n v
  have HRR : Hid (psave p nL (lb n (vn v)) = psave p nL (num n ++ [UInt8.ofNat (vn v)])) := rfl
  generalize psave p nL (lb n (vn v)) = rr at *
  have hf0 : Fr NoBlk wr ((wr.alloc (.cells #[.int .u64 n, .bool v] 65)).alloc (.cells #[.slice none 0 0] 131)) := ((Fr.refl _ _).alloc _).alloc _
  have hbl : Bk ((wr.alloc (.cells #[.int .u64 n, .bool v] 65)).alloc (.cells #[.slice none 0 0] 131)) wr.heap.size 65 #[.int .u64 n, .bool v] := (Bk.new _ _ _).fr ((Fr.refl NoBlk _).alloc _) fun h => h
  have hpen : Pen ((wr.alloc (.cells #[.int .u64 n, .bool v] 65)).alloc (.cells #[.slice none 0 0] 131)) (wr.heap.size + 1) (wr.heap.size + 1) (.slice none 0 0) [] := ⟨by have := Bk.new (wr.alloc (.cells #[.int .u64 n, .bool v] 65)) 131 #[.slice none 0 0]; rwa [World.size_alloc] at this, World.ownsRow_nil _ _ _ _⟩
  have hnum := num_any _ (wr.heap.size + 1) (wr.heap.size + 1) n _ _ hpen (by simp [World.size_alloc]) hn (by simp)
  have HF0 := Lib.hid hf0
  have HBL := Lib.hid hbl
  have HN := Lib.hid hnum
  clear h hS ht hn hf0 hbl hpen hnum
  go_enter Tryz.func26, Tryz.ntmps26
  go_wp2_with fail
  refine HN.out.mono ?_
  clear HN
  rintro e w1 ⟨rfl, v1, hw1⟩
  rw [List.nil_append] at hw1
  have hf1 : Fr NoBlk wr w1 := HF0.out.step hw1.fr fun i hi e => by
    rcases e with e | e
    · omega
    · cases e
  have hb1 : Bk w1 wr.heap.size 65 #[.int .u64 n, .bool v] := HBL.out.fr hw1.fr fun e => by
    rcases e with e | e
    · omega
    · cases e
  have HP1 := Lib.hid hw1.pen
  have HF1 := Lib.hid hf1
  have c0 : w1.cell? ⟨wr.heap.size, 0, none⟩ = some (.int .u64 n) := hb1.cell 0
  have c1 : w1.cell? ⟨wr.heap.size, 1, none⟩ = some (.bool v) := hb1.cell 1
  have HV1 := Lib.hid (HVB.out w1)
  clear HVB HF0 HBL hw1 hf1 hb1
  go_wp2_with fail
  refine HV1.out.mono ?_
  clear HV1 c0 c1
  rintro e w2 ⟨rfl, hf2⟩
  have hp2 : Pen w2 (wr.heap.size + 1) (wr.heap.size + 1) v1 (num n) := ⟨HP1.out.bk.fr hf2 fun h => h, own_fr HP1.out.own hf2 fun _ _ h => h⟩
  have HF2 := Lib.hid (HF1.out.trans hf2)
  have HB2 := Lib.hid (byte_any w2 (wr.heap.size + 1) (wr.heap.size + 1) (UInt8.ofNat (vn v)) v1 _ hp2 (by have := hp2.bk.lt; omega) (by have := HNL.out; omega))
  have HLT : Hid (∀ k, v1.ownBlock = some k → wr.heap.size + 1 ≤ k) := fun k hk => (hp2.own.lt k hk).1
  clear HP1 HF1 hf2 hp2
  go_wp2_with fail
  refine HB2.out.mono ?_
  clear HB2
  rintro e w3 ⟨rfl, v3, hw3⟩
  have HF3 : Hid (Fr NoBlk wr w3) := HF2.out.step hw3.fr fun i hi e => by
    rcases e with e | e
    · omega
    · have := HLT.out i e.symm; omega
  have HD := Lib.hid (data_any w3 _ _ v3 _ hw3.pen (by have := HNL.out; rw [List.length_append, List.length_singleton]; omega))
  clear hw3 HF2 HLT
  go_wp2_with fail
  refine HD.out.mono ?_
  clear HD
  rintro e w4 ⟨v4, rfl, hn4⟩
  obtain ⟨A4, c4, rfl, hc4, hA4⟩ := own_form hn4.own
  have HF4 := Lib.hid (HF3.out.trans hn4.fr)
  have HLB : Hid (∀ k, (Value.slice A4 (num n ++ [UInt8.ofNat (vn v)]).length c4).ownBlock = some k → w3.heap.size ≤ k ∧ k < w4.heap.size) := fun k hk => hn4.own.lt k hk
  have hat := HAT.out.prot (S' := fun k => S k ∨ (Value.slice A4 (num n ++ [UInt8.ofNat (vn v)]).length c4).ownBlock = some k) HF4.out (fun _ _ h => h.elim) fun k hk => hk.imp id fun h => by have := HLB.out k h; have := HF3.out.size; omega
  have hsv := save_any w w4 gd p _ hat (fun k hk => hk.elim (fun h => Nat.lt_of_lt_of_le (HS.out k h) HF4.out.size) fun h => (HLB.out k h).2) HT.out nL (by decide) A4 c4 _ ⟨Rd.of_own hn4.own, hA4⟩ hc4 (by have := HNL.out; rw [List.length_append, List.length_singleton]; omega) (fun _ k hk => .inr (.inr (by obtain ⟨b0, rfl, rfl⟩ := hk; rfl)))
  rw [← HRR.out, show bstr nL = ({ data := #[108, 105, 102, 101] } : ByteArray) from rfl] at hsv
  have HSV := Lib.hid hsv
  clear hat hsv hn4 hc4 hA4 HRR HAT HT HS HLB
  generalize (num n ++ [UInt8.ofNat (vn v)]).length = nl at *
  go_wp2_with fail
  refine HSV.out.mono ?_
  clear HSV
  rintro e w5 ⟨rfl, h5, hf5⟩
  have HZ : Hid (CallPost w wr gd rr S (.returned (.int .i64 rr.2)) w5) := ⟨rfl, h5.less fun k hk => .inl hk, (HF4.out.mono fun _ _ h => h.elim).trans (Fr.less hf5 fun k hk => .inl hk)⟩
  clear h5 hf5 HF4 HF3
  go_wp2_with fail
  go_ret
  exact HZ.out
end Go.Proofs.YtafiokabnlmgpaaGreatDoor

namespace Go.Proofs.YtafiokabnlmgpaaGreatDoor
open Go.RowKit Go.Maps

theorem toNat_small {m : Nat} (h : m < 256) : (UInt8.ofNat m).toNat = m := by rw [UInt8.toNat_ofNat']; omega
theorem numGo_num (m : Nat) : ∀ (k acc : Nat) (rest : List UInt8), k ≤ 9 → (0 < k → 0 < m) → acc + m * 128 ^ k < 2 ^ 64 →
    numGo k acc (num m ++ rest) = (acc + m * 128 ^ k, k + (num m).length, 0) := by
  induction m using Nat.strongRecOn with
  | _ m ih =>
    intro k acc rest hk h0 hb
    have h9 : k = 9 → m ≤ 1 := by rintro rfl; omega
    by_cases h : m < 128
    · rw [num_lt h, List.singleton_append, numGo_end (by rw [toNat_small (by omega)]; rintro ⟨e, h1⟩; have := h9 e; omega) (by rw [toNat_small (by omega)]; omega) (by rw [toNat_small (by omega)]; rintro ⟨e, h1⟩; have := h0 h1; omega),
        toNat_small (by omega), Nat.mod_eq_of_lt h]
      rfl
    · have hk9 : ¬ k = 9 := fun e => by have := h9 e; omega
      rw [num_ge h, List.cons_append, numGo_on hk9 (by rw [toNat_small (by omega)]; omega), toNat_small (by omega)]
      have hs : acc + (m % 128 + 128) % 128 * 128 ^ k + m / 128 * 128 ^ (k + 1) = acc + m * 128 ^ k := by
        rw [Nat.pow_succ, show (m % 128 + 128) % 128 = m % 128 by omega]
        have : m * 128 ^ k = (m % 128 + 128 * (m / 128)) * 128 ^ k := by rw [Nat.mod_add_div]
        rw [this, Nat.add_mul]
        have : 128 * (m / 128) * 128 ^ k = m / 128 * (128 ^ k * 128) := by
          rw [Nat.mul_comm 128, Nat.mul_assoc, Nat.mul_comm 128]
        omega
      rw [ih (m / 128) (by omega) (k + 1) _ rest (by omega) (fun _ => by omega) (by rw [hs]; exact hb), hs, List.length_cons]
      rw [show k + 1 + (num (m / 128)).length = k + ((num (m / 128)).length + 1) by omega]
theorem rdNum_app (m : Nat) (rest : List UInt8) (hm : m < 2 ^ 64) : rdNum (num m ++ rest) = (m, (num m).length, 0) := by
  unfold rdNum
  rw [numGo_num m 0 0 rest (by omega) (fun h => absurd h (by omega)) (by omega)]
  simp
set_option maxRecDepth 100000 in
theorem or3_any (w : World) (b : Nat) (h : ∀ i : Nat, i < 3 → w.cell? ⟨b, i, none⟩ = some (.int .i64 0)) : Calls Tryz.prog 141 #[.slice (some ⟨b, 0, none⟩) 3 3] w fun e w' => e = .returned (.int .i64 0) ∧ w = w' := by
  have h0 := h 0 (by omega)
  have h1 := h 1 (by omega)
  have h2 := h 2 (by omega)
  clear h
  go_enter Tryz.func141, Tryz.ntmps141
  go_wp2
  go_loop [8] (fun i => ∃ k : Nat, k ≤ 3 ∧ i = .int .i64 k) (fun i => 3 - (intOf i).toNat)
  case atStart => exact ⟨0, Nat.zero_le _, rfl⟩
  case round =>
    obtain ⟨k, hk, rfl⟩ := hrel
    by_cases hlt : k < 3
    · have hc : w.cell? ⟨b, k, none⟩ = some (.int .i64 0) := by
        rcases (by omega : k = 0 ∨ k = 1 ∨ k = 2) with rfl | rfl | rfl
        · exact h0
        · exact h1
        · exact h2
      go_wp2
      go_round
      case rel => exact ⟨k + 1, by omega, by go_num⟩
      case measure => simp [intOf]; omega
    · obtain rfl : k = 3 := by omega
      go_wp2
      go_ret
      exact ⟨rfl, rfl⟩
/-- what a life's file tells. -/
def LifePost (wr : World) (n : Nat) (v : Bool) (e : Ending) (w' : World) : Prop := e = .returned (.tuple #[.agg #[.int .u64 n, .bool v], .int .i64 0]) ∧ Fr NoBlk wr w'
set_option maxRecDepth 100000 in
set_option maxHeartbeats 1000000 in
theorem readLife_any (w : World) (A : Option Addr) (c : Nat) (n : Nat) (hn : n < 2 ^ 64) (v : Bool) (nl : Nat) (hnl : nl = (lb n (vn v)).length) (hr : Rd w A (cb (lb n (vn v)))) (hA : A = none → c = 0) :
    Calls Tryz.prog 105 #[.slice A nl c] w (LifePost w n v) := by
  have hll := lb_len n (vn v) hn
  have hw0 : Fr NoBlk w (w.alloc (.cells #[.int .u64 0, .bool false] 65)) := (Fr.refl _ _).alloc _
  have HE := Lib.hid (newEye_any _ A nl c (lb n (vn v)) hnl (hr.nofr hw0) hA (by omega))
  have HF0 := Lib.hid hw0
  have HK0 : Hid (Bk (w.alloc (.cells #[.int .u64 0, .bool false] 65)) w.heap.size 65 #[.int .u64 0, .bool false]) := Bk.new _ _ _
  have HN := Lib.hid hn
  clear hr hA hw0 hn hnl
  go_enter Tryz.func105, Tryz.ntmps105
  go_wp2_with fail
  refine HE.out.mono ?_
  clear HE
  rintro e w1 ⟨g, A1, c1, rfl, he, hf1, hg, hrow⟩
  have HF1 := Lib.hid (HF0.out.trans hf1)
  have HK1 := Lib.hid (HK0.out.fr hf1 fun h => h)
  have hen := eyeNum_any w1 g A1 c1 _ he (by omega)
  have HGE : Hid (w.heap.size + 1 ≤ g) := by show _ ≤ _; rw [World.size_alloc] at hg; exact hg
  rw [show rdNum (lb n (vn v)) = (n, (num n).length, 0) from rdNum_app n _ HN.out, show (lb n (vn v)).drop (num n).length = [UInt8.ofNat (vn v)] from List.drop_left] at hen
  have HEN := Lib.hid hen
  clear hen he hf1 hg hrow HF0 HK0
  go_wp2_with fail
  refine HEN.out.mono ?_
  clear HEN
  rintro e w2 ⟨rfl, A2, c2, h2⟩
  have HF2 : Hid (Fr NoBlk w w2) := HF1.out.step h2.fr fun i hi e => by have := HGE.out; omega
  have HK2 := Lib.hid (HK1.out.fr h2.fr fun e => by have := HGE.out; omega)
  have HEB := Lib.hid (eyeByte_any w2 g A2 c2 _ h2.eye)
  clear h2 HF1 HK1
  go_wp2_with fail
  refine HEB.out.mono ?_
  clear HEB
  rintro e w3 ⟨rfl, A3, c3, h3⟩
  have HF3 : Hid (Fr NoBlk w w3) := HF2.out.step h3.fr fun i hi e => by have := HGE.out; omega
  have HK3 := Lib.hid (HK2.out.fr h3.fr fun e => by have := HGE.out; omega)
  have hee := eyeEnd_any w3 g A3 c3 _ h3.eye
  rw [if_pos (show [UInt8.ofNat (vn v)].drop 1 = [] from rfl)] at hee
  have HEE := Lib.hid hee
  clear h3 hee HF2 HK2
  have hb : (([UInt8.ofNat (vn v)] : Bs).headD 0).toNat = vn v := by cases v <;> rfl
  rw [hb, if_neg (by simp)]
  clear hb
  go_wp2_with fail
  refine HEE.out.mono ?_
  clear HEE
  rintro e w4 ⟨rfl, rfl⟩
  have hf4 : Fr NoBlk w3 (w3.alloc (.cells #[.int .i64 0, .int .i64 0, .int .i64 0] 27)) := (Fr.refl _ _).alloc _
  have hb4 : Bk (w3.alloc (.cells #[.int .i64 0, .int .i64 0, .int .i64 0] 27)) w3.heap.size 27 #[.int .i64 0, .int .i64 0, .int .i64 0] := Bk.new _ _ _
  have HO := Lib.hid (or3_any _ w3.heap.size fun i hi => by
    rcases (by omega : i = 0 ∨ i = 1 ∨ i = 2) with rfl | rfl | rfl
    · exact hb4.cell 0
    · exact hb4.cell 1
    · exact hb4.cell 2)
  have HF4 := Lib.hid (HF3.out.trans hf4)
  have HK4 := Lib.hid (HK3.out.fr hf4 fun h => h)
  clear hf4 hb4 HF3 HK3
  go_wp2_with fail
  refine HO.out.mono ?_
  clear HO
  rintro e w5 ⟨rfl, rfl⟩
  have k0 := HK4.out.cell 0
  have k1 := HK4.out.cell 1
  have f0 := HK4.out.free 0
  have f1 := HK4.out.free 1
  simp only [List.getElem?_toArray, List.getElem?_cons_zero] at k0 k1
  generalize w3.alloc (.cells #[.int .i64 0, .int .i64 0, .int .i64 0] 27) = w6 at *
  have HK5 : Hid (∀ bv, Bk ((w6.setCell ⟨w.heap.size, 0, none⟩ (.int .u64 n)).setCell ⟨w.heap.size, 1, none⟩ (.bool bv)) w.heap.size 65 #[.int .u64 n, .bool bv] ∧ Fr NoBlk w ((w6.setCell ⟨w.heap.size, 0, none⟩ (.int .u64 n)).setCell ⟨w.heap.size, 1, none⟩ (.bool bv))) := fun bv => ⟨(HK4.out.put 0 (.int .u64 n)).put 1 (.bool bv), (HF4.out.setCell (p := ⟨w.heap.size, 0, none⟩) (fun h => absurd h (Nat.lt_irrefl _)) (.int .u64 n)).setCell (p := ⟨w.heap.size, 1, none⟩) (fun h => absurd h (Nat.lt_irrefl _)) (.bool bv)⟩
  simp only [List.getElem?_cons_succ, List.getElem?_cons_zero] at k1
  clear HF4 HK4
  cases v
  all_goals
    simp only [vn, cond_true, cond_false]
    go_wp2_with fail
    first
      | have q0 := (HK5.out true).1.cell 0
        have q1 := (HK5.out true).1.cell 1
        have HF5 := Lib.hid (HK5.out true).2
        simp only [List.getElem?_toArray, List.getElem?_cons_zero, List.getElem?_cons_succ] at q0 q1
        refine bodyPost_ret (v := .tuple #[.agg #[.int .u64 n, .bool true], .int .i64 0]) (by rw [results_cell_tmp rfl]; go_simp) rfl ?_
        exact ⟨rfl, HF5.out⟩
      | have q0 := (HK5.out false).1.cell 0
        have q1 := (HK5.out false).1.cell 1
        have HF5 := Lib.hid (HK5.out false).2
        simp only [List.getElem?_toArray, List.getElem?_cons_zero, List.getElem?_cons_succ] at q0 q1
        refine bodyPost_ret (v := .tuple #[.agg #[.int .u64 n, .bool false], .int .i64 0]) (by rw [results_cell_tmp rfl]; go_simp) rfl ?_
        exact ⟨rfl, HF5.out⟩
end Go.Proofs.YtafiokabnlmgpaaGreatDoor

namespace Go.Proofs.YtafiokabnlmgpaaGreatDoor
open Go.RowKit Go.Maps

set_option maxRecDepth 100000 in
set_option maxHeartbeats 1000000 in
theorem loadLife_any (w wr : World) (gd : Nat) (p : PD) (S : Nat → Prop) (h : AtS w wr gd p S) (ht : Tab w) (n : Nat) (hn : n < 2 ^ 64) (v : Bool) (hl : pload p nL = (lb n (vn v), 0) ∨ pload p nL = ([], 60) ∧ n = 0 ∧ v = false) :
    Calls Tryz.prog 64 #[.pointer (some ⟨gd, 0, none⟩)] wr (LifePost wr n v) := by
  have hf0 : Fr NoBlk wr (wr.alloc (.cells #[.int .u64 0, .bool false] 65)) := (Fr.refl _ _).alloc _
  have hb0 : Bk (wr.alloc (.cells #[.int .u64 0, .bool false] 65)) wr.heap.size 65 #[.int .u64 0, .bool false] := Bk.new _ _ _
  have hld := load_any w _ gd p S (h.nofr hf0) ht nL (by decide)
  rw [show bstr nL = ({ data := #[108, 105, 102, 101] } : ByteArray) from rfl] at hld
  have HF0 := Lib.hid hf0
  have HB0 := Lib.hid hb0
  have HN := Lib.hid hn
  clear h ht hf0 hb0 hn
  rcases hl with hl | ⟨hl, rfl, rfl⟩
  · rw [hl] at hld
    have HL := Lib.hid hld
    clear hl hld
    go_enter Tryz.func64, Tryz.ntmps64
    go_wp2_with fail
    refine HL.out.mono ?_
    clear HL
    rintro e w1 ⟨v1, rfl, hn1⟩
    obtain ⟨A1, c1, rfl, hc1, hA1⟩ := own_form hn1.own
    have HRL := Lib.hid (readLife_any w1 A1 c1 n HN.out v _ rfl (Rd.of_own hn1.own) hA1)
    have HF1 := Lib.hid (HF0.out.trans hn1.fr)
    have HB1 := Lib.hid (HB0.out.fr hn1.fr fun h => h)
    clear hn1 hc1 hA1 HF0 HB0
    generalize (lb n (vn v)).length = nl at *
    go_wp2_with fail
    refine HRL.out.mono ?_
    clear HRL
    rintro e w2 ⟨rfl, hf2⟩
    have HF2 := Lib.hid (HF1.out.trans hf2)
    have HB2 := Lib.hid (HB1.out.fr hf2 fun h => h)
    have k0 := HB2.out.cell 0
    have k1 := HB2.out.cell 1
    have f0 := HB2.out.free 0
    have f1 := HB2.out.free 1
    simp only [List.getElem?_toArray, List.getElem?_cons_zero, List.getElem?_cons_succ] at k0 k1
    have HB3 : Hid (Bk ((w2.setCell ⟨wr.heap.size, 0, none⟩ (.int .u64 n)).setCell ⟨wr.heap.size, 1, none⟩ (.bool v)) wr.heap.size 65 #[.int .u64 n, .bool v]) := (HB2.out.put 0 (.int .u64 n)).put 1 (.bool v)
    have HF3 := Lib.hid ((HF2.out.setCell (p := ⟨wr.heap.size, 0, none⟩) (fun h => absurd h (Nat.lt_irrefl _)) (.int .u64 n)).setCell (p := ⟨wr.heap.size, 1, none⟩) (fun h => absurd h (Nat.lt_irrefl _)) (.bool v))
    clear HF1 HB1 HF2 HB2 hf2
    go_wp2_with fail
    have q0 := HB3.out.cell 0
    have q1 := HB3.out.cell 1
    simp only [List.getElem?_toArray, List.getElem?_cons_zero, List.getElem?_cons_succ] at q0 q1
    refine bodyPost_ret (v := .tuple #[.agg #[.int .u64 n, .bool v], .int .i64 0]) (by rw [results_cell_tmp rfl]; go_simp) rfl ?_
    exact ⟨rfl, HF3.out⟩
  · rw [hl] at hld
    have HL := Lib.hid hld
    clear hl hld
    go_enter Tryz.func64, Tryz.ntmps64
    go_wp2_with fail
    refine HL.out.mono ?_
    clear HL
    rintro e w1 ⟨v1, rfl, hn1⟩
    have HF1 := Lib.hid (HF0.out.trans hn1.fr)
    have HB1 := Lib.hid (HB0.out.fr hn1.fr fun h => h)
    have k0 := HB1.out.cell 0
    have k1 := HB1.out.cell 1
    have f0 := HB1.out.free 0
    have f1 := HB1.out.free 1
    simp only [List.getElem?_toArray, List.getElem?_cons_zero, List.getElem?_cons_succ] at k0 k1
    have HB3 : Hid (Bk ((w1.setCell ⟨wr.heap.size, 0, none⟩ (.int .u64 0)).setCell ⟨wr.heap.size, 1, none⟩ (.bool false)) wr.heap.size 65 #[.int .u64 0, .bool false]) := (HB1.out.put 0 (.int .u64 0)).put 1 (.bool false)
    have HF3 := Lib.hid ((HF1.out.setCell (p := ⟨wr.heap.size, 0, none⟩) (fun h => absurd h (Nat.lt_irrefl _)) (.int .u64 0)).setCell (p := ⟨wr.heap.size, 1, none⟩) (fun h => absurd h (Nat.lt_irrefl _)) (.bool false))
    clear HF0 HB0 HF1 HB1 hn1
    go_wp2_with fail
    have q0 := HB3.out.cell 0
    have q1 := HB3.out.cell 1
    simp only [List.getElem?_toArray, List.getElem?_cons_zero, List.getElem?_cons_succ] at q0 q1
    refine bodyPost_ret (v := .tuple #[.agg #[.int .u64 0, .bool false], .int .i64 0]) (by rw [results_cell_tmp rfl]; go_simp) rfl ?_
    exact ⟨rfl, HF3.out⟩
end Go.Proofs.YtafiokabnlmgpaaGreatDoor

namespace Go.Proofs.YtafiokabnlmgpaaGreatDoor
open Go.RowKit Go.Maps

def BeginPost (w wr : World) (gd : Nat) (n : Nat) (v : Bool) (r : PD × Int) (S : Nat → Prop) (e : Ending) (w' : World) : Prop := e = .returned (.tuple #[.agg #[.int .u64 n, .bool v], .int .i64 r.2]) ∧ AtS w w' gd r.1 S ∧ Fr (Loose w S) wr w'
set_option maxRecDepth 100000 in
set_option maxHeartbeats 1000000 in
theorem begin_any (w wr : World) (gd : Nat) (p : PD) (S : Nat → Prop) (h : AtS w wr gd p S) (hS : ∀ k, S k → k < wr.heap.size) (ht : Tab w) (n : Nat) (v : Bool) (clock : Nat) (hl : pload p nL = (lb n (vn v), 0) ∨ pload p nL = ([], 60) ∧ n = 0 ∧ v = false) (m : Nat) (hm : m = max n clock) (hm' : m < 18446744073709551615) :
    Calls Tryz.prog 30 #[.pointer (some ⟨gd, 0, none⟩), .int .u64 clock] wr (BeginPost w wr gd (m + 1) v (psave p nL (lb (m + 1) (vn v))) S) := by
  have hf0 : Fr NoBlk wr (wr.alloc (.cells #[.int .u64 0, .bool false] 65)) := (Fr.refl _ _).alloc _
  have hb0 : Bk (wr.alloc (.cells #[.int .u64 0, .bool false] 65)) wr.heap.size 65 #[.int .u64 0, .bool false] := Bk.new _ _ _
  have HL := Lib.hid (loadLife_any w _ gd p S (h.nofr hf0) ht n (by omega) v hl)
  have HF0 := Lib.hid hf0
  have HB0 := Lib.hid hb0
  have HAT := Lib.hid h
  have HS := Lib.hid hS
  have HT := Lib.hid ht
  have HM := Lib.hid hm
  have HM' := Lib.hid hm'
  clear h hS ht hf0 hb0 hl hm hm'
  go_enter Tryz.func30, Tryz.ntmps30
  go_wp2_with fail
  refine HL.out.mono ?_
  clear HL
  rintro e w1 ⟨rfl, hf1⟩
  have HF1 := Lib.hid (HF0.out.trans hf1)
  have HB1 := Lib.hid (HB0.out.fr hf1 fun h => h)
  have hmx : (max (n : Int) (clock : Int)) = (m : Int) := by have := HM.out; omega
  have t1 : ((m : Int) == 18446744073709551615) = false := by have := HM'.out; rw [beq_eq_false_iff_ne]; omega
  have t2 : ((m : Int) + 1) % 18446744073709551616 = (m : Int) + 1 := by have := HM'.out; omega
  have hfd : Fr NoBlk w1 (w1.alloc (.cells #[.int .u64 ((m : Int) + 1), .bool v] 65)).drew := ((Fr.refl NoBlk w1).alloc _).drew
  have hbd := Bk.new w1 65 #[.int .u64 ((m : Int) + 1), .bool v]
  have HBL := Lib.hid (hbd.fr ((Fr.refl NoBlk _).drew) fun h => h)
  have HCC : Hid (World.cell? (w1.alloc (.cells #[.int .u64 ((m : Int) + 1), .bool v] 65)).drew ⟨w1.heap.size, 0, none⟩ = some (.int .u64 ((m : Int) + 1)) ∧ World.cell? (w1.alloc (.cells #[.int .u64 ((m : Int) + 1), .bool v] 65)).drew ⟨w1.heap.size, 1, none⟩ = some (.bool v)) := ⟨HBL.out.cell 0, HBL.out.cell 1⟩
  have HFD := Lib.hid (HF1.out.trans hfd)
  have HBR := Lib.hid (HB1.out.fr hfd fun h => h)
  clear HF0 HB0 hfd hbd
  go_wp2_with fail
  -- REGION
  refine wp_region_held_drew (S := fun w' => w'.cell? ⟨w1.heap.size, 0, none⟩ = some (.int .u64 ((m : Int) + 1)) ∧ w'.cell? ⟨w1.heap.size, 1, none⟩ = some (.bool v)) (by kernel_rfl) (HCC.out) (fun hHeld => ?_)
  obtain ⟨w3, hw3⟩ : ∃ w3, w3 = (w1.alloc (.cells #[.int .u64 ((m : Int) + 1), .bool v] 65)).drew := ⟨_, rfl⟩
  rw [← hw3] at hHeld ⊢
  rw [← hw3] at HFD HBR HBL
  clear hw3 HCC
  have hat := HAT.out.prot (S' := fun k => S k ∨ k = wr.heap.size ∨ k = w1.heap.size) HFD.out (fun _ _ h => h.elim) fun k hk => hk.imp id fun h => by have := HF1.out.size; omega
  have hsv := lsave_any w w3 gd p _ hat (fun k hk => by
    have h1 := HBR.out.lt
    have h2 := HBL.out.lt
    rcases hk with h | rfl | rfl
    · exact Nat.lt_of_lt_of_le (HS.out k h) HFD.out.size
    · exact h1
    · exact h2) HT.out (m + 1) (by have := HM'.out; omega) v
  rw [show ((m + 1 : Nat) : Int) = (m : Int) + 1 from by omega] at hsv
  have HSV := Lib.hid hsv
  clear hat hsv
  refine wpAnyH_take (i := 0) (oi := ⟨some 28, _, _, _, _, _⟩) (v := ?_) rfl (by kernel_rfl) (by kernel_rfl) (by kernel_rfl) (fun _ _ _ h => h) (Or.inl ⟨by rfl, ?_⟩) (by assumption) ?_
  rotate_left 1
  · (intro w hSw; (try dsimp only at hSw); obtain ⟨c0, c1⟩ := hSw; go_simp) <;> (with_reducible rfl)
  try simp only [Act.put, List.setIfInBounds_toArray, List.set_cons_zero, List.set_cons_succ]
  refine wpAnyH_take (i := 1) (oi := ⟨some 29, _, _, _, _, _⟩) (v := ?_) rfl (by kernel_rfl) (by kernel_rfl) (by kernel_rfl) (fun _ _ _ h => h) (Or.inl ⟨by rfl, ?_⟩) (by assumption) ?_
  rotate_left 1
  · (intro w hSw; (try dsimp only at hSw); obtain ⟨c0, c1⟩ := hSw; go_simp) <;> (with_reducible rfl)
  try simp only [Act.put, List.setIfInBounds_toArray, List.set_cons_zero, List.set_cons_succ]
  refine wpAnyH_take (i := 2) (oi := ⟨some 30, _, _, _, _, _⟩) (v := ?_) rfl (by kernel_rfl) (by kernel_rfl) (by kernel_rfl) (fun _ _ _ h => h) (Or.inl ⟨by rfl, ?_⟩) (by assumption) ?_
  rotate_left 1
  · (intro w hSw; (try dsimp only at hSw); obtain ⟨c0, c1⟩ := hSw; go_simp) <;> (with_reducible rfl)
  try simp only [Act.put, List.setIfInBounds_toArray, List.set_cons_zero, List.set_cons_succ]
  refine wpAnyH_ready (rs := [3]) (by kernel_rfl) (by simp) ?_
  refine AllReadyH.cons (o := ⟨some 31, _, _, _, _, _⟩) rfl (fun K hK => ?_) AllReadyH.nil
  go_simp
  go_at_call 26
  refine HSV.out.mono ?_
  clear HSV hHeld
  rintro e w5 ⟨rfl, h5, hf5⟩
  have hl5 : Bk w5 w1.heap.size 65 #[.int .u64 ((m : Int) + 1), .bool v] := HBL.out.fr hf5 fun h => h.1 (.inr (.inr rfl))
  have HR5 := Lib.hid (HBR.out.fr hf5 fun h => h.1 (.inr (.inl rfl)))
  have HA5 := Lib.hid h5
  have HF5 : Hid (Fr (Loose w S) wr w5) := (HFD.out.mono fun _ _ h => h.elim).trans (Fr.less hf5 fun k hk => .inl hk)
  have HL5 := Lib.hid hl5
  clear h5 hf5 hl5 HBR HBL HFD
  refine hK.out _ _ ?_ (fun hHeld => ?_)
  · exact ⟨HL5.out.cell 0, HL5.out.cell 1⟩
  clear hK K
  try simp only [Act.put, List.setIfInBounds_toArray, List.set_cons_zero, List.set_cons_succ]
  have k0 := HR5.out.cell 0
  have k1 := HR5.out.cell 1
  have f0 := HR5.out.free 0
  have f1 := HR5.out.free 1
  simp only [List.getElem?_toArray, List.getElem?_cons_zero, List.getElem?_cons_succ] at k0 k1
  have hfz : Fr (fun k => k = wr.heap.size) w5 ((w5.setCell ⟨wr.heap.size, 0, none⟩ (.int .u64 ((m : Int) + 1))).setCell ⟨wr.heap.size, 1, none⟩ (.bool v)) := ((Fr.refl (fun k => k = wr.heap.size) w5).setCell (p := ⟨wr.heap.size, 0, none⟩) (fun _ => rfl) _).setCell (p := ⟨wr.heap.size, 1, none⟩) (fun _ => rfl) _
  have HB6 : Hid (Bk ((w5.setCell ⟨wr.heap.size, 0, none⟩ (.int .u64 ((m : Int) + 1))).setCell ⟨wr.heap.size, 1, none⟩ (.bool v)) wr.heap.size 65 #[.int .u64 ((m : Int) + 1), .bool v]) := (HR5.out.put 0 _).put 1 (.bool v)
  have HL6 := Lib.hid (HL5.out.fr hfz fun e => by have := hf1.size; rw [World.size_alloc] at this; omega)
  have HA6 : Hid (AtS w ((w5.setCell ⟨wr.heap.size, 0, none⟩ (.int .u64 ((m : Int) + 1))).setCell ⟨wr.heap.size, 1, none⟩ (.bool v)) gd (psave p nL (lb (m + 1) (vn v))).1 S) := HA5.out.prot hfz (fun k _ e => ⟨.inr (.inl e), by have := HAT.out.fr.size; omega⟩) fun k hk => .inl (.inl hk)
  have HF6 : Hid (Fr (Loose w S) wr ((w5.setCell ⟨wr.heap.size, 0, none⟩ (.int .u64 ((m : Int) + 1))).setCell ⟨wr.heap.size, 1, none⟩ (.bool v))) := HF5.out.step hfz fun i hi e => by omega
  clear hfz
  refine wpAnyH_ready (rs := [4]) (by kernel_rfl) (by simp) ?_
  refine AllReadyH.cons (o := ⟨none, _, _, _, _, _⟩) rfl (fun K hK => ?_) AllReadyH.nil
  go_simp
  refine hK.out _ _ ?_ (fun hHeld => ?_)
  · exact ⟨HL6.out.cell 0, HL6.out.cell 1⟩
  clear hK K
  try simp only [Act.put, List.setIfInBounds_toArray, List.set_cons_zero, List.set_cons_succ]
  refine wpAnyH_take (i := 5) (oi := ⟨some 5, _, _, _, _, _⟩) (v := ?_) rfl (by kernel_rfl) (by kernel_rfl) (by kernel_rfl) (fun _ _ _ h => h) (Or.inl ⟨by rfl, ?_⟩) (by assumption) ?_
  rotate_left 1
  · (intro w hSw; (try dsimp only at hSw); obtain ⟨c0, c1⟩ := hSw; go_simp) <;> (with_reducible rfl)
  try simp only [Act.put, List.setIfInBounds_toArray, List.set_cons_zero, List.set_cons_succ]
  refine wpAnyH_done (by kernel_rfl) ?_ _
  clear hHeld HR5 HA5 HF5 HL5 HL6 k0 k1 f0 f1
  try go_wp2_with fail
  have q0 := HB6.out.cell 0
  have q1 := HB6.out.cell 1
  simp only [List.getElem?_toArray, List.getElem?_cons_zero, List.getElem?_cons_succ] at q0 q1
  refine bodyPost_ret (v := .tuple #[.agg #[.int .u64 ((m : Int) + 1), .bool v], .int .i64 (psave p nL (lb (m + 1) (vn v))).2]) (by rw [results_cell_tmp rfl]; go_simp) rfl ?_
  exact ⟨rfl, HA6.out, HF6.out⟩
end Go.Proofs.YtafiokabnlmgpaaGreatDoor

namespace Go.Proofs.YtafiokabnlmgpaaGreatDoor
open Go.RowKit Go.Maps

set_option maxRecDepth 100000 in
theorem bnew_any (w : World) : Calls Tryz.prog 108 #[] w fun e w' => (∃ g, e = .returned (.pointer (some ⟨g, 0, none⟩))) ∧ Fr NoBlk w w' := by
  go_enter Tryz.func108, Tryz.ntmps108
  go_wp2_with fail
  go_ret
  exact ⟨⟨_, rfl⟩, by first | exact ((Fr.refl _ _).alloc _).alloc _ | exact (Fr.refl _ _).alloc _⟩
set_option maxRecDepth 100000 in
theorem anew_any (w : World) : Calls Tryz.prog 66 #[] w fun e w' => (∃ g, e = .returned (.pointer (some ⟨g, 0, none⟩))) ∧ Fr NoBlk w w' := by
  have HB := Lib.hid (bnew_any w)
  go_enter Tryz.func66, Tryz.ntmps66
  go_wp2_with fail
  refine HB.out.mono ?_
  rintro e w1 ⟨⟨g, rfl⟩, hf1⟩
  have HF1 := Lib.hid hf1
  clear HB hf1
  go_wp2_with fail
  go_ret
  exact ⟨⟨_, rfl⟩, HF1.out.alloc _⟩
def GroupPost (w wr : World) (gd : Nat) (p : PD) (S : Nat → Prop) (e : Ending) (w' : World) : Prop := ∃ gg, e = .returned (.tuple #[.pointer (some ⟨gg, 0, none⟩), .int .i64 0]) ∧ AtS w w' gd p S ∧ Fr (Loose w S) wr w'
set_option maxRecDepth 100000 in
set_option maxHeartbeats 1000000 in
theorem ogroup_any (w wr : World) (gd : Nat) (p : PD) (S : Nat → Prop) (h : AtS w wr gd p S) (hS : ∀ k, S k → k < wr.heap.size) (ht : Tab w) (hon : On' p) (hno : lopen p [103, 48] 40960 = (p, PL.new [103, 48] 40960)) :
    Calls Tryz.prog 31 #[.pointer (some ⟨gd, 0, none⟩), .int .i64 0] wr (GroupPost w wr gd p S) := by
  have hop := lopen_any w wr gd p S h hS ht hon [103, 48] (by decide) (by decide) 40960 (by omega) (by omega)
  rw [hno, show bstr [103, 48] = ({ data := #[103] } : ByteArray) ++ { data := #[48] } from rfl] at hop
  have hcv : ∀ w, (convert 21 9 (.int .i32 48)).run Tryz.prog w = .ok (.string { data := #[48] }) w := fun w => conv_digit w 0 (by omega)
  have HO := Lib.hid hop
  clear h hS ht hon hno hop
  go_enter Tryz.func31, Tryz.ntmps31
  go_wp2_with fail
  refine HO.out.mono ?_
  clear HO hcv
  rintro e w1 ⟨gl, rfl, hw1, hf1⟩
  have HW1 := Lib.hid hw1
  have HF1 := Lib.hid hf1
  have HN1 := Lib.hid (anew_any w1)
  clear hw1 hf1
  go_wp2_with fail
  refine HN1.out.mono ?_
  clear HN1
  rintro e w2 ⟨⟨gv, rfl⟩, hf2⟩
  have hf3 : Fr NoBlk w1 (w2.alloc (.cells #[.pointer (some ⟨gl, 0, none⟩), .pointer (some ⟨gv, 0, none⟩)] 123)) := hf2.alloc _
  have HR := Lib.hid (lrecs_any w _ gd gl p _ S (HW1.out.nofr hf3))
  have HF3 := Lib.hid hf3
  clear hf2 hf3
  go_wp2_with fail
  refine HR.out.mono ?_
  clear HR
  rintro e w4 ⟨A, c, qs, rfl, hq⟩
  have HW4 := Lib.hid ((HW1.out.nofr HF3.out).nofr hq.fr)
  have HF4 : Hid (Fr (Loose w S) wr w4) := HF1.out.trans ((HF3.out.trans hq.fr).mono fun _ _ h => h.elim)
  have HZ : Hid (∀ gg, GroupPost w wr gd p S (.returned (.tuple #[.pointer (some ⟨gg, 0, none⟩), .int .i64 0])) w4) := fun gg => by
    obtain ⟨g, _, _, ha, _⟩ := HW4.out
    exact ⟨gg, rfl, ha.less fun k hk => .inr hk, HF4.out⟩
  clear hq HW1 HF1 HF3 HW4 HF4
  simp only [PL.new, List.length_nil]
  go_wp2_with fail
  go_loopw [31] (fun i wr => i = .int .i64 0 ∧ wr = w4) (fun _ _ => 0)
  case atStart => exact ⟨rfl, rfl⟩
  case round =>
    obtain ⟨rfl, rfl⟩ := hrel
    go_wp2_with fail
    go_ret2
    exact HZ.out _
end Go.Proofs.YtafiokabnlmgpaaGreatDoor

namespace Go.Proofs.YtafiokabnlmgpaaGreatDoor
open Go.RowKit Go.Maps

set_option maxRecDepth 100000 in
theorem index0_any (w : World) (A : Option Addr) (c : Nat) (x : Int) : Calls Tryz.prog 104 #[.slice A 0 c, .int .i64 x] w fun e w' => e = .returned (.int .i64 (-1)) ∧ w = w' := by
  go_enter Tryz.func104, Tryz.ntmps104
  go_wp2_with fail
  go_loopw [8] (fun i wr => i = .int .i64 0 ∧ wr = w) (fun _ _ => 0)
  case atStart => exact ⟨rfl, rfl⟩
  case round =>
    obtain ⟨rfl, rfl⟩ := hrel
    go_wp2_with fail
    go_ret
    exact ⟨rfl, rfl⟩
set_option maxRecDepth 100000 in
theorem contains0_any (w : World) (A : Option Addr) (c : Nat) (x : Int) : Calls Tryz.prog 63 #[.slice A 0 c, .int .i64 x] w fun e w' => e = .returned (.bool false) ∧ w = w' := by
  have HI := Lib.hid (index0_any w A c x)
  go_enter Tryz.func63, Tryz.ntmps63
  go_wp2_with fail
  refine HI.out.mono ?_
  rintro e w1 ⟨rfl, rfl⟩
  go_wp2_with fail
  go_ret
  exact ⟨rfl, rfl⟩
set_option maxRecDepth 100000 in
theorem right0_any (w : World) (b : Nat) (h : w.cell? ⟨b, 0, none⟩ = some (.int .i64 0)) : Calls Tryz.prog 29 #[.slice (some ⟨b, 0, none⟩) 1 1] w fun e w' => e = .returned (.bool true) ∧ w = w' := by
  have HC := Lib.hid (contains0_any w (some ⟨b, 0, none⟩) 1 0)
  go_enter Tryz.func29, Tryz.ntmps29
  go_wp2_with fail
  go_loopw [10] (fun i wr => ∃ k : Nat, k ≤ 1 ∧ i = .int .i64 k ∧ wr = w) (fun i _ => 1 - (intOf i).toNat)
  case atStart => exact ⟨0, by omega, rfl, rfl⟩
  case round =>
    obtain ⟨k, hk, rfl, rfl⟩ := hrel
    rcases (by omega : k = 0 ∨ k = 1) with rfl | rfl
    · go_wp2_with fail
      refine HC.out.mono ?_
      rintro e w1 ⟨rfl, rfl⟩
      go_wp2_with fail
      go_roundw
      case rel => exact ⟨1, by omega, rfl, by first | rfl | trivial⟩
      case measure => simp [intOf]
    · go_wp2_with fail
      go_ret
      exact ⟨rfl, rfl⟩
end Go.Proofs.YtafiokabnlmgpaaGreatDoor

namespace Go.Proofs.YtafiokabnlmgpaaGreatDoor
open Go.RowKit Go.Maps Go.ChangeMaps Go.MapKept Go.WideShapes

abbrev VD := DataW Value
def anyE (v : Value) : Option (VD × List MemPlace) := some (.held v, [])
def heldO (o : Option Value) (z : VD) : VD := match o with | none => z | some v => .held v
theorem held_inj {a b : Value} (h : (DataW.held a : VD) = .held b) : a = b := by injection h
def wf64 (x : Int) : Prop := (Lit.int .i64 x).wf = true
theorem wf64_of {x : Int} (h : -9223372036854775808 ≤ x ∧ x ≤ 9223372036854775807) : wf64 x := by
  simp only [wf64, Lit.wf, Bool.and_eq_true, decide_eq_true_eq, show IntKind.min .i64 = -9223372036854775808 from by decide, show IntKind.max .i64 = 9223372036854775807 from by decide]
  omega
def updK {α : Type} (f : Int → Option α) (x : Int) (o : Option α) : Int → Option α := fun y => if y = x then o else f y
theorem updK_same {α : Type} (f : Int → Option α) (x : Int) (o : Option α) : updK f x o x = o := if_pos rfl
theorem updK_other {α : Type} (f : Int → Option α) {x y : Int} (o : Option α) (h : y ≠ x) : updK f x o y = f y := if_neg h

theorem updK_map {α : Type} (g : α → Value) (f : Int → Option α) (x : Int) (o : Option α) (y : Int) : (updK f x o y).map g = updK (fun z => (f z).map g) x (o.map g) y := by
  unfold updK
  split <;> rfl

/-- block b is the map f, of s entries. -/
def Km (P : Program) (k : TypeId) (w : World) (b s : Nat) (f : Int → Option Value) : Prop :=
  ∃ D : VD, w.ownsMap P k anyE b s D ∧ Maps.size D = s ∧ ∀ x : Int, wf64 x → Maps.has D (.int .i64 x) = (f x).isSome ∧ ∀ z, D.atKey (.int .i64 x) z = heldO (f x) z

section
variable {P : Program} {k t e : TypeId} {w w' : World} {b s : Nat} {f : Int → Option Value} {C : Nat → Prop}
theorem own_exact {R : Value → Option (VD × List MemPlace)} {n : Nat} {D : VD} (h : w.ownsMap P k R b n D) : w.ownsMap P k R b (Maps.size D) D := by
  obtain ⟨es, clock, hb, F, _, rfl⟩ := h
  exact ⟨es, clock, hb, F, by simp [Maps.size, length_sorted], rfl⟩
theorem key_ne {x y : Int} (h : y ≠ x) : (Lit.int .i64 y) ≠ (Lit.int .i64 x) := fun e => by injection e with _ e; exact h e
theorem Km.lt (h : Km P k w b s f) : b < w.heap.size := by
  obtain ⟨D, h, _⟩ := h
  exact h.lt
theorem Km.fr (h : Km P k w b s f) (hf : Fr C w w') (hn : ¬ C b) : Km P k w' b s f := by
  obtain ⟨D, ⟨es, clock, hb, r⟩, h2⟩ := h
  exact ⟨D, ⟨es, clock, (hf.block b (Array.getElem?_eq_some_iff.1 hb).1 hn).trans hb, r⟩, h2⟩
theorem Km.congr (h : Km P k w b s f) {g : Int → Option Value} (hg : ∀ x, wf64 x → g x = f x) : Km P k w b s g := by
  obtain ⟨D, h1, h2, h3⟩ := h
  exact ⟨D, h1, h2, fun x hx => by rw [hg x hx]; exact h3 x hx⟩
theorem Km.new (w : World) : Km P k (w.alloc (.map #[] 0)) w.heap.size 0 (fun _ => none) :=
  ⟨_, World.ownsMap_made _ _ _ _, rfl, fun _ _ => ⟨rfl, fun _ => rfl⟩⟩
theorem Km.look (h : Km P k w b s f) (hk : P.underlying k = some (.int .i64)) (ht : P.underlying t = some (.map k e)) {z : Value} (hz : (zeroValue e).run P w = .ok z w) {x : Int} (hx : wf64 x) :
    (Instr.lookup t (.map (some b)) (.int .i64 x) true).run P w = .ok (.tuple #[(f x).getD z, .bool (f x).isSome]) w := by
  obtain ⟨D, h1, h2, h3⟩ := h
  obtain ⟨v, ps, hrun, hv⟩ := h1.look_ok (int_keyed hk) ht hz (zd := .held z) (zp := []) rfl (keyOf_int_mk hk hx)
  injection hv with hv
  have hv := congrArg Prod.fst hv
  dsimp only at hv
  rw [hrun, (h3 x hx).1]
  rw [(h3 x hx).2] at hv
  cases hfx : f x with
  | none => rw [hfx] at hv; rw [held_inj hv]; rfl
  | some u => rw [hfx] at hv; rw [held_inj hv]; rfl
theorem Km.look1 (h : Km P k w b s f) (hk : P.underlying k = some (.int .i64)) (ht : P.underlying t = some (.map k e)) {z : Value} (hz : (zeroValue e).run P w = .ok z w) {x : Int} (hx : wf64 x) :
    (Instr.lookup t (.map (some b)) (.int .i64 x) false).run P w = .ok ((f x).getD z) w := by
  obtain ⟨D, h1, h2, h3⟩ := h
  obtain ⟨v, ps, hrun, hv⟩ := h1.lookup (int_keyed hk) ht hz (zd := .held z) (zp := []) rfl (keyOf_int_mk hk hx)
  injection hv with hv
  have hv := congrArg Prod.fst hv
  dsimp only at hv
  rw [hrun]
  rw [(h3 x hx).2] at hv
  cases hfx : f x with
  | none => rw [hfx] at hv; rw [held_inj hv]; rfl
  | some u => rw [hfx] at hv; rw [held_inj hv]; rfl
theorem Km.len (h : Km P k w b s f) (ht : P.underlying t = some (.map k e)) (ty : TypeId) : (Builtin.len_ #[t] ty #[.map (some b)]).run P w = .ok (.int .i64 s) w := by
  obtain ⟨D, h1, rfl, _⟩ := h
  exact h1.len ht ty
theorem Km.put (h : Km P k w b s f) (hk : P.underlying k = some (.int .i64)) (ht : P.underlying t = some (.map k e)) (hs : s < maxLen) {x : Int} (hx : wf64 x) (v : Value) :
    ∃ w', (Instr.mapUpdate t (.map (some b)) (.int .i64 x) v).run P w = .ok () w' ∧ Km P k w' b (if (f x).isSome then s else s + 1) (updK f x (some v)) ∧ Fr (fun j => j = b) w w' := by
  obtain ⟨D, h1, h2, h3⟩ := h
  obtain ⟨w', hrun, ho, hg⟩ := h1.update (int_keyed hk) ht hs (keyOf_int_mk hk hx) (show anyE v = some (.held v, []) from rfl)
  have hsz : Maps.size (D.put (.int .i64 x) (.held v)) = if (f x).isSome then s else s + 1 := by
    rw [size_put (h1.tidy (int_keyed hk)), (h3 x hx).1, h2]
  refine ⟨w', hrun, ⟨_, by have := own_exact ho; rwa [hsz] at this, hsz, fun y hy => ?_⟩, (Fr.ofGrown hg).mono fun i _ e => by injection e⟩
  by_cases e : y = x
  · subst e
    rw [updK_same]
    exact ⟨has_put_same h1.isMap ((int_keyed hk).key (keyOf_int_mk hk hx)) _, fun z => atKey_put_same h1.isMap ((int_keyed hk).key (keyOf_int_mk hk hx)) _ _⟩
  · rw [updK_other _ _ e]
    exact ⟨by rw [has_put_other (key_ne e)]; exact (h3 y hy).1, fun z => by rw [atKey_put_other (key_ne e)]; exact (h3 y hy).2 z⟩
theorem Km.del (h : Km P k w b s f) (hk : P.underlying k = some (.int .i64)) (ht : P.underlying t = some (.map k e)) {x : Int} (hx : wf64 x) (ty : TypeId) :
    ∃ w', (Builtin.delete_ #[t, k] ty #[.map (some b), .int .i64 x]).run P w = .ok (.tuple #[]) w' ∧ Km P k w' b (if (f x).isSome then s - 1 else s) (updK f x none) ∧ Fr (fun j => j = b) w w' := by
  obtain ⟨D, h1, h2, h3⟩ := h
  obtain ⟨w', hrun, ho, ht'⟩ := h1.drop (int_keyed hk) ht (keyOf_int_mk hk hx) ty
  have hsz : Maps.size (D.del (.int .i64 x)) = if (f x).isSome then s - 1 else s := by
    have := size_del (k := .int .i64 x) (h1.tidy (int_keyed hk))
    rw [(h3 x hx).1, h2] at this
    split at this <;> split <;> first | omega | simp_all
  refine ⟨w', hrun, ⟨_, by have := own_exact ho; rwa [hsz] at this, hsz, fun y hy => ?_⟩, (Fr.ofGrown ht'.grown).mono fun i _ e => by injection e⟩
  by_cases e : y = x
  · subst e
    rw [updK_same]
    exact ⟨has_del_same, fun z => atKey_del_same z⟩
  · rw [updK_other _ _ e]
    exact ⟨by rw [has_del_other (key_ne e)]; exact (h3 y hy).1, fun z => by rw [atKey_del_other (key_ne e)]; exact (h3 y hy).2 z⟩
theorem Km.clear_ (h : Km P k w b s f) (ht : P.underlying t = some (.map k e)) (ty : TypeId) :
    ∃ w', (Builtin.clear_ #[t] ty #[.map (some b)]).run P w = .ok (.tuple #[]) w' ∧ Km P k w' b 0 (fun _ => none) ∧ Fr (fun j => j = b) w w' := by
  obtain ⟨D, ⟨es, clock, hb, F, hs, hD⟩, _⟩ := h
  refine ⟨setBlock w b (.map #[] clock), ?_, ⟨.map [], ⟨#[], clock, heap_setBlock_same hb _, ⟨by simp, stamped_empty _, by simp⟩, Nat.le_refl _, rfl⟩, rfl, fun _ _ => ⟨rfl, fun _ => rfl⟩⟩, ⟨rfl, rfl, rfl, by simp [setBlock], fun i _ hi => heap_setBlock_other hb _ hi⟩⟩
  simp [Builtin.clear_, run_underlying ht, MapKept.run_getObj_map hb, MapKept.run_setObj_map _ hb, Result.andThen, setBlock]
end
end Go.Proofs.YtafiokabnlmgpaaGreatDoor

namespace Go.Proofs.YtafiokabnlmgpaaGreatDoor
open Go.RowKit Go.Maps

def kc (gd m : Nat) (v : Bool) (mb : Nat) : Array Value := #[.pointer (some ⟨gd, 0, none⟩), .int .u64 ((m : Int) + 1), .bool v, .map (some mb)]
def DOpenPost (w wr : World) (gd m : Nat) (v : Bool) (p : PD) (S : Nat → Prop) (e : Ending) (w' : World) : Prop := ∃ gk mb, e = .returned (.tuple #[.pointer (some ⟨gk, 0, none⟩), .int .i64 0]) ∧ AtS w w' gd p (fun k => S k ∨ k = gk) ∧ Bk w' gk 73 (kc gd m v mb) ∧ wr.heap.size ≤ gk ∧ Fr (Loose w S) wr w'
set_option maxRecDepth 100000 in
set_option maxHeartbeats 2000000 in
theorem dopen_any (w wb : World) (gd : Nat) (p p' : PD) (S : Nat → Prop) (h : AtS w wb gd p S) (hS : ∀ k, S k → k < wb.heap.size) (ht : Tab w) (b : Nat) (ti : TypeId) (hb : Bk wb b ti #[.int .i64 0]) (hSb : S b) (n : Nat) (v : Bool) (clock : Nat) (hl : pload p nL = (lb n (vn v), 0) ∨ pload p nL = ([], 60) ∧ n = 0 ∧ v = false) (m : Nat) (hm : m = max n clock) (hm' : m < 18446744073709551615) (hsv : psave p nL (lb (m + 1) (vn v)) = (p', 0)) (hon : On' p') (hno : lopen p' [103, 48] 40960 = (p', PL.new [103, 48] 40960)) :
    Calls Tryz.prog 12 #[.pointer (some ⟨gd, 0, none⟩), .slice (some ⟨b, 0, none⟩) 1 1, .int .u64 clock] wb (DOpenPost w wb gd m v p' S) := by
  have HR := Lib.hid (right0_any wb b (hb.cell 0))
  have hbg := begin_any w wb gd p S h hS ht n v clock hl m hm hm'
  rw [hsv] at hbg
  unfold BeginPost at hbg
  rw [show ((m + 1 : Nat) : Int) = (m : Int) + 1 from by omega] at hbg
  have HBG := Lib.hid hbg
  have HS := Lib.hid hS
  have HT := Lib.hid ht
  have HB := Lib.hid hb
  have HSB := Lib.hid hSb
  have HON := Lib.hid hon
  have HNO := Lib.hid hno
  have hmm := @run_makeMap Tryz.prog
  clear h hS ht hb hSb hl hm hm' hsv hon hno hbg
  go_enter Tryz.func12, Tryz.ntmps12
  go_wp2_with fail
  refine HR.out.mono ?_
  clear HR
  rintro e w0 ⟨rfl, rfl⟩
  go_wp2_with fail
  refine HBG.out.mono ?_
  clear HBG
  rintro e w1 ⟨rfl, h1, hf1⟩
  have HA1 := Lib.hid h1
  have HF1 := Lib.hid hf1
  have HB1 := Lib.hid (HB.out.fr hf1 fun h => h.1 HSB.out)
  clear h1 hf1 HB
  have hf4 : Fr NoBlk w1 (((w1.alloc (.cells #[.int .u64 ((m : Int) + 1), .bool v] 65)).alloc (.map #[] 0)).alloc (.cells #[.pointer (some ⟨gd, 0, none⟩), .int .u64 ((m : Int) + 1), .bool v, .map (some (w1.heap.size + 1))] 73)) := (((Fr.refl _ _).alloc _).alloc _).alloc _
  have hk4 : Km Tryz.prog 3 (((w1.alloc (.cells #[.int .u64 ((m : Int) + 1), .bool v] 65)).alloc (.map #[] 0)).alloc (.cells #[.pointer (some ⟨gd, 0, none⟩), .int .u64 ((m : Int) + 1), .bool v, .map (some (w1.heap.size + 1))] 73)) (w1.heap.size + 1) 0 (fun _ => none) := by
    have h := Km.new (P := Tryz.prog) (k := 3) (w1.alloc (.cells #[.int .u64 ((m : Int) + 1), .bool v] 65))
    rw [World.size_alloc] at h
    exact h.fr ((Fr.refl NoBlk _).alloc _) fun h => h
  have hb4 : Bk (((w1.alloc (.cells #[.int .u64 ((m : Int) + 1), .bool v] 65)).alloc (.map #[] 0)).alloc (.cells #[.pointer (some ⟨gd, 0, none⟩), .int .u64 ((m : Int) + 1), .bool v, .map (some (w1.heap.size + 1))] 73)) (w1.heap.size + 1 + 1) 73 (kc gd m v (w1.heap.size + 1)) := by
    have h := Bk.new ((w1.alloc (.cells #[.int .u64 ((m : Int) + 1), .bool v] 65)).alloc (.map #[] 0)) 73 #[.pointer (some ⟨gd, 0, none⟩), .int .u64 ((m : Int) + 1), .bool v, .map (some (w1.heap.size + 1))]
    rw [World.size_alloc, World.size_alloc] at h
    exact h
  have HSZ : Hid ((((w1.alloc (.cells #[.int .u64 ((m : Int) + 1), .bool v] 65)).alloc (.map #[] 0)).alloc (.cells #[.pointer (some ⟨gd, 0, none⟩), .int .u64 ((m : Int) + 1), .bool v, .map (some (w1.heap.size + 1))] 73)).heap.size = w1.heap.size + 1 + 1 + 1) := by show _ = _; rw [World.size_alloc, World.size_alloc, World.size_alloc]
  go_wp2_with fail
  obtain ⟨w4, hw4⟩ : ∃ w4, w4 = (((w1.alloc (.cells #[.int .u64 ((m : Int) + 1), .bool v] 65)).alloc (.map #[] 0)).alloc (.cells #[.pointer (some ⟨gd, 0, none⟩), .int .u64 ((m : Int) + 1), .bool v, .map (some (w1.heap.size + 1))] 73)) := ⟨_, rfl⟩
  rw [← hw4] at hf4 hk4 hb4 HSZ ⊢
  clear hw4
  have HF4 := Lib.hid hf4
  have HK4 := Lib.hid hk4
  have HB4 := Lib.hid hb4
  have HI4 := Lib.hid (HB1.out.fr hf4 fun h => h)
  have hat := HA1.out.prot (S' := fun k => S k ∨ k = w1.heap.size + 1 ∨ k = w1.heap.size + 1 + 1) hf4 (fun _ _ h => h.elim) fun k hk => hk.imp id fun h => by omega
  have HOG := Lib.hid (ogroup_any w w4 gd p' _ hat (fun k hk => by
    have := HSZ.out
    have := HF1.out.size
    rcases hk with h | rfl | rfl
    · have := HS.out k h; omega
    · omega
    · omega) HT.out HON.out HNO.out)
  clear hf4 hk4 hb4 hat HB1
  go_loopw [34] (fun i wl => (i = .int .i64 0 ∧ wl = w4) ∨ i = .int .i64 1 ∧ DOpenPost w wb gd m v p' S (.returned (.tuple #[.pointer (some ⟨w1.heap.size + 1 + 1, 0, none⟩), .int .i64 0])) wl) (fun i _ => 1 - (intOf i).toNat)
  case atStart => exact .inl ⟨rfl, rfl⟩
  case round =>
    rcases hrel with ⟨rfl, rfl⟩ | ⟨rfl, hz⟩
    · have i0 := HI4.out.cell 0
      simp only [List.getElem?_toArray, List.getElem?_cons_zero] at i0
      go_wp2_with fail
      refine HOG.out.mono ?_
      clear HOG i0
      rintro e w5 ⟨gg, rfl, h5, hf5⟩
      have hb5 := HB4.out.fr hf5 fun h => h.1 (.inr (.inr rfl))
      have hk5 := HK4.out.fr hf5 fun h => h.1 (.inr (.inl rfl))
      obtain ⟨w6, hrun, _, hf6⟩ := hk5.put (t := 71) Tryz.underlying3 Tryz.underlying71 (by unfold maxLen; omega) (wf64_of (x := 0) (by omega)) (.pointer (some ⟨gg, 0, none⟩))
      have k2 := hb5.cell 2
      have k3 := hb5.cell 3
      unfold kc at k2 k3
      simp only [List.getElem?_toArray, List.getElem?_cons_zero, List.getElem?_cons_succ] at k2 k3
      have HZ : Hid (DOpenPost w wb gd m v p' S (.returned (.tuple #[.pointer (some ⟨w1.heap.size + 1 + 1, 0, none⟩), .int .i64 0])) w6) := by
        have hw := HA1.out.fr.size
        have hw1 := HF1.out.size
        refine ⟨_, _, rfl, (h5.prot hf6 (fun k _ e => ⟨.inr (.inl e), by omega⟩) fun k hk => .inl (hk.imp id .inr)), hb5.fr hf6 (fun e => by omega), by omega, ?_⟩
        refine (HF1.out.trans (HF4.out.mono fun _ _ h => h.elim)).trans ((Fr.less hf5 fun k hk => .inl hk).trans (hf6.mono fun k _ e => ⟨fun h => ?_, by omega⟩))
        have := HS.out k h
        omega
      clear h5 hf5 hb5 hk5 hf6
      go_wp2_with fail
      go_roundw
      case rel => exact .inr ⟨rfl, HZ.out⟩
      case measure => simp [intOf]
    · have HZ := Lib.hid hz
      clear hz
      go_wp2_with fail
      go_ret2
      exact HZ.out
end Go.Proofs.YtafiokabnlmgpaaGreatDoor

namespace Go.Proofs.YtafiokabnlmgpaaGreatDoor
open Go.RowKit Go.Maps

section
variable {w : World} {gk gd m mb : Nat} {v : Bool}
set_option maxRecDepth 100000 in
theorem epoch_any (h : Bk w gk 73 (kc gd m v mb)) : Calls Tryz.prog 21 #[.pointer (some ⟨gk, 0, none⟩)] w fun e w' => e = .returned (.int .u64 ((m : Int) + 1)) ∧ w = w' := by
  have k1 := h.cell 1
  unfold kc at k1
  simp only [List.getElem?_toArray, List.getElem?_cons_zero, List.getElem?_cons_succ] at k1
  clear h
  go_enter Tryz.func21, Tryz.ntmps21
  go_wp2_with fail
  go_ret
  exact ⟨rfl, rfl⟩
set_option maxRecDepth 100000 in
theorem voter_any (h : Bk w gk 73 (kc gd m v mb)) : Calls Tryz.prog 22 #[.pointer (some ⟨gk, 0, none⟩)] w fun e w' => e = .returned (.bool v) ∧ w = w' := by
  have k2 := h.cell 2
  unfold kc at k2
  simp only [List.getElem?_toArray, List.getElem?_cons_zero, List.getElem?_cons_succ] at k2
  clear h
  go_enter Tryz.func22, Tryz.ntmps22
  go_wp2_with fail
  go_ret
  exact ⟨rfl, rfl⟩
end
set_option maxRecDepth 100000 in
theorem kload_any (w wb : World) (gd gk m mb : Nat) (v : Bool) (p : PD) (S : Nat → Prop) (h : AtS w wb gd p S) (hb : Bk wb gk 73 (kc gd m v mb)) (ht : Tab w) :
    Calls Tryz.prog 24 #[.pointer (some ⟨gk, 0, none⟩)] wb fun e w' => LoadPost wb w' e (pload p nS) := by
  have k0 := hb.cell 0
  unfold kc at k0
  simp only [List.getElem?_toArray, List.getElem?_cons_zero] at k0
  have hl := load_any w wb gd p S h ht nS (by decide)
  rw [show bstr nS = ({ data := #[115, 116, 97, 116, 101] } : ByteArray) from rfl] at hl
  have HL := Lib.hid hl
  clear h hb ht hl
  generalize pload p nS = u at *
  go_enter Tryz.func24, Tryz.ntmps24
  go_wp2_with fail
  refine HL.out.mono ?_
  clear HL
  rintro e w1 ⟨v1, rfl, hn⟩
  have HN := Lib.hid hn
  clear hn
  go_wp2_with fail
  go_ret2
  exact ⟨_, rfl, HN.out⟩
set_option maxRecDepth 100000 in
theorem ksave_any (w wb : World) (gd gk m mb : Nat) (v : Bool) (p : PD) (S : Nat → Prop) (h : AtS w wb gd p S) (hS : ∀ k, S k → k < wb.heap.size) (hb : Bk wb gk 73 (kc gd m v mb)) (ht : Tab w) (A : Option Addr) (c bl : Nat) (b : Bs) (hbl : bl = b.length) (hp : Part wb (A, c, b)) (hc : b.length ≤ c) (hl : b.length ≤ 1000000) (hA : 0 < b.length → ∀ k, ablk A k → k < w.heap.size ∨ S k) :
    Calls Tryz.prog 23 #[.pointer (some ⟨gk, 0, none⟩), .slice A bl c] wb (CallPost w wb gd (psave p nS b) S) := by
  have k0 := hb.cell 0
  unfold kc at k0
  simp only [List.getElem?_toArray, List.getElem?_cons_zero] at k0
  have hsv := save_any w wb gd p S h hS ht nS (by decide) A c b hp hc hl hA
  rw [← hbl, show bstr nS = ({ data := #[115, 116, 97, 116, 101] } : ByteArray) from rfl] at hsv
  have HSV := Lib.hid hsv
  clear h hS hb ht hsv hp hc hl hA hbl
  generalize psave p nS b = r at *
  go_enter Tryz.func23, Tryz.ntmps23
  go_wp2_with fail
  refine HSV.out.mono ?_
  clear HSV
  rintro e w1 ⟨rfl, h1, hf1⟩
  have HZ : Hid (CallPost w wb gd r S (.returned (.int .i64 r.2)) w1) := ⟨rfl, h1, hf1⟩
  clear h1 hf1
  go_wp2_with fail
  go_ret
  exact HZ.out
set_option maxRecDepth 100000 in
theorem format_any (w wb : World) (gd R : Nat) (hR : 1000 ≤ R) (S : Nat → Prop) (h : AtS w wb gd (pNew R) S) (hS : ∀ k, S k → k < wb.heap.size) (ht : Tab w) :
    Calls Tryz.prog 10 #[.pointer (some ⟨gd, 0, none⟩)] wb fun e w' => e = .returned (.int .i64 0) ∧ AtS w w' gd ⟨R, -1, false, [lf (lb 0 1)]⟩ S ∧ Fr (Loose w S) wb w' := by
  have hsv := lsave_any w wb gd (pNew R) S h hS ht 0 (by omega) true
  rw [show vn true = 1 from rfl, life_new R hR 0 1 (by omega), show ((0 : Nat) : Int) = 0 from rfl] at hsv
  have HSV := Lib.hid hsv
  clear h hS ht hsv
  go_enter Tryz.func10, Tryz.ntmps10
  go_wp2_with fail
  refine HSV.out.mono ?_
  clear HSV
  rintro e w1 ⟨rfl, h1, hf1⟩
  have HA1 := Lib.hid h1
  have HF1 := Lib.hid hf1
  clear h1 hf1
  go_wp2_with fail
  go_ret
  exact ⟨rfl, HA1.out, HF1.out⟩
end Go.Proofs.YtafiokabnlmgpaaGreatDoor

namespace Go.Proofs.YtafiokabnlmgpaaGreatDoor
open Go.RowKit Go.Maps

set_option maxRecDepth 100000 in
set_option maxHeartbeats 2000000 in
theorem speaks_any (w : World) (ht : Tab w) : Calls Tryz.prog 6 #[] w fun e w' => e = .returned (.bool true) ∧ Fr NoBlk w w' := by
  have HT := Lib.hid ht
  have HN1 := Lib.hid (new_at w w (Fr.refl _ _) 1000 (by omega) (by omega))
  clear ht
  go_enter Tryz.func6, Tryz.ntmps6
  go_wp2_with fail
  refine HN1.out.mono ?_
  clear HN1
  rintro e w1 ⟨gd, rfl, h1, hf1⟩
  have HA1 := Lib.hid h1
  have HN2 := Lib.hid (new_at w w1 hf1 1000 (by omega) (by omega))
  clear h1 hf1
  go_wp2_with fail
  refine HN2.out.mono ?_
  clear HN2
  rintro e w2 ⟨ge, rfl, ⟨me, hme, hdk, hw2, hB⟩, hf2⟩
  have HD2 : Hid (AtS w w2 gd (pNew 1000) (Blks ge me)) := HA1.out.prot hf2 fun k hk => .inl (hdk.blk hk).1
  have HLT : Hid (∀ k, Blks ge me k → k < w2.heap.size) := fun k hk => (hdk.blk hk).2
  have HME := Lib.hid hme
  have HE2 := Lib.hid hdk
  have HB := Lib.hid hB
  have HFM := Lib.hid (format_any w w2 gd 1000 (by omega) _ HD2.out HLT.out HT.out)
  clear hme hdk hw2 hB hf2 HA1
  go_wp2_with fail
  refine HFM.out.mono ?_
  clear HFM
  rintro e w3 ⟨rfl, h3, hf3⟩
  have he3 := HE2.out.fr hf3 fun k hk hl => hl.1 hk
  have hg3 : Fr NoBlk w3 (w3.alloc (.cells #[.int .i64 0] 3)) := (Fr.refl _ _).alloc _
  have hb3 := Bk.new w3 3 #[.int .i64 0]
  have hop := dopen_any w _ gd _ ⟨1000, -1, false, [lf (lb 1 1)]⟩ (fun k => Blks ge me k ∨ k = w3.heap.size) (h3.prot hg3 (fun _ _ h => h.elim) fun k hk => hk.imp id fun h => by omega) (fun k hk => by
    rw [World.size_alloc]
    have := hf3.size
    rcases hk with h | rfl
    · have := HLT.out k h; omega
    · omega) HT.out w3.heap.size _ hb3 (.inr rfl) 0 true 0 (.inl (life_load 1000 0 1 (by omega) [])) 0 rfl (by omega) (life_again 1000 1 1 0 1 (by omega) [] (.inl rfl) (by show 0 + 300 ≤ 1000; omega) (by omega)) ⟨rfl, rfl⟩ (no_log 1000 _ [] (.inl rfl))
  have HOP := Lib.hid hop
  have HE3 := Lib.hid (he3.fr hg3 fun _ _ h => h)
  have HZ3 : Hid (w2.heap.size ≤ (w3.alloc (.cells #[.int .i64 0] 3)).heap.size) := Nat.le_trans hf3.size hg3.size
  clear h3 hf3 he3 hg3 hb3 hop HD2 HE2
  go_wp2_with fail
  refine HOP.out.mono ?_
  clear HOP
  rintro e w5 ⟨gk, mb, rfl, h5, hb5, hgk, hf5⟩
  have he5 := HE3.out.fr hf5 fun k hk hl => hl.1 (.inl hk)
  have hg5 : Fr NoBlk w5 (w5.alloc (.cells #[.int .i64 0] 3)) := (Fr.refl _ _).alloc _
  have hi5 := Bk.new w5 3 #[.int .i64 0]
  have hkl := hb5.lt
  have hat : AtS w (w5.alloc (.cells #[.int .i64 0] 3)) ge (pNew 1000) (fun k => k = gk ∨ k = w5.heap.size) := ⟨_, me, HME.out, he5.fr hg5 (fun _ _ h => h), h5.fr.trans hg5, HB.out, fun k hk hs => by
    have h1 := HLT.out k hk
    have h2 := HZ3.out
    have h3 := hf5.size
    rcases hs with rfl | rfl <;> omega⟩
  have hop := dopen_any w _ ge _ ⟨1000, -1, false, [lf (lb 8 0)]⟩ (fun k => k = gk ∨ k = w5.heap.size) hat (fun k hk => by
    rw [World.size_alloc]
    rcases hk with rfl | rfl <;> omega) HT.out w5.heap.size _ hi5 (.inr rfl) 0 false 7 (.inr ⟨life_none 1000, rfl, rfl⟩) 7 rfl (by omega) (life_new 1000 (by omega) 8 0 (by omega)) ⟨rfl, rfl⟩ (no_log 1000 _ [] (.inl rfl))
  have HOP := Lib.hid hop
  have HK5 := Lib.hid (hb5.fr hg5 fun h => h)
  clear h5 hb5 hgk hf5 he5 hg5 hi5 hkl hat hop HE3 HZ3 HLT HME HB
  go_wp2_with fail
  refine HOP.out.mono ?_
  clear HOP
  rintro e w7 ⟨gl, mb2, rfl, h7, hb7, _, hf7⟩
  have hk7 := HK5.out.fr hf7 fun h => h.1 (.inl rfl)
  have HEK := epoch_any hk7
  have HEL := epoch_any hb7
  rw [show (((0 : Nat) : Int) + 1) = 1 from rfl] at HEK
  rw [show (((7 : Nat) : Int) + 1) = 8 from rfl] at HEL
  replace HEK := Lib.hid HEK
  replace HEL := Lib.hid HEL
  have HVK := Lib.hid (voter_any hk7)
  have HVL := Lib.hid (voter_any hb7)
  have HF7 := Lib.hid h7.fr
  clear h7 hb7 hf7 hk7 HK5
  go_wp2_with fail
  refine HEK.out.mono ?_
  clear HEK
  rintro e w8 ⟨rfl, rfl⟩
  go_wp2_with fail
  refine HVK.out.mono ?_
  clear HVK
  rintro e w8 ⟨rfl, rfl⟩
  go_wp2_with fail
  refine HEL.out.mono ?_
  clear HEL
  rintro e w8 ⟨rfl, rfl⟩
  go_wp2_with fail
  refine HVL.out.mono ?_
  clear HVL
  rintro e w8 ⟨rfl, rfl⟩
  go_wp2_with fail
  go_ret
  exact ⟨rfl, HF7.out⟩
end Go.Proofs.YtafiokabnlmgpaaGreatDoor
