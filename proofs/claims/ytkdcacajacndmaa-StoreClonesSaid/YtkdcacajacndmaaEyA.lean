/- Plain mathematics of the numbers' bytes: unlike numbers have unlike bytes, greater ones no fewer. No condition. The contracts of the eye: number, Num, Text, Byte, End read just what the document says of the bytes that are left, and move the eye on or leave it. Conditions: the bytes' rows are kept, lengths are short. The contracts of the eye's calls. Conditions: the eye's bytes are kept, lengths are short. The contract of the eye's Text, and of spoil. Conditions: the eye's bytes are kept, lengths are short. Plain mathematics of reading what was written: a number's bytes are read as the number, what is cut off is short, and how many bytes there are. No condition but that numbers have 64 bits. -/
import Derived.Test.YtkdcacajacndmaaPen2
namespace Go.Proofs.Ytkdcacajacndmaa

theorem num_ne (n : Nat) : num n ≠ [] := by
  by_cases h : n < 128
  · rw [num_lt h]; simp
  · rw [num_ge h]; simp
theorem ofNat_inj {a b : Nat} (ha : a < 256) (hb : b < 256) (h : UInt8.ofNat a = UInt8.ofNat b) : a = b := by
  have := congrArg UInt8.toNat h
  rw [UInt8.toNat_ofNat', UInt8.toNat_ofNat'] at this
  omega
theorem num_inj (a : Nat) : ∀ b, num a = num b → a = b := by
  induction a using Nat.strongRecOn with
  | _ a ih =>
    intro b h
    by_cases ha : a < 128 <;> by_cases hb : b < 128
    · rw [num_lt ha, num_lt hb] at h
      exact ofNat_inj (by omega) (by omega) (by simpa using h)
    · rw [num_lt ha, num_ge hb] at h
      injection h with _ h
      exact absurd h.symm (num_ne _)
    · rw [num_ge ha, num_lt hb] at h
      injection h with _ h
      exact absurd h (num_ne _)
    · rw [num_ge ha, num_ge hb] at h
      injection h with h1 h2
      have := ih (a / 128) (by omega) _ h2
      have := ofNat_inj (by omega) (by omega) h1
      omega
theorem num_mono (a : Nat) : ∀ b, a ≤ b → (num a).length ≤ (num b).length := by
  induction a using Nat.strongRecOn with
  | _ a ih =>
    intro b h
    by_cases ha : a < 128
    · rw [num_lt ha]
      have := List.length_pos_iff.2 (num_ne b)
      simp; omega
    · rw [num_ge ha, num_ge (show ¬ b < 128 by omega)]
      have := ih (a / 128) (by omega) (b / 128) (by omega)
      simpa using this

open Go.RowKit in
theorem Pen.keep {C : Nat → Prop} {w w' : World} {base g : Nat} {v : Value} {l : List UInt8} (h : Pen w base g v l) (hf : Fr C w w') (hg : ¬ C g) (hv : ∀ k, v.ownBlock = some k → ¬ C k) : Pen w' base g v l :=
  ⟨h.bk.fr hf hg, own_fr h.own hf hv⟩
end Go.Proofs.Ytkdcacajacndmaa

namespace Go.Proofs.Ytkdcacajacndmaa
open Go.RowKit

/-- what the document says of the number with which bytes begin, from the k-th on: the number, how many bytes it has, the error's number. -/
def numGo : Nat → Nat → List UInt8 → Nat × Nat × Nat
  | _, _, [] => (0, 0, 30)
  | k, n, b :: t =>
    if k = 9 ∧ 1 < b.toNat then (0, 0, 31)
    else if 128 ≤ b.toNat then numGo (k + 1) (n + b.toNat % 128 * 128 ^ k) t
    else if b.toNat = 0 ∧ 0 < k then (0, 0, 31)
    else (n + b.toNat % 128 * 128 ^ k, k + 1, 0)
def rdNum (l : List UInt8) : Nat × Nat × Nat := numGo 0 0 l

theorem drop_cons (l : List UInt8) (k : Nat) (h : k < l.length) : l.drop k = l.getD k 0 :: l.drop (k + 1) := by
  rw [List.drop_eq_getElem_cons h]
  simp [List.getD_eq_getElem?_getD, h]

theorem pow128 (k : Nat) : (128 : Nat) ^ k = 2 ^ (7 * k) := by rw [Nat.pow_mul]
theorem pow_le9 {k : Nat} (h : k ≤ 9) : (128 : Nat) ^ k ≤ 128 ^ 9 := Nat.pow_le_pow_right (by omega) h

theorem or_step (n x k : Nat) (hk : k ≤ 9) (hn : n < 128 ^ k) (h9 : k = 9 → x ≤ 1) :
    bits .or .u64 (n : Int) (IntKind.u64.wrap ((x : Int) % 128 * 2 ^ (7 * k))) = ((n + x % 128 * 128 ^ k : Nat) : Int) := by
  have hp := pow_le9 hk
  have hb : x % 128 * 128 ^ k < 18446744073709551616 := by
    by_cases h : k = 9
    · subst h
      have : x % 128 ≤ 1 := by have := h9 rfl; omega
      have := Nat.mul_le_mul_right (128 ^ 9) this
      omega
    · have h8 : (128 : Nat) ^ k ≤ 128 ^ 8 := Nat.pow_le_pow_right (by omega) (by omega)
      have : x % 128 * 128 ^ k ≤ 127 * 128 ^ 8 := Nat.mul_le_mul (by omega) h8
      omega
  have hc : ((x : Int) % 128 * 2 ^ (7 * k)) = ((x % 128 * 128 ^ k : Nat) : Int) := by
    rw [pow128]; push_cast; rfl
  rw [hc]
  have hw : IntKind.u64.wrap ((x % 128 * 128 ^ k : Nat) : Int) = ((x % 128 * 128 ^ k : Nat) : Int) := by
    generalize x % 128 * 128 ^ k = y at *
    simp only [IntKind.wrap, IntKind.bits, IntKind.signed]
    simp
    omega
  rw [hw, u64_or_nat _ _ (by omega) hb, Nat.or_comm, nat_join (7 * k) _ _ (by rw [pow128]; exact Nat.mul_mod_left _ _) (by rw [← pow128]; exact hn), Nat.add_comm]

theorem or_step9 (n x : Nat) (hn : n < 128 ^ 9) (hx : x ≤ 1) : bits .or .u64 (n : Int) ((x : Int) % 128 * 9223372036854775808) = ((n + x % 128 * 128 ^ 9 : Nat) : Int) := by
  have h := or_step n x 9 (by omega) hn (fun _ => hx)
  rw [show ((2 : Int) ^ (7 * 9)) = 9223372036854775808 from by decide] at h
  have hw : IntKind.u64.wrap ((x : Int) % 128 * 9223372036854775808) = (x : Int) % 128 * 9223372036854775808 := by
    simp only [IntKind.wrap, IntKind.bits, IntKind.signed]
    simp
    omega
  rwa [hw] at h

theorem numGo_form {k n : Nat} {x : UInt8} {t : List UInt8} (h : k = 9 ∧ 1 < x.toNat) : numGo k n (x :: t) = (0, 0, 31) := by rw [numGo, if_pos h]
theorem numGo_on {k n : Nat} {x : UInt8} {t : List UInt8} (h : ¬ k = 9) (hx : 128 ≤ x.toNat) : numGo k n (x :: t) = numGo (k + 1) (n + x.toNat % 128 * 128 ^ k) t := by
  rw [numGo, if_neg (fun e => h e.1), if_pos hx]
theorem numGo_nought {k n : Nat} {x : UInt8} {t : List UInt8} (h : ¬ (k = 9 ∧ 1 < x.toNat)) (h0 : x.toNat = 0) (hk : 0 < k) : numGo k n (x :: t) = (0, 0, 31) := by
  rw [numGo, if_neg h, if_neg (by omega), if_pos ⟨h0, hk⟩]
theorem numGo_end {k n : Nat} {x : UInt8} {t : List UInt8} (h : ¬ (k = 9 ∧ 1 < x.toNat)) (hx : ¬ 128 ≤ x.toNat) (h0 : ¬ (x.toNat = 0 ∧ 0 < k)) : numGo k n (x :: t) = (n + x.toNat % 128 * 128 ^ k, k + 1, 0) := by
  rw [numGo, if_neg h, if_neg hx, if_neg h0]

set_option maxRecDepth 100000 in
set_option maxHeartbeats 400000 in
theorem number_any (w : World) (A : Option Addr) (n c : Nat) (l : List UInt8) (hn : n = l.length) (hr : Rd w A (cb l)) (hl : l.length ≤ 1000000000) :
    Calls Try.prog 75 #[.slice A n c] w fun e w' => e = .returned (.tuple #[.int .u64 ((rdNum l).1 : Int), .int .i64 ((rdNum l).2.1 : Int), .int .i64 ((rdNum l).2.2 : Int)]) ∧ w = w' := by
  subst hn
  have HR := Lib.hid hr
  clear hr
  go_enter Try.func75, Try.ntmps75
  go_wp2
  go_loop [5, 10] (fun s i => ∃ k n : Nat, k ≤ l.length ∧ k ≤ 9 ∧ Hid (n < 128 ^ k) ∧ i = .int .i64 k ∧ s = .int .u64 n ∧ Hid (rdNum l = numGo k n (l.drop k))) (fun _ i => l.length - (intOf i).toNat)
  case atStart => exact ⟨0, 0, Nat.zero_le _, by omega, Lib.hid (by decide), rfl, rfl, rfl⟩
  case round =>
    obtain ⟨k, n, hk, hk9, HN, rfl, rfl, HG⟩ := hrel
    by_cases hlt : k < l.length
    · obtain ⟨b, o, rfl, hcell⟩ := HR.out.byte hlt
      have HD := Lib.hid (drop_cons l k hlt)
      generalize l.getD k 0 = x at *
      have hx : x.toNat < 256 := x.toNat_lt
      by_cases h9 : k = 9 ∧ 1 < x.toNat
      · have HX := Lib.hid (HG.out.trans (by rw [HD.out, numGo_form h9]))
        obtain ⟨rfl, h1⟩ := h9
        go_wp2
        go_ret3
        rw [HX.out]
        exact ⟨rfl, rfl⟩
      · have e1 := or_step n x.toNat k hk9 HN.out (fun e => by omega)
        by_cases hge : 128 ≤ x.toNat
        · have h9' : ¬ k = 9 := fun e => h9 ⟨e, by omega⟩
          have f1 : ((k : Int) == 9) = false := beq_eq_false_iff_ne.2 (by omega)
          have HX := Lib.hid (HG.out.trans (by rw [HD.out, numGo_on h9' hge]))
          have HB : Hid (n + x.toNat % 128 * 128 ^ k < 128 ^ (k + 1)) := by
            unfold Hid
            have h2 : x.toNat % 128 * 128 ^ k ≤ 127 * 128 ^ k := Nat.mul_le_mul_right _ (by omega)
            have h3 := HN.out
            rw [Nat.pow_succ]
            omega
          generalize n + x.toNat % 128 * 128 ^ k = n' at *
          clear h9
          go_wp2
          go_round
          case rel => exact ⟨k + 1, n', by omega, by omega, HB, by go_num, rfl, HX⟩
          case measure => simp [intOf]; omega
        · by_cases h0 : x.toNat = 0 ∧ 0 < k
          · have HX := Lib.hid (HG.out.trans (by rw [HD.out, numGo_nought h9 h0.1 h0.2]))
            have h01 := h0.2
            have f2 : ((x.toNat : Int) == 0) = true := beq_iff_eq.2 (by omega)
            have f3 : ¬ (128 : Int) ≤ (x.toNat : Int) := by omega
            by_cases hk99 : k = 9
            · subst hk99
              have f4 : ¬ (1 : Int) < (x.toNat : Int) := by omega
              clear h0 h9
              go_wp2
              all_goals
                go_ret3
                rw [HX.out]
                exact ⟨rfl, rfl⟩
            · have f1 : ((k : Int) == 9) = false := beq_eq_false_iff_ne.2 (by omega)
              clear h0 h9
              go_wp2
              all_goals
                go_ret3
                rw [HX.out]
                exact ⟨rfl, rfl⟩
          · have HX := Lib.hid (HG.out.trans (by rw [HD.out, numGo_end h9 hge h0]))
            have f3 : ¬ (128 : Int) ≤ (x.toNat : Int) := by omega
            by_cases hx0 : x.toNat = 0
            · have h01 : ¬ 0 < k := fun h => h0 ⟨hx0, h⟩
              have f1 : ((k : Int) == 9) = false := beq_eq_false_iff_ne.2 (by omega)
              have f2 : ((x.toNat : Int) == 0) = true := beq_iff_eq.2 (by omega)
              have f5 : ¬ (0 : Int) < (k : Int) := by omega
              generalize n + x.toNat % 128 * 128 ^ k = n' at *
              clear h0 h9 hx0 h01
              go_wp2
              all_goals
                go_ret3
                rw [HX.out]
                exact ⟨rfl, rfl⟩
            · have f2 : ((x.toNat : Int) == 0) = false := beq_eq_false_iff_ne.2 (by omega)
              by_cases hk99 : k = 9
              · subst hk99
                have f4 : ¬ (1 : Int) < (x.toNat : Int) := by omega
                have e9 := or_step9 n x.toNat HN.out (by omega)
                generalize n + x.toNat % 128 * 128 ^ 9 = n' at *
                clear h0 h9 e1
                go_wp2
                all_goals
                  go_ret3
                  rw [HX.out]
                  exact ⟨rfl, rfl⟩
              · have f1 : ((k : Int) == 9) = false := beq_eq_false_iff_ne.2 (by omega)
                generalize n + x.toNat % 128 * 128 ^ k = n' at *
                clear h0 h9
                go_wp2
                all_goals
                  go_ret3
                  rw [HX.out]
                  exact ⟨rfl, rfl⟩
    · go_wp2
      go_ret3
      have h0 : l.drop k = [] := List.drop_eq_nil_of_le (by omega)
      rw [HG.out, h0]
      exact ⟨rfl, rfl⟩
end Go.Proofs.Ytkdcacajacndmaa

namespace Go.Proofs.Ytkdcacajacndmaa
open Go.RowKit

/-- an eye: block g holds a slice of the bytes that are left, which lie elsewhere. -/
structure Eye (w : World) (g : Nat) (A : Option Addr) (c : Nat) (l : List UInt8) : Prop where
  bk : Bk w g 112 #[.slice A l.length c]
  rd : Rd w A (cb l)
  nil : A = none → c = 0
  cap : l.length ≤ c
  sep : ∀ k, ablk A k → k ≠ g

/-- what a call on an eye leaves: the eye at the bytes l', in the row in which it was. -/
structure Eyed (w w' : World) (g : Nat) (A A' : Option Addr) (c' : Nat) (l' : List UInt8) : Prop where
  eye : Eye w' g A' c' l'
  fr : Fr (fun k => k = g) w w'
  row : ∀ k, ablk A' k → ablk A k

theorem numGo_size (t : List UInt8) : ∀ k n, (numGo k n t).2.1 ≤ k + t.length := by
  induction t with
  | nil => intro k n; simp [numGo]
  | cons b t ih =>
    intro k n
    rw [numGo]
    split
    · exact Nat.zero_le _
    · split
      · have := ih (k + 1) (n + b.toNat % 128 * 128 ^ k)
        simp only [List.length_cons]
        omega
      · split
        · exact Nat.zero_le _
        · simp only [List.length_cons]; omega
theorem rdNum_size (l : List UInt8) : (rdNum l).2.1 ≤ l.length := by have := numGo_size l 0 0; unfold rdNum; omega

theorem Eye.keep {C : Nat → Prop} {w w' : World} {g : Nat} {A : Option Addr} {c : Nat} {l : List UInt8} (h : Eye w g A c l) (hf : Fr C w w') (hg : ¬ C g) (hr : ∀ k, ablk A k → ¬ C k) : Eye w' g A c l :=
  ⟨h.bk.fr hf hg, h.rd.fr hf hr, h.nil, h.cap, h.sep⟩
theorem Eye.keep' {C : Nat → Prop} {w w' : World} {g : Nat} {A : Option Addr} {c : Nat} {l : List UInt8} (h : Eye w g A c l) (hf : Fr C w w') (hg : ¬ C g) (hr : 0 < l.length → ∀ k, ablk A k → ¬ C k) : Eye w' g A c l :=
  ⟨h.bk.fr hf hg, h.rd.fr' hf (fun h0 => hr (by rwa [cb_length] at h0)), h.nil, h.cap, h.sep⟩
theorem ablk_cut {A : Option Addr} {c s k : Nat} (h : ablk (if c = s then A else A.map (·.add s)) k) : ablk A k := by
  obtain ⟨b, e, rfl⟩ := h
  split at e
  · exact ⟨b, e, rfl⟩
  · cases A with
    | none => cases e
    | some a =>
      injection e with e
      subst e
      exact ⟨a, rfl, by unfold Addr.add; split <;> rfl⟩

theorem Eyed.put {w : World} {g : Nat} {A A' : Option Addr} {c c' : Nat} {l l' : List UInt8} (h : Eye w g A c l) (hr : Rd w A' (cb l')) (hn : A' = none → c' = 0) (hc : l'.length ≤ c') (hrow : ∀ k, ablk A' k → ablk A k) (n : Nat) (hl : n = l'.length) :
    Eyed w (w.setCell ⟨g, 0, none⟩ (.slice A' n c')) g A A' c' l' := by
  subst hl
  refine ⟨⟨by simpa using h.bk.put 0 (.slice A' l'.length c'), ?_, hn, hc, fun k hk => h.sep k (hrow k hk)⟩, (Fr.refl (fun k => k = g) w).setCell (p := ⟨g, 0, none⟩) (fun _ => rfl) _, hrow⟩
  exact hr.fr (C := fun k => k = g) ((Fr.refl (fun k => k = g) w).setCell (p := ⟨g, 0, none⟩) (fun _ => rfl) _) (fun k hk => h.sep k (hrow k hk))
theorem Eyed.cut_full {w : World} {g : Nat} {A : Option Addr} {c s : Nat} {l : List UInt8} (h : Eye w g A c l) (hs : s ≤ l.length) (he : c = s) :
    Eyed w (w.setCell ⟨g, 0, none⟩ (.slice A (l.length - s) 0)) g A A 0 (l.drop s) := by
  have := h.cap
  have h0 : l.drop s = [] := List.drop_eq_nil_of_le (by omega)
  refine Eyed.put h ?_ (fun _ => rfl) (by rw [h0]; simp) (fun _ h => h) _ (by rw [List.length_drop])
  rw [h0]
  exact Rd.none_ _ _
theorem Eyed.cut_part {w : World} {g : Nat} {A : Option Addr} {c s : Nat} {l : List UInt8} (h : Eye w g A c l) (hs : s ≤ l.length) (he : ¬ c = s) :
    Eyed w (w.setCell ⟨g, 0, none⟩ (.slice (Option.map (fun x => x.add s) A) (l.length - s) (c - s))) g A (Option.map (fun x => x.add s) A) (c - s) (l.drop s) := by
  have hr := h.rd.cut (k := s) (cap := c) (by rw [cb_length]; exact hs) (by rw [cb_length]; exact h.cap)
  rw [if_neg he, ← cb_drop] at hr
  refine Eyed.put h hr ?_ ?_ ?_ _ (by rw [List.length_drop])
  · intro hn
    cases A with
    | none => have := h.nil rfl; omega
    | some a => cases hn
  · have := h.cap
    rw [List.length_drop]
    omega
  · intro k hk
    exact ablk_cut (c := c) (s := s) (by rw [if_neg he]; exact hk)
theorem Eyed.same {w : World} {g : Nat} {A : Option Addr} {c : Nat} {l : List UInt8} (h : Eye w g A c l) : Eyed w w g A A c l := ⟨h, Fr.refl _ _, fun _ h => h⟩
theorem Eyed.trans {w w1 w2 : World} {g : Nat} {A A1 A2 : Option Addr} {c1 c2 : Nat} {l1 l2 : List UInt8} (h : Eyed w w1 g A A1 c1 l1) (k : Eyed w1 w2 g A1 A2 c2 l2) : Eyed w w2 g A A2 c2 l2 :=
  ⟨k.eye, h.fr.trans k.fr, fun q hq => h.row q (k.row q hq)⟩

set_option maxRecDepth 100000 in
set_option maxHeartbeats 400000 in
theorem newEye_any (w : World) (A : Option Addr) (n c : Nat) (l : List UInt8) (hn : n = l.length) (hr : Rd w A (cb l)) (hA : A = none → c = 0) (hl : l.length ≤ 1000000000) :
    Calls Try.prog 49 #[.slice A n c] w fun e w' => ∃ g A' c', e = .returned (.pointer (some ⟨g, 0, none⟩)) ∧ Eye w' g A' c' l ∧ Fr NoBlk w w' ∧ w.heap.size ≤ g ∧ ∀ k, ablk A' k → w.heap.size ≤ k ∧ k < w'.heap.size := by
  subst hn
  have HR := Lib.hid hr
  have HA := Lib.hid hA
  have HL := Lib.hid hl
  clear hr hA hl
  go_enter Try.func49, Try.ntmps49
  go_wp2_with fail
  refine (clone_any w A _ c l rfl HR.out HA.out HL.out).mono ?_
  rintro e w1 ⟨v1, rfl, hn1⟩
  obtain ⟨A1, c1, rfl, hc1, hA1⟩ := own_form hn1.own
  have HN := Lib.hid hn1
  have HC := Lib.hid hc1
  have HA1 := Lib.hid hA1
  clear hn1 hc1 hA1
  go_wp2_with fail
  go_ret
  have hb : ∀ k, ablk A1 k → w.heap.size ≤ k ∧ k < w1.heap.size := by
    rintro k ⟨b, rfl, rfl⟩
    exact HN.out.own.lt _ rfl
  refine ⟨_, A1, c1, rfl, ⟨Bk.new _ _ _, (Rd.of_own HN.out.own).alloc _, HA1.out, HC.out, ?_⟩, HN.out.fr.alloc _, HN.out.fr.size, fun k hk => ⟨(hb k hk).1, by have := (hb k hk).2; simp; omega⟩⟩
  intro k hk
  have := (hb k hk).2
  omega

set_option maxRecDepth 100000 in
set_option maxHeartbeats 400000 in
theorem eyeNum_any (w : World) (g : Nat) (A : Option Addr) (c : Nat) (l : List UInt8) (he : Eye w g A c l) (hl : l.length ≤ 1000000000) :
    Calls Try.prog 63 #[.pointer (some ⟨g, 0, none⟩)] w fun e w' => e = .returned (.tuple #[.int .u64 ((rdNum l).1 : Int), .int .i64 ((rdNum l).2.2 : Int)]) ∧ ∃ A' c', Eyed w w' g A A' c' (l.drop (rdNum l).2.1) := by
  have hc := he.bk.cell 0
  have hf := he.bk.free 0
  simp only [List.getElem?_toArray, List.getElem?_cons_zero] at hc
  have HE := Lib.hid he
  have HL := Lib.hid hl
  have hs := rdNum_size l
  have hcap := he.cap
  clear he hl
  go_enter Try.func63, Try.ntmps63
  go_wp2_with fail
  refine (number_any w A _ c l rfl HE.out.rd HL.out).mono ?_
  rintro e w1 ⟨rfl, rfl⟩
  obtain ⟨m, s, k, hx⟩ : ∃ m s k, rdNum l = (m, s, k) := ⟨_, _, _, rfl⟩
  rw [hx] at hs ⊢
  have HX := Lib.hid hx
  clear hx
  simp only at hs ⊢
  by_cases h : c = s
  · have HZ := Lib.hid (Eyed.cut_full HE.out hs h)
    go_wp2_with fail
    go_ret2
    rw [HX.out]
    exact ⟨rfl, _, _, HZ.out⟩
  · have HZ := Lib.hid (Eyed.cut_part HE.out hs h)
    go_wp2_with fail
    go_ret2
    rw [HX.out]
    exact ⟨rfl, _, _, HZ.out⟩

set_option maxRecDepth 100000 in
set_option maxHeartbeats 400000 in
theorem eyeEnd_any (w : World) (g : Nat) (A : Option Addr) (c : Nat) (l : List UInt8) (he : Eye w g A c l) :
    Calls Try.prog 65 #[.pointer (some ⟨g, 0, none⟩)] w fun e w' => e = .returned (.int .i64 (if l = [] then 0 else 32)) ∧ w = w' := by
  have hc := he.bk.cell 0
  simp only [List.getElem?_toArray, List.getElem?_cons_zero] at hc
  clear he
  by_cases h : l = []
  · subst h
    go_enter Try.func65, Try.ntmps65
    go_wp2
    go_ret
    exact ⟨rfl, rfl⟩
  · have h0 := List.length_pos_iff.2 h
    rw [if_neg h]
    clear h
    go_enter Try.func65, Try.ntmps65
    go_wp2
    go_ret
    exact ⟨rfl, rfl⟩

set_option maxRecDepth 100000 in
set_option maxHeartbeats 400000 in
theorem eyeByte_any (w : World) (g : Nat) (A : Option Addr) (c : Nat) (l : List UInt8) (he : Eye w g A c l) :
    Calls Try.prog 77 #[.pointer (some ⟨g, 0, none⟩)] w fun e w' => e = .returned (.tuple #[.int .u8 ((l.headD 0).toNat : Int), .int .i64 (if l = [] then 30 else 0)]) ∧ ∃ A' c', Eyed w w' g A A' c' (l.drop 1) := by
  have hc := he.bk.cell 0
  have hf := he.bk.free 0
  simp only [List.getElem?_toArray, List.getElem?_cons_zero] at hc
  have HE := Lib.hid he
  have hcap := he.cap
  clear he
  cases l with
  | nil =>
    go_enter Try.func77, Try.ntmps77
    go_wp2
    go_ret2
    exact ⟨rfl, _, _, Eyed.same HE.out⟩
  | cons x t =>
    obtain ⟨b, o, rfl, hcell⟩ := HE.out.rd.byte (show 0 < (x :: t).length by simp)
    rw [show (x :: t).getD 0 0 = x from rfl, Nat.add_zero] at hcell
    simp only [List.length_cons] at hc hcap
    simp only [List.headD_cons, List.drop_one, List.tail_cons, if_neg (List.cons_ne_nil x t)]
    have f1 : ((t.length : Int) + 1 == 0) = false := beq_eq_false_iff_ne.2 (by omega)
    by_cases h : c = 1
    · have hz := Eyed.cut_full HE.out (s := 1) (by simp) h
      simp only [List.length_cons, Nat.add_sub_cancel, List.drop_succ_cons, List.drop_zero] at hz
      have HZ := Lib.hid hz
      clear hz
      go_enter Try.func77, Try.ntmps77
      go_wp2
      go_ret2
      exact ⟨rfl, _, _, HZ.out⟩
    · have hz := Eyed.cut_part HE.out (s := 1) (by simp) h
      simp only [List.length_cons, Nat.add_sub_cancel, List.drop_succ_cons, List.drop_zero] at hz
      have HZ := Lib.hid hz
      clear hz
      go_enter Try.func77, Try.ntmps77
      go_wp2
      go_ret2
      exact ⟨rfl, _, _, HZ.out⟩
end Go.Proofs.Ytkdcacajacndmaa

namespace Go.Proofs.Ytkdcacajacndmaa
open Go.RowKit

/-- what the document says of the text with which bytes begin: the text, how many bytes were read, the error's number. -/
def rdText (l : List UInt8) : List UInt8 × Nat × Nat :=
  if (rdNum l).2.2 = 0 then
    (if l.length - (rdNum l).2.1 < (rdNum l).1 then ([], 0, 30) else ((l.drop (rdNum l).2.1).take (rdNum l).1, (rdNum l).2.1 + (rdNum l).1, 0))
  else ([], 0, (rdNum l).2.2)

theorem numGo_lt (t : List UInt8) : ∀ k n, k ≤ 9 → n < 128 ^ k → (numGo k n t).1 < 2 ^ 64 := by
  induction t with
  | nil => intro k n _ _; simp [numGo]
  | cons b t ih =>
    intro k n hk hn
    rw [numGo]
    have hb := b.toNat_lt
    split
    · simp
    · rename_i h9
      split
      · have hk8 : k + 1 ≤ 9 := by
          by_cases h : k = 9
          · subst h; omega
          · omega
        refine ih _ _ hk8 ?_
        rw [Nat.pow_succ]
        have h2 : b.toNat % 128 * 128 ^ k ≤ 127 * 128 ^ k := Nat.mul_le_mul_right _ (by omega)
        omega
      · split
        · simp
        · simp only
          by_cases h : k = 9
          · subst h
            have h2 : b.toNat % 128 * 128 ^ 9 ≤ 1 * 128 ^ 9 := Nat.mul_le_mul_right _ (by omega)
            omega
          · have h8 : (128 : Nat) ^ k ≤ 128 ^ 8 := Nat.pow_le_pow_right (by omega) (by omega)
            have h2 : b.toNat % 128 * 128 ^ k ≤ 127 * 128 ^ 8 := Nat.mul_le_mul (by omega) h8
            omega
theorem rdNum_lt (l : List UInt8) : (rdNum l).1 < 2 ^ 64 := numGo_lt l 0 0 (by omega) (by decide)

def TextPost (w : World) (g : Nat) (A : Option Addr) (l : List UInt8) (e : Ending) (w' : World) : Prop :=
  ∃ v' A' c', e = .returned (.tuple #[v', .int .i64 ((rdText l).2.2 : Int)]) ∧
      w'.ownsRow w.heap.size 5 1 v' (rdText l).1.length (cb (rdText l).1) ∧ Eyed w w' g A A' c' (l.drop (rdText l).2.1)

theorem TextPost.done {w w2 w3 : World} {g : Nat} {A A' : Option Addr} {c' : Nat} {l t : List UInt8} {n : Nat} {v' : Value} (hr : rdText l = (t, n, 0)) (hz : Eyed w w2 g A A' c' (l.drop n)) (hn : New w2 w3 v' t) (hsz : w2.heap.size = w.heap.size) :
    TextPost w g A l (.returned (.tuple #[v', .int .i64 0])) w3 :=
  ⟨v', A', c', by rw [hr]; rfl, by rw [hr, ← hsz]; exact hn.own, by
    rw [hr]
    exact ⟨hz.eye.keep hn.fr (fun h => h) (fun _ _ h => h), hz.fr.step hn.fr (fun _ _ h => h.elim), hz.row⟩⟩
theorem TextPost.fail {w : World} {g : Nat} {A : Option Addr} {c : Nat} {l : List UInt8} {k : Nat} (hr : rdText l = ([], 0, k)) (he : Eye w g A c l) :
    TextPost w g A l (.returned (.tuple #[.slice none 0 0, .int .i64 k])) w :=
  ⟨_, A, c, by rw [hr], by rw [hr]; exact World.ownsRow_nil _ _ _ _, by rw [hr]; exact Eyed.same he⟩

set_option maxRecDepth 100000 in
set_option maxHeartbeats 400000 in
theorem eyeText_any (w : World) (g : Nat) (A : Option Addr) (c : Nat) (l : List UInt8) (he : Eye w g A c l) (hl : l.length ≤ 1000000000) :
    Calls Try.prog 76 #[.pointer (some ⟨g, 0, none⟩)] w (TextPost w g A l) := by
  have hc := he.bk.cell 0
  have hf := he.bk.free 0
  simp only [List.getElem?_toArray, List.getElem?_cons_zero] at hc
  have HE := Lib.hid he
  have HL := Lib.hid hl
  have hs := rdNum_size l
  have hcap := he.cap
  have hlt := rdNum_lt l
  clear he
  go_enter Try.func76, Try.ntmps76
  go_wp2_with fail
  refine (number_any w A _ c l rfl HE.out.rd HL.out).mono ?_
  rintro e w1 ⟨rfl, rfl⟩
  obtain ⟨m, s, k, hx⟩ : ∃ m s k, rdNum l = (m, s, k) := ⟨_, _, _, rfl⟩
  rw [hx] at hs hlt ⊢
  have HM := Lib.hid hlt
  clear hlt
  have HT : Hid (rdText l = if k = 0 then (if l.length - s < m then ([], 0, 30) else ((l.drop s).take m, s + m, 0)) else ([], 0, k)) := by
    unfold Hid rdText; rw [hx]
  clear hx
  simp only at hs ⊢
  by_cases hk : k = 0
  · subst hk
    by_cases hlen : l.length - s < m
    · have HR := Lib.hid (HT.out.trans (by rw [if_pos rfl, if_pos hlen]))
      clear HT
      by_cases h : c = s
      · have h0 : l.length - s = 0 := by omega
        go_wp2_with fail
        go_ret2
        exact TextPost.fail HR.out HE.out
      · go_wp2_with fail
        go_ret2
        exact TextPost.fail HR.out HE.out
    · have HR := Lib.hid (HT.out.trans (by rw [if_pos rfl, if_neg hlen]))
      clear HT
      by_cases h : c = s
      · have h0 : l.length - s = 0 := by omega
        have hm0 : m = 0 := by omega
        subst hm0
        have hz := Eyed.cut_full HE.out hs h
        rw [h0] at hz
        have HZ := Lib.hid hz
        clear hz
        go_wp2_with fail
        refine (clone_any _ A 0 0 [] rfl (Rd.none_ _ _) (fun _ => rfl) (by simp)).mono ?_
        rintro e w3 ⟨v3, rfl, hn3⟩
        have HN := Lib.hid hn3
        clear hn3
        go_wp2_with fail
        go_ret2
        exact TextPost.done (by rw [HR.out]; rfl) HZ.out HN.out (by simp [World.setCell])
      · have hr1 := HE.out.rd.cut (k := s) (cap := c) (by rw [cb_length]; exact hs) (by rw [cb_length]; exact hcap)
        rw [if_neg h, ← cb_drop] at hr1
        have HR1 := Lib.hid hr1
        have HA1 : Hid (Option.map (fun x : Addr => x.add s) A = none → c - s = 0) := by
          intro hn
          cases A with
          | none => have := HE.out.nil rfl; omega
          | some a => cases hn
        have HB1 : Hid (∀ k, ablk (Option.map (fun x : Addr => x.add s) A) k → ablk A k) := fun k hk => ablk_cut (c := c) (s := s) (by rw [if_neg h]; exact hk)
        clear hr1
        have hcomp : Option.map ((fun x : Addr => x) ∘ fun x : Addr => x.add s) A = Option.map (fun x => x.add s) A := rfl
        by_cases h2 : c - s = m
        · have HZ : Hid (Eyed w (w.setCell ⟨g, 0, none⟩ (.slice (Option.map (fun x => x.add s) A) (l.length - s - m) 0)) g A (Option.map (fun x => x.add s) A) 0 (l.drop (s + m))) := by
            have h0 : l.drop (s + m) = [] := List.drop_eq_nil_of_le (by omega)
            refine Eyed.put HE.out (by rw [h0]; exact Rd.none_ _ _) (fun _ => rfl) (by rw [h0]; simp) HB1.out _ (by rw [List.length_drop]; omega)
          have HK := Lib.hid (clone_any (w.setCell ⟨g, 0, none⟩ (.slice (Option.map (fun x => x.add s) A) (l.length - s - m) 0)) (Option.map (fun x => x.add s) A) m m ((l.drop s).take m) (by rw [List.length_take, List.length_drop]; omega)
            (by rw [cb_take]; exact (HR1.out.fr (C := fun k => k = g) ((Fr.refl (fun k => k = g) w).setCell (p := ⟨g, 0, none⟩) (fun _ => rfl) _) (fun k hk => HE.out.sep k (HB1.out k hk))).take m)
            (fun h => by have := HA1.out h; omega) (by rw [List.length_take, List.length_drop]; have := HL.out; omega))
          go_wp2_with fail
          refine HK.out.mono ?_
          rintro e w3 ⟨v3, rfl, hn3⟩
          have HN := Lib.hid hn3
          clear hn3
          go_wp2_with fail
          go_ret2
          exact TextPost.done HR.out HZ.out HN.out (by simp [World.setCell])
        · have HZ : Hid (Eyed w (w.setCell ⟨g, 0, none⟩ (.slice (Option.map ((fun x => x.add m) ∘ fun x => x.add s) A) (l.length - s - m) (c - s - m))) g A (Option.map ((fun x => x.add m) ∘ fun x => x.add s) A) (c - s - m) (l.drop (s + m))) := by
            have hr2 := HR1.out.cut (k := m) (cap := c - s) (by rw [cb_length, List.length_drop]; omega) (by rw [cb_length, List.length_drop]; omega)
            rw [if_neg h2, ← cb_drop, List.drop_drop, Option.map_map] at hr2
            refine Eyed.put HE.out hr2 ?_ (by rw [List.length_drop]; omega) ?_ _ (by rw [List.length_drop]; omega)
            · intro hn
              cases A with
              | none => have := HE.out.nil rfl; omega
              | some a => cases hn
            · intro k hk
              rw [← Option.map_map] at hk
              exact HB1.out k (ablk_cut (c := c - s) (s := m) (by rw [if_neg h2]; exact hk))
          have HK := Lib.hid (clone_any (w.setCell ⟨g, 0, none⟩ (.slice (Option.map ((fun x => x.add m) ∘ fun x => x.add s) A) (l.length - s - m) (c - s - m))) (Option.map (fun x => x.add s) A) m (c - s) ((l.drop s).take m) (by rw [List.length_take, List.length_drop]; omega)
            (by rw [cb_take]; exact (HR1.out.fr (C := fun k => k = g) ((Fr.refl (fun k => k = g) w).setCell (p := ⟨g, 0, none⟩) (fun _ => rfl) _) (fun k hk => HE.out.sep k (HB1.out k hk))).take m)
            HA1.out (by rw [List.length_take, List.length_drop]; have := HL.out; omega))
          go_wp2_with fail
          refine HK.out.mono ?_
          rintro e w3 ⟨v3, rfl, hn3⟩
          have HN := Lib.hid hn3
          clear hn3
          go_wp2_with fail
          go_ret2
          exact TextPost.done HR.out HZ.out HN.out (by simp [World.setCell])
  · have f1 : ((k : Int) == 0) = false := beq_eq_false_iff_ne.2 (by omega)
    have f2 : ((k : Int) != 0) = true := by rw [bne, f1]; rfl
    have HR := Lib.hid (HT.out.trans (by rw [if_neg hk]))
    clear hk HT
    go_wp2_with fail
    go_ret2
    exact TextPost.fail HR.out HE.out
end Go.Proofs.Ytkdcacajacndmaa

namespace Go.Proofs.Ytkdcacajacndmaa

theorem toNat_small {m : Nat} (h : m < 256) : (UInt8.ofNat m).toNat = m := by rw [UInt8.toNat_ofNat']; omega

theorem numGo_num (m : Nat) : ∀ (k acc : Nat) (rest : List UInt8), k ≤ 9 → (0 < k → 0 < m) → acc + m * 128 ^ k < 2 ^ 64 →
    numGo k acc (num m ++ rest) = (acc + m * 128 ^ k, k + (num m).length, 0) := by
  induction m using Nat.strongRecOn with
  | _ m ih =>
    intro k acc rest hk h0 hb
    have h9 : k = 9 → m ≤ 1 := by rintro rfl; omega
    by_cases h : m < 128
    · rw [num_lt h, List.singleton_append, numGo_end (by rw [toNat_small (by omega)]; rintro ⟨e, h1⟩; have := h9 e; omega) (by rw [toNat_small (by omega)]; omega) (by rw [toNat_small (by omega)]; rintro ⟨e, h1⟩; have := h0 h1; omega),
        toNat_small (by omega), Nat.mod_eq_of_lt h]
      rfl
    · have hk9 : ¬ k = 9 := fun e => by have := h9 e; omega
      rw [num_ge h, List.cons_append, numGo_on hk9 (by rw [toNat_small (by omega)]; omega), toNat_small (by omega)]
      have hs : acc + (m % 128 + 128) % 128 * 128 ^ k + m / 128 * 128 ^ (k + 1) = acc + m * 128 ^ k := by
        rw [Nat.pow_succ, show (m % 128 + 128) % 128 = m % 128 by omega]
        have : m * 128 ^ k = (m % 128 + 128 * (m / 128)) * 128 ^ k := by rw [Nat.mod_add_div]
        rw [this, Nat.add_mul]
        have : 128 * (m / 128) * 128 ^ k = m / 128 * (128 ^ k * 128) := by
          rw [Nat.mul_comm 128, Nat.mul_assoc, Nat.mul_comm 128]
        omega
      rw [ih (m / 128) (by omega) (k + 1) _ rest (by omega) (fun _ => by omega) (by rw [hs]; exact hb), hs, List.length_cons]
      rw [show k + 1 + (num (m / 128)).length = k + ((num (m / 128)).length + 1) by omega]
theorem rdNum_app (m : Nat) (rest : List UInt8) (hm : m < 2 ^ 64) : rdNum (num m ++ rest) = (m, (num m).length, 0) := by
  unfold rdNum
  rw [numGo_num m 0 0 rest (by omega) (fun h => absurd h (by omega)) (by omega)]
  simp
theorem rdNum_num (m : Nat) (hm : m < 2 ^ 64) : rdNum (num m) = (m, (num m).length, 0) := by
  have := rdNum_app m [] hm
  rwa [List.append_nil] at this

theorem numGo_cut (m : Nat) : ∀ (k acc t : Nat), k ≤ 9 → acc + m * 128 ^ k < 2 ^ 64 → t < (num m).length → numGo k acc ((num m).take t) = (0, 0, 30) := by
  induction m using Nat.strongRecOn with
  | _ m ih =>
    intro k acc t hk hb ht
    have h9 : k = 9 → m ≤ 1 := by rintro rfl; omega
    by_cases h : m < 128
    · rw [num_lt h] at ht ⊢
      have : t = 0 := by simpa using ht
      subst this
      rfl
    · have hk9 : ¬ k = 9 := fun e => by have := h9 e; omega
      rw [num_ge h] at ht ⊢
      rcases t with _ | t
      · rfl
      · rw [List.take_succ_cons, numGo_on hk9 (by rw [toNat_small (by omega)]; omega), toNat_small (by omega)]
        have hs : acc + (m % 128 + 128) % 128 * 128 ^ k + m / 128 * 128 ^ (k + 1) = acc + m * 128 ^ k := by
          rw [Nat.pow_succ, show (m % 128 + 128) % 128 = m % 128 by omega]
          have : m * 128 ^ k = (m % 128 + 128 * (m / 128)) * 128 ^ k := by rw [Nat.mod_add_div]
          rw [this, Nat.add_mul]
          have : 128 * (m / 128) * 128 ^ k = m / 128 * (128 ^ k * 128) := by
            rw [Nat.mul_comm 128, Nat.mul_assoc, Nat.mul_comm 128]
          omega
        exact ih (m / 128) (by omega) (k + 1) _ t (by omega) (by rw [hs]; exact hb) (by simpa using ht)
theorem rdNum_cut (m t : Nat) (hm : m < 2 ^ 64) (ht : t < (num m).length) : rdNum ((num m).take t) = (0, 0, 30) :=
  numGo_cut m 0 0 t (by omega) (by omega) ht

theorem num_len_step (n : Nat) : (num n).length = 1 + (if n / 128 = 0 then 0 else (num (n / 128)).length) := by
  by_cases h : n < 128
  · rw [num_lt h, if_pos (by omega)]; rfl
  · rw [num_ge h, if_neg (by omega), List.length_cons, Nat.add_comm]

/-- an int's lowest bits. -/
theorem i64_low (k : Int) (b : Nat) (hb : b < 63) : ∃ q : Nat, q < 2 ^ b ∧ bits .and .i64 k ((2 ^ b - 1 : Nat) : Int) = (q : Int) := by
  have h2 : 2 ^ b ≤ 2 ^ 62 := Nat.pow_le_pow_right (by omega) (by omega)
  have h1 : 0 < 2 ^ b := Nat.two_pow_pos b
  refine ⟨(BitVec.ofInt 64 k &&& BitVec.ofInt 64 ((2 ^ b - 1 : Nat) : Int)).toNat, ?_, ?_⟩
  · rw [BitVec.toNat_and, BitVec.ofInt_natCast, BitVec.toNat_ofNat]
    have := Nat.and_le_right (n := (BitVec.ofInt 64 k).toNat) (m := (2 ^ b - 1) % 2 ^ 64)
    have := Nat.mod_le (2 ^ b - 1) (2 ^ 64)
    omega
  · show IntKind.i64.wrap (((BitVec.ofInt 64 k &&& BitVec.ofInt 64 ((2 ^ b - 1 : Nat) : Int)).toNat : Nat) : Int) = _
    have hq : (BitVec.ofInt 64 k &&& BitVec.ofInt 64 ((2 ^ b - 1 : Nat) : Int)).toNat ≤ 2 ^ 62 := by
      rw [BitVec.toNat_and, BitVec.ofInt_natCast, BitVec.toNat_ofNat]
      have := Nat.and_le_right (n := (BitVec.ofInt 64 k).toNat) (m := (2 ^ b - 1) % 2 ^ 64)
      have := Nat.mod_le (2 ^ b - 1) (2 ^ 64)
      omega
    generalize (BitVec.ofInt 64 k &&& BitVec.ofInt 64 ((2 ^ b - 1 : Nat) : Int)).toNat = q at *
    exact IntWalk.i64_in _ (by omega)
end Go.Proofs.Ytkdcacajacndmaa
