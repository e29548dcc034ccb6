/- What SplitGoesOn needs of pieces; an int's lowest bits. No condition. -/
import Derived.Test.YtdgjjkmgdjiliaaSpAll
import Derived.Test.YtdgjjkmgdjiliaaFlt3
import Derived.IntWalk
namespace Go.Proofs.Ytdgjjkmgdjiliaa
open Go.RowKit Go.Maps
theorem OAlike.trans {a b c : Od} (h : OAlike a b) (k : OAlike b c) : OAlike a c :=
  ⟨h.node.trans k.node, h.epoch.trans k.epoch, h.seq.trans k.seq, h.tr.trans k.tr, h.kind.trans k.kind, h.to_.trans k.to_, h.reads.trans k.reads, h.writes.trans k.writes, ⟨h.ops.1.trans k.ops.1, fun j x z hx hz => by
    have hl := (List.getElem?_eq_some_iff.1 hx).1
    have hy := List.getElem?_eq_getElem (l := b.t.ops) (i := j) (by have := h.ops.1; omega)
    obtain ⟨a', b', c', d'⟩ := h.ops.2 j x _ hx hy
    obtain ⟨a'', b'', c'', d''⟩ := k.ops.2 j _ z hy hz
    exact ⟨a'.trans a'', b'.trans b'', c'.trans c'', d'.trans d''⟩⟩, h.marks.trans k.marks⟩
theorem ItOf.two {W V : World} {N M : Nat} {i j : Im} {p : Pc} (h : ItOf W N i p) (k : ItOf V M j p) : itemSm i j = true := by
  unfold itemSm
  rw [(orderSame_iff i.o j.o).2 (OAlike.trans h.like k.like.symm), h.kind, h.index, k.kind, k.index]
  simp
theorem ItOf.of_same {W : World} {N : Nat} {i j : Im} {p : Pc} (h : itemSm i (pim p) = true) (k : ItOf W N j p) : itemSm i j = true := by
  unfold itemSm pim at h
  simp only [Bool.and_eq_true, decide_eq_true_eq] at h
  unfold itemSm
  rw [(orderSame_iff i.o j.o).2 (OAlike.trans ((orderSame_iff _ _).1 h.2.2) k.like.symm), h.1, h.2.1, k.kind, k.index]
  simp
theorem take_pcs (rg : Int) (xs : List Od) (k : Nat) (hk : k ≤ xs.length) : ∀ n, n ≤ k → pcs rg (xs.take k) n = pcs rg xs n
  | 0, _ => rfl
  | n + 1, h => by
    obtain ⟨o, ho⟩ : ∃ o, xs[n]? = some o := ⟨_, List.getElem?_eq_getElem (by omega)⟩
    have h2 : (xs.take k)[n]? = some o := by rw [List.getElem?_take, if_pos (by omega)]; exact ho
    rw [pcs, pcs, take_pcs rg xs k hk n (by omega), ho, h2]
    have e : takeB rg (xs.take k) n o = takeB rg xs n o := by
      unfold takeB firstAt ahead
      rw [List.take_take, Nat.min_eq_left (by omega)]
    dsimp only
    rw [e]
theorem pcs_pre2 {rg : Int} {xs : List Od} {k n : Nat} (h : k ≤ n) : pcs rg xs k <+: pcs rg xs n := by
  have := pcs_pre rg xs k (n - k)
  rwa [Nat.add_sub_cancel' h] at this
theorem pcs_take {rg : Int} {xs : List Od} {p : Pc} : ∀ {n : Nat}, p ∈ pcs rg xs n → takeB rg xs p.1 p.2 = true
  | 0, h => by cases h
  | n + 1, h => by
    rw [pcs, List.mem_append] at h
    rcases h with h | h
    · exact pcs_take h
    · cases ho : xs[n]? with
      | none => rw [ho] at h; cases h
      | some o =>
        rw [ho] at h
        dsimp only at h
        split at h
        · rename_i ht
          rw [List.mem_singleton.1 h]
          exact ht
        · cases h
theorem pcs_up {rg : Int} {xs : List Od} : ∀ {n : Nat}, (pcs rg xs n).Pairwise fun a b => a.1 < b.1
  | 0 => List.Pairwise.nil
  | n + 1 => by
    rw [pcs]
    refine List.pairwise_append.2 ⟨pcs_up, ?_, fun a ha b hb => ?_⟩
    · cases xs[n]? with
      | none => exact List.Pairwise.nil
      | some o =>
        dsimp only
        split
        · exact List.pairwise_singleton _ _
        · exact List.Pairwise.nil
    · have h1 := (pcs_mem ha).1
      cases ho : xs[n]? with
      | none => rw [ho] at hb; cases hb
      | some o =>
        rw [ho] at hb
        dsimp only at hb
        split at hb
        · rw [List.mem_singleton.1 hb]; exact h1
        · cases hb
/-- the place of the last one of the first n pieces. -/
def laOf (ps : List Pc) : Nat → Int
  | 0 => -1
  | n + 1 => match ps[n]? with | some p => (p.1 : Int) | none => -1
theorem laOf_succ {ps : List Pc} {n : Nat} {q : Pc} (hq : ps[n]? = some q) : laOf ps (n + 1) = (q.1 : Int) := by show (match ps[n]? with | some p => (p.1 : Int) | none => -1) = _; rw [hq]
theorem laOf_lt {ps : List Pc} (hu : ps.Pairwise fun a b => a.1 < b.1) {n : Nat} {p : Pc} (hp : ps[n]? = some p) : laOf ps n < (p.1 : Int) := by
  cases n with
  | zero => show (-1 : Int) < _; omega
  | succ n =>
    have hl := (List.getElem?_eq_some_iff.1 hp).1
    obtain ⟨q, hq⟩ : ∃ q, ps[n]? = some q := ⟨_, List.getElem?_eq_getElem (by omega)⟩
    rw [laOf_succ hq]
    have h := List.pairwise_iff_getElem.1 hu n (n + 1) (by omega) hl (by omega)
    rw [List.getElem?_eq_getElem (by omega)] at hq hp
    injection hq with hq
    injection hp with hp
    rw [hq, hp] at h
    omega
theorem laOf_ge {ps : List Pc} (hu : ps.Pairwise fun a b => a.1 < b.1) {n j : Nat} {p : Pc} (hn : n ≤ ps.length) (hj : j < n) (hp : ps[j]? = some p) : (p.1 : Int) ≤ laOf ps n := by
  cases n with
  | zero => omega
  | succ n =>
    obtain ⟨q, hq⟩ : ∃ q, ps[n]? = some q := ⟨_, List.getElem?_eq_getElem (by omega)⟩
    rw [laOf_succ hq]
    by_cases e : j = n
    · subst e
      rw [hp] at hq
      injection hq with hq
      rw [hq]
      exact Int.le_refl _
    · have h := List.pairwise_iff_getElem.1 hu j n (by omega) (by omega) (by omega)
      rw [List.getElem?_eq_getElem (by omega)] at hq hp
      injection hq with hq
      injection hp with hp
      rw [hq, hp] at h
      omega
theorem find_next {ps : List Pc} (hu : ps.Pairwise fun a b => a.1 < b.1) {n : Nat} (hn : n ≤ ps.length) : ps.find? (behindB (laOf ps n)) = ps[n]? := by
  cases hp : ps[n]? with
  | some p => exact find_at hp (fun j q hj hq => laOf_ge hu hn hj hq) (laOf_lt hu hp)
  | none =>
    have hl : ps.length = n := by have := List.getElem?_eq_none_iff.1 hp; omega
    exact find_no fun j q hq => laOf_ge hu hn (by have := (List.getElem?_eq_some_iff.1 hq).1; omega) hq
/-- a piece counts for its region's filter. -/
theorem count_piece {W : World} {N : Nat} {rg : Int} {xs : List Od} {n : Nat} {i : Im} {p : Pc} {la : Int} (h : ItOf W N i p) (hp : p ∈ pcs rg xs n) (hla : la < (p.1 : Int)) (m : Tg → Bool) :
    countB rg la m i = true ∧ lastB rg la i = (p.1 : Int) ∧ tagsB rg m i = m := by
  have ht := pcs_take hp
  unfold takeB firstAt at ht
  simp only [Bool.and_eq_true, Bool.not_eq_true'] at ht
  have h1 : homeB rg i = true := by unfold homeB; rw [h.like.marks]; exact ht.2
  have h2 : singleOf i.o = false := by
    rw [show singleOf i.o = singleOf p.2 by unfold singleOf; rw [h.like.kind, h.like.marks]]
    exact ht.1.1
  have h3 : runB i = false := by unfold runB; rw [h2, Bool.and_false]
  have h4 : pieceB la i = true := by unfold pieceB; rw [h2, h.kind, h.index, decide_eq_true hla]; rfl
  unfold countB lastB tagsB
  rw [h1, h3, h4, h.index]
  exact ⟨rfl, rfl, rfl⟩
theorem low_bits (k : Int) (m : Nat) (hm : m ≤ 65535) : ∃ q : Nat, bits .and .i64 k (m : Int) = (q : Int) ∧ q ≤ m := by
  have e : (BitVec.ofInt 64 (m : Int)).toNat = m := by rw [BitVec.ofInt_natCast, BitVec.toNat_ofNat]; omega
  have hq : (BitVec.ofInt 64 k &&& BitVec.ofInt 64 (m : Int)).toNat ≤ m := by
    rw [BitVec.toNat_and]
    have := Nat.and_le_right (n := (BitVec.ofInt 64 k).toNat) (m := (BitVec.ofInt 64 (m : Int)).toNat)
    omega
  refine ⟨(BitVec.ofInt 64 k &&& BitVec.ofInt 64 (m : Int)).toNat, ?_, hq⟩
  show IntKind.i64.wrap (((BitVec.ofInt 64 k &&& BitVec.ofInt 64 (m : Int)).toNat : Nat) : Int) = _
  generalize (BitVec.ofInt 64 k &&& BitVec.ofInt 64 (m : Int)).toNat = q at *
  exact IntWalk.i64_in _ (by omega)
theorem imsc_take (xs : List Im) (k : Nat) : imsc (xs.take k) = (imsc xs).take (k * 12) := by
  induction xs generalizing k with
  | nil => simp [imsc]
  | cons x t ih =>
    cases k with
    | zero => simp [imsc]
    | succ k =>
      show imc x ++ imsc (t.take k) = (imc x ++ imsc t).take ((k + 1) * 12)
      rw [ih k, show (k + 1) * 12 = (imc x).length + k * 12 by rw [imc_len]; omega, List.take_length_add_append]
theorem imsc_drop (xs : List Im) (k : Nat) : imsc (xs.drop k) = (imsc xs).drop (k * 12) := by
  induction xs generalizing k with
  | nil => simp [imsc]
  | cons x t ih =>
    cases k with
    | zero => simp
    | succ k =>
      show imsc (t.drop k) = (imc x ++ imsc t).drop ((k + 1) * 12)
      rw [ih k, show (k + 1) * 12 = (imc x).length + k * 12 by rw [imc_len]; omega, List.drop_length_add_append]
theorem odsc_take (xs : List Od) (k : Nat) : odsc (xs.take k) = (odsc xs).take (k * 10) := by
  induction xs generalizing k with
  | nil => simp [odsc]
  | cons x t ih =>
    cases k with
    | zero => simp [odsc]
    | succ k =>
      show odc x ++ odsc (t.take k) = (odc x ++ odsc t).take ((k + 1) * 10)
      rw [ih k, show (k + 1) * 10 = (odc x).length + k * 10 by rw [odc_len]; omega, List.take_length_add_append]
theorem LogIn.take {w : World} {A : Option Addr} {xs : List Od} (h : LogIn w A xs) (k : Nat) : LogIn w A (xs.take k) :=
  ⟨by rw [odsc_take]; exact h.1.take _, fun o ho => h.2.1 o (List.mem_of_mem_take ho), by have := h.2.2; rw [List.length_take]; omega⟩
end Go.Proofs.Ytdgjjkmgdjiliaa
