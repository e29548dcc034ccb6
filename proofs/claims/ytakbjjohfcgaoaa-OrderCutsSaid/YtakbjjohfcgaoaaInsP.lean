/- Keys put in one by one, each at its place: pure facts. No condition. -/
import Derived.Test.YtakbjjohfcgaoaaKeysP
namespace Go.Proofs.Ytakbjjohfcgaoaa

/-- x stands between pre and suf, and all of suf is greater. -/
structure Ins (ks : List Bs) (x : Bs) (pre suf : List Bs) : Prop where
  eq : ks = pre ++ suf
  big : ∀ b ∈ suf, Op.bytesLess x b = true
theorem Ins.start (ks : List Bs) (x : Bs) : Ins ks x ks [] := ⟨(List.append_nil ks).symm, fun b h => by cases h⟩
theorem Ins.step {ks : List Bs} {x y : Bs} {pre suf : List Bs} (h : Ins ks x (pre ++ [y]) suf) (hl : Op.bytesLess x y = true) : Ins ks x pre (y :: suf) := by
  refine ⟨by rw [h.eq, List.append_assoc]; rfl, fun b hb => ?_⟩
  rcases List.mem_cons.1 hb with rfl | hb
  · exact hl
  · exact h.big b hb
theorem Ins.mem {ks : List Bs} {x : Bs} {pre suf : List Bs} (h : Ins ks x pre suf) (a : Bs) : a ∈ pre ++ x :: suf ↔ a ∈ ks ∨ a = x := by
  rw [h.eq]
  simp only [List.mem_append, List.mem_cons]
  constructor
  · rintro (h | h | h)
    · exact .inl (.inl h)
    · exact .inr h
    · exact .inl (.inr h)
  · rintro ((h | h) | h)
    · exact .inl h
    · exact .inr (.inr h)
    · exact .inr (.inl h)
theorem Ins.fin {ks : List Bs} {x : Bs} {pre suf : List Bs} (h : Ins ks x pre suf) (hu : Up ks) (hx : x ∉ ks) (he : pre = [] ∨ ∃ q y, pre = q ++ [y] ∧ Op.bytesLess x y = false) : Up (pre ++ x :: suf) := by
  have hks := h.eq
  rw [hks] at hu hx
  have hp := List.pairwise_append.1 hu
  refine List.pairwise_append.2 ⟨hp.1, List.pairwise_cons.2 ⟨h.big, hp.2.1⟩, fun a ha b hb => ?_⟩
  rcases List.mem_cons.1 hb with rfl | hb
  · rcases he with rfl | ⟨q, y, rfl, hl⟩
    · cases ha
    · have hyx : Op.bytesLess y b = true := by
        cases hyb : Op.bytesLess y b
        · exact absurd (less_total hl hyb) (fun e => hx (by rw [e]; simp))
        · rfl
      rcases List.mem_append.1 ha with ha | ha
      · exact less_trans ((List.pairwise_append.1 hp.1).2.2 a ha y (List.mem_singleton.2 rfl)) hyx
      · rw [List.mem_singleton.1 ha]
        exact hyx
  · exact hp.2.2 a ha b hb

/-- the keys put in so far: rising, and just those of the first i. -/
def InSt (all : List Bs) (i : Nat) (ks : List Bs) : Prop := Up ks ∧ ∀ a, a ∈ ks ↔ a ∈ all.take i
theorem InSt.start (all : List Bs) : InSt all 0 [] := ⟨List.Pairwise.nil, fun a => by simp⟩
theorem InSt.skip {all : List Bs} {i : Nat} {ks : List Bs} {x : Bs} (h : InSt all i ks) (hx : all[i]? = some x) (hm : x ∈ ks) : InSt all (i + 1) ks := by
  obtain ⟨hi, rfl⟩ := List.getElem?_eq_some_iff.1 hx
  refine ⟨h.1, fun a => ?_⟩
  rw [List.take_succ_eq_append_getElem hi, List.mem_append, List.mem_singleton, ← h.2 a]
  exact ⟨.inl, fun e => e.elim id (fun e => by rw [e]; exact hm)⟩
theorem InSt.put {all : List Bs} {i : Nat} {ks pre suf : List Bs} {x : Bs} (h : InSt all i ks) (hx : all[i]? = some x) (hm : x ∉ ks) (hi : Ins ks x pre suf) (he : pre = [] ∨ ∃ q y, pre = q ++ [y] ∧ Op.bytesLess x y = false) : InSt all (i + 1) (pre ++ x :: suf) := by
  refine ⟨hi.fin h.1 hm he, fun a => ?_⟩
  obtain ⟨hl, rfl⟩ := List.getElem?_eq_some_iff.1 hx
  rw [hi.mem, List.take_succ_eq_append_getElem hl, List.mem_append, List.mem_singleton, h.2 a]
theorem InSt.fin {rs ws : List Bs} {i : Nat} {ks : List Bs} (h : InSt (rs ++ ws) i ks) (hi : (rs ++ ws).length ≤ i) : IsKeys ks rs ws := by
  refine ⟨h.1, fun a => ?_⟩
  rw [h.2 a, List.take_of_length_le hi, List.mem_append]
end Go.Proofs.Ytakbjjohfcgaoaa
