/- Plain mathematics: the order of texts, rising lists. No condition. -/
import GoSem.Op.String
namespace Go.Proofs.YtafiokabnlmgpaaGreatDoor

abbrev Bs := List UInt8

theorem less_irrefl (a : Bs) : Op.bytesLess a a = false := by
  induction a with
  | nil => rfl
  | cons x t ih => simp [Op.bytesLess, ih]
theorem less_trans {a b c : Bs} (h : Op.bytesLess a b = true) (k : Op.bytesLess b c = true) : Op.bytesLess a c = true := by
  induction a generalizing b c with
  | nil =>
    cases c with
    | nil => cases b <;> simp [Op.bytesLess] at k
    | cons z s => rfl
  | cons x t ih =>
    cases b with
    | nil => simp [Op.bytesLess] at h
    | cons y s =>
      cases c with
      | nil => simp [Op.bytesLess] at k
      | cons z r =>
        simp only [Op.bytesLess, Bool.or_eq_true, Bool.and_eq_true, decide_eq_true_eq, beq_iff_eq] at h k ⊢
        rcases h with h | ⟨rfl, h⟩ <;> rcases k with k | ⟨rfl, k⟩
        · exact .inl (UInt8.lt_trans h k)
        · exact .inl h
        · exact .inl k
        · exact .inr ⟨rfl, ih h k⟩
theorem less_total {a b : Bs} (h : Op.bytesLess a b = false) (k : Op.bytesLess b a = false) : a = b := by
  induction a generalizing b with
  | nil => cases b with
    | nil => rfl
    | cons y s => simp [Op.bytesLess] at h
  | cons x t ih =>
    cases b with
    | nil => simp [Op.bytesLess] at k
    | cons y s =>
      simp only [Op.bytesLess, Bool.or_eq_false_iff, decide_eq_false_iff_not, Bool.and_eq_false_iff, beq_eq_false_iff_ne] at h k
      have e : x = y := by
        have h1 := h.1; have k1 := k.1
        simp only [UInt8.not_lt] at h1 k1
        exact UInt8.le_antisymm k1 h1
      subst e
      rcases h.2 with h2 | h2
      · exact absurd rfl h2
      · rcases k.2 with k2 | k2
        · exact absurd rfl k2
        · rw [ih h2 k2]
theorem less_ne {a b : Bs} (h : Op.bytesLess a b = true) : a ≠ b := by
  rintro rfl
  rw [less_irrefl] at h
  cases h
theorem less_asymm {a b : Bs} (h : Op.bytesLess a b = true) : Op.bytesLess b a = false := by
  cases k : Op.bytesLess b a
  · rfl
  · have := less_trans h k
    rw [less_irrefl] at this
    cases this

/-- rising. -/
abbrev Up (xs : List Bs) : Prop := xs.Pairwise fun a b => Op.bytesLess a b = true
theorem up_cons {a : Bs} {t : List Bs} : Up (a :: t) ↔ (∀ b ∈ t, Op.bytesLess a b = true) ∧ Up t := List.pairwise_cons
def riseB : List Bs → Bool
  | a :: b :: t => Op.bytesLess a b && riseB (b :: t)
  | _ => true
theorem riseB_iff (xs : List Bs) : riseB xs = true ↔ Up xs := by
  induction xs with
  | nil => simp [riseB]
  | cons a t ih =>
    cases t with
    | nil => simp [riseB]
    | cons b s =>
      rw [riseB, Bool.and_eq_true, ih, up_cons (a := a)]
      constructor
      · rintro ⟨h1, h2⟩
        refine ⟨fun c hc => ?_, h2⟩
        rcases List.mem_cons.1 hc with rfl | hc
        · exact h1
        · exact less_trans h1 ((up_cons.1 h2).1 c hc)
      · rintro ⟨h1, h2⟩
        exact ⟨h1 b (List.mem_cons_self ..), h2⟩
theorem riseB_of (xs : List Bs) (h : ∀ j, 1 ≤ j → j < xs.length → Op.bytesLess (xs.getD (j - 1) []) (xs.getD j []) = true) : riseB xs = true := by
  induction xs with
  | nil => rfl
  | cons a t ih =>
    cases t with
    | nil => rfl
    | cons b s =>
      rw [riseB, Bool.and_eq_true]
      refine ⟨by simpa using h 1 (Nat.le_refl _) (by simp), ih fun j h1 h2 => ?_⟩
      have := h (j + 1) (by omega) (by simp at h2 ⊢; omega)
      obtain ⟨i, rfl⟩ : ∃ i, j = i + 1 := ⟨j - 1, by omega⟩
      simpa using this
theorem riseB_no (xs : List Bs) (j : Nat) (h1 : 1 ≤ j) (hj : j < xs.length) (h : Op.bytesLess (xs.getD (j - 1) []) (xs.getD j []) = false) : riseB xs = false := by
  cases hr : riseB xs
  · rfl
  · have := List.pairwise_iff_getElem.1 ((riseB_iff xs).1 hr) (j - 1) j (by omega) hj (by omega)
    simp only [List.getD_eq_getElem?_getD, List.getElem?_eq_getElem (show j - 1 < xs.length by omega), List.getElem?_eq_getElem hj, Option.getD_some] at h
    rw [h] at this
    cases this

/-- lists that rise and have the same members are one. -/
theorem up_unique {xs ys : List Bs} (hx : Up xs) (hy : Up ys) (h : ∀ a, a ∈ xs ↔ a ∈ ys) : xs = ys := by
  induction xs generalizing ys with
  | nil =>
    cases ys with
    | nil => rfl
    | cons b s => exact absurd ((h b).2 (List.mem_cons_self ..)) (by simp)
  | cons a t ih =>
    cases ys with
    | nil => exact absurd ((h a).1 (List.mem_cons_self ..)) (by simp)
    | cons b s =>
      rw [up_cons] at hx hy
      have e : a = b := by
        rcases List.mem_cons.1 ((h a).1 (List.mem_cons_self ..)) with e | h1
        · exact e
        · rcases List.mem_cons.1 ((h b).2 (List.mem_cons_self ..)) with e | h2
          · exact e.symm
          · have := less_asymm (hy.1 a h1)
            rw [hx.1 b h2] at this
            cases this
      subst e
      congr 1
      refine ih hx.2 hy.2 fun c => ⟨fun hc => ?_, fun hc => ?_⟩
      · rcases List.mem_cons.1 ((h c).1 (List.mem_cons_of_mem _ hc)) with rfl | h1
        · exact absurd rfl (less_ne (hx.1 c hc))
        · exact h1
      · rcases List.mem_cons.1 ((h c).2 (List.mem_cons_of_mem _ hc)) with rfl | h1
        · exact absurd rfl (less_ne (hy.1 c hc))
        · exact h1

end Go.Proofs.YtafiokabnlmgpaaGreatDoor
