/- How many, and majorities. No condition. -/
import Derived.Test.YtlajhnplkfiiiaaMem
namespace Go.Proofs.Ytlajhnplkfiiiaa
/-- how many below n. -/
def cnt (f : Nat → Bool) : Nat → Nat
  | 0 => 0
  | n + 1 => cnt f n + if f n then 1 else 0
theorem cnt_le (f : Nat → Bool) (n : Nat) : cnt f n ≤ n := by
  induction n with
  | zero => exact Nat.le_refl _
  | succ n ih => unfold cnt; split <;> omega
def both (f g : Nat → Bool) : Nat → Bool := fun i => f i && g i
theorem cnt_both (f g : Nat → Bool) (n : Nat) : cnt f n + cnt g n ≤ n + cnt (both f g) n := by
  induction n with
  | zero => exact Nat.le_refl _
  | succ n ih =>
    unfold cnt
    have e : both f g n = (f n && g n) := rfl
    rw [e]
    cases f n <;> cases g n <;> simp <;> omega
theorem cnt_pos {f : Nat → Bool} {n : Nat} (h : 0 < cnt f n) : ∃ i, i < n ∧ f i = true := by
  induction n with
  | zero => cases h
  | succ n ih =>
    unfold cnt at h
    by_cases hf : f n = true
    · exact ⟨n, by omega, hf⟩
    · rw [if_neg hf] at h
      obtain ⟨i, hi, e⟩ := ih (by omega)
      exact ⟨i, by omega, e⟩
/-- two majorities meet. -/
theorem meet_ (f g : Nat → Bool) (n : Nat) : 2 * cnt f n ≤ n ∨ 2 * cnt g n ≤ n ∨ ∃ i, i < n ∧ f i = true ∧ g i = true := by
  by_cases h1 : 2 * cnt f n ≤ n
  · exact .inl h1
  by_cases h2 : 2 * cnt g n ≤ n
  · exact .inr (.inl h2)
  have h3 := cnt_both f g n
  obtain ⟨i, hi, e⟩ := cnt_pos (f := both f g) (n := n) (by omega)
  unfold both at e
  rw [Bool.and_eq_true] at e
  exact .inr (.inr ⟨i, hi, e.1, e.2⟩)
theorem cnt_yes {f : Nat → Bool} {k : Nat} (h : f k = true) : cnt f (k + 1) = cnt f k + 1 := by
  show cnt _ _ + _ = _
  rw [if_pos h]
theorem cnt_not {f : Nat → Bool} {k : Nat} (h : f k = false) : cnt f (k + 1) = cnt f k := by
  show cnt _ _ + _ = _
  rw [if_neg (by rw [h]; decide)]
  rfl
end Go.Proofs.Ytlajhnplkfiiiaa
