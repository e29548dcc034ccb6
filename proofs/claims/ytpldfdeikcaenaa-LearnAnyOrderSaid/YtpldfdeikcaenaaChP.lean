/- What is known of places, as a function, and what a range over it tells. No condition. -/
import Derived.Test.YtpldfdeikcaenaaKm
namespace Go.Proofs.Ytpldfdeikcaenaa
open Go.RowKit Go.Maps

section
variable {α : Type}
/-- places are 0 to 63. -/
def Dom (m : Int → Option α) : Prop := ∀ x, m x ≠ none → 0 ≤ x ∧ x < 64
def freeB (m : Int → Option α) (x : Int) : Bool := (m x).isNone && decide (0 ≤ x) && decide (x < 64)
def learnM (m : Int → Option α) (x : Int) (v : α) : Int → Option α := if freeB m x then updK m x (some v) else m
theorem dom_none : Dom (fun _ => (none : Option α)) := fun _ h => absurd rfl h
theorem Dom.learn {m : Int → Option α} (h : Dom m) (x : Int) (v : α) : Dom (learnM m x v) := by
  unfold learnM
  split
  · rename_i hf
    simp only [freeB, Bool.and_eq_true, decide_eq_true_eq] at hf
    intro y hy
    by_cases e : y = x
    · subst e; exact ⟨hf.1.2, hf.2⟩
    · rw [updK_other _ _ e] at hy; exact h y hy
  · exact h
/-- what a range from a on has told: one behind the other. -/
def Told (m : Int → Option α) (a : Int) (L : List (Int × α)) : Prop := ∀ (k : Nat) (p : Int × α), L[k]? = some p → p.1 = a + k ∧ m (a + k) = some p.2
def Whole (m : Int → Option α) (a : Int) (L : List (Int × α)) : Prop := Told m a L ∧ m (a + L.length) = none
theorem Told.nil (m : Int → Option α) (a : Int) : Told m a [] := fun k p h => by cases h
theorem Told.snoc {m : Int → Option α} {a : Int} {L : List (Int × α)} (h : Told m a L) {v : α} (hv : m (a + L.length) = some v) : Told m a (L ++ [(a + L.length, v)]) := by
  intro k p hp
  by_cases hk : k < L.length
  · rw [List.getElem?_append_left hk] at hp
    exact h k p hp
  · have hl := (List.getElem?_eq_some_iff.1 hp).1
    rw [List.length_append, List.length_singleton] at hl
    have e : k = L.length := by omega
    subst e
    rw [List.getElem?_append_right (Nat.le_refl _), Nat.sub_self] at hp
    injection hp with hp
    subst hp
    exact ⟨rfl, hv⟩
theorem Told.len {m : Int → Option α} (hd : Dom m) {a : Int} {L : List (Int × α)} (h : Told m a L) : L.length ≤ 64 ∧ (L ≠ [] → 0 ≤ a ∧ a + L.length ≤ 64) := by
  rcases Nat.eq_zero_or_pos L.length with h0 | h0
  · exact ⟨by omega, fun hn => absurd (List.eq_nil_of_length_eq_zero h0) hn⟩
  · have h1 := hd _ (by rw [(h 0 _ (List.getElem?_eq_getElem h0)).2]; exact fun e => by cases e)
    have h2 := hd _ (by rw [(h (L.length - 1) _ (List.getElem?_eq_getElem (by omega))).2]; exact fun e => by cases e)
    have e : ((L.length - 1 : Nat) : Int) = L.length - 1 := by omega
    rw [e] at h2
    simp only [Int.ofNat_zero, Int.natCast_zero, Int.add_zero] at h1
    exact ⟨by omega, fun _ => by omega⟩
theorem Whole.uniq {m : Int → Option α} {a : Int} {L M : List (Int × α)} (h : Whole m a L) (k : Whole m a M) : L = M := by
  have hlt : ∀ {L M : List (Int × α)}, Told m a M → m (a + L.length) = none → M.length ≤ L.length := fun {L M} hM hn => by
    rcases Nat.lt_or_ge L.length M.length with hl | hl
    · have := (hM L.length _ (List.getElem?_eq_getElem hl)).2
      rw [hn] at this
      cases this
    · exact hl
  have e : L.length = M.length := Nat.le_antisymm (hlt h.1 k.2) (hlt k.1 h.2)
  apply List.ext_getElem? 
  intro i
  by_cases hi : i < L.length
  · have h1 := h.1 i _ (List.getElem?_eq_getElem hi)
    have h2 := k.1 i _ (List.getElem?_eq_getElem (e ▸ hi))
    rw [List.getElem?_eq_getElem hi, List.getElem?_eq_getElem (e ▸ hi)]
    congr 1
    refine Prod.ext (h1.1.trans h2.1.symm) ?_
    have := h1.2.symm.trans h2.2
    injection this
  · rw [List.getElem?_eq_none (by omega), List.getElem?_eq_none (by omega)]
end
end Go.Proofs.Ytpldfdeikcaenaa
