/- Keys, sorted and each once: plain mathematics; rows that were put. No condition. -/
import Derived.Test.YtakbjjohfcgaoaaShelf
import Derived.Test.YtakbjjohfcgaoaaConcat
namespace Go.Proofs.Ytakbjjohfcgaoaa
open Go.RowKit

/-- the keys of two lists: rising, each once. -/
def IsKeys (ks rs ws : List Bs) : Prop := Up ks ∧ ∀ a, a ∈ ks ↔ a ∈ rs ∨ a ∈ ws
theorem IsKeys.unique {xs ys rs ws : List Bs} (h : IsKeys xs rs ws) (k : IsKeys ys rs ws) : xs = ys := up_unique h.1 k.1 fun a => (h.2 a).trans (k.2 a).symm

def leS (x y : Bs) : Bool := decide (x ≤ y)
theorem leS_iff (x y : Bs) : leS x y = !(Op.bytesLess y x) := by
  rw [leS, bytesLess_eq]
  by_cases h : y < x
  · simp [h, List.not_le.2 h]
  · simp [h, List.not_lt.1 h]
theorem sorted_S (ss : List Bs) : (ss.mergeSort leS).Pairwise fun a b => Op.bytesLess b a = false := by
  have h := List.pairwise_mergeSort (le := leS) (fun a b c h1 h2 => ?_) (fun a b => ?_) ss
  · exact h.imp fun {a b} hab => by rw [leS_iff] at hab; simpa using hab
  · rw [leS_iff] at h1 h2 ⊢
    simp only [Bool.not_eq_true', ] at h1 h2 ⊢
    cases hca : Op.bytesLess c a
    · rfl
    · cases hab : Op.bytesLess a b
      · rw [less_total hab h1] at hca
        rw [h2] at hca
        cases hca
      · have := less_trans hca hab
        rw [h2] at this
        cases this
  · rw [leS_iff, leS_iff]
    cases hab : Op.bytesLess b a
    · rfl
    · rw [less_asymm hab]; rfl

theorem compact_up (d : Array Bs) (hs : ∀ i j, i < j → j < d.size → Op.bytesLess d[j]! d[i]! = false) : ∀ m, m ≤ d.size →
    Up (Lib.compactUpTo d m) ∧ (∀ a, a ∈ Lib.compactUpTo d m ↔ ∃ j, j < m ∧ d[j]! = a) ∧ (∀ a ∈ Lib.compactUpTo d m, a = d[m - 1]! ∨ Op.bytesLess a d[m - 1]! = true) := by
  intro m
  induction m with
  | zero =>
    intro _
    have e : Lib.compactUpTo d 0 = [] := by simp [Lib.compactUpTo]
    rw [e]
    exact ⟨List.Pairwise.nil, fun a => ⟨(fun h => by cases h), fun ⟨j, h, _⟩ => absurd h (by omega)⟩, (fun a h => by cases h)⟩
  | succ m ih =>
    intro hm
    obtain ⟨h1, h2, h3⟩ := ih (by omega)
    rw [Lib.compactUpTo_succ]
    rw [show m + 1 - 1 = m by omega]
    by_cases hk : Lib.keeps d m = true
    · rw [if_pos hk]
      have hlt : ∀ a ∈ Lib.compactUpTo d m, Op.bytesLess a d[m]! = true := by
        intro a ha
        have hm0 : 0 < m := by
          obtain ⟨j, hj, _⟩ := (h2 a).1 ha
          omega
        have hne : d[m]! ≠ d[m - 1]! := by
          simp only [Lib.keeps, decide_eq_true_eq] at hk
          rcases hk with hk | hk
          · omega
          · exact hk
        have hl : Op.bytesLess d[m - 1]! d[m]! = true := by
          cases hl : Op.bytesLess d[m - 1]! d[m]!
          · exact absurd (less_total hl (hs (m - 1) m (by omega) (by omega))).symm hne
          · rfl
        rcases h3 a ha with rfl | h
        · exact hl
        · exact less_trans h hl
      refine ⟨List.pairwise_append.2 ⟨h1, List.pairwise_singleton _ _, fun a ha b hb => by rw [List.mem_singleton.1 hb]; exact hlt a ha⟩, fun a => ?_, fun a ha => ?_⟩
      · rw [List.mem_append, h2, List.mem_singleton]
        constructor
        · rintro (⟨j, hj, e⟩ | rfl)
          · exact ⟨j, by omega, e⟩
          · exact ⟨m, by omega, rfl⟩
        · rintro ⟨j, hj, e⟩
          by_cases hjm : j = m
          · subst hjm; exact .inr e.symm
          · exact .inl ⟨j, by omega, e⟩
      · rcases List.mem_append.1 ha with ha | ha
        · exact .inr (hlt a ha)
        · exact .inl (List.mem_singleton.1 ha)
    · rw [if_neg hk, List.append_nil]
      have hm0 : 0 < m ∧ d[m]! = d[m - 1]! := by
        simp only [Lib.keeps, decide_eq_true_eq, not_or, Decidable.not_not] at hk
        exact ⟨by omega, hk.2⟩
      refine ⟨h1, fun a => ?_, fun a ha => by rw [hm0.2]; exact h3 a ha⟩
      rw [h2]
      constructor
      · rintro ⟨j, hj, e⟩
        exact ⟨j, by omega, e⟩
      · rintro ⟨j, hj, e⟩
        by_cases hjm : j = m
        · subst hjm; exact ⟨j - 1, by omega, by rw [← hm0.2]; exact e⟩
        · exact ⟨j, by omega, e⟩

theorem compact_keys (rs ws : List Bs) : IsKeys (Lib.compact ((rs ++ ws).mergeSort leS)) rs ws := by
  have hp := sorted_S (rs ++ ws)
  have hm : ∀ a, a ∈ (rs ++ ws).mergeSort leS ↔ a ∈ rs ∨ a ∈ ws := fun a => by rw [List.mem_mergeSort, List.mem_append]
  generalize (rs ++ ws).mergeSort leS = ss at *
  have hd : ∀ i (hi : i < ss.length), ss.toArray[i]! = ss[i] := fun i hi => by simp [hi]
  have h := compact_up ss.toArray (fun i j hij hj => by
    have hj' : j < ss.length := by simpa using hj
    rw [hd j hj', hd i (by omega)]
    exact List.pairwise_iff_getElem.1 hp i j (by omega) hj' hij) ss.length (by simp)
  refine ⟨h.1, fun a => ?_⟩
  show a ∈ Lib.compactUpTo ss.toArray ss.length ↔ _
  rw [h.2.1, ← hm]
  constructor
  · rintro ⟨j, hj, e⟩
    rw [hd j hj] at e
    rw [← e]
    exact List.getElem_mem hj
  · intro ha
    obtain ⟨j, hj, e⟩ := List.getElem_of_mem ha
    exact ⟨j, hj, by rw [hd j hj]; exact e⟩

theorem Fr.putRow (w : World) (g off : Nat) (d : Array Bs) : Fr (fun k => k = g) w (Sort.putRow encStr w g off d) :=
  ⟨rfl, rfl, rfl, by simp [Sort.putRow, Sort.mapBlock], fun k _ hn => by
    simp only [Sort.putRow, Sort.mapBlock, Array.getElem?_modify]
    rw [if_neg (fun e => hn e.symm)]⟩
theorem Fr.grow (C : Nat → Prop) (w : World) (os : Array Obj) : Fr C w (Sort.grow w os) :=
  ⟨rfl, rfl, rfl, by simp, fun k hk _ => Sort.heap_grow_old w os hk⟩
theorem Fr.ahead (C : Nat → Prop) (w : World) (n : Nat) : Fr C w (Sort.ahead w n) := ⟨rfl, rfl, rfl, Nat.le_refl _, fun _ _ _ => rfl⟩
end Go.Proofs.Ytakbjjohfcgaoaa
