/- Homes, sorted and each once: plain mathematics. No condition. -/
import Derived.Test.YtdgjjkmgdjiliaaKeysP
import Derived.Test.YtdgjjkmgdjiliaaOrd
namespace Go.Proofs.Ytdgjjkmgdjiliaa
open Go.RowKit

def ic (xs : List Int) : List Value := xs.map fun x => .int .i64 x
theorem ic_len (xs : List Int) : (ic xs).length = xs.length := by simp [ic]
theorem ic_append (xs ys : List Int) : ic (xs ++ ys) = ic xs ++ ic ys := by simp [ic]
theorem ic_one (xs : List Int) : ∀ u ∈ ic xs, u.oneCell' = true := by
  intro u hu
  simp only [ic, List.mem_map] at hu
  obtain ⟨x, _, rfl⟩ := hu
  rfl
theorem ic_get (xs : List Int) (k : Nat) (x : Int) (h : xs[k]? = some x) : (ic xs)[k]? = some (.int .i64 x) := by simp [ic, h]

def UpI (xs : List Int) : Prop := xs.Pairwise (· < ·)
structure IsHomes (hs ms : List Int) : Prop where
  up : UpI hs
  mem : ∀ a, a ∈ hs ↔ a ∈ ms
theorem upI_unique : ∀ {xs ys : List Int}, UpI xs → UpI ys → (∀ a, a ∈ xs ↔ a ∈ ys) → xs = ys
  | [], [], _, _, _ => rfl
  | [], y :: _, _, _, h => absurd ((h y).2 (List.mem_cons_self ..)) (by simp)
  | x :: _, [], _, _, h => absurd ((h x).1 (List.mem_cons_self ..)) (by simp)
  | x :: s, y :: t, h1, h2, h => by
    obtain ⟨a1, b1⟩ := List.pairwise_cons.1 h1
    obtain ⟨a2, b2⟩ := List.pairwise_cons.1 h2
    have e : x = y := by
      rcases List.mem_cons.1 ((h x).1 (List.mem_cons_self ..)) with e | hx
      · exact e
      · rcases List.mem_cons.1 ((h y).2 (List.mem_cons_self ..)) with e | hy
        · exact e.symm
        · have := a2 x hx
          have := a1 y hy
          omega
    subst e
    rw [upI_unique b1 b2 fun a => ?_]
    constructor
    · intro ha
      rcases List.mem_cons.1 ((h a).1 (List.mem_cons_of_mem _ ha)) with e | h'
      · subst e; have := a1 _ ha; omega
      · exact h'
    · intro ha
      rcases List.mem_cons.1 ((h a).2 (List.mem_cons_of_mem _ ha)) with e | h'
      · subst e; have := a2 _ ha; omega
      · exact h'
theorem IsHomes.unique {xs ys ms : List Int} (h : IsHomes xs ms) (k : IsHomes ys ms) : xs = ys := upI_unique h.up k.up fun a => (h.mem a).trans (k.mem a).symm

theorem compactI_up (d : Array Int) (hs : ∀ i j, i < j → j < d.size → d[i]! ≤ d[j]!) : ∀ m, m ≤ d.size →
    UpI (Lib.compactUpTo d m) ∧ (∀ a, a ∈ Lib.compactUpTo d m ↔ ∃ j, j < m ∧ d[j]! = a) ∧ (∀ a ∈ Lib.compactUpTo d m, a ≤ d[m - 1]!) := by
  intro m
  induction m with
  | zero =>
    intro _
    have e : Lib.compactUpTo d 0 = [] := by simp [Lib.compactUpTo]
    rw [e]
    exact ⟨List.Pairwise.nil, fun a => ⟨(fun h => by cases h), fun ⟨j, h, _⟩ => absurd h (by omega)⟩, (fun a h => by cases h)⟩
  | succ m ih =>
    intro hm
    obtain ⟨h1, h2, h3⟩ := ih (by omega)
    rw [Lib.compactUpTo_succ]
    rw [show m + 1 - 1 = m by omega]
    by_cases hk : Lib.keeps d m = true
    · rw [if_pos hk]
      have hlt : ∀ a ∈ Lib.compactUpTo d m, a < d[m]! := by
        intro a ha
        have hm0 : 0 < m := by
          obtain ⟨j, hj, _⟩ := (h2 a).1 ha
          omega
        have hne : d[m]! ≠ d[m - 1]! := by
          simp only [Lib.keeps, decide_eq_true_eq] at hk
          rcases hk with hk | hk
          · omega
          · exact hk
        have := hs (m - 1) m (by omega) (by omega)
        have := h3 a ha
        omega
      refine ⟨List.pairwise_append.2 ⟨h1, List.pairwise_singleton _ _, fun a ha b hb => by rw [List.mem_singleton.1 hb]; exact hlt a ha⟩, fun a => ?_, fun a ha => ?_⟩
      · rw [List.mem_append, h2, List.mem_singleton]
        constructor
        · rintro (⟨j, hj, e⟩ | rfl)
          · exact ⟨j, by omega, e⟩
          · exact ⟨m, by omega, rfl⟩
        · rintro ⟨j, hj, e⟩
          by_cases hjm : j = m
          · subst hjm; exact .inr e.symm
          · exact .inl ⟨j, by omega, e⟩
      · rcases List.mem_append.1 ha with ha | ha
        · have := hlt a ha; omega
        · rw [List.mem_singleton.1 ha]; omega
    · rw [if_neg hk, List.append_nil]
      have hm0 : 0 < m ∧ d[m]! = d[m - 1]! := by
        simp only [Lib.keeps, decide_eq_true_eq, not_or, Decidable.not_not] at hk
        exact ⟨by omega, hk.2⟩
      refine ⟨h1, fun a => ?_, fun a ha => by rw [hm0.2]; exact h3 a ha⟩
      rw [h2]
      constructor
      · rintro ⟨j, hj, e⟩
        exact ⟨j, by omega, e⟩
      · rintro ⟨j, hj, e⟩
        by_cases hjm : j = m
        · subst hjm; exact ⟨j - 1, by omega, by rw [← hm0.2]; exact e⟩
        · exact ⟨j, by omega, e⟩

theorem compact_homes (ms : List Int) : IsHomes (Lib.compact (ms.mergeSort fun x y => decide (x ≤ y))) ms := by
  have hp : (ms.mergeSort fun x y => decide (x ≤ y)).Pairwise fun a b => a ≤ b := by
    have h := List.pairwise_mergeSort (le := fun x y : Int => decide (x ≤ y)) (fun a b c h1 h2 => ?_) (fun a b => ?_) ms
    · exact h.imp fun {a b} hab => by simpa using hab
    · simp only [decide_eq_true_eq] at h1 h2 ⊢; omega
    · simp only [Bool.or_eq_true, decide_eq_true_eq]; omega
  have hm : ∀ a, a ∈ (ms.mergeSort fun x y => decide (x ≤ y)) ↔ a ∈ ms := fun a => by rw [List.mem_mergeSort]
  generalize (ms.mergeSort fun x y => decide (x ≤ y)) = ss at *
  have hd : ∀ i (hi : i < ss.length), ss.toArray[i]! = ss[i] := fun i hi => by simp [hi]
  have h := compactI_up ss.toArray (fun i j hij hj => by
    have hj' : j < ss.length := by simpa using hj
    rw [hd j hj', hd i (by omega)]
    exact List.pairwise_iff_getElem.1 hp i j (by omega) hj' hij) ss.length (by simp)
  refine ⟨h.1, fun a => ?_⟩
  show a ∈ Lib.compactUpTo ss.toArray ss.length ↔ _
  rw [h.2.1, ← hm]
  constructor
  · rintro ⟨j, hj, e⟩
    rw [hd j hj] at e
    rw [← e]
    exact List.getElem_mem hj
  · intro ha
    obtain ⟨j, hj, e⟩ := List.getElem_of_mem ha
    exact ⟨j, hj, by rw [hd j hj]; exact e⟩

/-- the homes of marks. -/
def homesI (ms : List Mk) : List Int := ms.map (·.home)
def homesOf (ms : List Mk) : List Int := if ms = [] then [0] else Lib.compact ((homesI ms).mergeSort fun x y => decide (x ≤ y))
theorem homesOf_nil : homesOf [] = [0] := rfl
theorem homesOf_is {ms : List Mk} (h : ms ≠ []) : IsHomes (homesOf ms) (homesI ms) := by
  unfold homesOf
  rw [if_neg h]
  exact compact_homes _

/-- what a call leaves that hands back a list of numbers in memory of its own. -/
structure IntsAt (w w' : World) (A : Option Addr) (c : Nat) (hs : List Int) : Prop where
  rd : Rd w' A (ic hs)
  le : hs.length ≤ c
  max : c ≤ maxLen
  own : ∀ k, ablk A k → w.heap.size ≤ k
  fr : Fr NoBlk w w'
def IntsPost (w : World) (hs : List Int) (e : Ending) (w' : World) : Prop := ∃ A c, e = .returned (.slice A hs.length c) ∧ IntsAt w w' A c hs

theorem holdsI_own {w : World} {base g n c : Nat} {xs : List Int} (h : w.ownsRow base 3 1 (.slice (some ⟨g, 0, none⟩) n c) xs.length (ic xs)) : Sort.Holds (Value.int .i64) w g 0 xs.toArray := by
  intro j hj
  have hj' : j < xs.length := by simpa using hj
  rcases h.2 with ⟨h1, _⟩ | ⟨g', cap, cur, h1, h2, hh, hnc, hcm, hcs, htake⟩
  · cases h1
  · have hgg : g' = g := by
      injection h1 with h1
      injection h1 with h1
      injection h1 with h1
      exact h1.symm
    subst hgg
    refine ⟨?_, by simp [World.frozen?, hh]⟩
    rw [cell_of_row w g' _ cur 3 (0, 0) hh, Nat.zero_add]
    have e : (ic xs)[j]? = some (.int .i64 xs[j]) := by simp [ic, hj']
    rw [← htake, List.getElem?_take, if_pos (by rw [Nat.mul_one]; exact hj')] at e
    simpa [hj'] using e
theorem intInfo : (Try.prog.info? 3).map (fun i => (i.zero, i.size, i.bytes)) = some (some (.int .i64 0), 1, 8) := by kernel_rfl
theorem Fr.putRowI (w : World) (g off : Nat) (d : Array Int) : Fr (fun k => k = g) w (Sort.putRow (Value.int .i64) w g off d) :=
  ⟨rfl, rfl, rfl, by simp [Sort.putRow, Sort.mapBlock], fun k _ hn => by
    simp only [Sort.putRow, Sort.mapBlock, Array.getElem?_modify]
    rw [if_neg (fun e => hn e.symm)]⟩
end Go.Proofs.Ytdgjjkmgdjiliaa
