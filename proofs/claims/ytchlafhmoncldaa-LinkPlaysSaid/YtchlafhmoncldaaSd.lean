/- The link and the document's link hold the same. No condition. -/
import Derived.Test.YtchlafhmoncldaaRw
namespace Go.Proofs.Ytchlafhmoncldaa
open Go.RowKit Go.Maps Go.ChangeMaps Go.MapKept Go.WideShapes

/-- early data as a function and as a list. -/
structure EarR (E : Nat → Option Bs) (ers : List (Nat × Bs)) : Prop where
  mem : ∀ s d, E s = some d ↔ (s, d) ∈ ers
  nod : (ers.map (·.1)).Nodup
theorem EarR.no {E : Nat → Option Bs} {ers : List (Nat × Bs)} (h : EarR E ers) {s : Nat} (hn : ∀ x ∈ ers, x.1 ≠ s) : E s = none := by
  cases he : E s with
  | none => rfl
  | some d => exact absurd rfl (hn _ ((h.mem s d).1 he))
theorem EarR.fresh {E : Nat → Option Bs} {ers : List (Nat × Bs)} (h : EarR E ers) {s : Nat} (hn : E s = none) : ∀ x ∈ ers, x.1 ≠ s := by
  rintro ⟨t, d⟩ hx rfl
  have := (h.mem t d).2 hx
  rw [hn] at this
  cases this
theorem EarR.get {E : Nat → Option Bs} {ers : List (Nat × Bs)} (h : EarR E ers) {i : Nat} {x : Nat × Bs} (hx : ers[i]? = some x) : E x.1 = some x.2 := (h.mem _ _).2 (List.mem_of_getElem? hx)
theorem EarR.add {E : Nat → Option Bs} {ers : List (Nat × Bs)} (h : EarR E ers) {s : Nat} {d : Bs} (hn : E s = none) : EarR (fun y => if y = s then some d else E y) (ers ++ [(s, d)]) := by
  refine ⟨fun t u => ?_, ?_⟩
  · rw [List.mem_append, List.mem_singleton]
    show (if t = s then some d else E t) = _ ↔ _
    by_cases ht : t = s
    · subst ht
      rw [if_pos rfl]
      constructor
      · intro e
        injection e with e
        exact .inr (by rw [e])
      · rintro (e | e)
        · exact absurd rfl (h.fresh hn _ e)
        · injection e with _ e
          rw [e]
    · rw [if_neg ht, h.mem]
      constructor
      · exact .inl
      · rintro (e | e)
        · exact e
        · injection e with e
          exact absurd e ht
  · rw [List.map_append, List.nodup_append]
    refine ⟨h.nod, by simp, ?_⟩
    intro a ha b hb e
    subst e
    obtain ⟨x, hx, rfl⟩ := List.mem_map.1 ha
    rw [List.map_singleton, List.mem_singleton] at hb
    exact h.fresh hn x hx hb
theorem EarR.del {E : Nat → Option Bs} {ers : List (Nat × Bs)} (h : EarR E ers) {i : Nat} {x : Nat × Bs} (hx : ers[i]? = some x) : EarR (fun y => if y = x.1 then none else E y) (ers.eraseIdx i) := by
  induction ers generalizing E i with
  | nil => cases hx
  | cons y t ih =>
    have hn := h.nod
    rw [List.map_cons, List.nodup_cons] at hn
    have ht : EarR (fun z => if z = y.1 then none else E z) t := by
      refine ⟨fun s d => ?_, hn.2⟩
      by_cases hs : s = y.1
      · rw [if_pos hs]
        constructor
        · intro e; cases e
        · intro e
          exact absurd (List.mem_map.2 ⟨_, e, hs⟩) hn.1
      · rw [if_neg hs, h.mem, List.mem_cons]
        constructor
        · rintro (e | e)
          · exact absurd (by rw [← e]) hs
          · exact e
        · exact .inr
    cases i with
    | zero =>
      injection hx with hx
      subst hx
      exact ht
    | succ i =>
      have hx' : t[i]? = some x := hx
      have hxy : x.1 ≠ y.1 := fun e => hn.1 (List.mem_map.2 ⟨x, List.mem_of_getElem? hx', e⟩)
      have h2 := ih ht hx'
      rw [List.eraseIdx_cons_succ]
      have hy : (if y.1 = y.1 then none else if y.1 = y.1 then (none : Option Bs) else E y.1) = none := by rw [if_pos rfl]
      have h3 := h2.add (s := y.1) (d := y.2) (by rw [if_neg (Ne.symm hxy), if_pos rfl])
      refine ⟨fun s d => ?_, ?_⟩
      · rw [List.mem_cons]
        have h4 := h3.mem s d
        rw [List.mem_append, List.mem_singleton] at h4
        rw [Or.comm, ← h4]
        by_cases hs : s = y.1
        · subst hs
          rw [if_neg (Ne.symm hxy), if_pos rfl, (h.mem y.1 y.2).2 (List.mem_cons_self ..)]
        · rw [if_neg hs, if_neg hs]
      · rw [List.map_cons, List.nodup_cons]
        exact ⟨fun e => by
          obtain ⟨z, hz, e⟩ := List.mem_map.1 e
          exact hn.1 (List.mem_map.2 ⟨z, List.mem_of_mem_eraseIdx hz, e⟩), h2.nod⟩
/-- what the document's rounds took out. -/
theorem DrV.told {V V' : Rv} {ds : List Bs} (h : DrV V ds V') {E : Nat → Option Bs} (hE : EarR E V.ers) (hs : V.ex + ds.length < 2 ^ 64) :
    V' = { V with ex := V.ex + ds.length, ers := V'.ers } ∧ EarR (fun y => if V.ex ≤ y ∧ y < V.ex + ds.length then none else E y) V'.ers ∧ ∀ j, j < ds.length → E (V.ex + j) = ds[j]? := by
  induction h with
  | nil =>
    refine ⟨rfl, ?_, fun j hj => absurd hj (Nat.not_lt_zero _)⟩
    have e : (fun y => if V.ex ≤ y ∧ y < V.ex + ([] : List Bs).length then none else E y) = E := by
      funext y
      rw [if_neg (by rw [List.length_nil]; omega)]
    rw [e]
    exact hE
  | @snoc V1 ds i x h1 hx he ih =>
    rw [List.length_append, List.length_singleton] at hs
    obtain ⟨e1, h2, h3⟩ := ih (by omega)
    have hex : V1.ex = V.ex + ds.length := by rw [e1]
    have hget := h2.get hx
    rw [he, hex] at hget
    rw [if_neg (by omega)] at hget
    refine ⟨?_, ?_, fun j hj => ?_⟩
    · rw [List.length_append, List.length_singleton]
      rw [e1]
      simp only [Rv.mk.injEq, and_true, true_and]
      rw [Nat.mod_eq_of_lt (by omega)]
      omega
    · have h4 := h2.del hx
      rw [he, hex] at h4
      have e : (fun y => if V.ex ≤ y ∧ y < V.ex + (ds ++ [x.2]).length then none else E y) = (fun y => if y = V.ex + ds.length then none else (fun y => if V.ex ≤ y ∧ y < V.ex + ds.length then none else E y) y) := by
        funext y
        dsimp only
        rw [List.length_append, List.length_singleton]
        by_cases hy : y = V.ex + ds.length
        · rw [if_pos (by omega), if_pos hy]
        · rw [if_neg hy]
          by_cases hz : V.ex ≤ y ∧ y < V.ex + ds.length
          · rw [if_pos hz, if_pos (by omega)]
          · rw [if_neg hz, if_neg (by omega)]
      rw [e]
      exact h4
    · rw [List.length_append, List.length_singleton] at hj
      by_cases hjn : j < ds.length
      · rw [List.getElem?_append_left hjn]
        exact h3 j hjn
      · obtain rfl : j = ds.length := by omega
        rw [List.getElem?_append_right (by omega), Nat.sub_self, hget]
        rfl
end Go.Proofs.Ytchlafhmoncldaa
