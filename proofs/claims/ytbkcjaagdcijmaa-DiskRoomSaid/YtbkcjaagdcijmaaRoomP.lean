/- How many bytes a disk has behind an Append. Plain mathematics. No condition. -/
import Derived.Test.YtbkcjaagdcijmaaApartP
namespace Go.Proofs.Ytbkcjaagdcijmaa
open Go.RowKit

theorem none_named {L : List PF} {k : Bs} (h : pfind L k = none) : ∀ g ∈ L, ¬ g.name = k := by
  intro g hg e
  obtain ⟨f, hf⟩ := find_named (List.mem_map.2 ⟨g, hg, e⟩)
  rw [h] at hf
  cases hf
theorem set_none {L : List PF} {k : Bs} (h : ∀ g ∈ L, ¬ g.name = k) (a : PF → PF) : pset L k a = L := by
  unfold pset
  conv => rhs; rw [← List.map_id L]
  apply List.map_congr_left
  intro g hg
  rw [if_neg (h g hg)]
  rfl
theorem grow_set (L : List PF) (hn : (L.map (·.name)).Nodup) (k d : Bs) (f : PF) (hf : pfind L k = some f) : ptotal (pset L k fun g => { g with data := g.data ++ d }) = ptotal L + d.length := by
  induction L with
  | nil => cases hf
  | cons g t ih =>
    rw [List.map_cons, List.nodup_cons] at hn
    by_cases e : g.name = k
    · have h2 : pset t k (fun g => { g with data := g.data ++ d }) = t := set_none (fun x hx ex => hn.1 (List.mem_map.2 ⟨x, hx, ex.trans e.symm⟩)) _
      show ptotal ((if g.name = k then _ else g) :: pset t k _) = _
      rw [if_pos e, h2]
      show (g.data ++ d).length + ptotal t = g.data.length + ptotal t + d.length
      rw [List.length_append]; omega
    · have hf2 : pfind t k = some f := by
        unfold pfind at hf
        rwa [if_neg e] at hf
      show ptotal ((if g.name = k then _ else g) :: pset t k _) = _
      rw [if_neg e]
      show g.data.length + ptotal (pset t k _) = g.data.length + ptotal t + d.length
      rw [ih hn.2 hf2]; omega
theorem grow_new (L : List PF) (k d : Bs) (h : ∀ g ∈ L, ¬ g.name = k) : ptotal (pset (pins ⟨k, [], 0⟩ L) k fun g => { g with data := g.data ++ d }) = ptotal L + d.length := by
  induction L with
  | nil =>
    show ptotal [if k = k then _ else _] = _
    rw [if_pos rfl]
    show ([] ++ d).length + 0 = 0 + d.length
    simp
  | cons y r ih =>
    unfold pins
    split
    · show ptotal ((if k = k then _ else _) :: pset (y :: r) k _) = _
      rw [if_pos rfl, set_none h]
      show ([] ++ d).length + ptotal (y :: r) = _
      simp; omega
    · show ptotal ((if y.name = k then _ else y) :: pset (pins _ r) k _) = _
      rw [if_neg (h y (List.mem_cons_self ..))]
      show y.data.length + ptotal (pset _ k _) = y.data.length + ptotal r + d.length
      rw [ih fun g hg => h g (List.mem_cons_of_mem _ hg)]; omega
theorem grow_put (L : List PF) (hn : (L.map (·.name)).Nodup) (k d : Bs) : ptotal (pput L k d) = ptotal L + d.length := by
  unfold pput
  cases hf : pfind L k with
  | none => exact grow_new L k d (none_named hf)
  | some f => exact grow_set L hn k d f hf
/-- an Append on a disk whose power has no end: either nothing has happened, or the bytes are there. -/
theorem append_room (p : PD) (ho : On p) (hn : (p.files.map (·.name)).Nodup) (k d : Bs) :
    ((pAppend p k d).2 ≠ 0 ∧ (pAppend p k d).1 = p) ∨ ((pAppend p k d).2 = 0 ∧ ptotal (pAppend p k d).1.files = ptotal p.files + d.length ∧ (pAppend p k d).1.room = p.room) := by
  unfold pAppend
  split
  · exact .inl ⟨by simp, rfl⟩
  split
  · exact .inl ⟨by simp, rfl⟩
  split
  · exact .inl ⟨by simp, rfl⟩
  · have e : pspend { p with files := pput p.files k d } = _ := spend_on ho.2
    refine .inr ⟨?_, ?_, ?_⟩
    · show pspendE p = 0
      unfold pspendE
      rw [if_neg (by rw [ho.2]; decide)]
    · show ptotal (pspend { p with files := pput p.files k d }).files = _
      rw [e]
      exact grow_put p.files hn k d
    · show (pspend { p with files := pput p.files k d }).room = _
      rw [e]
end Go.Proofs.Ytbkcjaagdcijmaa
