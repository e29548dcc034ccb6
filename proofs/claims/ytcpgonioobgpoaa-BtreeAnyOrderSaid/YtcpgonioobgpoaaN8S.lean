/- First of a tree: the first key that does not come ahead of one. No condition. -/
import Derived.Test.YtcpgonioobgpoaaN7S

namespace Go.Proofs.Ytcpgonioobgpoaa
open Go.RowKit Go.Shelf
attribute [local go_sem] Oper.semAt_some
structure TwoAt (w : World) (ga gb : Nat) (T U X Y : TypeId) (u v x y : Value) (W : World) : Prop where
  a : Bk W ga T #[u]
  b : Bk W gb U #[v]
  x : Bk W (gb + 1) X #[x]
  y : Bk W (gb + 1 + 1) Y #[y]
  fr : Fr NoBlk w W
theorem TwoAt.others {w W W' : World} {ga gb : Nat} {T U X Y : TypeId} {u v x y : Value} {row : Option Nat} (h : TwoAt w ga gb T U X Y u v x y W) (hg : W.grownBy W' row) (hr : ∀ r, row = some r → w.heap.size ≤ r ∧ ∃ o : Obj, W.heap[r]? = some o ∧ o.isCells = false) : TwoAt w ga gb T U X Y u v x y W' :=
  ⟨h.a.others hg fun r e => (hr r e).2, h.b.others hg fun r e => (hr r e).2, h.x.others hg fun r e => (hr r e).2, h.y.others hg fun r e => (hr r e).2, h.fr.grown hg (fun r e hl => by have := (hr r e).1; omega)⟩
theorem results_cells2 {fn : Func} {p q : Tmp} {t u : TypeId} (h : fn.results = #[.cell p t, .cell q u]) (tmps : Array Value) (P : Program) (w : World) :
    (results fn tmps).run P w = ((asAddr (tmps.getD p undef)).run P w).andThen fun a w₁ => ((loadVar t a).run P w₁).andThen fun v w₂ => ((asAddr (tmps.getD q undef)).run P w₂).andThen fun b w₃ => ((loadVar u b).run P w₃).andThen fun y w₄ => .ok (.tuple #[v, y]) w₄ := by
  simp only [results, h]
  simp [Sem.run_bind, Result.andThen]
/-- what First tells. -/
def FstS (key : Bs) (xs : List ItS) (k : Bs) (b : Bool) : Prop := (b = true ∧ ∃ v t, geL Op.bytesLess key xs = (k, v) :: t) ∨ (b = false ∧ k = ([] : Bs) ∧ geL Op.bytesLess key xs = [])
def TreeFirstS (w : World) (xs : List ItS) (key : Bs) (e : Ending) (w' : World) : Prop := ∃ k b, e = .returned (.tuple #[.string (bstr k), .bool b]) ∧ FstS key xs k b ∧ Fr NoBlk w w'
set_option maxRecDepth 100000 in
set_option maxHeartbeats 1000000 in
theorem treeFirstS_any (w : World) (g : Nat) (O : Nat → Prop) (xs : List ItS) (h : TreeS w g O xs) (key : Bs) :
    Calls Try.prog 18 #[.pointer (some ⟨g, 0, none⟩), .string (bstr key)] w (TreeFirstS w xs key) := by
  have HT := Lib.hid h
  clear h
  refine (callsIn_wide (n := 9)).1 ?_
  refine callsIn_of_wp_marks Try.func18 rfl trivial ?_ rfl
  simp only [Try.ntmps18, List.size_toArray, List.length_cons, List.length_nil, Nat.reduceAdd, Nat.reduceSub, Array.replicate_succ, Array.replicate_zero, List.push_toArray, List.append_toArray, List.nil_append, List.cons_append]
  gi_wp2
  refine ⟨trivial, (callsIn_wide.2 (treeFromS_any _ g key)).mono ?_⟩
  rintro e w5 ⟨rfl, hw5⟩
  obtain ⟨ga, hga⟩ : ∃ ga, ga = w.heap.size := ⟨_, rfl⟩
  have hs1 : (w.alloc (.cells #[(Value.string { data := #[] })] 9)).heap.size = ga + 1 := by rw [World.size_alloc, hga]
  have hs2 : ((w.alloc (.cells #[(Value.string { data := #[] })] 9)).alloc (.cells #[.bool false] 4)).heap.size = ga + 1 + 1 := by rw [World.size_alloc, hs1]
  rw [hs2]
  have hs3 : (((w.alloc (.cells #[(Value.string { data := #[] })] 9)).alloc (.cells #[.bool false] 4)).alloc (.cells #[.pointer (some ⟨g, 0, none⟩)] 25)).heap.size = ga + 1 + 1 + 1 := by rw [World.size_alloc, hs2]
  have hf5 : Fr NoBlk w w5 := by rw [hw5]; exact ((((Fr.refl NoBlk w).alloc _).alloc _).alloc _).alloc _
  have HI0 : Hid (TwoAt w ga (ga + 1) 9 4 25 9 ((Value.string { data := #[] }) : Value) (.bool false) (.pointer (some ⟨g, 0, none⟩)) (.string (bstr key) : Value) w5) := by
    refine ⟨?_, ?_, ?_, ?_, hf5⟩
    · rw [hw5, hga]; exact (((Bk.new _ _ _).alloc _).alloc _).alloc _
    · rw [hw5, ← hs1]; exact ((Bk.new _ _ _).alloc _).alloc _
    · rw [hw5, ← hs2]; exact (Bk.new _ _ _).alloc _
    · rw [hw5, ← hs3]; exact Bk.new _ _ _
  have HGE : Hid (w.heap.size = ga ∧ w.heap.size ≤ w5.heap.size) := ⟨hga.symm, hf5.size⟩
  have HOL : Hid (∀ b, O b → b < w.heap.size) := fun b hb => HT.out.lt hb
  have HST := Lib.hid (fromS_stops 8 (ga + 1 + 1) (ga + 1 + 1 + 1) (fun b => O b ∨ b = ga + 1 + 1 ∨ b = ga + 1 + 1 + 1) w5 g O xs key (HT.out.nofr hf5) (fun _ => Iff.rfl) HI0.out.x.lt HI0.out.y.lt (HI0.out.x.cell 0) (HI0.out.y.cell 0))
  have hKK : ∀ k, (O k ∨ k = ga + 1 + 1 ∨ k = ga + 1 + 1 + 1) → k < w5.heap.size := fun k hk => by
    rcases hk with hk | rfl | rfl
    · have := HOL.out k hk
      have := HGE.out.2
      omega
    · exact HI0.out.x.lt
    · exact HI0.out.y.lt
  rw [← hga]
  clear hf5 hga hs1 hs2 hs3 hw5
  gi_wp2
  refine wpIn_rangeFunc_ownF rfl (by omega) (gf := 42) (lb := #[.pointer (some ⟨ga + 1 + 1, 0, none⟩), .pointer (some ⟨ga + 1 + 1 + 1, 0, none⟩)]) rfl trivial (enters_of Try.func42 (by kernel_rfl) rfl)
    HST.out (fun h k => h.t k) (Keep.b hKK) (Below.refl _ _) (fun _ => rfl)
    (fun (pre : List ItS) W => pre = [] ∧ TwoAt w ga (ga + 1) 9 4 25 9 ((Value.string { data := #[] }) : Value) (.bool false) (.pointer (some ⟨g, 0, none⟩)) (.string (bstr key) : Value) W)
    (fun c (pre : List ItS) W => c = .ret ∧ ∃ x : ItS, pre = [x] ∧ TwoAt w ga (ga + 1) 9 4 25 9 (.string (bstr x.1) : Value) (.bool true) (.pointer (some ⟨g, 0, none⟩)) (.string (bstr key) : Value) W)
    (fun s W W' row hs hg hr => ⟨hs.1, hs.2.others hg fun r e => ⟨by have := (hr r e).1; have := HGE.out.2; omega, (hr r e).2⟩⟩)
    (fun _ s W W' row hs hg hr => by
      obtain ⟨h1, x, h2, h3⟩ := hs
      exact ⟨h1, x, h2, h3.others hg fun r e => ⟨by have := (hr r e).1; have := HGE.out.2; omega, (hr r e).2⟩⟩)
    ⟨rfl, HI0.out⟩
    (fun x => { tmps := #[.pointer (some ⟨g, 0, none⟩), .string (bstr key), undef, undef, .pointer (some ⟨ga, 0, none⟩), .pointer (some ⟨ga + 1, 0, none⟩), .string (bstr x.1), .pointer (some ⟨g, 0, none⟩), .string (bstr key), .func (.func 42) #[] #[.pointer (some ⟨ga + 1 + 1, 0, none⟩), .pointer (some ⟨ga + 1 + 1 + 1, 0, none⟩)], .string (bstr x.1), .int .i64 x.2, undef, undef], defers := [] }) ?assign ?body ?done ?stop
  case assign =>
    intro l' x W K hK
    simp [encS]
    gi_wp2
    exact hK
  case body =>
    rintro l' pre ⟨xk, xv⟩ W ⟨rfl, hI⟩ hlen
    have HI := Lib.hid hI
    have fa := hI.a.free 0
    have ca := hI.a.cell 0
    have hab : ga + 1 ≠ ga := by omega
    have cb : (W.setCell ⟨ga, 0, none⟩ (.string (bstr xk))).cell? ⟨ga + 1, 0, none⟩ = some (.bool false) := (hI.b.far (p := ⟨ga, 0, none⟩) hab _).cell 0
    have fb : (W.setCell ⟨ga, 0, none⟩ (.string (bstr xk))).frozen? ⟨ga + 1, 0, none⟩ = false := (hI.b.far (p := ⟨ga, 0, none⟩) hab _).free 0
    have HKK := Lib.hid hKK
    clear hI hlen hKK
    gi_wp2
    have hall : Fr (fun i => i = ga ∨ i = ga + 1) W ((W.setCell ⟨ga, 0, none⟩ (.string (bstr xk))).setCell ⟨ga + 1, 0, none⟩ (.bool true)) := ((Fr.refl (fun i => i = ga ∨ i = ga + 1) W).setCell (p := ⟨ga, 0, none⟩) (fun _ => .inl rfl) _).setCell (p := ⟨ga + 1, 0, none⟩) (fun _ => .inr rfl) _
    refine ⟨(KeepsOthers.setCell _ _ _).trans (KeepsOthers.setCell _ _ _), rfl, (xk, xv), rfl, ?_, ?_, HI.out.x.fr hall (by omega), HI.out.y.fr hall (by omega), HI.out.fr.step hall fun i hi e => by have := HGE.out.1; omega⟩
    · have h := (HI.out.a.put 0 (.string (bstr xk))).far (p := ⟨ga + 1, 0, none⟩) (by show ga ≠ ga + 1; omega) (.bool true)
      simpa using h
    · have h := (HI.out.b.far (p := ⟨ga, 0, none⟩) hab (.string (bstr xk))).put 0 (.bool true)
      simpa using h
  case done =>
    rintro D ys W hD hS ⟨rfl, hI⟩ hK
    have HD := Lib.hid hD
    have HS := Lib.hid hS
    have HI := Lib.hid hI
    have HKD := Lib.hid hK
    have fa := hI.a.free 0
    have ca := hI.a.cell 0
    have hab : ga + 1 ≠ ga := by omega
    have cb : (W.setCell ⟨ga, 0, none⟩ ((Value.string { data := #[] }))).cell? ⟨ga + 1, 0, none⟩ = some (.bool false) := (hI.b.far (p := ⟨ga, 0, none⟩) hab _).cell 0
    have fb : (W.setCell ⟨ga, 0, none⟩ ((Value.string { data := #[] }))).frozen? ⟨ga + 1, 0, none⟩ = false := (hI.b.far (p := ⟨ga, 0, none⟩) hab _).free 0
    clear hI hD hK hS
    have HH : Hid (Fr (fun i => i = ga ∨ i = ga + 1 ∨ i = D) W ((((W.setCell ⟨ga, 0, none⟩ ((Value.string { data := #[] }))).setCell ⟨ga + 1, 0, none⟩ (.bool false))).putObj D (.deferred none)) ∧ Bk ((((W.setCell ⟨ga, 0, none⟩ ((Value.string { data := #[] }))).setCell ⟨ga + 1, 0, none⟩ (.bool false))).putObj D (.deferred none)) ga 9 #[(Value.string { data := #[] })] ∧ Bk ((((W.setCell ⟨ga, 0, none⟩ ((Value.string { data := #[] }))).setCell ⟨ga + 1, 0, none⟩ (.bool false))).putObj D (.deferred none)) (ga + 1) 4 #[.bool false]) := by
      have hall : Fr (fun i => i = ga ∨ i = ga + 1) W ((W.setCell ⟨ga, 0, none⟩ ((Value.string { data := #[] }))).setCell ⟨ga + 1, 0, none⟩ (.bool false)) := ((Fr.refl (fun i => i = ga ∨ i = ga + 1) W).setCell (p := ⟨ga, 0, none⟩) (fun _ => .inl rfl) _).setCell (p := ⟨ga + 1, 0, none⟩) (fun _ => .inr rfl) _
      have hpo : Fr (fun i => i = D) ((W.setCell ⟨ga, 0, none⟩ ((Value.string { data := #[] }))).setCell ⟨ga + 1, 0, none⟩ (.bool false)) (((W.setCell ⟨ga, 0, none⟩ ((Value.string { data := #[] }))).setCell ⟨ga + 1, 0, none⟩ (.bool false)).putObj D (.deferred none)) := (Fr.ofGrown (grownBy_putObj' _ D (.deferred none))).mono fun _ _ e => by injection e
      have hDa : ga ≠ D := fun e => by
        have h1 := HI.out.a
        have h2 := HKD.out
        unfold Bk at h1
        rw [e, h2] at h1
        cases h1
      have hDb : ga + 1 ≠ D := fun e => by
        have h1 := HI.out.b
        have h2 := HKD.out
        unfold Bk at h1
        rw [e, h2] at h1
        cases h1
      refine ⟨(hall.mono fun _ _ h => by rcases h with h | h; exact .inl h; exact .inr (.inl h)).step hpo fun _ _ h => .inr (.inr h), Bk.fr ?_ hpo hDa, Bk.fr ?_ hpo hDb⟩
      · have h := (HI.out.a.put 0 ((Value.string { data := #[] }))).far (p := ⟨ga + 1, 0, none⟩) (by show ga ≠ ga + 1; omega) (.bool false)
        simpa using h
      · have h := (HI.out.b.far (p := ⟨ga, 0, none⟩) hab ((Value.string { data := #[] }))).put 0 (.bool false)
        simpa using h
    have HD2 : Hid (((W.setCell ⟨ga, 0, none⟩ ((Value.string { data := #[] }))).setCell ⟨ga + 1, 0, none⟩ (.bool false)).heap[D]? = some (.deferred (some []))) := by
      show _ = _
      have hDa : D ≠ ga := fun e => by
        have h1 := HI.out.a
        have h2 := HKD.out
        unfold Bk at h1
        rw [← e, h2] at h1
        cases h1
      have hDb : D ≠ ga + 1 := fun e => by
        have h1 := HI.out.b
        have h2 := HKD.out
        unfold Bk at h1
        rw [← e, h2] at h1
        cases h1
      rw [Below.heap_setCell _ _ _ _ hDb, Below.heap_setCell _ _ _ _ hDa]
      exact HKD.out
    gi_wp2
    refine ⟨by simp, .inl ⟨_, _, rfl, run_takeDeferred HD2.out, ?_⟩⟩
    have ra := HH.out.2.1.cell 0
    have rb := HH.out.2.2.cell 0
    refine ⟨.tuple #[(Value.string { data := #[] }), .bool false], ?_, ([] : Bs), false, rfl, .inr ⟨rfl, rfl, HS.out.symm⟩, HI.out.fr.step HH.out.1 fun i hi e => ?_⟩
    · rw [results_cells2 rfl]
      go_simp
    · have := HGE.out
      have := HD.out
      omega
  case stop =>
    rintro D c' pre W hD hS ⟨rfl, x, rfl, hI⟩ hK
    have HD := Lib.hid hD
    have HS := Lib.hid hS
    have HI := Lib.hid hI
    have HKD := Lib.hid hK
    clear hI hD hK hS
    obtain ⟨xk, xv⟩ := x
    have HH : Hid (Fr (fun i => i = D) W (W.putObj D (.deferred none)) ∧ Bk (W.putObj D (.deferred none)) ga 9 #[.string (bstr xk)] ∧ Bk (W.putObj D (.deferred none)) (ga + 1) 4 #[.bool true]) := by
      have hpo : Fr (fun i => i = D) W (W.putObj D (.deferred none)) := (Fr.ofGrown (grownBy_putObj' _ D (.deferred none))).mono fun _ _ e => by injection e
      refine ⟨hpo, Bk.fr HI.out.a hpo fun e => ?_, Bk.fr HI.out.b hpo fun e => ?_⟩
      · have h1 := HI.out.a
        have h2 := HKD.out
        unfold Bk at h1
        rw [e, h2] at h1
        cases h1
      · have h1 := HI.out.b
        have h2 := HKD.out
        unfold Bk at h1
        rw [e, h2] at h1
        cases h1
    gi_wp2
    refine ⟨by simp, .inl ⟨_, _, rfl, run_takeDeferred HKD.out, ?_⟩⟩
    have ra := HH.out.2.1.cell 0
    have rb := HH.out.2.2.cell 0
    refine ⟨.tuple #[.string (bstr xk), .bool true], ?_, xk, true, rfl, .inl ⟨rfl, ?_⟩, HI.out.fr.step HH.out.1 fun i hi e => ?_⟩
    · rw [results_cells2 rfl]
      go_simp
    · obtain ⟨r, hr⟩ := HS.out
      exact ⟨xv, r, hr.symm⟩
    · have := HGE.out
      have := HD.out
      omega
end Go.Proofs.Ytcpgonioobgpoaa
