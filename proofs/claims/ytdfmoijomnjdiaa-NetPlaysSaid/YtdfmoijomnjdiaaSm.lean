/- The law's comparison of parcels. No condition. -/
import Derived.Test.YtdfmoijomnjdiaaNt
import Derived.Deep.RegionHeld3
namespace Go.Proofs.Ytdfmoijomnjdiaa
open Go.RowKit

/-- a parcel's values alone. -/
def pvl (p : Pc) : Int × Int × Int × Int × Int × Int × List UInt8 := (p.src, p.dst, p.ep, p.pe, p.sq, p.ak, p.d.2.2)
def pkz : Array Value := #[.int .u64 0, .int .u64 0, .int .u64 0, .int .u64 0, .slice none 0 0]
/-- five cells told anew. -/
def put5 (w : World) (b : Nat) (p : Pc) : World := ((((w.setCell ⟨b, 0, none⟩ (.int .u64 p.ep)).setCell ⟨b, 1, none⟩ (.int .u64 p.pe)).setCell ⟨b, 2, none⟩ (.int .u64 p.sq)).setCell ⟨b, 3, none⟩ (.int .u64 p.ak)).setCell ⟨b, 4, none⟩ (.slice p.d.1 p.d.2.2.length p.d.2.1)
theorem put5_bk {w : World} {b : Nat} {T : TypeId} (p : Pc) (h : Bk w b T pkz) : Bk (put5 w b p) b T #[.int .u64 p.ep, .int .u64 p.pe, .int .u64 p.sq, .int .u64 p.ak, .slice p.d.1 p.d.2.2.length p.d.2.1] := by
  refine Bk.cast (((((h.put 0 _).put 1 _).put 2 _).put 3 _).put 4 _) ?_
  unfold pkz
  simp only [List.setIfInBounds_toArray, List.set_cons_zero, List.set_cons_succ]
theorem put5_fr (w : World) (b : Nat) (p : Pc) : Fr (fun k => k = b) w (put5 w b p) :=
  ((((((Fr.refl (fun k => k = b) w).setCell (fun _ => rfl) _).setCell (fun _ => rfl) _).setCell (fun _ => rfl) _).setCell (fun _ => rfl) _).setCell (fun _ => rfl) _)

set_option maxRecDepth 100000 in
set_option maxHeartbeats 8000000 in
theorem same_any (w : World) (p q : Pc) (hp : Rd w p.d.1 (cb p.d.2.2)) (hq : Rd w q.d.1 (cb q.d.2.2)) :
    Calls Try.prog 10 #[.agg #[.int .i64 p.src, .int .i64 p.dst, .int .u64 p.ep, .int .u64 p.pe, .int .u64 p.sq, .int .u64 p.ak, .slice p.d.1 p.d.2.2.length p.d.2.1], .agg #[.int .i64 q.src, .int .i64 q.dst, .int .u64 q.ep, .int .u64 q.pe, .int .u64 q.sq, .int .u64 q.ak, .slice q.d.1 q.d.2.2.length q.d.2.1]] w fun e w' => (∃ d, e = .returned (.bool d) ∧ (d = true ↔ pvl p = pvl q)) ∧ Fr NoBlk w w' := by
  have HR : Hid (Rd w p.d.1 (cb p.d.2.2) ∧ Rd w q.d.1 (cb q.d.2.2)) := ⟨hp, hq⟩
  clear hp hq
  obtain ⟨w0, hw0⟩ : ∃ w0, w0 = (w.alloc (.cells (pca p) 35)).alloc (.cells (pca q) 35) := ⟨_, rfl⟩
  have HF0 : Hid (Fr NoBlk w w0) := by show Fr _ _ _; rw [hw0]; exact ((Fr.refl _ _).alloc _).alloc _
  have HBP : Hid (Bk w0 w.heap.size 35 (pca p)) := by show Bk _ _ _ _; rw [hw0]; exact (Bk.new _ _ _).alloc _
  have HBQ : Hid (Bk w0 (w.heap.size + 1) 35 (pca q)) := by show Bk _ _ _ _; rw [hw0]; exact Bk.new' _ _ _ (by simp)
  unfold pca at hw0
  have HSK : Hid (∀ (W : World), Fr NoBlk w0 W → W.cell? ⟨w.heap.size, 2, none⟩ = some (.int .u64 p.ep) ∧ W.cell? ⟨w.heap.size, 3, none⟩ = some (.int .u64 p.pe) ∧ W.cell? ⟨w.heap.size, 4, none⟩ = some (.int .u64 p.sq) ∧ W.cell? ⟨w.heap.size, 5, none⟩ = some (.int .u64 p.ak) ∧ W.cell? ⟨w.heap.size, 6, none⟩ = some (.slice p.d.1 p.d.2.2.length p.d.2.1) ∧
    W.cell? ⟨w.heap.size + 1, 2, none⟩ = some (.int .u64 q.ep) ∧ W.cell? ⟨w.heap.size + 1, 3, none⟩ = some (.int .u64 q.pe) ∧ W.cell? ⟨w.heap.size + 1, 4, none⟩ = some (.int .u64 q.sq) ∧ W.cell? ⟨w.heap.size + 1, 5, none⟩ = some (.int .u64 q.ak) ∧ W.cell? ⟨w.heap.size + 1, 6, none⟩ = some (.slice q.d.1 q.d.2.2.length q.d.2.1)) := fun W hf => by
      have a := HBP.out.fr hf (fun h => h)
      have b := HBQ.out.fr hf (fun h => h)
      exact ⟨a.cell 2, a.cell 3, a.cell 4, a.cell 5, a.cell 6, b.cell 2, b.cell 3, b.cell 4, b.cell 5, b.cell 6⟩
  have HSL : Hid (∀ (W : World), Fr NoBlk w0 W → W.cell? ⟨w.heap.size, 0, none⟩ = some (.int .i64 p.src) ∧ W.cell? ⟨w.heap.size, 1, none⟩ = some (.int .i64 p.dst) ∧
    W.cell? ⟨w.heap.size + 1, 0, none⟩ = some (.int .i64 q.src) ∧ W.cell? ⟨w.heap.size + 1, 1, none⟩ = some (.int .i64 q.dst)) := fun W hf => by
      have a := HBP.out.fr hf (fun h => h)
      have b := HBQ.out.fr hf (fun h => h)
      exact ⟨a.cell 0, a.cell 1, b.cell 0, b.cell 1⟩
  go_enter Try.func10, Try.ntmps10
  go_upto_region 1 with fail
  rw [← hw0]
  clear hw0
  refine wp_region_held_drew (S := fun w' => Fr NoBlk w0 w') (by kernel_rfl) (by exact (Fr.refl NoBlk w0).drew) (fun hHeld => ?_)
  obtain ⟨w6, hw6⟩ : ∃ w6, w6 = w0.drew := ⟨_, rfl⟩
  have HF6 : Hid (Fr NoBlk w0 w6) := by show Fr _ _ _; rw [hw6]; exact (Fr.refl _ _).drew
  have HS6 : Hid (w0.heap.size ≤ w6.heap.size) := HF6.out.size
  rw [← hw6] at hHeld ⊢
  clear hw6
  refine wpAnyH_take (i := 0) (oi := ⟨some 7, _, _, _, _, _⟩) (v := ?_) rfl (by kernel_rfl) (by kernel_rfl) (by kernel_rfl) (fun _ _ _ h => h) (Or.inl ⟨by rfl, ?_⟩) (by assumption) ?_
  rotate_left 1
  · (intro w hSw; (try dsimp only at hSw); obtain ⟨s2, s3, s4, s5, s6, t2, t3, t4, t5, t6⟩ := HSK.out _ hSw; go_simp) <;> (with_reducible rfl)
  try simp only [Act.put, List.setIfInBounds_toArray, List.set_cons_zero, List.set_cons_succ]
  refine wpAnyH_take (i := 1) (oi := ⟨some 8, _, _, _, _, _⟩) (v := ?_) rfl (by kernel_rfl) (by kernel_rfl) (by kernel_rfl) (fun _ _ _ h => h) (Or.inl ⟨by rfl, ?_⟩) (by assumption) ?_
  rotate_left 1
  · (intro w hSw; (try dsimp only at hSw); obtain ⟨s2, s3, s4, s5, s6, t2, t3, t4, t5, t6⟩ := HSK.out _ hSw; go_simp) <;> (with_reducible rfl)
  try simp only [Act.put, List.setIfInBounds_toArray, List.set_cons_zero, List.set_cons_succ]
  refine wpAnyH_take (i := 2) (oi := ⟨some 9, _, _, _, _, _⟩) (v := ?_) rfl (by kernel_rfl) (by kernel_rfl) (by kernel_rfl) (fun _ _ _ h => h) (Or.inl ⟨by rfl, ?_⟩) (by assumption) ?_
  rotate_left 1
  · (intro w hSw; (try dsimp only at hSw); obtain ⟨s2, s3, s4, s5, s6, t2, t3, t4, t5, t6⟩ := HSK.out _ hSw; go_simp) <;> (with_reducible rfl)
  try simp only [Act.put, List.setIfInBounds_toArray, List.set_cons_zero, List.set_cons_succ]
  refine wpAnyH_take (i := 3) (oi := ⟨some 10, _, _, _, _, _⟩) (v := ?_) rfl (by kernel_rfl) (by kernel_rfl) (by kernel_rfl) (fun _ _ _ h => h) (Or.inl ⟨by rfl, ?_⟩) (by assumption) ?_
  rotate_left 1
  · (intro w hSw; (try dsimp only at hSw); obtain ⟨s2, s3, s4, s5, s6, t2, t3, t4, t5, t6⟩ := HSK.out _ hSw; go_simp) <;> (with_reducible rfl)
  try simp only [Act.put, List.setIfInBounds_toArray, List.set_cons_zero, List.set_cons_succ]
  refine wpAnyH_ready (rs := [4, 5]) (by kernel_rfl) (by simp) ?_
  refine AllReadyH.cons (o := ⟨some 5, _, _, _, _, _⟩) rfl (fun K hK => ?_) (AllReadyH.cons (o := ⟨some 6, _, _, _, _, _⟩) rfl (fun K hK => ?_) AllReadyH.nil)
  · go_simp
    refine hK.out _ _ ?_ (fun hHeld => ?_)
    · exact HF6.out.alloc _
    clear hK K
    try simp only [Act.put, List.setIfInBounds_toArray, List.set_cons_zero, List.set_cons_succ]
    refine wpAnyH_ready (rs := [5]) (by kernel_rfl) (by simp) ?_
    refine AllReadyH.cons (o := ⟨some 6, _, _, _, _, _⟩) rfl (fun K hK => ?_) AllReadyH.nil
    go_simp
    refine hK.out _ _ ?_ (fun hHeld => ?_)
    · exact (HF6.out.alloc _).alloc _
    clear hK K
    try simp only [Act.put, List.setIfInBounds_toArray, List.set_cons_zero, List.set_cons_succ]
    obtain ⟨w7, hw7⟩ : ∃ w7, w7 = ((w6.alloc (.cells #[.int .u64 0, .int .u64 0, .int .u64 0, .int .u64 0, .slice none 0 0] 33)).alloc (.cells #[.int .u64 0, .int .u64 0, .int .u64 0, .int .u64 0, .slice none 0 0] 33)) := ⟨_, rfl⟩
    have HF7 : Hid (Fr NoBlk w0 w7) := by show Fr _ _ _; rw [hw7]; exact (HF6.out.alloc _).alloc _
    have HZ5 : Hid (Bk w7 w6.heap.size 33 pkz) := by show Bk _ _ _ _; rw [hw7]; exact (Bk.new _ _ _).alloc _
    have HZ6 : Hid (Bk w7 (w6.heap.size + 1) 33 pkz) := by show Bk _ _ _ _; rw [hw7]; exact Bk.new' _ _ _ (by simp)
    rw [← hw7] at hHeld ⊢
    clear hw7
    have e0 := HZ5.out.cell 0
    have ef0 := HZ5.out.free 0
    have e1 := HZ5.out.cell 1
    have ef1 := HZ5.out.free 1
    have e2 := HZ5.out.cell 2
    have ef2 := HZ5.out.free 2
    have e3 := HZ5.out.cell 3
    have ef3 := HZ5.out.free 3
    have e4 := HZ5.out.cell 4
    have ef4 := HZ5.out.free 4
    simp only [pkz, List.getElem?_toArray, List.getElem?_cons_zero, List.getElem?_cons_succ] at e0 e1 e2 e3 e4
    refine wpAnyH_ready (rs := [6]) (by kernel_rfl) (by simp) ?_
    refine AllReadyH.cons (o := ⟨none, _, _, _, _, _⟩) rfl (fun K hK => ?_) AllReadyH.nil
    go_simp
    refine hK.out _ _ ?_ (fun hHeld => ?_)
    · exact HF7.out.step (put5_fr w7 w6.heap.size p) (fun k hk e => by have := HS6.out; omega)
    clear hK K
    try simp only [Act.put, List.setIfInBounds_toArray, List.set_cons_zero, List.set_cons_succ]
    clear e0 ef0 e1 ef1 e2 ef2 e3 ef3 e4 ef4
    have hz6 := HZ6.out.fr (put5_fr w7 w6.heap.size p) (by omega)
    unfold put5 at hz6
    have e0 := hz6.cell 0
    have ef0 := hz6.free 0
    have e1 := hz6.cell 1
    have ef1 := hz6.free 1
    have e2 := hz6.cell 2
    have ef2 := hz6.free 2
    have e3 := hz6.cell 3
    have ef3 := hz6.free 3
    have e4 := hz6.cell 4
    have ef4 := hz6.free 4
    simp only [pkz, List.getElem?_toArray, List.getElem?_cons_zero, List.getElem?_cons_succ] at e0 e1 e2 e3 e4
    refine wpAnyH_ready (rs := [7]) (by kernel_rfl) (by simp) ?_
    refine AllReadyH.cons (o := ⟨none, _, _, _, _, _⟩) rfl (fun K hK => ?_) AllReadyH.nil
    go_simp
    refine hK.out _ _ ?_ (fun hHeld => ?_)
    · exact (HF7.out.step (put5_fr w7 w6.heap.size p) (fun k hk e => by have := HS6.out; omega)).step (put5_fr _ (w6.heap.size + 1) q) (fun k hk e => by have := HS6.out; omega)
    clear hK K
    try simp only [Act.put, List.setIfInBounds_toArray, List.set_cons_zero, List.set_cons_succ]
    clear e0 ef0 e1 ef1 e2 ef2 e3 ef3 e4 ef4
    clear hz6
    refine wpAnyH_done (by kernel_rfl) ?_ _
    obtain ⟨w8, hw8⟩ : ∃ w8, w8 = put5 (put5 w7 w6.heap.size p) (w6.heap.size + 1) q := ⟨_, rfl⟩
    have HB5 : Hid (Bk w8 w6.heap.size 33 #[.int .u64 p.ep, .int .u64 p.pe, .int .u64 p.sq, .int .u64 p.ak, .slice p.d.1 p.d.2.2.length p.d.2.1]) := by show Bk _ _ _ _; rw [hw8]; exact (put5_bk p HZ5.out).fr (put5_fr _ _ q) (by omega)
    have HB6 : Hid (Bk w8 (w6.heap.size + 1) 33 #[.int .u64 q.ep, .int .u64 q.pe, .int .u64 q.sq, .int .u64 q.ak, .slice q.d.1 q.d.2.2.length q.d.2.1]) := by show Bk _ _ _ _; rw [hw8]; exact put5_bk q (HZ6.out.fr (put5_fr _ _ p) (by omega))
    have HF8 : Hid (Fr NoBlk w0 w8) := by show Fr _ _ _; rw [hw8]; exact (HF7.out.step (put5_fr _ _ p) (fun k hk e => by have := HS6.out; omega)).step (put5_fr _ _ q) (fun k hk e => by have := HS6.out; omega)
    unfold put5 at hw8
    rw [← hw8]
    clear hw8 HZ5 HZ6 HF7 hHeld
    have c0 := HB5.out.cell 0
    have d0 := HB6.out.cell 0
    have c1 := HB5.out.cell 1
    have d1 := HB6.out.cell 1
    have c2 := HB5.out.cell 2
    have d2 := HB6.out.cell 2
    have c3 := HB5.out.cell 3
    have d3 := HB6.out.cell 3
    have c4 := HB5.out.cell 4
    have d4 := HB6.out.cell 4
    simp only [List.getElem?_toArray, List.getElem?_cons_zero, List.getElem?_cons_succ] at c0 d0 c1 d1 c2 d2 c3 d3 c4 d4
    obtain ⟨s2, s3, s4, s5, s6, t2, t3, t4, t5, t6⟩ := HSK.out _ HF8.out
    obtain ⟨s0, s1, t0, t1⟩ := HSL.out _ HF8.out
    have u1 := strBs w8 p.d.1 p.d.2.2.length p.d.2.1 p.d.2.2 rfl (HR.out.1.nofr (HF0.out.trans HF8.out))
    have u2 := strBs w8 q.d.1 q.d.2.2.length q.d.2.1 q.d.2.2 rfl (HR.out.2.nofr (HF0.out.trans HF8.out))
    have HFZ : Hid (Fr NoBlk w w8) := HF0.out.trans HF8.out
    by_cases h_src : p.src = q.src
    rotate_left
    · have HNO : Hid (¬ pvl p = pvl q) := fun e => h_src (congrArg (fun q => q.1) e)
      have g1 : (p.src == q.src) = false := beq_eq_false_iff_ne.2 h_src
      go_wp2_with fail
      go_ret
      exact ⟨⟨false, rfl, ⟨fun h => (by cases h), fun h => absurd h HNO.out⟩⟩, HFZ.out⟩
    have HE_src := Lib.hid h_src
    have g_src : (p.src == q.src) = true := by rw [h_src]; exact beq_self_eq_true _
    by_cases h_dst : p.dst = q.dst
    rotate_left
    · have HNO : Hid (¬ pvl p = pvl q) := fun e => h_dst (congrArg (fun q => q.2.1) e)
      have g1 : (p.dst == q.dst) = false := beq_eq_false_iff_ne.2 h_dst
      go_wp2_with fail
      go_ret
      exact ⟨⟨false, rfl, ⟨fun h => (by cases h), fun h => absurd h HNO.out⟩⟩, HFZ.out⟩
    have HE_dst := Lib.hid h_dst
    have g_dst : (p.dst == q.dst) = true := by rw [h_dst]; exact beq_self_eq_true _
    by_cases h_ep : p.ep = q.ep
    rotate_left
    · have HNO : Hid (¬ pvl p = pvl q) := fun e => h_ep (congrArg (fun q => q.2.2.1) e)
      have g1 : (p.ep == q.ep) = false := beq_eq_false_iff_ne.2 h_ep
      go_wp2_with fail
      go_ret
      exact ⟨⟨false, rfl, ⟨fun h => (by cases h), fun h => absurd h HNO.out⟩⟩, HFZ.out⟩
    have HE_ep := Lib.hid h_ep
    have g_ep : (p.ep == q.ep) = true := by rw [h_ep]; exact beq_self_eq_true _
    by_cases h_pe : p.pe = q.pe
    rotate_left
    · have HNO : Hid (¬ pvl p = pvl q) := fun e => h_pe (congrArg (fun q => q.2.2.2.1) e)
      have g1 : (p.pe == q.pe) = false := beq_eq_false_iff_ne.2 h_pe
      go_wp2_with fail
      go_ret
      exact ⟨⟨false, rfl, ⟨fun h => (by cases h), fun h => absurd h HNO.out⟩⟩, HFZ.out⟩
    have HE_pe := Lib.hid h_pe
    have g_pe : (p.pe == q.pe) = true := by rw [h_pe]; exact beq_self_eq_true _
    by_cases h_sq : p.sq = q.sq
    rotate_left
    · have HNO : Hid (¬ pvl p = pvl q) := fun e => h_sq (congrArg (fun q => q.2.2.2.2.1) e)
      have g1 : (p.sq == q.sq) = false := beq_eq_false_iff_ne.2 h_sq
      go_wp2_with fail
      go_ret
      exact ⟨⟨false, rfl, ⟨fun h => (by cases h), fun h => absurd h HNO.out⟩⟩, HFZ.out⟩
    have HE_sq := Lib.hid h_sq
    have g_sq : (p.sq == q.sq) = true := by rw [h_sq]; exact beq_self_eq_true _
    by_cases h_ak : p.ak = q.ak
    rotate_left
    · have HNO : Hid (¬ pvl p = pvl q) := fun e => h_ak (congrArg (fun q => q.2.2.2.2.2.1) e)
      have g1 : (p.ak == q.ak) = false := beq_eq_false_iff_ne.2 h_ak
      go_wp2_with fail
      go_ret
      exact ⟨⟨false, rfl, ⟨fun h => (by cases h), fun h => absurd h HNO.out⟩⟩, HFZ.out⟩
    have HE_ak := Lib.hid h_ak
    have g_ak : (p.ak == q.ak) = true := by rw [h_ak]; exact beq_self_eq_true _
    by_cases hd : p.d.2.2 = q.d.2.2
    rotate_left
    · have HNO : Hid (¬ pvl p = pvl q) := fun e => hd (congrArg (fun q => q.2.2.2.2.2.2) e)
      have g2 : ((bstr p.d.2.2).toList == (bstr q.d.2.2).toList) = false := by rw [bstr_toList, bstr_toList]; simp [hd]
      clear hd
      go_wp2_with fail
      go_ret
      exact ⟨⟨false, rfl, ⟨fun h => (by cases h), fun h => absurd h HNO.out⟩⟩, HFZ.out⟩
    have g2 : ((bstr p.d.2.2).toList == (bstr q.d.2.2).toList) = true := by rw [hd]; simp
    have HYES : Hid (pvl p = pvl q) := by show _ = _; unfold pvl; rw [HE_src.out, HE_dst.out, HE_ep.out, HE_pe.out, HE_sq.out, HE_ak.out, hd]
    clear hd
    go_wp2_with fail
    go_ret
    exact ⟨⟨true, rfl, ⟨fun _ => HYES.out, fun _ => rfl⟩⟩, HFZ.out⟩
  · go_simp
    refine hK.out _ _ ?_ (fun hHeld => ?_)
    · exact HF6.out.alloc _
    clear hK K
    try simp only [Act.put, List.setIfInBounds_toArray, List.set_cons_zero, List.set_cons_succ]
    refine wpAnyH_ready (rs := [4]) (by kernel_rfl) (by simp) ?_
    refine AllReadyH.cons (o := ⟨some 5, _, _, _, _, _⟩) rfl (fun K hK => ?_) AllReadyH.nil
    go_simp
    refine hK.out _ _ ?_ (fun hHeld => ?_)
    · exact (HF6.out.alloc _).alloc _
    clear hK K
    try simp only [Act.put, List.setIfInBounds_toArray, List.set_cons_zero, List.set_cons_succ]
    obtain ⟨w7, hw7⟩ : ∃ w7, w7 = ((w6.alloc (.cells #[.int .u64 0, .int .u64 0, .int .u64 0, .int .u64 0, .slice none 0 0] 33)).alloc (.cells #[.int .u64 0, .int .u64 0, .int .u64 0, .int .u64 0, .slice none 0 0] 33)) := ⟨_, rfl⟩
    have HF7 : Hid (Fr NoBlk w0 w7) := by show Fr _ _ _; rw [hw7]; exact (HF6.out.alloc _).alloc _
    have HZ5 : Hid (Bk w7 (w6.heap.size + 1) 33 pkz) := by show Bk _ _ _ _; rw [hw7]; exact Bk.new' _ _ _ (by simp)
    have HZ6 : Hid (Bk w7 w6.heap.size 33 pkz) := by show Bk _ _ _ _; rw [hw7]; exact (Bk.new _ _ _).alloc _
    rw [← hw7] at hHeld ⊢
    clear hw7
    have e0 := HZ5.out.cell 0
    have ef0 := HZ5.out.free 0
    have e1 := HZ5.out.cell 1
    have ef1 := HZ5.out.free 1
    have e2 := HZ5.out.cell 2
    have ef2 := HZ5.out.free 2
    have e3 := HZ5.out.cell 3
    have ef3 := HZ5.out.free 3
    have e4 := HZ5.out.cell 4
    have ef4 := HZ5.out.free 4
    simp only [pkz, List.getElem?_toArray, List.getElem?_cons_zero, List.getElem?_cons_succ] at e0 e1 e2 e3 e4
    refine wpAnyH_ready (rs := [6]) (by kernel_rfl) (by simp) ?_
    refine AllReadyH.cons (o := ⟨none, _, _, _, _, _⟩) rfl (fun K hK => ?_) AllReadyH.nil
    go_simp
    refine hK.out _ _ ?_ (fun hHeld => ?_)
    · exact HF7.out.step (put5_fr w7 (w6.heap.size + 1) p) (fun k hk e => by have := HS6.out; omega)
    clear hK K
    try simp only [Act.put, List.setIfInBounds_toArray, List.set_cons_zero, List.set_cons_succ]
    clear e0 ef0 e1 ef1 e2 ef2 e3 ef3 e4 ef4
    have hz6 := HZ6.out.fr (put5_fr w7 (w6.heap.size + 1) p) (by omega)
    unfold put5 at hz6
    have e0 := hz6.cell 0
    have ef0 := hz6.free 0
    have e1 := hz6.cell 1
    have ef1 := hz6.free 1
    have e2 := hz6.cell 2
    have ef2 := hz6.free 2
    have e3 := hz6.cell 3
    have ef3 := hz6.free 3
    have e4 := hz6.cell 4
    have ef4 := hz6.free 4
    simp only [pkz, List.getElem?_toArray, List.getElem?_cons_zero, List.getElem?_cons_succ] at e0 e1 e2 e3 e4
    refine wpAnyH_ready (rs := [7]) (by kernel_rfl) (by simp) ?_
    refine AllReadyH.cons (o := ⟨none, _, _, _, _, _⟩) rfl (fun K hK => ?_) AllReadyH.nil
    go_simp
    refine hK.out _ _ ?_ (fun hHeld => ?_)
    · exact (HF7.out.step (put5_fr w7 (w6.heap.size + 1) p) (fun k hk e => by have := HS6.out; omega)).step (put5_fr _ w6.heap.size q) (fun k hk e => by have := HS6.out; omega)
    clear hK K
    try simp only [Act.put, List.setIfInBounds_toArray, List.set_cons_zero, List.set_cons_succ]
    clear e0 ef0 e1 ef1 e2 ef2 e3 ef3 e4 ef4
    clear hz6
    refine wpAnyH_done (by kernel_rfl) ?_ _
    obtain ⟨w8, hw8⟩ : ∃ w8, w8 = put5 (put5 w7 (w6.heap.size + 1) p) w6.heap.size q := ⟨_, rfl⟩
    have HB5 : Hid (Bk w8 (w6.heap.size + 1) 33 #[.int .u64 p.ep, .int .u64 p.pe, .int .u64 p.sq, .int .u64 p.ak, .slice p.d.1 p.d.2.2.length p.d.2.1]) := by show Bk _ _ _ _; rw [hw8]; exact (put5_bk p HZ5.out).fr (put5_fr _ _ q) (by omega)
    have HB6 : Hid (Bk w8 w6.heap.size 33 #[.int .u64 q.ep, .int .u64 q.pe, .int .u64 q.sq, .int .u64 q.ak, .slice q.d.1 q.d.2.2.length q.d.2.1]) := by show Bk _ _ _ _; rw [hw8]; exact put5_bk q (HZ6.out.fr (put5_fr _ _ p) (by omega))
    have HF8 : Hid (Fr NoBlk w0 w8) := by show Fr _ _ _; rw [hw8]; exact (HF7.out.step (put5_fr _ _ p) (fun k hk e => by have := HS6.out; omega)).step (put5_fr _ _ q) (fun k hk e => by have := HS6.out; omega)
    unfold put5 at hw8
    rw [← hw8]
    clear hw8 HZ5 HZ6 HF7 hHeld
    have c0 := HB5.out.cell 0
    have d0 := HB6.out.cell 0
    have c1 := HB5.out.cell 1
    have d1 := HB6.out.cell 1
    have c2 := HB5.out.cell 2
    have d2 := HB6.out.cell 2
    have c3 := HB5.out.cell 3
    have d3 := HB6.out.cell 3
    have c4 := HB5.out.cell 4
    have d4 := HB6.out.cell 4
    simp only [List.getElem?_toArray, List.getElem?_cons_zero, List.getElem?_cons_succ] at c0 d0 c1 d1 c2 d2 c3 d3 c4 d4
    obtain ⟨s2, s3, s4, s5, s6, t2, t3, t4, t5, t6⟩ := HSK.out _ HF8.out
    obtain ⟨s0, s1, t0, t1⟩ := HSL.out _ HF8.out
    have u1 := strBs w8 p.d.1 p.d.2.2.length p.d.2.1 p.d.2.2 rfl (HR.out.1.nofr (HF0.out.trans HF8.out))
    have u2 := strBs w8 q.d.1 q.d.2.2.length q.d.2.1 q.d.2.2 rfl (HR.out.2.nofr (HF0.out.trans HF8.out))
    have HFZ : Hid (Fr NoBlk w w8) := HF0.out.trans HF8.out
    by_cases h_src : p.src = q.src
    rotate_left
    · have HNO : Hid (¬ pvl p = pvl q) := fun e => h_src (congrArg (fun q => q.1) e)
      have g1 : (p.src == q.src) = false := beq_eq_false_iff_ne.2 h_src
      go_wp2_with fail
      go_ret
      exact ⟨⟨false, rfl, ⟨fun h => (by cases h), fun h => absurd h HNO.out⟩⟩, HFZ.out⟩
    have HE_src := Lib.hid h_src
    have g_src : (p.src == q.src) = true := by rw [h_src]; exact beq_self_eq_true _
    by_cases h_dst : p.dst = q.dst
    rotate_left
    · have HNO : Hid (¬ pvl p = pvl q) := fun e => h_dst (congrArg (fun q => q.2.1) e)
      have g1 : (p.dst == q.dst) = false := beq_eq_false_iff_ne.2 h_dst
      go_wp2_with fail
      go_ret
      exact ⟨⟨false, rfl, ⟨fun h => (by cases h), fun h => absurd h HNO.out⟩⟩, HFZ.out⟩
    have HE_dst := Lib.hid h_dst
    have g_dst : (p.dst == q.dst) = true := by rw [h_dst]; exact beq_self_eq_true _
    by_cases h_ep : p.ep = q.ep
    rotate_left
    · have HNO : Hid (¬ pvl p = pvl q) := fun e => h_ep (congrArg (fun q => q.2.2.1) e)
      have g1 : (p.ep == q.ep) = false := beq_eq_false_iff_ne.2 h_ep
      go_wp2_with fail
      go_ret
      exact ⟨⟨false, rfl, ⟨fun h => (by cases h), fun h => absurd h HNO.out⟩⟩, HFZ.out⟩
    have HE_ep := Lib.hid h_ep
    have g_ep : (p.ep == q.ep) = true := by rw [h_ep]; exact beq_self_eq_true _
    by_cases h_pe : p.pe = q.pe
    rotate_left
    · have HNO : Hid (¬ pvl p = pvl q) := fun e => h_pe (congrArg (fun q => q.2.2.2.1) e)
      have g1 : (p.pe == q.pe) = false := beq_eq_false_iff_ne.2 h_pe
      go_wp2_with fail
      go_ret
      exact ⟨⟨false, rfl, ⟨fun h => (by cases h), fun h => absurd h HNO.out⟩⟩, HFZ.out⟩
    have HE_pe := Lib.hid h_pe
    have g_pe : (p.pe == q.pe) = true := by rw [h_pe]; exact beq_self_eq_true _
    by_cases h_sq : p.sq = q.sq
    rotate_left
    · have HNO : Hid (¬ pvl p = pvl q) := fun e => h_sq (congrArg (fun q => q.2.2.2.2.1) e)
      have g1 : (p.sq == q.sq) = false := beq_eq_false_iff_ne.2 h_sq
      go_wp2_with fail
      go_ret
      exact ⟨⟨false, rfl, ⟨fun h => (by cases h), fun h => absurd h HNO.out⟩⟩, HFZ.out⟩
    have HE_sq := Lib.hid h_sq
    have g_sq : (p.sq == q.sq) = true := by rw [h_sq]; exact beq_self_eq_true _
    by_cases h_ak : p.ak = q.ak
    rotate_left
    · have HNO : Hid (¬ pvl p = pvl q) := fun e => h_ak (congrArg (fun q => q.2.2.2.2.2.1) e)
      have g1 : (p.ak == q.ak) = false := beq_eq_false_iff_ne.2 h_ak
      go_wp2_with fail
      go_ret
      exact ⟨⟨false, rfl, ⟨fun h => (by cases h), fun h => absurd h HNO.out⟩⟩, HFZ.out⟩
    have HE_ak := Lib.hid h_ak
    have g_ak : (p.ak == q.ak) = true := by rw [h_ak]; exact beq_self_eq_true _
    by_cases hd : p.d.2.2 = q.d.2.2
    rotate_left
    · have HNO : Hid (¬ pvl p = pvl q) := fun e => hd (congrArg (fun q => q.2.2.2.2.2.2) e)
      have g2 : ((bstr p.d.2.2).toList == (bstr q.d.2.2).toList) = false := by rw [bstr_toList, bstr_toList]; simp [hd]
      clear hd
      go_wp2_with fail
      go_ret
      exact ⟨⟨false, rfl, ⟨fun h => (by cases h), fun h => absurd h HNO.out⟩⟩, HFZ.out⟩
    have g2 : ((bstr p.d.2.2).toList == (bstr q.d.2.2).toList) = true := by rw [hd]; simp
    have HYES : Hid (pvl p = pvl q) := by show _ = _; unfold pvl; rw [HE_src.out, HE_dst.out, HE_ep.out, HE_pe.out, HE_sq.out, HE_ak.out, hd]
    clear hd
    go_wp2_with fail
    go_ret
    exact ⟨⟨true, rfl, ⟨fun _ => HYES.out, fun _ => rfl⟩⟩, HFZ.out⟩
end Go.Proofs.Ytdfmoijomnjdiaa
