/- A voter's Promise. Conditions: at most 64 places. -/
import Derived.Test.YtlajhnplkfiiiaaVoT

namespace Go.Proofs.Ytlajhnplkfiiiaa
open Go.RowKit Go.Shelf
attribute [local go_sem] Oper.semAt_some
set_option maxRecDepth 100000 in
set_option maxHeartbeats 1000000 in
theorem vpromiseT_any (w : World) (B g gt : Nat) (O : Nat → Prop) (p : Nat) (xs : List ItT) (h : VoT w B g gt O p xs) (bal : Nat) (fr : Int) : Calls Try.prog 17 #[.pointer (some ⟨g, 0, none⟩), .int .u64 (bal : Int), .int .i64 fr] w (PromPostT w B g gt O p xs bal fr) := by
  have c0 : w.cell? ⟨g, 0, none⟩ = some (.int .u64 (p : Int)) := h.bk.cell 0
  by_cases hb : bal < p
  · have k1 : (bal : Int) < (p : Int) := by omega
    have HB := Lib.hid hb
    clear h hb
    go_enter Try.func17, Try.ntmps17
    go_wp2_with fail
    go_ret2
    unfold PromPostT
    rw [if_pos HB.out]
    exact ⟨rfl, Fr.refl _ _⟩
  have k1 : ¬ (bal : Int) < (p : Int) := by omega
  have HB := Lib.hid hb
  obtain ⟨i0, hi, hz0, hz1, hz2⟩ := info_parts vinfoT
  obtain ⟨w3, hw3⟩ : ∃ w3, w3 = w.setCell ⟨g, 0, none⟩ (.int .u64 (bal : Int)) := ⟨_, rfl⟩
  have hf3 : Fr (fun b => b = g) w w3 := by rw [hw3]; exact (Fr.refl (fun b => b = g) w).setCell (p := ⟨g, 0, none⟩) (fun _ => rfl) _
  have hz3 : w3.heap.size = w.heap.size := by rw [hw3]; simp [World.setCell]
  have HG3 : Hid (Bk w3 g 90 #[.int .u64 (bal : Int), .pointer (some ⟨gt, 0, none⟩)]) := by show Bk _ _ _ _; rw [hw3]; exact h.bk.put 0 _
  have HT3 : Hid (TreeT w3 gt O xs) := h.tr.fr hf3 fun b hb e => h.ne (e ▸ hb)
  have HVO := Lib.hid h
  have HLEN : Hid ((geL ltI fr xs).length ≤ 64) := Nat.le_trans (List.length_filter_le _ _) h.len
  have f0 : w.frozen? ⟨g, 0, none⟩ = false := h.bk.free 0
  have c1 : w.cell? ⟨g, 1, none⟩ = some (.pointer (some ⟨gt, 0, none⟩)) := h.bk.cell 1
  have c1a : ((w.setCell ⟨g, 0, none⟩ (.int .u64 (bal : Int))).alloc (.cells #[.slice none 0 0] 55)).cell? ⟨g, 1, none⟩ = some (.pointer (some ⟨gt, 0, none⟩)) := by rw [← hw3]; exact (HG3.out.alloc _).cell 1
  have HF3 := Lib.hid hf3
  have HZ3 := Lib.hid hz3
  have HW3 : Hid (w.setCell ⟨g, 0, none⟩ (.int .u64 (bal : Int)) = w3) := hw3.symm
  clear h hb hf3 hz3 hw3
  refine (callsIn_wide (n := 9)).1 ?_
  refine callsIn_of_wp_marks Try.func17 rfl trivial ?_ rfl
  simp only [Try.ntmps17, List.size_toArray, List.length_cons, List.length_nil, Nat.reduceAdd, Nat.reduceSub, Array.replicate_succ, Array.replicate_zero, List.push_toArray, List.append_toArray, List.nil_append, List.cons_append]
  gi_wp2
  refine ⟨trivial, (callsIn_wide.2 (treeFromT_any _ gt fr)).mono ?_⟩
  rintro e w5 ⟨rfl, hw5⟩
  rw [HW3.out] at hw5 ⊢
  obtain ⟨gm, hgm⟩ : ∃ gm, gm = w3.heap.size := ⟨_, rfl⟩
  have hgw : w.heap.size = gm := by rw [hgm]; exact HZ3.out.symm
  have hsz4 : (w3.alloc (.cells #[.slice none 0 0] 55)).heap.size = gm + 1 := by rw [World.size_alloc, hgm]
  rw [hsz4]
  have hb50 : Bk w5 gm 55 #[.slice none 0 0] := by rw [hw5, hgm]; exact ((Bk.new _ _ _).alloc _).alloc _
  have hb51 : Bk w5 (gm + 1) 87 #[.pointer (some ⟨gt, 0, none⟩)] := by rw [hw5, ← hsz4]; exact (Bk.new _ _ _).alloc _
  have hb52 : Bk w5 (gm + 2) 3 #[.int .i64 fr] := by
    rw [hw5, show gm + 2 = ((w3.alloc (.cells #[.slice none 0 0] 55)).alloc (.cells #[.pointer (some ⟨gt, 0, none⟩)] 87)).heap.size by rw [World.size_alloc, hsz4]]
    exact Bk.new _ _ _
  have hf5 : Fr NoBlk w3 w5 := by rw [hw5]; exact (((Fr.refl NoBlk w3).alloc _).alloc _).alloc _
  have HGE : Hid (w3.heap.size ≤ gm ∧ w3.heap.size ≤ w5.heap.size) := ⟨by omega, hf5.size⟩
  have HI0 : Hid (GatV w3 55 63 gm (fun b => b = gm + 1 ∨ b = gm + 2) 3 0 [] w5) := ⟨⟨_, hb50, World.ownsRow_nil _ _ _ _⟩, fun b e => (by
    rcases e with rfl | rfl
    · exact ⟨_, _, hb51, by decide, by decide⟩
    · exact ⟨_, _, hb52, by decide, by decide⟩), hf5, HGE.out.1⟩
  have HOL : Hid (∀ b, O b → b < w3.heap.size) := fun b hb => HT3.out.lt hb
  have HST := Lib.hid (fromT_stops 8 (gm + 1) (gm + 2) (fun b => O b ∨ b = gm + 1 ∨ b = gm + 2) w5 gt O xs fr (HT3.out.nofr hf5) (fun _ => Iff.rfl) hb51.lt hb52.lt (hb51.cell 0) (hb52.cell 0))
  have hKK : ∀ k, (O k ∨ k = gm + 1 ∨ k = gm + 2) → k < w5.heap.size := fun k hk => by
    rcases hk with hk | rfl | rfl
    · have := HOL.out k hk
      have := HGE.out.2
      omega
    · exact hb51.lt
    · exact hb52.lt
  have HGM := Lib.hid hgw
  try rw [hgw]
  try rw [← hgm]
  clear hb50 hb51 hb52 hf5 hgm hsz4 hw5 c0 c1 c1a f0 k1 hgw HW3
  gi_wp2
  refine wpIn_rangeFunc_ownH rfl (by omega) (gf := 41) (lb := #[.pointer (some ⟨gm + 1, 0, none⟩), .pointer (some ⟨gm + 2, 0, none⟩)]) rfl trivial (enters_of Try.func41 (by kernel_rfl) rfl)
    HST.out (fun h k => h.t k) (Keep.b hKK) (Below.refl _ _) (fun _ => rfl)
    (fun (pre : List ItT) W => GatV w3 55 63 gm (fun b => b = gm + 1 ∨ b = gm + 2) 3 pre.length (valsT pre) W)
    (fun _ _ _ => False)
    (fun s W W' row hs hg hr => hs.others hg fun r e => ⟨by have := (hr r e).1; have := HGE.out.2; omega, (hr r e).2⟩)
    (fun _ _ _ _ _ hs _ _ => hs)
    HI0.out
    (fun x a' W => ∃ q, w3.heap.size ≤ q ∧ Bk W q 63 #[.int .i64 x.2.slot, .int .u64 (x.2.bal : Int), .string (bstr x.2.val)] ∧ a' = { tmps := #[.pointer (some ⟨g, 0, none⟩), .int .u64 (bal : Int), .int .i64 fr, undef, undef, undef, .slice none 0 0, .bool false, .pointer (some ⟨gm, 0, none⟩), undef, .pointer (some ⟨q, 0, none⟩), .int .u64 (bal : Int), .pointer (some ⟨g, 0, none⟩), .pointer (some ⟨g, 0, none⟩), .pointer (some ⟨g, 0, none⟩), .int .u64 (p : Int), .bool false, .pointer (some ⟨g, 0, none⟩), .int .u64 (bal : Int), .pointer (some ⟨g, 0, none⟩), .pointer (some ⟨g, 0, none⟩), .pointer (some ⟨g, 0, none⟩), .pointer (some ⟨g, 0, none⟩), .pointer (some ⟨g, 1, none⟩), .pointer (some ⟨gt, 0, none⟩), .int .i64 fr, .func (.func 41) #[] #[.pointer (some ⟨gm + 1, 0, none⟩), .pointer (some ⟨gm + 2, 0, none⟩)], .int .i64 x.1, .agg #[.int .i64 x.2.slot, .int .u64 (x.2.bal : Int), .string (bstr x.2.val)], undef, undef, undef, undef, undef], defers := [] })
    (fun x a' _ W W' row hs hg hr => by obtain ⟨q, h1, h2, h3⟩ := hs; exact ⟨q, h1, h2.others hg fun r e => (hr r e).2, h3⟩) ?assign ?body ?done ?stop
  case assign =>
    intro l' pre x W K hI hK
    simp [encT]
    gi_wp2
    have hgr := World.grownBy_alloc W (.cells #[.int .i64 x.2.slot, .int .u64 (x.2.bal : Int), .string (bstr x.2.val)] 63) none
    refine hK _ _ ((KeepsOthers.alloc W _).from _) (((Fr.refl NoBlk W).alloc _).keep fun k hk => ⟨?_, fun e => e⟩) (hI.others hgr fun r e => by cases e) ⟨W.heap.size, hI.fr.size, Bk.new _ _ _, rfl⟩
    rcases hk with hk | hk
    · exact Nat.lt_of_lt_of_le (HOL.out k hk) hI.fr.size
    · obtain ⟨X, u, h1, _⟩ := hI.ib k hk
      exact h1.lt
  case body =>
    rintro l' pre x a' W _ _ hI ⟨q, hql, hqb, rfl⟩ hlen
    have HI := Lib.hid hI
    obtain ⟨v, hbx, hov⟩ := hI.box
    obtain ⟨Av, cv, rfl, hcv, hAv⟩ := own_form hov
    have hc1 := hbx.cell 0
    obtain ⟨k, hk⟩ : ∃ k, k = pre.length := ⟨_, rfl⟩
    have hkp : k = pre.length := hk
    rw [← hk] at hc1 hov hcv
    have HBX : Hid (Bk W gm 55 #[.slice Av k cv]) := by show Bk _ _ _ _; rw [hk]; exact hbx
    have HOV := Lib.hid hov
    have HKM := Lib.hid hk
    have HLK : Hid (k < 100000) := by show k < 100000; have := HLEN.out; omega
    have HWS : Hid (w3.heap.size ≤ W.heap.size) := hI.fr.size
    have HKK := Lib.hid hKK
    clear hI hbx hov hk hkp hKK hlen hcv hAv
    have hfz := HBX.out.free 0
    obtain ⟨xk, xv⟩ := x
    have HQB : Hid (Bk W q 63 #[.int .i64 xv.slot, .int .u64 (xv.bal : Int), .string (bstr xv.val)]) := hqb
    have e0 : W.cell? ⟨q, 0, none⟩ = some (.int .i64 xv.slot) := HQB.out.cell 0
    have e1 : W.cell? ⟨q, 1, none⟩ = some (.int .u64 (xv.bal : Int)) := HQB.out.cell 1
    have e2 : W.cell? ⟨q, 2, none⟩ = some (.string (bstr xv.val)) := HQB.out.cell 2
    clear hqb hql
    have HOV2 : Hid ((W.alloc (.cells #[.int .i64 xv.slot, .int .u64 (xv.bal : Int), .string (bstr xv.val)] 63)).ownsRow w3.heap.size 63 3 (.slice Av k cv) k (valsT pre)) := own_fr HOV.out ((Fr.refl NoBlk W).alloc _) fun _ _ h => h
    have HSRC : Hid (Rd (W.alloc (.cells #[.int .i64 xv.slot, .int .u64 (xv.bal : Int), .string (bstr xv.val)] 63)) (some ⟨W.heap.size, 0, none⟩) [.int .i64 xv.slot, .int .u64 (xv.bal : Int), .string (bstr xv.val)]) := Rd.of_cells (Bk.new W 63 #[.int .i64 xv.slot, .int .u64 (xv.bal : Int), .string (bstr xv.val)])
    gi_wp2_with (first | (gi_at_builtin; go_loud (refine wpListIn_appW rfl _ _ 55 rfl w3.heap.size 63 i0 (.agg #[.int .i64 0, .int .u64 0, .string { data := #[] }] : Value) 3 32 Try.underlying55 hi hz0 hz1 hz2 rfl (by decide) (.slice Av k cv) k (valsT pre) rfl HOV2.out (some ⟨W.heap.size, 0, none⟩) 1 1 [.int .i64 xv.slot, .int .u64 (xv.bal : Int), .string (bstr xv.val)] rfl rfl HSRC.out (by intro y hy; simp only [List.mem_cons, List.not_mem_nil, or_false] at hy; rcases hy with rfl | rfl | rfl <;> rfl) (fun h => by cases h) (by unfold maxLen; have := HLK.out; omega) (by have := HLK.out; omega) (by have := HWS.out; rw [World.size_alloc]; omega) ?_); intro v2 W2 ho2 hg2 hb2; obtain ⟨A2, c2, rfl, _, _⟩ := own_form ho2; have hbx2 := Lib.hid ((HBX.out.alloc (.cells #[.int .i64 xv.slot, .int .u64 (xv.bal : Int), .string (bstr xv.val)] 63)).fr (Fr.ofGrown hg2) (fun e => own_apart HOV2.out (HBX.out.alloc (.cells #[.int .i64 xv.slot, .int .u64 (xv.bal : Int), .string (bstr xv.val)] 63)) (by decide) e.symm)); have hld := hbx2.out.cell 0; have hfz2 := hbx2.out.free 0; have HO2 := Lib.hid ho2; have HG2 := Lib.hid hg2; clear ho2 hg2 hb2) | gi_in)
    have HNX := Lib.hid (GatV.next HI.out HBX.out (n := pre.length) (HKM.out ▸ HOV2.out) [.int .i64 xv.slot, .int .u64 (xv.bal : Int), .string (bstr xv.val)] (HKM.out ▸ HO2.out) HG2.out (by decide) (K := fun b => O b ∨ b = gm + 1 ∨ b = gm + 2) (fun b hb => by
      rcases hb with hb | hb
      · exact .inl (HOL.out b hb)
      · exact .inr hb))
    rw [show k = pre.length from HKM.out]
    refine ⟨HNX.out.1.from _, HNX.out.2.1, ?_⟩
    show GatV _ _ _ _ _ _ _ (valsT (pre ++ [(xk, xv)])) _
    rw [valsT_snoc, List.length_append]
    exact HNX.out.2.2
  case done =>
    rintro D ys W hD rfl hI hK
    obtain ⟨v, hb, ho⟩ := hI.box
    have hc1 : W.cell? ⟨gm, 0, none⟩ = some v := hb.cell 0
    have HD := Lib.hid hD
    have HO := Lib.hid ho
    have HI := Lib.hid hI
    have HKD := Lib.hid hK
    obtain ⟨Av, cv, rfl, _, _⟩ := own_form ho
    clear hI hb ho hD hK
    obtain ⟨k, hk⟩ : ∃ k, k = (geL ltI fr xs).length := ⟨_, rfl⟩
    have HKN := Lib.hid hk
    rw [← hk] at hc1
    clear hk
    gi_wp2
    refine ⟨by simp, .inl ⟨_, _, rfl, run_takeDeferred HKD.out, ?_⟩⟩
    have hfe : Fr NoBlk w3 (W.putObj D (.deferred none)) := HI.out.fr.grown (grownBy_putObj' W D _) fun r e hl => by
      cases e
      have := HD.out
      have := HGE.out.2
      omega
    refine ⟨_, results_tmp2 rfl _ _ _, ?_⟩
    unfold PromPostT
    rw [if_neg HB.out]
    refine ⟨Av, cv, by rw [← HKN.out]; rfl, ?_, ⟨HG3.out.fr hfe fun e => e, HT3.out.nofr hfe, HVO.out.ge, HVO.out.ne, HVO.out.ok⟩, HF3.out.trans (hfe.mono fun _ _ e => e.elim)⟩
    have h := own_others HO.out (grownBy_putObj' W D (.deferred none)) (fun r e => by cases e; exact ⟨_, HKD.out, rfl⟩)
    rw [show w3.heap.size = w.heap.size from HZ3.out] at h
    exact h
  case stop =>
    rintro D c' pre W _ _ h _
    exact h.elim
end Go.Proofs.Ytlajhnplkfiiiaa
