/- The values of a tree, of several cells each, as a list of their own; what is gathered in a box by a loop over a function. Conditions: at most 100000 keys. -/
import Derived.RangeFuncNested
import Derived.Test.YteeeokofampdeaaN5U
import Derived.Test.YteeeokofampdeaaN7T
namespace Go.Proofs.Yteeeokofampdeaa
open Go.RowKit Go.Shelf
attribute [local go_sem] Oper.semAt_some
/-- a value's cells. -/
def valcU (x : ItU) : List Value := [.int .i64 x.2.slot, .int .u64 (x.2.bal : Int), .int .i64 x.2.val]
def valsU (xs : List ItU) : List Value := xs.flatMap valcU
theorem valsU_snoc (xs : List ItU) (x : ItU) : valsU (xs ++ [x]) = valsU xs ++ [.int .i64 x.2.slot, .int .u64 (x.2.bal : Int), .int .i64 x.2.val] := by
  unfold valsU
  rw [List.flatMap_append]
  simp [valcU]
theorem vinfoU : (Try.prog.info? 58).map (fun i => (i.zero, i.size, i.bytes)) = some (some (.agg #[.int .i64 0, .int .u64 0, .int .i64 0] : Value), 3, 24) := by kernel_rfl
set_option maxRecDepth 100000 in
set_option maxHeartbeats 1000000 in
theorem treeValuesU_any (w : World) (g : Nat) (O : Nat → Prop) (xs : List ItU) (h : TreeU w g O xs) (hlen : xs.length ≤ 100000) :
    Calls Try.prog 29 #[.pointer (some ⟨g, 0, none⟩)] w fun e w' => ∃ A c, e = .returned (.slice A xs.length c) ∧ w'.ownsRow w.heap.size 58 3 (.slice A xs.length c) xs.length (valsU xs) ∧ Fr NoBlk w w' := by
  obtain ⟨i0, hi, hz0, hz1, hz2⟩ := info_parts vinfoU
  obtain ⟨n, hn⟩ : ∃ n, n = xs.length := ⟨_, rfl⟩
  obtain ⟨w1, hmk, ho1, hg1⟩ := run_make_own (P := Try.prog) w w.heap.size 53 58 i0 (.agg #[.int .i64 0, .int .u64 0, .int .i64 0] : Value) 3 Try.underlying53 hi hz0 hz1 .i64 .i64 n (by rw [hz2]; omega) (by unfold maxLen; omega) (Nat.le_refl _)
  have hf1 : Fr NoBlk w w1 := (Fr.ofGrown hg1).mono fun _ _ e => by cases e
  have c1 : w.cell? ⟨g, 1, none⟩ = some (.int .i64 n) := by
    obtain ⟨d, t, h1, _⟩ := h
    rw [hn]
    exact h1.cell 1
  have HT := Lib.hid h
  have HN := Lib.hid hn
  have HLEN := Lib.hid hlen
  have HO1 := Lib.hid ho1
  have HF1 := Lib.hid hf1
  clear h hn hlen ho1 hg1 hf1
  refine (callsIn_wide (n := 9)).1 ?_
  refine callsIn_of_wp_marks Try.func29 rfl trivial ?_ rfl
  simp only [Try.ntmps29, List.size_toArray, List.length_cons, List.length_nil, Nat.reduceAdd, Nat.reduceSub, Array.replicate_succ, Array.replicate_zero, List.push_toArray, List.append_toArray, List.nil_append, List.cons_append]
  gi_wp2
  refine ⟨trivial, (callsIn_wide.2 (treeAllU_any _ g)).mono ?_⟩
  rintro e w5 ⟨rfl, hw5⟩
  obtain ⟨gm, hgm⟩ : ∃ gm, gm = w1.heap.size := ⟨_, rfl⟩
  have hsz4 : (w1.alloc (.cells #[.slice (some ⟨w.heap.size, 0, none⟩) 0 n] 53)).heap.size = gm + 1 := by rw [World.size_alloc, hgm]
  rw [hsz4]
  have hb50 : Bk w5 gm 53 #[.slice (some ⟨w.heap.size, 0, none⟩) 0 n] := by rw [hw5, hgm]; exact (Bk.new _ _ _).alloc _
  have hb51 : Bk w5 (gm + 1) 73 #[.pointer (some ⟨g, 0, none⟩)] := by rw [hw5, ← hsz4]; exact Bk.new _ _ _
  have hf15 : Fr NoBlk w1 w5 := by rw [hw5]; exact ((Fr.refl NoBlk w1).alloc _).alloc _
  have hf5 : Fr NoBlk w w5 := HF1.out.trans hf15
  have HGE : Hid (w.heap.size ≤ gm ∧ w.heap.size ≤ w5.heap.size) := ⟨by rw [hgm]; exact HF1.out.size, hf5.size⟩
  have HI0 : Hid (GatV w 53 58 gm (fun b => b = gm + 1) 3 0 [] w5) := ⟨⟨_, hb50, own_fr HO1.out hf15 fun _ _ e => e⟩, fun b e => (by subst e; exact ⟨_, _, hb51, by decide, by decide⟩), hf5, HGE.out.1⟩
  have HOL : Hid (∀ b, O b → b < w.heap.size) := fun b hb => HT.out.lt hb
  have HST := Lib.hid (allU_stops 8 (gm + 1) (fun b => O b ∨ b = gm + 1) w5 g O xs (HT.out.nofr hf5) (fun _ => Iff.rfl) hb51.lt (hb51.cell 0))
  have hKK : ∀ k, (O k ∨ k = gm + 1) → k < w5.heap.size := fun k hk => by
    rcases hk with hk | rfl
    · have := HOL.out k hk
      have := HGE.out.2
      omega
    · exact hb51.lt
  rw [← hgm]
  clear hb50 hb51 hf15 hf5 hgm hsz4 hw5 c1 hmk
  gi_wp2
  refine wpIn_rangeFunc_ownH rfl (by omega) (gf := 56) (lb := #[.pointer (some ⟨gm + 1, 0, none⟩)]) rfl trivial (enters_of Try.func56 (by kernel_rfl) rfl)
    HST.out (fun h k => h.t k) (Keep.b hKK) (Below.refl _ _) (fun _ => rfl)
    (fun (pre : List ItU) W => GatV w 53 58 gm (fun b => b = gm + 1) 3 pre.length (valsU pre) W)
    (fun _ _ _ => False)
    (fun s W W' row hs hg hr => hs.others hg fun r e => ⟨by have := (hr r e).1; have := HGE.out.2; omega, (hr r e).2⟩)
    (fun _ _ _ _ _ hs _ _ => hs)
    HI0.out
    (fun x a' W => ∃ q, w.heap.size ≤ q ∧ Bk W q 58 #[.int .i64 x.2.slot, .int .u64 (x.2.bal : Int), .int .i64 x.2.val] ∧ a' = { tmps := #[.pointer (some ⟨g, 0, none⟩), undef, .slice none 0 0, .pointer (some ⟨gm, 0, none⟩), undef, .pointer (some ⟨q, 0, none⟩), .pointer (some ⟨g, 0, none⟩), .pointer (some ⟨g, 0, none⟩), .pointer (some ⟨g, 1, none⟩), .int .i64 n, .slice (some ⟨w.heap.size, 0, none⟩) 0 n, .pointer (some ⟨g, 0, none⟩), .func (.func 56) #[] #[.pointer (some ⟨gm + 1, 0, none⟩)], .int .i64 x.1, .agg #[.int .i64 x.2.slot, .int .u64 (x.2.bal : Int), .int .i64 x.2.val], undef, undef, undef, undef, undef], defers := [] })
    (fun x a' _ W W' row hs hg hr => by obtain ⟨q, h1, h2, h3⟩ := hs; exact ⟨q, h1, h2.others hg fun r e => (hr r e).2, h3⟩) ?assign ?body ?done ?stop
  case assign =>
    intro l' pre x W K hI hK
    simp [encU]
    gi_wp2
    have hgr := World.grownBy_alloc W (.cells #[.int .i64 x.2.slot, .int .u64 (x.2.bal : Int), .int .i64 x.2.val] 58) none
    refine hK _ _ ((KeepsOthers.alloc W _).from _) (((Fr.refl NoBlk W).alloc _).keep fun k hk => ⟨?_, fun e => e⟩) (hI.others hgr fun r e => by cases e) ⟨W.heap.size, hI.fr.size, Bk.new _ _ _, rfl⟩
    rcases hk with hk | hk
    · exact Nat.lt_of_lt_of_le (HOL.out k hk) hI.fr.size
    · obtain ⟨X, u, h1, _⟩ := hI.ib k hk
      exact h1.lt
  case body =>
    rintro l' pre x a' W _ _ hI ⟨q, hql, hqb, rfl⟩ hlen
    have HI := Lib.hid hI
    obtain ⟨v, hbx, hov⟩ := hI.box
    obtain ⟨Av, cv, rfl, hcv, hAv⟩ := own_form hov
    have hc1 := hbx.cell 0
    obtain ⟨k, hk⟩ : ∃ k, k = pre.length := ⟨_, rfl⟩
    have hkp : k = pre.length := hk
    rw [← hk] at hc1 hov hcv
    have HBX : Hid (Bk W gm 53 #[.slice Av k cv]) := by show Bk _ _ _ _; rw [hk]; exact hbx
    have HOV := Lib.hid hov
    have HKM := Lib.hid hk
    have HLK : Hid (k < 100000) := by show k < 100000; have := HLEN.out; omega
    have HWS : Hid (w.heap.size ≤ W.heap.size) := hI.fr.size
    have HKK := Lib.hid hKK
    clear hI hbx hov hk hkp hKK hlen hcv hAv
    have hfz := HBX.out.free 0
    obtain ⟨xk, xv⟩ := x
    have HQB : Hid (Bk W q 58 #[.int .i64 xv.slot, .int .u64 (xv.bal : Int), .int .i64 xv.val]) := hqb
    have e0 : W.cell? ⟨q, 0, none⟩ = some (.int .i64 xv.slot) := HQB.out.cell 0
    have e1 : W.cell? ⟨q, 1, none⟩ = some (.int .u64 (xv.bal : Int)) := HQB.out.cell 1
    have e2 : W.cell? ⟨q, 2, none⟩ = some (.int .i64 xv.val) := HQB.out.cell 2
    clear hqb hql
    have HOV2 : Hid ((W.alloc (.cells #[.int .i64 xv.slot, .int .u64 (xv.bal : Int), .int .i64 xv.val] 58)).ownsRow w.heap.size 58 3 (.slice Av k cv) k (valsU pre)) := own_fr HOV.out ((Fr.refl NoBlk W).alloc _) fun _ _ h => h
    have HSRC : Hid (Rd (W.alloc (.cells #[.int .i64 xv.slot, .int .u64 (xv.bal : Int), .int .i64 xv.val] 58)) (some ⟨W.heap.size, 0, none⟩) [.int .i64 xv.slot, .int .u64 (xv.bal : Int), .int .i64 xv.val]) := Rd.of_cells (Bk.new W 58 #[.int .i64 xv.slot, .int .u64 (xv.bal : Int), .int .i64 xv.val])
    gi_wp2_with (first | (gi_at_builtin; go_loud (refine wpListIn_appW rfl _ _ 53 rfl w.heap.size 58 i0 (.agg #[.int .i64 0, .int .u64 0, .int .i64 0] : Value) 3 24 Try.underlying53 hi hz0 hz1 hz2 rfl (by decide) (.slice Av k cv) k (valsU pre) rfl HOV2.out (some ⟨W.heap.size, 0, none⟩) 1 1 [.int .i64 xv.slot, .int .u64 (xv.bal : Int), .int .i64 xv.val] rfl rfl HSRC.out (by intro y hy; simp only [List.mem_cons, List.not_mem_nil, or_false] at hy; rcases hy with rfl | rfl | rfl <;> rfl) (fun h => by cases h) (by unfold maxLen; have := HLK.out; omega) (by have := HLK.out; omega) (by have := HWS.out; rw [World.size_alloc]; omega) ?_); intro v2 W2 ho2 hg2 hb2; obtain ⟨A2, c2, rfl, _, _⟩ := own_form ho2; have hbx2 := Lib.hid ((HBX.out.alloc (.cells #[.int .i64 xv.slot, .int .u64 (xv.bal : Int), .int .i64 xv.val] 58)).fr (Fr.ofGrown hg2) (fun e => own_apart HOV2.out (HBX.out.alloc (.cells #[.int .i64 xv.slot, .int .u64 (xv.bal : Int), .int .i64 xv.val] 58)) (by decide) e.symm)); have hld := hbx2.out.cell 0; have hfz2 := hbx2.out.free 0; have HO2 := Lib.hid ho2; have HG2 := Lib.hid hg2; clear ho2 hg2 hb2) | gi_in)
    have HNX := Lib.hid (GatV.next HI.out HBX.out (n := pre.length) (HKM.out ▸ HOV2.out) [.int .i64 xv.slot, .int .u64 (xv.bal : Int), .int .i64 xv.val] (HKM.out ▸ HO2.out) HG2.out (by decide) (K := fun b => O b ∨ b = gm + 1) (fun b hb => by
      rcases hb with hb | hb
      · exact .inl (HOL.out b hb)
      · exact .inr hb))
    rw [show k = pre.length from HKM.out]
    refine ⟨HNX.out.1.from _, HNX.out.2.1, ?_⟩
    show GatV _ _ _ _ _ _ _ (valsU (pre ++ [(xk, xv)])) _
    rw [valsU_snoc, List.length_append]
    exact HNX.out.2.2
  case done =>
    rintro D ys W hD rfl hI hK
    obtain ⟨v, hb, ho⟩ := hI.box
    have hc1 : W.cell? ⟨gm, 0, none⟩ = some v := hb.cell 0
    have HD := Lib.hid hD
    have HO := Lib.hid ho
    have HI := Lib.hid hI
    have HKD := Lib.hid hK
    obtain ⟨Av, cv, rfl, _, _⟩ := own_form ho
    clear hI hb ho hD hK
    obtain ⟨k, hk⟩ : ∃ k, k = ys.length := ⟨_, rfl⟩
    have HKN := Lib.hid hk
    rw [← hk] at hc1
    clear hk
    gi_wp2
    refine ⟨by simp, .inl ⟨_, _, rfl, run_takeDeferred HKD.out, ?_⟩⟩
    refine ⟨_, results_tmp rfl _ _ _, Av, cv, by rw [← HKN.out]; rfl, ?_, HI.out.fr.grown (grownBy_putObj' W D _) fun r e hl => ?_⟩
    · have h := own_others HO.out (grownBy_putObj' W D (.deferred none)) (fun r e => by cases e; exact ⟨_, HKD.out, rfl⟩)
      exact h
    · cases e
      have := HD.out
      have := HGE.out.2
      omega
  case stop =>
    rintro D c' pre W _ _ h _
    exact h.elim
end Go.Proofs.Yteeeokofampdeaa
