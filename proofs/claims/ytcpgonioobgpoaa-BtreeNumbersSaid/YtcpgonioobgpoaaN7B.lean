/- The keys of a tree, and its values, as lists of their own. Conditions: at most 100000 keys. -/
import Derived.Test.YtcpgonioobgpoaaN5B
import Derived.Test.YtcpgonioobgpoaaN7S
namespace Go.Proofs.Ytcpgonioobgpoaa
open Go.RowKit Go.Shelf
attribute [local go_sem] Oper.semAt_some
def keycB (x : ItB) : Value := .int .i64 x.1
def valcB (x : ItB) : Value := .bool x.2
theorem kinfoB : (Try.prog.info? 3).map (fun i => (i.zero, i.size, i.bytes)) = some (some (Value.int .i64 0), 1, 8) := by kernel_rfl
set_option maxRecDepth 100000 in
set_option maxHeartbeats 1000000 in
theorem treeKeysB_any (w : World) (g : Nat) (O : Nat → Prop) (xs : List ItB) (h : TreeB w g O xs) (hlen : xs.length ≤ 100000) :
    Calls Try.prog 28 #[.pointer (some ⟨g, 0, none⟩)] w fun e w' => ∃ A c, e = .returned (.slice A xs.length c) ∧ w'.ownsRow w.heap.size 3 1 (.slice A xs.length c) xs.length (xs.map keycB) ∧ Fr NoBlk w w' := by
  obtain ⟨i0, hi, hz0, hz1, hz2⟩ := info_parts kinfoB
  obtain ⟨n, hn⟩ : ∃ n, n = xs.length := ⟨_, rfl⟩
  obtain ⟨w1, hmk, ho1, hg1⟩ := run_make_own (P := Try.prog) w w.heap.size 47 3 i0 (Value.int .i64 0) 1 Try.underlying47 hi hz0 hz1 .i64 .i64 n (by rw [hz2]; omega) (by unfold maxLen; omega) (Nat.le_refl _)
  have hf1 : Fr NoBlk w w1 := (Fr.ofGrown hg1).mono fun _ _ e => by cases e
  have c1 : w.cell? ⟨g, 1, none⟩ = some (.int .i64 n) := by
    obtain ⟨d, t, h1, _⟩ := h
    rw [hn]
    exact h1.cell 1
  have HT := Lib.hid h
  have HN := Lib.hid hn
  have HLEN := Lib.hid hlen
  have HO1 := Lib.hid ho1
  have HF1 := Lib.hid hf1
  clear h hn hlen ho1 hg1 hf1
  refine (callsIn_wide (n := 9)).1 ?_
  refine callsIn_of_wp_marks Try.func28 rfl trivial ?_ rfl
  simp only [Try.ntmps28, List.size_toArray, List.length_cons, List.length_nil, Nat.reduceAdd, Nat.reduceSub, Array.replicate_succ, Array.replicate_zero, List.push_toArray, List.append_toArray, List.nil_append, List.cons_append]
  gi_wp2
  refine ⟨trivial, (callsIn_wide.2 (treeAllB_any _ g)).mono ?_⟩
  rintro e w5 ⟨rfl, hw5⟩
  obtain ⟨gm, hgm⟩ : ∃ gm, gm = w1.heap.size := ⟨_, rfl⟩
  have hsz4 : (w1.alloc (.cells #[.slice (some ⟨w.heap.size, 0, none⟩) 0 n] 47)).heap.size = gm + 1 := by rw [World.size_alloc, hgm]
  rw [hsz4]
  have hb50 : Bk w5 gm 47 #[.slice (some ⟨w.heap.size, 0, none⟩) 0 n] := by rw [hw5, hgm]; exact (Bk.new _ _ _).alloc _
  have hb51 : Bk w5 (gm + 1) 50 #[.pointer (some ⟨g, 0, none⟩)] := by rw [hw5, ← hsz4]; exact Bk.new _ _ _
  have hf15 : Fr NoBlk w1 w5 := by rw [hw5]; exact ((Fr.refl NoBlk w1).alloc _).alloc _
  have hf5 : Fr NoBlk w w5 := HF1.out.trans hf15
  have HGE : Hid (w.heap.size ≤ gm ∧ w.heap.size ≤ w5.heap.size) := ⟨by rw [hgm]; exact HF1.out.size, hf5.size⟩
  have HI0 : Hid (GatAt w 47 3 50 gm (gm + 1) (.pointer (some ⟨g, 0, none⟩)) [] w5) := ⟨⟨_, hb50, own_fr HO1.out hf15 fun _ _ e => e⟩, hb51, hf5, HGE.out.1⟩
  have HOL : Hid (∀ b, O b → b < w.heap.size) := fun b hb => HT.out.lt hb
  have HST := Lib.hid (allB_stops 8 (gm + 1) (fun b => O b ∨ b = gm + 1) w5 g O xs (HT.out.nofr hf5) (fun _ => Iff.rfl) hb51.lt (hb51.cell 0))
  have hKK : ∀ k, (O k ∨ k = gm + 1) → k < w5.heap.size := fun k hk => by
    rcases hk with hk | rfl
    · have := HOL.out k hk
      have := HGE.out.2
      omega
    · exact hb51.lt
  rw [← hgm]
  clear hb50 hb51 hf15 hf5 hgm hsz4 hw5 c1 hmk
  gi_wp2
  refine wpIn_rangeFunc_ownF rfl (by omega) (gf := 74) (lb := #[.pointer (some ⟨gm + 1, 0, none⟩)]) rfl trivial (enters_of Try.func74 (by kernel_rfl) rfl)
    HST.out (fun h k => h.t k) (Keep.b hKK) (Below.refl _ _) (fun _ => rfl)
    (fun (pre : List ItB) W => GatAt w 47 3 50 gm (gm + 1) (.pointer (some ⟨g, 0, none⟩)) (pre.map keycB) W)
    (fun _ _ _ => False)
    (fun s W W' row hs hg hr => hs.others hg fun r e => ⟨by have := (hr r e).1; have := HGE.out.2; omega, (hr r e).2⟩)
    (fun _ _ _ _ _ hs _ _ => hs)
    HI0.out
    (fun x => { tmps := #[.pointer (some ⟨g, 0, none⟩), undef, .slice none 0 0, .pointer (some ⟨gm, 0, none⟩), .int .i64 x.1, .pointer (some ⟨g, 0, none⟩), .pointer (some ⟨g, 0, none⟩), .pointer (some ⟨g, 1, none⟩), .int .i64 n, .slice (some ⟨w.heap.size, 0, none⟩) 0 n, .pointer (some ⟨g, 0, none⟩), .func (.func 74) #[] #[.pointer (some ⟨gm + 1, 0, none⟩)], .int .i64 x.1, .bool x.2, undef, undef, undef, undef, undef], defers := [] }) ?assign ?body ?done ?stop
  case assign =>
    intro l' x W K hK
    simp [encB]
    gi_wp2
    exact hK
  case body =>
    rintro l' pre x W hI hlen
    have HI := Lib.hid hI
    obtain ⟨v, hbx, hov⟩ := hI.box
    obtain ⟨Av, cv, rfl, hcv, hAv⟩ := own_form hov
    have hc1 := hbx.cell 0
    obtain ⟨k, hk⟩ : ∃ k, k = (pre.map keycB).length := ⟨_, rfl⟩
    have hkp : k = pre.length := by rw [hk, List.length_map]
    rw [← hk] at hc1 hov hcv
    have HBX : Hid (Bk W gm 47 #[.slice Av k cv]) := by show Bk _ _ _ _; rw [hk]; exact hbx
    have HOV := Lib.hid hov
    have HKM := Lib.hid hk
    have HLK : Hid (k < 100000) := by show k < 100000; have := HLEN.out; omega
    have HWS : Hid (w.heap.size ≤ W.heap.size) := hI.fr.size
    have HKK := Lib.hid hKK
    clear hI hbx hov hk hkp hKK hlen hcv hAv
    have hfz := HBX.out.free 0
    obtain ⟨xk, xv⟩ := x
    have HOV2 : Hid ((W.alloc (.cells #[.int .i64 xk] 3)).ownsRow w.heap.size 3 1 (.slice Av k cv) k (pre.map keycB)) := own_fr HOV.out ((Fr.refl NoBlk W).alloc _) fun _ _ h => h
    have HSRC : Hid (Rd (W.alloc (.cells #[.int .i64 xk] 3)) (some ⟨W.heap.size, 0, none⟩) [.int .i64 xk]) := Rd.of_cells (Bk.new W 3 #[.int .i64 xk])
    gi_wp2_with (first | (gi_at_builtin; go_loud (refine wpListIn_app rfl _ _ 47 rfl w.heap.size 3 i0 (Value.int .i64 0) 8 Try.underlying47 hi hz0 hz1 hz2 rfl (.slice Av k cv) k (pre.map keycB) rfl HOV2.out (some ⟨W.heap.size, 0, none⟩) 1 1 [.int .i64 xk] rfl rfl HSRC.out (by intro y hy; rw [List.mem_singleton] at hy; rw [hy]; rfl) (fun h => by cases h) (by unfold maxLen; have := HLK.out; omega) (by have := HLK.out; omega) (by have := HWS.out; rw [World.size_alloc]; omega) ?_); intro v2 W2 ho2 hg2 hn2 hb2; obtain ⟨A2, c2, rfl, _, _⟩ := own_form ho2; have hbx2 := Lib.hid ((HBX.out.alloc (.cells #[.int .i64 xk] 3)).fr (Fr.ofGrown hg2) (fun e => own_apart HOV2.out (HBX.out.alloc (.cells #[.int .i64 xk] 3)) (by decide) e.symm)); have hld := hbx2.out.cell 0; have hfz2 := hbx2.out.free 0; have HO2 := Lib.hid ho2; have HG2 := Lib.hid hg2; clear ho2 hg2 hn2 hb2) | gi_in)
    have HNX := Lib.hid (GatAt.next HI.out HBX.out (by rw [HKM.out] : k = (pre.map keycB).length) HOV2.out (.int .i64 xk) HO2.out HG2.out (by decide) (by decide) (by decide) (K := fun b => O b ∨ b = gm + 1) (fun b hb => by
      rcases hb with hb | hb
      · exact .inl (HOL.out b hb)
      · exact .inr hb))
    refine ⟨HNX.out.1, HNX.out.2.1, ?_⟩
    show GatAt _ _ _ _ _ _ _ ((pre ++ [(xk, xv)]).map _) _
    rw [List.map_append, List.map_singleton]
    exact HNX.out.2.2
  case done =>
    rintro D ys W hD rfl hI hK
    obtain ⟨v, hb, ho⟩ := hI.box
    have hc1 : W.cell? ⟨gm, 0, none⟩ = some v := hb.cell 0
    have HD := Lib.hid hD
    have HO := Lib.hid ho
    have HI := Lib.hid hI
    have HKD := Lib.hid hK
    obtain ⟨Av, cv, rfl, _, _⟩ := own_form ho
    clear hI hb ho hD hK
    obtain ⟨k, hk⟩ : ∃ k, k = (ys.map keycB).length := ⟨_, rfl⟩
    have HKN := Lib.hid hk
    have HKL : Hid (k = ys.length) := by show _ = _; rw [hk, List.length_map]
    rw [← hk] at hc1
    clear hk
    gi_wp2
    refine ⟨by simp, .inl ⟨_, _, rfl, run_takeDeferred HKD.out, ?_⟩⟩
    refine ⟨_, results_tmp rfl _ _ _, Av, cv, by rw [← HKL.out]; rfl, ?_, HI.out.fr.grown (grownBy_putObj' W D _) fun r e hl => ?_⟩
    · have h := own_others HO.out (grownBy_putObj' W D (.deferred none)) (fun r e => by cases e; exact ⟨_, HKD.out, rfl⟩)
      rw [← HKN.out, HKL.out] at h
      exact h
    · cases e
      have := HD.out
      have := HGE.out.2
      omega
  case stop =>
    rintro D c' pre W _ _ h _
    exact h.elim
end Go.Proofs.Ytcpgonioobgpoaa
