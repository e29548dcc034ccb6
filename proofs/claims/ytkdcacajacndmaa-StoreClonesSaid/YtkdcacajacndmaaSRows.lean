/- Rows. Conditions: at most 100000 rows; values of at most 10^9 bytes. -/
import Derived.Test.YtkdcacajacndmaaGa
namespace Go.Proofs.Ytkdcacajacndmaa
open Go.RowKit Go.Shelf Go.Maps
attribute [local go_sem] Oper.semAt_some
set_option maxRecDepth 100000 in
theorem lenR_any (w : World) (g : Nat) (O : Nat → Prop) (xs : List ItR) (h : TreeR w g O xs) : Calls Try.prog 39 #[.pointer (some ⟨g, 0, none⟩)] w fun e w' => e = .returned (.int .i64 xs.length) ∧ w = w' := by
  obtain ⟨d, t, h1, _⟩ := h
  have c1 : w.cell? ⟨g, 1, none⟩ = some (.int .i64 xs.length) := h1.cell 1
  obtain ⟨n, hn⟩ : ∃ n, n = xs.length := ⟨_, rfl⟩
  rw [← hn] at c1
  have HN := Lib.hid hn
  clear h1 hn
  go_enter Try.func39, Try.ntmps39
  go_wp2_with fail
  go_ret
  exact ⟨by rw [HN.out]; rfl, rfl⟩
/-- the elements told are the rows. -/
theorem els_of {zs : List Zr} (hu : UpI Op.bytesLess (vz zs)) {ys : List (El zs)} (h : ys.map (fun z => toIt z.1) = vz zs) : ys.map (fun z : El zs => (z.1.1, z.1.2.2)) = rz zs := by
  have hl : ys.length = zs.length := by have := congrArg List.length h; rw [List.length_map, vz_len] at this; exact this
  refine List.ext_getElem? fun i => ?_
  unfold rz
  rw [List.getElem?_map, List.getElem?_map]
  rcases Nat.lt_or_ge i ys.length with hi | hi
  · have h1 : (ys.map fun z => toIt z.1)[i]? = (vz zs)[i]? := by rw [h]
    unfold vz at h1 hu
    rw [List.getElem?_map, List.getElem?_map, List.getElem?_eq_getElem hi, List.getElem?_eq_getElem (by omega)] at h1
    rw [List.getElem?_eq_getElem hi, List.getElem?_eq_getElem (by omega)]
    simp only [Option.map_some, Option.some.injEq] at h1 ⊢
    have hm := ys[i].2
    have h2 : zs[i]'(by omega) ∈ zs := List.getElem_mem _
    have hk : ys[i].1.1 = (zs[i]'(by omega)).1 := congrArg (fun p : ItR => p.1) h1
    have hu2 : UpI Op.bytesLess zs := by
      unfold UpI at hu ⊢
      rw [List.pairwise_map] at hu
      exact hu
    have h3 : ys[i].1 = zs[i]'(by omega) := by
      obtain ⟨a, b, hq⟩ : ∃ a b, ys[i].1 = (a, b) := ⟨_, _, rfl⟩
      obtain ⟨c, d, hq2⟩ : ∃ c d, zs[i]'(by omega) = (c, d) := ⟨_, _, rfl⟩
      rw [hq, hq2] at hk
      rw [hq] at hm
      rw [hq2] at h2
      have hk' : a = c := hk
      subst hk'
      have e := hu2.one linS hm h2
      rw [e] at hq
      exact hq.trans hq2.symm
    rw [h3]
  · rw [List.getElem?_eq_none hi, List.getElem?_eq_none (by omega)]
    rfl
def RowsPost (w : World) (rs : List Rw) (e : Ending) (w' : World) : Prop :=
  ∃ A c ys, e = .returned (.slice A rs.length c) ∧ w'.ownsRow w.heap.size 61 5 (.slice A rs.length c) rs.length (itsR ys) ∧ RowsOf w' w.heap.size ys rs ∧ Fr NoBlk w w'
set_option maxRecDepth 100000 in
set_option maxHeartbeats 2000000 in
theorem srows_any [Ex] (w : World) (g : Nat) (O : Nat → Prop) (n : Nat) (rs : List Rw) (h : Store w g O n rs) (hlen : rs.length ≤ 100000) (hv : ∀ x ∈ rs, x.2.val.length ≤ 1000000000) :
    Calls Try.prog 18 #[.pointer (some ⟨g, 0, none⟩)] w (RowsPost w rs) := by
  obtain ⟨gt, OT, zs, hs, rfl⟩ := h
  obtain ⟨i0, hi, hz0, hz1, hz2⟩ := info_parts rowInfo
  obtain ⟨k, hk⟩ : ∃ k, k = (vz zs).length := ⟨_, rfl⟩
  have hk2 : k = zs.length := by rw [hk, vz_len]
  have hkb : k ≤ 100000 := by rw [hk2, ← rz_len]; exact hlen
  obtain ⟨w1, hmk, ho1, hg1⟩ := run_make_own (P := Try.prog) w w.heap.size 40 61 i0 _ 5 Try.underlying40 hi hz0 hz1 .i64 .i64 k (by rw [hz2]; omega) (by unfold maxLen; omega) (Nat.le_refl _)
  have hf1 : Fr NoBlk w w1 := (Fr.ofGrown hg1).mono fun _ _ e => by cases e
  have c1 : w.cell? ⟨g, 1, none⟩ = some (.pointer (some ⟨gt, 0, none⟩)) := hs.bk.cell 1
  have HLN := Lib.hid (lenR_any w gt OT (vz zs) hs.tr)
  rw [← hk] at HLN
  have HS := Lib.hid hs
  have HK : Hid (k = (vz zs).length ∧ k = zs.length ∧ k ≤ 100000) := ⟨hk, hk2, hkb⟩
  have HV := Lib.hid hv
  have HO1 := Lib.hid ho1
  have HF1 := Lib.hid hf1
  clear hs hlen hv hk hk2 hkb ho1 hg1 hf1
  refine (callsIn_wide (n := 9)).1 ?_
  refine callsIn_of_wp_marks Try.func18 rfl trivial ?_ rfl
  simp only [Try.ntmps18, List.size_toArray, List.length_cons, List.length_nil, Nat.reduceAdd, Nat.reduceSub, Array.replicate_succ, Array.replicate_zero, List.push_toArray, List.append_toArray, List.nil_append, List.cons_append]
  gi_wp2
  refine ⟨trivial, (callsIn_wide.2 HLN.out).mono ?_⟩
  rintro e w0 ⟨rfl, rfl⟩
  clear HLN
  obtain ⟨gd, hgd⟩ : ∃ gd, gd = w1.heap.size := ⟨_, rfl⟩
  obtain ⟨w4, hw4⟩ : ∃ W, W = w1.alloc (.cells #[.slice (some ⟨w.heap.size, 0, none⟩) 0 k] 40) := ⟨_, rfl⟩
  have hb4 : Bk w4 gd 40 #[.slice (some ⟨w.heap.size, 0, none⟩) 0 k] := by rw [hw4, hgd]; exact Bk.new _ _ _
  have hf4 : Fr NoBlk w1 w4 := by rw [hw4]; exact (Fr.refl _ _).alloc _
  have c1a : w4.cell? ⟨g, 1, none⟩ = some (.pointer (some ⟨gt, 0, none⟩)) := (HS.out.bk.fr (HF1.out.trans hf4) fun e => e).cell 1
  have hsz4 : w4.heap.size = gd + 1 := by rw [hw4, World.size_alloc, hgd]
  have HW4 := Lib.hid hw4
  have HG := Lib.hid (And.intro hgd (And.intro hb4 (And.intro hf4 hsz4)))
  rw [hw4] at c1a
  clear hgd hb4 hf4 hsz4 hw4
  gi_wp2
  rw [← HW4.out, ← HG.out.1]
  refine ⟨trivial, (callsIn_wide.2 (treeAllR_any _ gt)).mono ?_⟩
  rintro e w5 ⟨rfl, hw5⟩
  rw [HG.out.2.2.2]
  have hb50 : Bk w5 gd 40 #[.slice (some ⟨w.heap.size, 0, none⟩) 0 k] := by rw [hw5]; exact HG.out.2.1.alloc _
  have hb51 : Bk w5 (gd + 1) 65 #[.pointer (some ⟨gt, 0, none⟩)] := by rw [hw5, ← HG.out.2.2.2]; exact Bk.new _ _ _
  have hf45 : Fr NoBlk w1 w5 := by rw [hw5]; exact HG.out.2.2.1.alloc _
  have hf5 : Fr NoBlk w w5 := HF1.out.trans hf45
  have HGE : Hid (w.heap.size ≤ gd ∧ w5.heap.size = gd + 2) := ⟨by rw [HG.out.1]; exact HF1.out.size, by rw [hw5, World.size_alloc, HG.out.2.2.2]⟩
  have HI0 : Hid (GatZ w gd [] w5) := ⟨⟨_, [], hb50, own_fr HO1.out hf45 fun _ _ e => e, ⟨rfl, fun j y z h => by cases h⟩⟩, hf5, HGE.out.1⟩
  have HOL : Hid (∀ b, OT b → b < w.heap.size) := fun b hb => HS.out.tr.lt hb
  have HST := Lib.hid (allZ_stops 8 (gd + 1) (fun b => OT b ∨ b = gd + 1) w5 gt OT (vz zs) zs rfl (HS.out.tr.fr hf5 fun _ _ e => e) (fun _ => Iff.rfl) hb51.lt (hb51.cell 0))
  have hKK : ∀ j, (OT j ∨ j = gd + 1) → j < w5.heap.size := fun j hj => by
    rcases hj with hj | rfl
    · have := HOL.out j hj
      have := HGE.out
      omega
    · exact hb51.lt
  have HB51 := Lib.hid (And.intro hb51 hf5)
  clear hb50 hb51 hf45 hf5 hw5 c1 c1a
  gi_wp2
  refine wpIn_rangeFunc_ownH rfl (by omega) (gf := 60) (lb := #[.pointer (some ⟨gd + 1, 0, none⟩)]) rfl trivial (enters_of Try.func60 (by kernel_rfl) rfl)
    HST.out (fun h k => h.t k) (Keep.b hKK) (Below.refl _ _) (fun _ => rfl)
    (fun (pre : List (El zs)) W => GatZ w gd (pre.map fun (z : El zs) => (z.1.1, z.1.2.2)) W ∧ Bk W (gd + 1) 65 #[.pointer (some ⟨gt, 0, none⟩)])
    (fun _ _ _ => False)
    (fun s W W' row hs hg hr => ⟨hs.1.others hg fun r e => ⟨by have := (hr r e).1; have := HGE.out; omega, (hr r e).2⟩, hs.2.others hg fun r e => (hr r e).2⟩)
    (fun _ _ _ _ _ hs _ _ => hs)
    ⟨HI0.out, HB51.out.1⟩
    (fun x a' W => ∃ q, w.heap.size ≤ q ∧ Bk W q 38 #[.bool x.1.2.1.has, .slice x.1.2.1.va x.1.2.1.vn x.1.2.1.vc, .int .i64 x.1.2.1.home, .int .u64 (x.1.2.1.count : Int)] ∧ a' = { tmps := #[.pointer (some ⟨g, 0, none⟩), undef, .slice none 0 0, .pointer (some ⟨gd, 0, none⟩), .string (bstr x.1.1), .pointer (some ⟨q, 0, none⟩), .pointer (some ⟨g, 0, none⟩), .pointer (some ⟨g, 0, none⟩), .pointer (some ⟨g, 1, none⟩), .pointer (some ⟨gt, 0, none⟩), .int .i64 k, .slice (some ⟨w.heap.size, 0, none⟩) 0 k, .pointer (some ⟨g, 0, none⟩), .pointer (some ⟨g, 0, none⟩), .pointer (some ⟨g, 1, none⟩), .pointer (some ⟨gt, 0, none⟩), .func (.func 60) #[] #[.pointer (some ⟨gd + 1, 0, none⟩)], .string (bstr x.1.1), .agg #[.bool x.1.2.1.has, .slice x.1.2.1.va x.1.2.1.vn x.1.2.1.vc, .int .i64 x.1.2.1.home, .int .u64 (x.1.2.1.count : Int)], undef, undef, undef, undef, undef, undef, undef, undef], defers := [] })
    (fun x a' _ W W' row hs hg hr => by obtain ⟨q, h1, h2, h3⟩ := hs; exact ⟨q, h1, h2.others hg fun r e => (hr r e).2, h3⟩) ?assign ?body ?done ?stop
  case assign =>
    intro l' pre x W K hI hK
    simp [encR, toIt]
    gi_wp2
    have hgr := World.grownBy_alloc W (.cells #[.bool x.1.2.1.has, .slice x.1.2.1.va x.1.2.1.vn x.1.2.1.vc, .int .i64 x.1.2.1.home, .int .u64 (x.1.2.1.count : Int)] 38) none
    refine hK _ _ ((KeepsOthers.alloc W _).from _) (((Fr.refl NoBlk W).alloc _).keep fun k hk => ⟨?_, fun e => e⟩) ⟨hI.1.others hgr (fun r e => (by cases e)), hI.2.alloc _⟩ ⟨W.heap.size, hI.1.fr.size, Bk.new _ _ _, rfl⟩
    rcases hk with hk | rfl
    · exact Nat.lt_of_lt_of_le (HOL.out k hk) hI.1.fr.size
    · exact hI.2.lt
  case body =>
    rintro l' pre x a' W hll hlo hI ⟨q, hql, hqb, rfl⟩ hlen
    have hgz := hI.1
    obtain ⟨v, ys, hbx, hov, hys⟩ := hgz.box
    obtain ⟨Av, cv, rfl, hcv, hAv⟩ := own_form hov
    obtain ⟨m, hm⟩ : ∃ m, m = (pre.map fun (z : El zs) => (z.1.1, z.1.2.2)).length := ⟨_, rfl⟩
    have hmk : m < 100000 := by rw [hm, List.length_map]; have := HK.out; omega
    rw [← hm] at hbx hov
    have hrd := (HS.out.rd x.1 x.2).fr hgz.fr fun _ _ e => e
    have hvl : x.1.2.2.val.length ≤ 1000000000 := HV.out (x.1.1, x.1.2.2) (List.mem_map.2 ⟨x.1, x.2, rfl⟩)
    obtain ⟨Wd, hWd⟩ : ∃ Wd, Wd = W.drew := ⟨_, rfl⟩
    have hfd : Fr NoBlk W Wd := by rw [hWd]; exact (Fr.refl _ _).drew
    have HCPD : Hid (∀ V, Fr NoBlk Wd V → Calls Try.prog 37 #[.agg #[.bool x.1.2.1.has, .slice x.1.2.1.va x.1.2.1.vn x.1.2.1.vc, .int .i64 x.1.2.1.home, .int .u64 (x.1.2.1.count : Int)]] V (GetPost V x.1.2.2)) := fun V hV => copied_any V x.1.2.1 x.1.2.2 (hrd.nofr (hfd.trans hV)) hvl
    obtain ⟨KK, hKKd⟩ : ∃ KK : Nat → Prop, KK = fun b => OT b ∨ b = gd + 1 := ⟨_, rfl⟩
    have HKW : Hid (∀ b, KK b → b < W.heap.size ∧ b ≠ gd ∧ (w.heap.size ≤ b → ∃ T cs, Bk W b T cs ∧ T ≠ 61)) := fun b hb => by
      rw [hKKd] at hb
      rcases hb with hb | rfl
      · have h1 := HOL.out b hb
        have h2 := hgz.fr.size
        have h3 := hgz.ge
        exact ⟨by omega, by omega, fun e => by omega⟩
      · exact ⟨hI.2.lt, by omega, fun _ => ⟨_, _, hI.2, by decide⟩⟩
    have HKD := Lib.hid hKKd
    have HGZ := Lib.hid hgz
    have HBT := Lib.hid hI.2
    have HBX0 := Lib.hid hbx
    have HBXd := Lib.hid (hbx.fr hfd fun e => e)
    have HOVd : Hid (Wd.ownsRow w.heap.size 61 5 (.slice Av m cv) m (itsR ys)) := own_fr hov hfd fun _ _ e => e
    have HYS := Lib.hid hys
    have HM := Lib.hid hm
    have HMK := Lib.hid hmk
    have HFD := Lib.hid hfd
    have HBQ : Hid (Bk Wd q 38 #[.bool x.1.2.1.has, .slice x.1.2.1.va x.1.2.1.vn x.1.2.1.vc, .int .i64 x.1.2.1.home, .int .u64 (x.1.2.1.count : Int)]) := hqb.fr hfd fun e => e
    have HBS : Hid (w.heap.size ≤ Wd.heap.size) := by show _ ≤ _; have := hfd.size; have := hgz.fr.size; omega
    clear hbx hov hys hm hmk hrd hvl hfd hI hqb hql hlen hcv hAv hgz hKKd hll hlo
    have hl0 : Wd.cell? ⟨gd, 0, none⟩ = some (.slice Av m cv) := HBXd.out.cell 0
    have d0 : Wd.cell? ⟨q, 0, none⟩ = some (.bool x.1.2.1.has) := HBQ.out.cell 0
    have d1 : Wd.cell? ⟨q, 1, none⟩ = some (.slice x.1.2.1.va x.1.2.1.vn x.1.2.1.vc) := HBQ.out.cell 1
    have d2 : Wd.cell? ⟨q, 2, none⟩ = some (.int .i64 x.1.2.1.home) := HBQ.out.cell 2
    have d3 : Wd.cell? ⟨q, 3, none⟩ = some (.int .u64 (x.1.2.1.count : Int)) := HBQ.out.cell 3
    gi_wp2
    refine wpIn_region_any (by first | assumption | kernel_rfl) ?_
    change wpAnyIn _ _ _ _ _ _ _ _ _ (World.drew _)
    rw [← hWd]
    clear hWd
    refine wpAnyIn_ready (rs := [0, 1, 2]) (by kernel_rfl) (by simp) ?_
    refine AllReadyIn.cons rfl (fun K hK => ?_) (AllReadyIn.cons rfl (fun K hK => ?_) (AllReadyIn.cons rfl (fun K hK => ?_) (AllReadyIn.nil)))
    · skip
      go_simp
      refine hK _ _ ?_
      clear hK K
      try simp only [Act.put, List.setIfInBounds_toArray, List.set_cons_zero, List.set_cons_succ]
      refine wpAnyIn_ready (rs := [1, 2]) (by kernel_rfl) (by simp) ?_
      refine AllReadyIn.cons rfl (fun K hK => ?_) (AllReadyIn.cons rfl (fun K hK => ?_) (AllReadyIn.nil))
      · skip
        go_simp
        refine hK _ _ ?_
        clear hK K
        try simp only [Act.put, List.setIfInBounds_toArray, List.set_cons_zero, List.set_cons_succ]
        refine wpAnyIn_ready (rs := [2]) (by kernel_rfl) (by simp) ?_
        refine AllReadyIn.cons rfl (fun K hK => ?_) (AllReadyIn.nil)
        go_simp
        refine hK _ _ ?_
        clear hK K
        try simp only [Act.put, List.setIfInBounds_toArray, List.set_cons_zero, List.set_cons_succ]
        refine wpAnyIn_ready (rs := [3]) (by kernel_rfl) (by simp) ?_
        refine AllReadyIn.cons rfl (fun K hK => ?_) (AllReadyIn.nil)
        go_simp
        refine ⟨trivial, ?_⟩
        refine (CallsIn.inRound l' (callsIn_wide.2 (HCPD.out _ (Fr.refl _ _)))).mono ?_
        rintro e W3 ⟨b, rfl, hcp, hfc⟩
        have HCP := Lib.hid hcp
        have HFC := Lib.hid hfc
        unfold vaR
        have hld3 : W3.cell? ⟨gd, 0, none⟩ = some (.slice Av m cv) := (HBXd.out.fr hfc fun h => h).cell 0
        clear hcp hfc
        refine hK _ _ ?_
        clear hK K
        try simp only [Act.put, List.setIfInBounds_toArray, List.set_cons_zero, List.set_cons_succ]
        refine wpAnyIn_ready (rs := [4]) (by kernel_rfl) (by simp) ?_
        refine AllReadyIn.cons rfl (fun K hK => ?_) (AllReadyIn.nil)
        go_simp
        refine hK _ _ ?_
        clear hK K
        try simp only [Act.put, List.setIfInBounds_toArray, List.set_cons_zero, List.set_cons_succ]
        refine wpAnyIn_ready (rs := [5]) (by kernel_rfl) (by simp) ?_
        refine AllReadyIn.cons rfl (fun K hK => ?_) (AllReadyIn.nil)
        have HO4 : Hid ((W3.alloc (.cells #[.string (bstr x.1.1), .bool b.has, .slice b.va b.vn b.vc, .int .i64 b.home, .int .u64 (b.count : Int)] 61)).ownsRow w.heap.size 61 5 (.slice Av m cv) m (itsR ys)) := own_fr (own_fr HOVd.out HFC.out fun _ _ h => h) ((Fr.refl NoBlk _).alloc _) fun _ _ h => h
        have HS4 : Hid (Rd (W3.alloc (.cells #[.string (bstr x.1.1), .bool b.has, .slice b.va b.vn b.vc, .int .i64 b.home, .int .u64 (b.count : Int)] 61)) (some ⟨W3.heap.size, 0, none⟩) [.string (bstr x.1.1), .bool b.has, .slice b.va b.vn b.vc, .int .i64 b.home, .int .u64 (b.count : Int)]) := Rd.of_cells (Bk.new W3 61 #[.string (bstr x.1.1), .bool b.has, .slice b.va b.vn b.vc, .int .i64 b.home, .int .u64 (b.count : Int)])
        have hld4 : (W3.alloc (.cells #[.string (bstr x.1.1), .bool b.has, .slice b.va b.vn b.vc, .int .i64 b.home, .int .u64 (b.count : Int)] 61)).cell? ⟨gd, 0, none⟩ = some (.slice Av m cv) := (((HBXd.out.fr HFC.out fun h => h)).alloc _).cell 0
        have HON : Hid (∀ u ∈ ([.string (bstr x.1.1), .bool b.has, .slice b.va b.vn b.vc, .int .i64 b.home, .int .u64 (b.count : Int)] : List Value), u.oneCell' = true) := by intro u hu; simp only [List.mem_cons, List.not_mem_nil, or_false] at hu; rcases hu with rfl | rfl | rfl | rfl | rfl <;> rfl
        have HSZ4 : Hid (w.heap.size ≤ (W3.alloc (.cells #[.string (bstr x.1.1), .bool b.has, .slice b.va b.vn b.vc, .int .i64 b.home, .int .u64 (b.count : Int)] 61)).heap.size) := by show _ ≤ _; have h1 := HFC.out.size; have h2 := HBS.out; rw [World.size_alloc]; omega
        go_simp
        refine hK _ _ ?_
        clear hK K
        try simp only [Act.put, List.setIfInBounds_toArray, List.set_cons_zero, List.set_cons_succ]
        refine wpAnyIn_ready (rs := [6]) (by kernel_rfl) (by simp) ?_
        refine AllReadyIn.cons rfl (fun K hK => ?_) (AllReadyIn.nil)
        refine step_appWIn rfl _ _ 40 rfl w.heap.size 61 i0 _ 5 64 Try.underlying40 hi hz0 hz1 hz2 rfl (by decide) (.slice Av m cv) m (itsR ys) rfl HO4.out (some ⟨W3.heap.size, 0, none⟩) 1 1 [.string (bstr x.1.1), .bool b.has, .slice b.va b.vn b.vc, .int .i64 b.home, .int .u64 (b.count : Int)] rfl rfl HS4.out HON.out (fun h => by cases h) (by unfold maxLen; have := HMK.out; omega) (by have := HMK.out; omega) HSZ4.out ?_
        intro v2 W5 ho2 hg2 hb2
        have HNX := Lib.hid (GatZ.next (x := (x.1.1, x.1.2.2)) (y := (x.1.1, b)) (K := KK) HGZ.out HBX0.out HYS.out HM.out rfl ((HFD.out.trans HFC.out).alloc _) rfl ((HCP.out.low (by have := HBS.out; omega)).fr (C := NoBlk) ((Fr.refl NoBlk W3).alloc _) fun _ _ e => e) HO4.out ho2 hg2 HKW.out)
        obtain ⟨A2, c2, rfl, _, _⟩ := own_form ho2
        have HB5 : Hid (Bk W5 gd 40 #[.slice Av m cv]) := ((HBXd.out.fr HFC.out fun h => h).alloc _).fr (Fr.ofGrown hg2) (fun e => own_apart HO4.out ((HBXd.out.fr HFC.out fun h => h).alloc _) (by decide) e.symm)
        have hf5 := HB5.out.free 0
        have hl5 : W5.cell? ⟨gd, 0, none⟩ = some (.slice Av m cv) := HB5.out.cell 0
        clear ho2 hg2 hb2
        refine hK _ _ ?_
        clear hK K
        try simp only [Act.put, List.setIfInBounds_toArray]
        refine wpAnyIn_ready (rs := [7]) (by kernel_rfl) (by simp) ?_
        refine AllReadyIn.cons rfl (fun K hK => ?_) (AllReadyIn.nil)
        go_simp
        refine hK _ _ ?_
        clear hK K
        try simp only [Act.put, List.setIfInBounds_toArray, List.set_cons_zero, List.set_cons_succ]
        refine wpAnyIn_done (by kernel_rfl) ?_ _
        gi_wp2
        refine ⟨HNX.out.1.from _, by rw [← HKD.out]; exact HNX.out.2.1, ?_, ?_⟩
        · show GatZ _ _ ((pre ++ [x]).map fun (z : El zs) => (z.1.1, z.1.2.2)) _
          rw [List.map_append]
          exact HNX.out.2.2
        · exact (HNX.out.2.1 (gd + 1) (by rw [HKD.out]; exact .inr rfl)).trans HBT.out
      · skip
        go_simp
        refine hK _ _ ?_
        clear hK K
        try simp only [Act.put, List.setIfInBounds_toArray, List.set_cons_zero, List.set_cons_succ]
        refine wpAnyIn_ready (rs := [1, 3]) (by kernel_rfl) (by simp) ?_
        refine AllReadyIn.cons rfl (fun K hK => ?_) (AllReadyIn.cons rfl (fun K hK => ?_) (AllReadyIn.nil))
        · skip
          go_simp
          refine hK _ _ ?_
          clear hK K
          try simp only [Act.put, List.setIfInBounds_toArray, List.set_cons_zero, List.set_cons_succ]
          refine wpAnyIn_ready (rs := [3]) (by kernel_rfl) (by simp) ?_
          refine AllReadyIn.cons rfl (fun K hK => ?_) (AllReadyIn.nil)
          go_simp
          refine ⟨trivial, ?_⟩
          refine (CallsIn.inRound l' (callsIn_wide.2 (HCPD.out _ (Fr.refl _ _)))).mono ?_
          rintro e W3 ⟨b, rfl, hcp, hfc⟩
          have HCP := Lib.hid hcp
          have HFC := Lib.hid hfc
          unfold vaR
          have hld3 : W3.cell? ⟨gd, 0, none⟩ = some (.slice Av m cv) := (HBXd.out.fr hfc fun h => h).cell 0
          clear hcp hfc
          refine hK _ _ ?_
          clear hK K
          try simp only [Act.put, List.setIfInBounds_toArray, List.set_cons_zero, List.set_cons_succ]
          refine wpAnyIn_ready (rs := [4]) (by kernel_rfl) (by simp) ?_
          refine AllReadyIn.cons rfl (fun K hK => ?_) (AllReadyIn.nil)
          go_simp
          refine hK _ _ ?_
          clear hK K
          try simp only [Act.put, List.setIfInBounds_toArray, List.set_cons_zero, List.set_cons_succ]
          refine wpAnyIn_ready (rs := [5]) (by kernel_rfl) (by simp) ?_
          refine AllReadyIn.cons rfl (fun K hK => ?_) (AllReadyIn.nil)
          have HO4 : Hid ((W3.alloc (.cells #[.string (bstr x.1.1), .bool b.has, .slice b.va b.vn b.vc, .int .i64 b.home, .int .u64 (b.count : Int)] 61)).ownsRow w.heap.size 61 5 (.slice Av m cv) m (itsR ys)) := own_fr (own_fr HOVd.out HFC.out fun _ _ h => h) ((Fr.refl NoBlk _).alloc _) fun _ _ h => h
          have HS4 : Hid (Rd (W3.alloc (.cells #[.string (bstr x.1.1), .bool b.has, .slice b.va b.vn b.vc, .int .i64 b.home, .int .u64 (b.count : Int)] 61)) (some ⟨W3.heap.size, 0, none⟩) [.string (bstr x.1.1), .bool b.has, .slice b.va b.vn b.vc, .int .i64 b.home, .int .u64 (b.count : Int)]) := Rd.of_cells (Bk.new W3 61 #[.string (bstr x.1.1), .bool b.has, .slice b.va b.vn b.vc, .int .i64 b.home, .int .u64 (b.count : Int)])
          have hld4 : (W3.alloc (.cells #[.string (bstr x.1.1), .bool b.has, .slice b.va b.vn b.vc, .int .i64 b.home, .int .u64 (b.count : Int)] 61)).cell? ⟨gd, 0, none⟩ = some (.slice Av m cv) := (((HBXd.out.fr HFC.out fun h => h)).alloc _).cell 0
          have HON : Hid (∀ u ∈ ([.string (bstr x.1.1), .bool b.has, .slice b.va b.vn b.vc, .int .i64 b.home, .int .u64 (b.count : Int)] : List Value), u.oneCell' = true) := by intro u hu; simp only [List.mem_cons, List.not_mem_nil, or_false] at hu; rcases hu with rfl | rfl | rfl | rfl | rfl <;> rfl
          have HSZ4 : Hid (w.heap.size ≤ (W3.alloc (.cells #[.string (bstr x.1.1), .bool b.has, .slice b.va b.vn b.vc, .int .i64 b.home, .int .u64 (b.count : Int)] 61)).heap.size) := by show _ ≤ _; have h1 := HFC.out.size; have h2 := HBS.out; rw [World.size_alloc]; omega
          go_simp
          refine hK _ _ ?_
          clear hK K
          try simp only [Act.put, List.setIfInBounds_toArray, List.set_cons_zero, List.set_cons_succ]
          refine wpAnyIn_ready (rs := [6]) (by kernel_rfl) (by simp) ?_
          refine AllReadyIn.cons rfl (fun K hK => ?_) (AllReadyIn.nil)
          refine step_appWIn rfl _ _ 40 rfl w.heap.size 61 i0 _ 5 64 Try.underlying40 hi hz0 hz1 hz2 rfl (by decide) (.slice Av m cv) m (itsR ys) rfl HO4.out (some ⟨W3.heap.size, 0, none⟩) 1 1 [.string (bstr x.1.1), .bool b.has, .slice b.va b.vn b.vc, .int .i64 b.home, .int .u64 (b.count : Int)] rfl rfl HS4.out HON.out (fun h => by cases h) (by unfold maxLen; have := HMK.out; omega) (by have := HMK.out; omega) HSZ4.out ?_
          intro v2 W5 ho2 hg2 hb2
          have HNX := Lib.hid (GatZ.next (x := (x.1.1, x.1.2.2)) (y := (x.1.1, b)) (K := KK) HGZ.out HBX0.out HYS.out HM.out rfl ((HFD.out.trans HFC.out).alloc _) rfl ((HCP.out.low (by have := HBS.out; omega)).fr (C := NoBlk) ((Fr.refl NoBlk W3).alloc _) fun _ _ e => e) HO4.out ho2 hg2 HKW.out)
          obtain ⟨A2, c2, rfl, _, _⟩ := own_form ho2
          have HB5 : Hid (Bk W5 gd 40 #[.slice Av m cv]) := ((HBXd.out.fr HFC.out fun h => h).alloc _).fr (Fr.ofGrown hg2) (fun e => own_apart HO4.out ((HBXd.out.fr HFC.out fun h => h).alloc _) (by decide) e.symm)
          have hf5 := HB5.out.free 0
          have hl5 : W5.cell? ⟨gd, 0, none⟩ = some (.slice Av m cv) := HB5.out.cell 0
          clear ho2 hg2 hb2
          refine hK _ _ ?_
          clear hK K
          try simp only [Act.put, List.setIfInBounds_toArray]
          refine wpAnyIn_ready (rs := [7]) (by kernel_rfl) (by simp) ?_
          refine AllReadyIn.cons rfl (fun K hK => ?_) (AllReadyIn.nil)
          go_simp
          refine hK _ _ ?_
          clear hK K
          try simp only [Act.put, List.setIfInBounds_toArray, List.set_cons_zero, List.set_cons_succ]
          refine wpAnyIn_done (by kernel_rfl) ?_ _
          gi_wp2
          refine ⟨HNX.out.1.from _, by rw [← HKD.out]; exact HNX.out.2.1, ?_, ?_⟩
          · show GatZ _ _ ((pre ++ [x]).map fun (z : El zs) => (z.1.1, z.1.2.2)) _
            rw [List.map_append]
            exact HNX.out.2.2
          · exact (HNX.out.2.1 (gd + 1) (by rw [HKD.out]; exact .inr rfl)).trans HBT.out
        · skip
          go_simp
          refine ⟨trivial, ?_⟩
          refine (CallsIn.inRound l' (callsIn_wide.2 (HCPD.out _ (Fr.refl _ _)))).mono ?_
          rintro e W3 ⟨b, rfl, hcp, hfc⟩
          have HCP := Lib.hid hcp
          have HFC := Lib.hid hfc
          unfold vaR
          have hld3 : W3.cell? ⟨gd, 0, none⟩ = some (.slice Av m cv) := (HBXd.out.fr hfc fun h => h).cell 0
          clear hcp hfc
          refine hK _ _ ?_
          clear hK K
          try simp only [Act.put, List.setIfInBounds_toArray, List.set_cons_zero, List.set_cons_succ]
          refine wpAnyIn_ready (rs := [1]) (by kernel_rfl) (by simp) ?_
          refine AllReadyIn.cons rfl (fun K hK => ?_) (AllReadyIn.nil)
          go_simp
          refine hK _ _ ?_
          clear hK K
          try simp only [Act.put, List.setIfInBounds_toArray, List.set_cons_zero, List.set_cons_succ]
          refine wpAnyIn_ready (rs := [4]) (by kernel_rfl) (by simp) ?_
          refine AllReadyIn.cons rfl (fun K hK => ?_) (AllReadyIn.nil)
          go_simp
          refine hK _ _ ?_
          clear hK K
          try simp only [Act.put, List.setIfInBounds_toArray, List.set_cons_zero, List.set_cons_succ]
          refine wpAnyIn_ready (rs := [5]) (by kernel_rfl) (by simp) ?_
          refine AllReadyIn.cons rfl (fun K hK => ?_) (AllReadyIn.nil)
          have HO4 : Hid ((W3.alloc (.cells #[.string (bstr x.1.1), .bool b.has, .slice b.va b.vn b.vc, .int .i64 b.home, .int .u64 (b.count : Int)] 61)).ownsRow w.heap.size 61 5 (.slice Av m cv) m (itsR ys)) := own_fr (own_fr HOVd.out HFC.out fun _ _ h => h) ((Fr.refl NoBlk _).alloc _) fun _ _ h => h
          have HS4 : Hid (Rd (W3.alloc (.cells #[.string (bstr x.1.1), .bool b.has, .slice b.va b.vn b.vc, .int .i64 b.home, .int .u64 (b.count : Int)] 61)) (some ⟨W3.heap.size, 0, none⟩) [.string (bstr x.1.1), .bool b.has, .slice b.va b.vn b.vc, .int .i64 b.home, .int .u64 (b.count : Int)]) := Rd.of_cells (Bk.new W3 61 #[.string (bstr x.1.1), .bool b.has, .slice b.va b.vn b.vc, .int .i64 b.home, .int .u64 (b.count : Int)])
          have hld4 : (W3.alloc (.cells #[.string (bstr x.1.1), .bool b.has, .slice b.va b.vn b.vc, .int .i64 b.home, .int .u64 (b.count : Int)] 61)).cell? ⟨gd, 0, none⟩ = some (.slice Av m cv) := (((HBXd.out.fr HFC.out fun h => h)).alloc _).cell 0
          have HON : Hid (∀ u ∈ ([.string (bstr x.1.1), .bool b.has, .slice b.va b.vn b.vc, .int .i64 b.home, .int .u64 (b.count : Int)] : List Value), u.oneCell' = true) := by intro u hu; simp only [List.mem_cons, List.not_mem_nil, or_false] at hu; rcases hu with rfl | rfl | rfl | rfl | rfl <;> rfl
          have HSZ4 : Hid (w.heap.size ≤ (W3.alloc (.cells #[.string (bstr x.1.1), .bool b.has, .slice b.va b.vn b.vc, .int .i64 b.home, .int .u64 (b.count : Int)] 61)).heap.size) := by show _ ≤ _; have h1 := HFC.out.size; have h2 := HBS.out; rw [World.size_alloc]; omega
          go_simp
          refine hK _ _ ?_
          clear hK K
          try simp only [Act.put, List.setIfInBounds_toArray, List.set_cons_zero, List.set_cons_succ]
          refine wpAnyIn_ready (rs := [6]) (by kernel_rfl) (by simp) ?_
          refine AllReadyIn.cons rfl (fun K hK => ?_) (AllReadyIn.nil)
          refine step_appWIn rfl _ _ 40 rfl w.heap.size 61 i0 _ 5 64 Try.underlying40 hi hz0 hz1 hz2 rfl (by decide) (.slice Av m cv) m (itsR ys) rfl HO4.out (some ⟨W3.heap.size, 0, none⟩) 1 1 [.string (bstr x.1.1), .bool b.has, .slice b.va b.vn b.vc, .int .i64 b.home, .int .u64 (b.count : Int)] rfl rfl HS4.out HON.out (fun h => by cases h) (by unfold maxLen; have := HMK.out; omega) (by have := HMK.out; omega) HSZ4.out ?_
          intro v2 W5 ho2 hg2 hb2
          have HNX := Lib.hid (GatZ.next (x := (x.1.1, x.1.2.2)) (y := (x.1.1, b)) (K := KK) HGZ.out HBX0.out HYS.out HM.out rfl ((HFD.out.trans HFC.out).alloc _) rfl ((HCP.out.low (by have := HBS.out; omega)).fr (C := NoBlk) ((Fr.refl NoBlk W3).alloc _) fun _ _ e => e) HO4.out ho2 hg2 HKW.out)
          obtain ⟨A2, c2, rfl, _, _⟩ := own_form ho2
          have HB5 : Hid (Bk W5 gd 40 #[.slice Av m cv]) := ((HBXd.out.fr HFC.out fun h => h).alloc _).fr (Fr.ofGrown hg2) (fun e => own_apart HO4.out ((HBXd.out.fr HFC.out fun h => h).alloc _) (by decide) e.symm)
          have hf5 := HB5.out.free 0
          have hl5 : W5.cell? ⟨gd, 0, none⟩ = some (.slice Av m cv) := HB5.out.cell 0
          clear ho2 hg2 hb2
          refine hK _ _ ?_
          clear hK K
          try simp only [Act.put, List.setIfInBounds_toArray]
          refine wpAnyIn_ready (rs := [7]) (by kernel_rfl) (by simp) ?_
          refine AllReadyIn.cons rfl (fun K hK => ?_) (AllReadyIn.nil)
          go_simp
          refine hK _ _ ?_
          clear hK K
          try simp only [Act.put, List.setIfInBounds_toArray, List.set_cons_zero, List.set_cons_succ]
          refine wpAnyIn_done (by kernel_rfl) ?_ _
          gi_wp2
          refine ⟨HNX.out.1.from _, by rw [← HKD.out]; exact HNX.out.2.1, ?_, ?_⟩
          · show GatZ _ _ ((pre ++ [x]).map fun (z : El zs) => (z.1.1, z.1.2.2)) _
            rw [List.map_append]
            exact HNX.out.2.2
          · exact (HNX.out.2.1 (gd + 1) (by rw [HKD.out]; exact .inr rfl)).trans HBT.out
    · skip
      go_simp
      refine hK _ _ ?_
      clear hK K
      try simp only [Act.put, List.setIfInBounds_toArray, List.set_cons_zero, List.set_cons_succ]
      refine wpAnyIn_ready (rs := [0, 2]) (by kernel_rfl) (by simp) ?_
      refine AllReadyIn.cons rfl (fun K hK => ?_) (AllReadyIn.cons rfl (fun K hK => ?_) (AllReadyIn.nil))
      · skip
        go_simp
        refine hK _ _ ?_
        clear hK K
        try simp only [Act.put, List.setIfInBounds_toArray, List.set_cons_zero, List.set_cons_succ]
        refine wpAnyIn_ready (rs := [2]) (by kernel_rfl) (by simp) ?_
        refine AllReadyIn.cons rfl (fun K hK => ?_) (AllReadyIn.nil)
        go_simp
        refine hK _ _ ?_
        clear hK K
        try simp only [Act.put, List.setIfInBounds_toArray, List.set_cons_zero, List.set_cons_succ]
        refine wpAnyIn_ready (rs := [3]) (by kernel_rfl) (by simp) ?_
        refine AllReadyIn.cons rfl (fun K hK => ?_) (AllReadyIn.nil)
        go_simp
        refine ⟨trivial, ?_⟩
        refine (CallsIn.inRound l' (callsIn_wide.2 (HCPD.out _ (Fr.refl _ _)))).mono ?_
        rintro e W3 ⟨b, rfl, hcp, hfc⟩
        have HCP := Lib.hid hcp
        have HFC := Lib.hid hfc
        unfold vaR
        have hld3 : W3.cell? ⟨gd, 0, none⟩ = some (.slice Av m cv) := (HBXd.out.fr hfc fun h => h).cell 0
        clear hcp hfc
        refine hK _ _ ?_
        clear hK K
        try simp only [Act.put, List.setIfInBounds_toArray, List.set_cons_zero, List.set_cons_succ]
        refine wpAnyIn_ready (rs := [4]) (by kernel_rfl) (by simp) ?_
        refine AllReadyIn.cons rfl (fun K hK => ?_) (AllReadyIn.nil)
        go_simp
        refine hK _ _ ?_
        clear hK K
        try simp only [Act.put, List.setIfInBounds_toArray, List.set_cons_zero, List.set_cons_succ]
        refine wpAnyIn_ready (rs := [5]) (by kernel_rfl) (by simp) ?_
        refine AllReadyIn.cons rfl (fun K hK => ?_) (AllReadyIn.nil)
        have HO4 : Hid ((W3.alloc (.cells #[.string (bstr x.1.1), .bool b.has, .slice b.va b.vn b.vc, .int .i64 b.home, .int .u64 (b.count : Int)] 61)).ownsRow w.heap.size 61 5 (.slice Av m cv) m (itsR ys)) := own_fr (own_fr HOVd.out HFC.out fun _ _ h => h) ((Fr.refl NoBlk _).alloc _) fun _ _ h => h
        have HS4 : Hid (Rd (W3.alloc (.cells #[.string (bstr x.1.1), .bool b.has, .slice b.va b.vn b.vc, .int .i64 b.home, .int .u64 (b.count : Int)] 61)) (some ⟨W3.heap.size, 0, none⟩) [.string (bstr x.1.1), .bool b.has, .slice b.va b.vn b.vc, .int .i64 b.home, .int .u64 (b.count : Int)]) := Rd.of_cells (Bk.new W3 61 #[.string (bstr x.1.1), .bool b.has, .slice b.va b.vn b.vc, .int .i64 b.home, .int .u64 (b.count : Int)])
        have hld4 : (W3.alloc (.cells #[.string (bstr x.1.1), .bool b.has, .slice b.va b.vn b.vc, .int .i64 b.home, .int .u64 (b.count : Int)] 61)).cell? ⟨gd, 0, none⟩ = some (.slice Av m cv) := (((HBXd.out.fr HFC.out fun h => h)).alloc _).cell 0
        have HON : Hid (∀ u ∈ ([.string (bstr x.1.1), .bool b.has, .slice b.va b.vn b.vc, .int .i64 b.home, .int .u64 (b.count : Int)] : List Value), u.oneCell' = true) := by intro u hu; simp only [List.mem_cons, List.not_mem_nil, or_false] at hu; rcases hu with rfl | rfl | rfl | rfl | rfl <;> rfl
        have HSZ4 : Hid (w.heap.size ≤ (W3.alloc (.cells #[.string (bstr x.1.1), .bool b.has, .slice b.va b.vn b.vc, .int .i64 b.home, .int .u64 (b.count : Int)] 61)).heap.size) := by show _ ≤ _; have h1 := HFC.out.size; have h2 := HBS.out; rw [World.size_alloc]; omega
        go_simp
        refine hK _ _ ?_
        clear hK K
        try simp only [Act.put, List.setIfInBounds_toArray, List.set_cons_zero, List.set_cons_succ]
        refine wpAnyIn_ready (rs := [6]) (by kernel_rfl) (by simp) ?_
        refine AllReadyIn.cons rfl (fun K hK => ?_) (AllReadyIn.nil)
        refine step_appWIn rfl _ _ 40 rfl w.heap.size 61 i0 _ 5 64 Try.underlying40 hi hz0 hz1 hz2 rfl (by decide) (.slice Av m cv) m (itsR ys) rfl HO4.out (some ⟨W3.heap.size, 0, none⟩) 1 1 [.string (bstr x.1.1), .bool b.has, .slice b.va b.vn b.vc, .int .i64 b.home, .int .u64 (b.count : Int)] rfl rfl HS4.out HON.out (fun h => by cases h) (by unfold maxLen; have := HMK.out; omega) (by have := HMK.out; omega) HSZ4.out ?_
        intro v2 W5 ho2 hg2 hb2
        have HNX := Lib.hid (GatZ.next (x := (x.1.1, x.1.2.2)) (y := (x.1.1, b)) (K := KK) HGZ.out HBX0.out HYS.out HM.out rfl ((HFD.out.trans HFC.out).alloc _) rfl ((HCP.out.low (by have := HBS.out; omega)).fr (C := NoBlk) ((Fr.refl NoBlk W3).alloc _) fun _ _ e => e) HO4.out ho2 hg2 HKW.out)
        obtain ⟨A2, c2, rfl, _, _⟩ := own_form ho2
        have HB5 : Hid (Bk W5 gd 40 #[.slice Av m cv]) := ((HBXd.out.fr HFC.out fun h => h).alloc _).fr (Fr.ofGrown hg2) (fun e => own_apart HO4.out ((HBXd.out.fr HFC.out fun h => h).alloc _) (by decide) e.symm)
        have hf5 := HB5.out.free 0
        have hl5 : W5.cell? ⟨gd, 0, none⟩ = some (.slice Av m cv) := HB5.out.cell 0
        clear ho2 hg2 hb2
        refine hK _ _ ?_
        clear hK K
        try simp only [Act.put, List.setIfInBounds_toArray]
        refine wpAnyIn_ready (rs := [7]) (by kernel_rfl) (by simp) ?_
        refine AllReadyIn.cons rfl (fun K hK => ?_) (AllReadyIn.nil)
        go_simp
        refine hK _ _ ?_
        clear hK K
        try simp only [Act.put, List.setIfInBounds_toArray, List.set_cons_zero, List.set_cons_succ]
        refine wpAnyIn_done (by kernel_rfl) ?_ _
        gi_wp2
        refine ⟨HNX.out.1.from _, by rw [← HKD.out]; exact HNX.out.2.1, ?_, ?_⟩
        · show GatZ _ _ ((pre ++ [x]).map fun (z : El zs) => (z.1.1, z.1.2.2)) _
          rw [List.map_append]
          exact HNX.out.2.2
        · exact (HNX.out.2.1 (gd + 1) (by rw [HKD.out]; exact .inr rfl)).trans HBT.out
      · skip
        go_simp
        refine hK _ _ ?_
        clear hK K
        try simp only [Act.put, List.setIfInBounds_toArray, List.set_cons_zero, List.set_cons_succ]
        refine wpAnyIn_ready (rs := [0, 3]) (by kernel_rfl) (by simp) ?_
        refine AllReadyIn.cons rfl (fun K hK => ?_) (AllReadyIn.cons rfl (fun K hK => ?_) (AllReadyIn.nil))
        · skip
          go_simp
          refine hK _ _ ?_
          clear hK K
          try simp only [Act.put, List.setIfInBounds_toArray, List.set_cons_zero, List.set_cons_succ]
          refine wpAnyIn_ready (rs := [3]) (by kernel_rfl) (by simp) ?_
          refine AllReadyIn.cons rfl (fun K hK => ?_) (AllReadyIn.nil)
          go_simp
          refine ⟨trivial, ?_⟩
          refine (CallsIn.inRound l' (callsIn_wide.2 (HCPD.out _ (Fr.refl _ _)))).mono ?_
          rintro e W3 ⟨b, rfl, hcp, hfc⟩
          have HCP := Lib.hid hcp
          have HFC := Lib.hid hfc
          unfold vaR
          have hld3 : W3.cell? ⟨gd, 0, none⟩ = some (.slice Av m cv) := (HBXd.out.fr hfc fun h => h).cell 0
          clear hcp hfc
          refine hK _ _ ?_
          clear hK K
          try simp only [Act.put, List.setIfInBounds_toArray, List.set_cons_zero, List.set_cons_succ]
          refine wpAnyIn_ready (rs := [4]) (by kernel_rfl) (by simp) ?_
          refine AllReadyIn.cons rfl (fun K hK => ?_) (AllReadyIn.nil)
          go_simp
          refine hK _ _ ?_
          clear hK K
          try simp only [Act.put, List.setIfInBounds_toArray, List.set_cons_zero, List.set_cons_succ]
          refine wpAnyIn_ready (rs := [5]) (by kernel_rfl) (by simp) ?_
          refine AllReadyIn.cons rfl (fun K hK => ?_) (AllReadyIn.nil)
          have HO4 : Hid ((W3.alloc (.cells #[.string (bstr x.1.1), .bool b.has, .slice b.va b.vn b.vc, .int .i64 b.home, .int .u64 (b.count : Int)] 61)).ownsRow w.heap.size 61 5 (.slice Av m cv) m (itsR ys)) := own_fr (own_fr HOVd.out HFC.out fun _ _ h => h) ((Fr.refl NoBlk _).alloc _) fun _ _ h => h
          have HS4 : Hid (Rd (W3.alloc (.cells #[.string (bstr x.1.1), .bool b.has, .slice b.va b.vn b.vc, .int .i64 b.home, .int .u64 (b.count : Int)] 61)) (some ⟨W3.heap.size, 0, none⟩) [.string (bstr x.1.1), .bool b.has, .slice b.va b.vn b.vc, .int .i64 b.home, .int .u64 (b.count : Int)]) := Rd.of_cells (Bk.new W3 61 #[.string (bstr x.1.1), .bool b.has, .slice b.va b.vn b.vc, .int .i64 b.home, .int .u64 (b.count : Int)])
          have hld4 : (W3.alloc (.cells #[.string (bstr x.1.1), .bool b.has, .slice b.va b.vn b.vc, .int .i64 b.home, .int .u64 (b.count : Int)] 61)).cell? ⟨gd, 0, none⟩ = some (.slice Av m cv) := (((HBXd.out.fr HFC.out fun h => h)).alloc _).cell 0
          have HON : Hid (∀ u ∈ ([.string (bstr x.1.1), .bool b.has, .slice b.va b.vn b.vc, .int .i64 b.home, .int .u64 (b.count : Int)] : List Value), u.oneCell' = true) := by intro u hu; simp only [List.mem_cons, List.not_mem_nil, or_false] at hu; rcases hu with rfl | rfl | rfl | rfl | rfl <;> rfl
          have HSZ4 : Hid (w.heap.size ≤ (W3.alloc (.cells #[.string (bstr x.1.1), .bool b.has, .slice b.va b.vn b.vc, .int .i64 b.home, .int .u64 (b.count : Int)] 61)).heap.size) := by show _ ≤ _; have h1 := HFC.out.size; have h2 := HBS.out; rw [World.size_alloc]; omega
          go_simp
          refine hK _ _ ?_
          clear hK K
          try simp only [Act.put, List.setIfInBounds_toArray, List.set_cons_zero, List.set_cons_succ]
          refine wpAnyIn_ready (rs := [6]) (by kernel_rfl) (by simp) ?_
          refine AllReadyIn.cons rfl (fun K hK => ?_) (AllReadyIn.nil)
          refine step_appWIn rfl _ _ 40 rfl w.heap.size 61 i0 _ 5 64 Try.underlying40 hi hz0 hz1 hz2 rfl (by decide) (.slice Av m cv) m (itsR ys) rfl HO4.out (some ⟨W3.heap.size, 0, none⟩) 1 1 [.string (bstr x.1.1), .bool b.has, .slice b.va b.vn b.vc, .int .i64 b.home, .int .u64 (b.count : Int)] rfl rfl HS4.out HON.out (fun h => by cases h) (by unfold maxLen; have := HMK.out; omega) (by have := HMK.out; omega) HSZ4.out ?_
          intro v2 W5 ho2 hg2 hb2
          have HNX := Lib.hid (GatZ.next (x := (x.1.1, x.1.2.2)) (y := (x.1.1, b)) (K := KK) HGZ.out HBX0.out HYS.out HM.out rfl ((HFD.out.trans HFC.out).alloc _) rfl ((HCP.out.low (by have := HBS.out; omega)).fr (C := NoBlk) ((Fr.refl NoBlk W3).alloc _) fun _ _ e => e) HO4.out ho2 hg2 HKW.out)
          obtain ⟨A2, c2, rfl, _, _⟩ := own_form ho2
          have HB5 : Hid (Bk W5 gd 40 #[.slice Av m cv]) := ((HBXd.out.fr HFC.out fun h => h).alloc _).fr (Fr.ofGrown hg2) (fun e => own_apart HO4.out ((HBXd.out.fr HFC.out fun h => h).alloc _) (by decide) e.symm)
          have hf5 := HB5.out.free 0
          have hl5 : W5.cell? ⟨gd, 0, none⟩ = some (.slice Av m cv) := HB5.out.cell 0
          clear ho2 hg2 hb2
          refine hK _ _ ?_
          clear hK K
          try simp only [Act.put, List.setIfInBounds_toArray]
          refine wpAnyIn_ready (rs := [7]) (by kernel_rfl) (by simp) ?_
          refine AllReadyIn.cons rfl (fun K hK => ?_) (AllReadyIn.nil)
          go_simp
          refine hK _ _ ?_
          clear hK K
          try simp only [Act.put, List.setIfInBounds_toArray, List.set_cons_zero, List.set_cons_succ]
          refine wpAnyIn_done (by kernel_rfl) ?_ _
          gi_wp2
          refine ⟨HNX.out.1.from _, by rw [← HKD.out]; exact HNX.out.2.1, ?_, ?_⟩
          · show GatZ _ _ ((pre ++ [x]).map fun (z : El zs) => (z.1.1, z.1.2.2)) _
            rw [List.map_append]
            exact HNX.out.2.2
          · exact (HNX.out.2.1 (gd + 1) (by rw [HKD.out]; exact .inr rfl)).trans HBT.out
        · skip
          go_simp
          refine ⟨trivial, ?_⟩
          refine (CallsIn.inRound l' (callsIn_wide.2 (HCPD.out _ (Fr.refl _ _)))).mono ?_
          rintro e W3 ⟨b, rfl, hcp, hfc⟩
          have HCP := Lib.hid hcp
          have HFC := Lib.hid hfc
          unfold vaR
          have hld3 : W3.cell? ⟨gd, 0, none⟩ = some (.slice Av m cv) := (HBXd.out.fr hfc fun h => h).cell 0
          clear hcp hfc
          refine hK _ _ ?_
          clear hK K
          try simp only [Act.put, List.setIfInBounds_toArray, List.set_cons_zero, List.set_cons_succ]
          refine wpAnyIn_ready (rs := [0, 4]) (by kernel_rfl) (by simp) ?_
          refine AllReadyIn.cons rfl (fun K hK => ?_) (AllReadyIn.cons rfl (fun K hK => ?_) (AllReadyIn.nil))
          · skip
            go_simp
            refine hK _ _ ?_
            clear hK K
            try simp only [Act.put, List.setIfInBounds_toArray, List.set_cons_zero, List.set_cons_succ]
            refine wpAnyIn_ready (rs := [4]) (by kernel_rfl) (by simp) ?_
            refine AllReadyIn.cons rfl (fun K hK => ?_) (AllReadyIn.nil)
            go_simp
            refine hK _ _ ?_
            clear hK K
            try simp only [Act.put, List.setIfInBounds_toArray, List.set_cons_zero, List.set_cons_succ]
            refine wpAnyIn_ready (rs := [5]) (by kernel_rfl) (by simp) ?_
            refine AllReadyIn.cons rfl (fun K hK => ?_) (AllReadyIn.nil)
            have HO4 : Hid ((W3.alloc (.cells #[.string (bstr x.1.1), .bool b.has, .slice b.va b.vn b.vc, .int .i64 b.home, .int .u64 (b.count : Int)] 61)).ownsRow w.heap.size 61 5 (.slice Av m cv) m (itsR ys)) := own_fr (own_fr HOVd.out HFC.out fun _ _ h => h) ((Fr.refl NoBlk _).alloc _) fun _ _ h => h
            have HS4 : Hid (Rd (W3.alloc (.cells #[.string (bstr x.1.1), .bool b.has, .slice b.va b.vn b.vc, .int .i64 b.home, .int .u64 (b.count : Int)] 61)) (some ⟨W3.heap.size, 0, none⟩) [.string (bstr x.1.1), .bool b.has, .slice b.va b.vn b.vc, .int .i64 b.home, .int .u64 (b.count : Int)]) := Rd.of_cells (Bk.new W3 61 #[.string (bstr x.1.1), .bool b.has, .slice b.va b.vn b.vc, .int .i64 b.home, .int .u64 (b.count : Int)])
            have hld4 : (W3.alloc (.cells #[.string (bstr x.1.1), .bool b.has, .slice b.va b.vn b.vc, .int .i64 b.home, .int .u64 (b.count : Int)] 61)).cell? ⟨gd, 0, none⟩ = some (.slice Av m cv) := (((HBXd.out.fr HFC.out fun h => h)).alloc _).cell 0
            have HON : Hid (∀ u ∈ ([.string (bstr x.1.1), .bool b.has, .slice b.va b.vn b.vc, .int .i64 b.home, .int .u64 (b.count : Int)] : List Value), u.oneCell' = true) := by intro u hu; simp only [List.mem_cons, List.not_mem_nil, or_false] at hu; rcases hu with rfl | rfl | rfl | rfl | rfl <;> rfl
            have HSZ4 : Hid (w.heap.size ≤ (W3.alloc (.cells #[.string (bstr x.1.1), .bool b.has, .slice b.va b.vn b.vc, .int .i64 b.home, .int .u64 (b.count : Int)] 61)).heap.size) := by show _ ≤ _; have h1 := HFC.out.size; have h2 := HBS.out; rw [World.size_alloc]; omega
            go_simp
            refine hK _ _ ?_
            clear hK K
            try simp only [Act.put, List.setIfInBounds_toArray, List.set_cons_zero, List.set_cons_succ]
            refine wpAnyIn_ready (rs := [6]) (by kernel_rfl) (by simp) ?_
            refine AllReadyIn.cons rfl (fun K hK => ?_) (AllReadyIn.nil)
            refine step_appWIn rfl _ _ 40 rfl w.heap.size 61 i0 _ 5 64 Try.underlying40 hi hz0 hz1 hz2 rfl (by decide) (.slice Av m cv) m (itsR ys) rfl HO4.out (some ⟨W3.heap.size, 0, none⟩) 1 1 [.string (bstr x.1.1), .bool b.has, .slice b.va b.vn b.vc, .int .i64 b.home, .int .u64 (b.count : Int)] rfl rfl HS4.out HON.out (fun h => by cases h) (by unfold maxLen; have := HMK.out; omega) (by have := HMK.out; omega) HSZ4.out ?_
            intro v2 W5 ho2 hg2 hb2
            have HNX := Lib.hid (GatZ.next (x := (x.1.1, x.1.2.2)) (y := (x.1.1, b)) (K := KK) HGZ.out HBX0.out HYS.out HM.out rfl ((HFD.out.trans HFC.out).alloc _) rfl ((HCP.out.low (by have := HBS.out; omega)).fr (C := NoBlk) ((Fr.refl NoBlk W3).alloc _) fun _ _ e => e) HO4.out ho2 hg2 HKW.out)
            obtain ⟨A2, c2, rfl, _, _⟩ := own_form ho2
            have HB5 : Hid (Bk W5 gd 40 #[.slice Av m cv]) := ((HBXd.out.fr HFC.out fun h => h).alloc _).fr (Fr.ofGrown hg2) (fun e => own_apart HO4.out ((HBXd.out.fr HFC.out fun h => h).alloc _) (by decide) e.symm)
            have hf5 := HB5.out.free 0
            have hl5 : W5.cell? ⟨gd, 0, none⟩ = some (.slice Av m cv) := HB5.out.cell 0
            clear ho2 hg2 hb2
            refine hK _ _ ?_
            clear hK K
            try simp only [Act.put, List.setIfInBounds_toArray]
            refine wpAnyIn_ready (rs := [7]) (by kernel_rfl) (by simp) ?_
            refine AllReadyIn.cons rfl (fun K hK => ?_) (AllReadyIn.nil)
            go_simp
            refine hK _ _ ?_
            clear hK K
            try simp only [Act.put, List.setIfInBounds_toArray, List.set_cons_zero, List.set_cons_succ]
            refine wpAnyIn_done (by kernel_rfl) ?_ _
            gi_wp2
            refine ⟨HNX.out.1.from _, by rw [← HKD.out]; exact HNX.out.2.1, ?_, ?_⟩
            · show GatZ _ _ ((pre ++ [x]).map fun (z : El zs) => (z.1.1, z.1.2.2)) _
              rw [List.map_append]
              exact HNX.out.2.2
            · exact (HNX.out.2.1 (gd + 1) (by rw [HKD.out]; exact .inr rfl)).trans HBT.out
          · skip
            go_simp
            refine hK _ _ ?_
            clear hK K
            try simp only [Act.put, List.setIfInBounds_toArray, List.set_cons_zero, List.set_cons_succ]
            refine wpAnyIn_ready (rs := [0, 5]) (by kernel_rfl) (by simp) ?_
            refine AllReadyIn.cons rfl (fun K hK => ?_) (AllReadyIn.cons rfl (fun K hK => ?_) (AllReadyIn.nil))
            · skip
              go_simp
              refine hK _ _ ?_
              clear hK K
              try simp only [Act.put, List.setIfInBounds_toArray, List.set_cons_zero, List.set_cons_succ]
              refine wpAnyIn_ready (rs := [5]) (by kernel_rfl) (by simp) ?_
              refine AllReadyIn.cons rfl (fun K hK => ?_) (AllReadyIn.nil)
              have HO4 : Hid ((W3.alloc (.cells #[.string (bstr x.1.1), .bool b.has, .slice b.va b.vn b.vc, .int .i64 b.home, .int .u64 (b.count : Int)] 61)).ownsRow w.heap.size 61 5 (.slice Av m cv) m (itsR ys)) := own_fr (own_fr HOVd.out HFC.out fun _ _ h => h) ((Fr.refl NoBlk _).alloc _) fun _ _ h => h
              have HS4 : Hid (Rd (W3.alloc (.cells #[.string (bstr x.1.1), .bool b.has, .slice b.va b.vn b.vc, .int .i64 b.home, .int .u64 (b.count : Int)] 61)) (some ⟨W3.heap.size, 0, none⟩) [.string (bstr x.1.1), .bool b.has, .slice b.va b.vn b.vc, .int .i64 b.home, .int .u64 (b.count : Int)]) := Rd.of_cells (Bk.new W3 61 #[.string (bstr x.1.1), .bool b.has, .slice b.va b.vn b.vc, .int .i64 b.home, .int .u64 (b.count : Int)])
              have hld4 : (W3.alloc (.cells #[.string (bstr x.1.1), .bool b.has, .slice b.va b.vn b.vc, .int .i64 b.home, .int .u64 (b.count : Int)] 61)).cell? ⟨gd, 0, none⟩ = some (.slice Av m cv) := (((HBXd.out.fr HFC.out fun h => h)).alloc _).cell 0
              have HON : Hid (∀ u ∈ ([.string (bstr x.1.1), .bool b.has, .slice b.va b.vn b.vc, .int .i64 b.home, .int .u64 (b.count : Int)] : List Value), u.oneCell' = true) := by intro u hu; simp only [List.mem_cons, List.not_mem_nil, or_false] at hu; rcases hu with rfl | rfl | rfl | rfl | rfl <;> rfl
              have HSZ4 : Hid (w.heap.size ≤ (W3.alloc (.cells #[.string (bstr x.1.1), .bool b.has, .slice b.va b.vn b.vc, .int .i64 b.home, .int .u64 (b.count : Int)] 61)).heap.size) := by show _ ≤ _; have h1 := HFC.out.size; have h2 := HBS.out; rw [World.size_alloc]; omega
              go_simp
              refine hK _ _ ?_
              clear hK K
              try simp only [Act.put, List.setIfInBounds_toArray, List.set_cons_zero, List.set_cons_succ]
              refine wpAnyIn_ready (rs := [6]) (by kernel_rfl) (by simp) ?_
              refine AllReadyIn.cons rfl (fun K hK => ?_) (AllReadyIn.nil)
              refine step_appWIn rfl _ _ 40 rfl w.heap.size 61 i0 _ 5 64 Try.underlying40 hi hz0 hz1 hz2 rfl (by decide) (.slice Av m cv) m (itsR ys) rfl HO4.out (some ⟨W3.heap.size, 0, none⟩) 1 1 [.string (bstr x.1.1), .bool b.has, .slice b.va b.vn b.vc, .int .i64 b.home, .int .u64 (b.count : Int)] rfl rfl HS4.out HON.out (fun h => by cases h) (by unfold maxLen; have := HMK.out; omega) (by have := HMK.out; omega) HSZ4.out ?_
              intro v2 W5 ho2 hg2 hb2
              have HNX := Lib.hid (GatZ.next (x := (x.1.1, x.1.2.2)) (y := (x.1.1, b)) (K := KK) HGZ.out HBX0.out HYS.out HM.out rfl ((HFD.out.trans HFC.out).alloc _) rfl ((HCP.out.low (by have := HBS.out; omega)).fr (C := NoBlk) ((Fr.refl NoBlk W3).alloc _) fun _ _ e => e) HO4.out ho2 hg2 HKW.out)
              obtain ⟨A2, c2, rfl, _, _⟩ := own_form ho2
              have HB5 : Hid (Bk W5 gd 40 #[.slice Av m cv]) := ((HBXd.out.fr HFC.out fun h => h).alloc _).fr (Fr.ofGrown hg2) (fun e => own_apart HO4.out ((HBXd.out.fr HFC.out fun h => h).alloc _) (by decide) e.symm)
              have hf5 := HB5.out.free 0
              have hl5 : W5.cell? ⟨gd, 0, none⟩ = some (.slice Av m cv) := HB5.out.cell 0
              clear ho2 hg2 hb2
              refine hK _ _ ?_
              clear hK K
              try simp only [Act.put, List.setIfInBounds_toArray]
              refine wpAnyIn_ready (rs := [7]) (by kernel_rfl) (by simp) ?_
              refine AllReadyIn.cons rfl (fun K hK => ?_) (AllReadyIn.nil)
              go_simp
              refine hK _ _ ?_
              clear hK K
              try simp only [Act.put, List.setIfInBounds_toArray, List.set_cons_zero, List.set_cons_succ]
              refine wpAnyIn_done (by kernel_rfl) ?_ _
              gi_wp2
              refine ⟨HNX.out.1.from _, by rw [← HKD.out]; exact HNX.out.2.1, ?_, ?_⟩
              · show GatZ _ _ ((pre ++ [x]).map fun (z : El zs) => (z.1.1, z.1.2.2)) _
                rw [List.map_append]
                exact HNX.out.2.2
              · exact (HNX.out.2.1 (gd + 1) (by rw [HKD.out]; exact .inr rfl)).trans HBT.out
            · skip
              have HO4 : Hid ((W3.alloc (.cells #[.string (bstr x.1.1), .bool b.has, .slice b.va b.vn b.vc, .int .i64 b.home, .int .u64 (b.count : Int)] 61)).ownsRow w.heap.size 61 5 (.slice Av m cv) m (itsR ys)) := own_fr (own_fr HOVd.out HFC.out fun _ _ h => h) ((Fr.refl NoBlk _).alloc _) fun _ _ h => h
              have HS4 : Hid (Rd (W3.alloc (.cells #[.string (bstr x.1.1), .bool b.has, .slice b.va b.vn b.vc, .int .i64 b.home, .int .u64 (b.count : Int)] 61)) (some ⟨W3.heap.size, 0, none⟩) [.string (bstr x.1.1), .bool b.has, .slice b.va b.vn b.vc, .int .i64 b.home, .int .u64 (b.count : Int)]) := Rd.of_cells (Bk.new W3 61 #[.string (bstr x.1.1), .bool b.has, .slice b.va b.vn b.vc, .int .i64 b.home, .int .u64 (b.count : Int)])
              have hld4 : (W3.alloc (.cells #[.string (bstr x.1.1), .bool b.has, .slice b.va b.vn b.vc, .int .i64 b.home, .int .u64 (b.count : Int)] 61)).cell? ⟨gd, 0, none⟩ = some (.slice Av m cv) := (((HBXd.out.fr HFC.out fun h => h)).alloc _).cell 0
              have HON : Hid (∀ u ∈ ([.string (bstr x.1.1), .bool b.has, .slice b.va b.vn b.vc, .int .i64 b.home, .int .u64 (b.count : Int)] : List Value), u.oneCell' = true) := by intro u hu; simp only [List.mem_cons, List.not_mem_nil, or_false] at hu; rcases hu with rfl | rfl | rfl | rfl | rfl <;> rfl
              have HSZ4 : Hid (w.heap.size ≤ (W3.alloc (.cells #[.string (bstr x.1.1), .bool b.has, .slice b.va b.vn b.vc, .int .i64 b.home, .int .u64 (b.count : Int)] 61)).heap.size) := by show _ ≤ _; have h1 := HFC.out.size; have h2 := HBS.out; rw [World.size_alloc]; omega
              go_simp
              refine hK _ _ ?_
              clear hK K
              try simp only [Act.put, List.setIfInBounds_toArray, List.set_cons_zero, List.set_cons_succ]
              refine wpAnyIn_ready (rs := [0]) (by kernel_rfl) (by simp) ?_
              refine AllReadyIn.cons rfl (fun K hK => ?_) (AllReadyIn.nil)
              go_simp
              refine hK _ _ ?_
              clear hK K
              try simp only [Act.put, List.setIfInBounds_toArray, List.set_cons_zero, List.set_cons_succ]
              refine wpAnyIn_ready (rs := [6]) (by kernel_rfl) (by simp) ?_
              refine AllReadyIn.cons rfl (fun K hK => ?_) (AllReadyIn.nil)
              refine step_appWIn rfl _ _ 40 rfl w.heap.size 61 i0 _ 5 64 Try.underlying40 hi hz0 hz1 hz2 rfl (by decide) (.slice Av m cv) m (itsR ys) rfl HO4.out (some ⟨W3.heap.size, 0, none⟩) 1 1 [.string (bstr x.1.1), .bool b.has, .slice b.va b.vn b.vc, .int .i64 b.home, .int .u64 (b.count : Int)] rfl rfl HS4.out HON.out (fun h => by cases h) (by unfold maxLen; have := HMK.out; omega) (by have := HMK.out; omega) HSZ4.out ?_
              intro v2 W5 ho2 hg2 hb2
              have HNX := Lib.hid (GatZ.next (x := (x.1.1, x.1.2.2)) (y := (x.1.1, b)) (K := KK) HGZ.out HBX0.out HYS.out HM.out rfl ((HFD.out.trans HFC.out).alloc _) rfl ((HCP.out.low (by have := HBS.out; omega)).fr (C := NoBlk) ((Fr.refl NoBlk W3).alloc _) fun _ _ e => e) HO4.out ho2 hg2 HKW.out)
              obtain ⟨A2, c2, rfl, _, _⟩ := own_form ho2
              have HB5 : Hid (Bk W5 gd 40 #[.slice Av m cv]) := ((HBXd.out.fr HFC.out fun h => h).alloc _).fr (Fr.ofGrown hg2) (fun e => own_apart HO4.out ((HBXd.out.fr HFC.out fun h => h).alloc _) (by decide) e.symm)
              have hf5 := HB5.out.free 0
              have hl5 : W5.cell? ⟨gd, 0, none⟩ = some (.slice Av m cv) := HB5.out.cell 0
              clear ho2 hg2 hb2
              refine hK _ _ ?_
              clear hK K
              try simp only [Act.put, List.setIfInBounds_toArray]
              refine wpAnyIn_ready (rs := [7]) (by kernel_rfl) (by simp) ?_
              refine AllReadyIn.cons rfl (fun K hK => ?_) (AllReadyIn.nil)
              go_simp
              refine hK _ _ ?_
              clear hK K
              try simp only [Act.put, List.setIfInBounds_toArray, List.set_cons_zero, List.set_cons_succ]
              refine wpAnyIn_done (by kernel_rfl) ?_ _
              gi_wp2
              refine ⟨HNX.out.1.from _, by rw [← HKD.out]; exact HNX.out.2.1, ?_, ?_⟩
              · show GatZ _ _ ((pre ++ [x]).map fun (z : El zs) => (z.1.1, z.1.2.2)) _
                rw [List.map_append]
                exact HNX.out.2.2
              · exact (HNX.out.2.1 (gd + 1) (by rw [HKD.out]; exact .inr rfl)).trans HBT.out
    · skip
      go_simp
      refine hK _ _ ?_
      clear hK K
      try simp only [Act.put, List.setIfInBounds_toArray, List.set_cons_zero, List.set_cons_succ]
      refine wpAnyIn_ready (rs := [0, 1, 3]) (by kernel_rfl) (by simp) ?_
      refine AllReadyIn.cons rfl (fun K hK => ?_) (AllReadyIn.cons rfl (fun K hK => ?_) (AllReadyIn.cons rfl (fun K hK => ?_) (AllReadyIn.nil)))
      · skip
        go_simp
        refine hK _ _ ?_
        clear hK K
        try simp only [Act.put, List.setIfInBounds_toArray, List.set_cons_zero, List.set_cons_succ]
        refine wpAnyIn_ready (rs := [1, 3]) (by kernel_rfl) (by simp) ?_
        refine AllReadyIn.cons rfl (fun K hK => ?_) (AllReadyIn.cons rfl (fun K hK => ?_) (AllReadyIn.nil))
        · skip
          go_simp
          refine hK _ _ ?_
          clear hK K
          try simp only [Act.put, List.setIfInBounds_toArray, List.set_cons_zero, List.set_cons_succ]
          refine wpAnyIn_ready (rs := [3]) (by kernel_rfl) (by simp) ?_
          refine AllReadyIn.cons rfl (fun K hK => ?_) (AllReadyIn.nil)
          go_simp
          refine ⟨trivial, ?_⟩
          refine (CallsIn.inRound l' (callsIn_wide.2 (HCPD.out _ (Fr.refl _ _)))).mono ?_
          rintro e W3 ⟨b, rfl, hcp, hfc⟩
          have HCP := Lib.hid hcp
          have HFC := Lib.hid hfc
          unfold vaR
          have hld3 : W3.cell? ⟨gd, 0, none⟩ = some (.slice Av m cv) := (HBXd.out.fr hfc fun h => h).cell 0
          clear hcp hfc
          refine hK _ _ ?_
          clear hK K
          try simp only [Act.put, List.setIfInBounds_toArray, List.set_cons_zero, List.set_cons_succ]
          refine wpAnyIn_ready (rs := [4]) (by kernel_rfl) (by simp) ?_
          refine AllReadyIn.cons rfl (fun K hK => ?_) (AllReadyIn.nil)
          go_simp
          refine hK _ _ ?_
          clear hK K
          try simp only [Act.put, List.setIfInBounds_toArray, List.set_cons_zero, List.set_cons_succ]
          refine wpAnyIn_ready (rs := [5]) (by kernel_rfl) (by simp) ?_
          refine AllReadyIn.cons rfl (fun K hK => ?_) (AllReadyIn.nil)
          have HO4 : Hid ((W3.alloc (.cells #[.string (bstr x.1.1), .bool b.has, .slice b.va b.vn b.vc, .int .i64 b.home, .int .u64 (b.count : Int)] 61)).ownsRow w.heap.size 61 5 (.slice Av m cv) m (itsR ys)) := own_fr (own_fr HOVd.out HFC.out fun _ _ h => h) ((Fr.refl NoBlk _).alloc _) fun _ _ h => h
          have HS4 : Hid (Rd (W3.alloc (.cells #[.string (bstr x.1.1), .bool b.has, .slice b.va b.vn b.vc, .int .i64 b.home, .int .u64 (b.count : Int)] 61)) (some ⟨W3.heap.size, 0, none⟩) [.string (bstr x.1.1), .bool b.has, .slice b.va b.vn b.vc, .int .i64 b.home, .int .u64 (b.count : Int)]) := Rd.of_cells (Bk.new W3 61 #[.string (bstr x.1.1), .bool b.has, .slice b.va b.vn b.vc, .int .i64 b.home, .int .u64 (b.count : Int)])
          have hld4 : (W3.alloc (.cells #[.string (bstr x.1.1), .bool b.has, .slice b.va b.vn b.vc, .int .i64 b.home, .int .u64 (b.count : Int)] 61)).cell? ⟨gd, 0, none⟩ = some (.slice Av m cv) := (((HBXd.out.fr HFC.out fun h => h)).alloc _).cell 0
          have HON : Hid (∀ u ∈ ([.string (bstr x.1.1), .bool b.has, .slice b.va b.vn b.vc, .int .i64 b.home, .int .u64 (b.count : Int)] : List Value), u.oneCell' = true) := by intro u hu; simp only [List.mem_cons, List.not_mem_nil, or_false] at hu; rcases hu with rfl | rfl | rfl | rfl | rfl <;> rfl
          have HSZ4 : Hid (w.heap.size ≤ (W3.alloc (.cells #[.string (bstr x.1.1), .bool b.has, .slice b.va b.vn b.vc, .int .i64 b.home, .int .u64 (b.count : Int)] 61)).heap.size) := by show _ ≤ _; have h1 := HFC.out.size; have h2 := HBS.out; rw [World.size_alloc]; omega
          go_simp
          refine hK _ _ ?_
          clear hK K
          try simp only [Act.put, List.setIfInBounds_toArray, List.set_cons_zero, List.set_cons_succ]
          refine wpAnyIn_ready (rs := [6]) (by kernel_rfl) (by simp) ?_
          refine AllReadyIn.cons rfl (fun K hK => ?_) (AllReadyIn.nil)
          refine step_appWIn rfl _ _ 40 rfl w.heap.size 61 i0 _ 5 64 Try.underlying40 hi hz0 hz1 hz2 rfl (by decide) (.slice Av m cv) m (itsR ys) rfl HO4.out (some ⟨W3.heap.size, 0, none⟩) 1 1 [.string (bstr x.1.1), .bool b.has, .slice b.va b.vn b.vc, .int .i64 b.home, .int .u64 (b.count : Int)] rfl rfl HS4.out HON.out (fun h => by cases h) (by unfold maxLen; have := HMK.out; omega) (by have := HMK.out; omega) HSZ4.out ?_
          intro v2 W5 ho2 hg2 hb2
          have HNX := Lib.hid (GatZ.next (x := (x.1.1, x.1.2.2)) (y := (x.1.1, b)) (K := KK) HGZ.out HBX0.out HYS.out HM.out rfl ((HFD.out.trans HFC.out).alloc _) rfl ((HCP.out.low (by have := HBS.out; omega)).fr (C := NoBlk) ((Fr.refl NoBlk W3).alloc _) fun _ _ e => e) HO4.out ho2 hg2 HKW.out)
          obtain ⟨A2, c2, rfl, _, _⟩ := own_form ho2
          have HB5 : Hid (Bk W5 gd 40 #[.slice Av m cv]) := ((HBXd.out.fr HFC.out fun h => h).alloc _).fr (Fr.ofGrown hg2) (fun e => own_apart HO4.out ((HBXd.out.fr HFC.out fun h => h).alloc _) (by decide) e.symm)
          have hf5 := HB5.out.free 0
          have hl5 : W5.cell? ⟨gd, 0, none⟩ = some (.slice Av m cv) := HB5.out.cell 0
          clear ho2 hg2 hb2
          refine hK _ _ ?_
          clear hK K
          try simp only [Act.put, List.setIfInBounds_toArray]
          refine wpAnyIn_ready (rs := [7]) (by kernel_rfl) (by simp) ?_
          refine AllReadyIn.cons rfl (fun K hK => ?_) (AllReadyIn.nil)
          go_simp
          refine hK _ _ ?_
          clear hK K
          try simp only [Act.put, List.setIfInBounds_toArray, List.set_cons_zero, List.set_cons_succ]
          refine wpAnyIn_done (by kernel_rfl) ?_ _
          gi_wp2
          refine ⟨HNX.out.1.from _, by rw [← HKD.out]; exact HNX.out.2.1, ?_, ?_⟩
          · show GatZ _ _ ((pre ++ [x]).map fun (z : El zs) => (z.1.1, z.1.2.2)) _
            rw [List.map_append]
            exact HNX.out.2.2
          · exact (HNX.out.2.1 (gd + 1) (by rw [HKD.out]; exact .inr rfl)).trans HBT.out
        · skip
          go_simp
          refine ⟨trivial, ?_⟩
          refine (CallsIn.inRound l' (callsIn_wide.2 (HCPD.out _ (Fr.refl _ _)))).mono ?_
          rintro e W3 ⟨b, rfl, hcp, hfc⟩
          have HCP := Lib.hid hcp
          have HFC := Lib.hid hfc
          unfold vaR
          have hld3 : W3.cell? ⟨gd, 0, none⟩ = some (.slice Av m cv) := (HBXd.out.fr hfc fun h => h).cell 0
          clear hcp hfc
          refine hK _ _ ?_
          clear hK K
          try simp only [Act.put, List.setIfInBounds_toArray, List.set_cons_zero, List.set_cons_succ]
          refine wpAnyIn_ready (rs := [1]) (by kernel_rfl) (by simp) ?_
          refine AllReadyIn.cons rfl (fun K hK => ?_) (AllReadyIn.nil)
          go_simp
          refine hK _ _ ?_
          clear hK K
          try simp only [Act.put, List.setIfInBounds_toArray, List.set_cons_zero, List.set_cons_succ]
          refine wpAnyIn_ready (rs := [4]) (by kernel_rfl) (by simp) ?_
          refine AllReadyIn.cons rfl (fun K hK => ?_) (AllReadyIn.nil)
          go_simp
          refine hK _ _ ?_
          clear hK K
          try simp only [Act.put, List.setIfInBounds_toArray, List.set_cons_zero, List.set_cons_succ]
          refine wpAnyIn_ready (rs := [5]) (by kernel_rfl) (by simp) ?_
          refine AllReadyIn.cons rfl (fun K hK => ?_) (AllReadyIn.nil)
          have HO4 : Hid ((W3.alloc (.cells #[.string (bstr x.1.1), .bool b.has, .slice b.va b.vn b.vc, .int .i64 b.home, .int .u64 (b.count : Int)] 61)).ownsRow w.heap.size 61 5 (.slice Av m cv) m (itsR ys)) := own_fr (own_fr HOVd.out HFC.out fun _ _ h => h) ((Fr.refl NoBlk _).alloc _) fun _ _ h => h
          have HS4 : Hid (Rd (W3.alloc (.cells #[.string (bstr x.1.1), .bool b.has, .slice b.va b.vn b.vc, .int .i64 b.home, .int .u64 (b.count : Int)] 61)) (some ⟨W3.heap.size, 0, none⟩) [.string (bstr x.1.1), .bool b.has, .slice b.va b.vn b.vc, .int .i64 b.home, .int .u64 (b.count : Int)]) := Rd.of_cells (Bk.new W3 61 #[.string (bstr x.1.1), .bool b.has, .slice b.va b.vn b.vc, .int .i64 b.home, .int .u64 (b.count : Int)])
          have hld4 : (W3.alloc (.cells #[.string (bstr x.1.1), .bool b.has, .slice b.va b.vn b.vc, .int .i64 b.home, .int .u64 (b.count : Int)] 61)).cell? ⟨gd, 0, none⟩ = some (.slice Av m cv) := (((HBXd.out.fr HFC.out fun h => h)).alloc _).cell 0
          have HON : Hid (∀ u ∈ ([.string (bstr x.1.1), .bool b.has, .slice b.va b.vn b.vc, .int .i64 b.home, .int .u64 (b.count : Int)] : List Value), u.oneCell' = true) := by intro u hu; simp only [List.mem_cons, List.not_mem_nil, or_false] at hu; rcases hu with rfl | rfl | rfl | rfl | rfl <;> rfl
          have HSZ4 : Hid (w.heap.size ≤ (W3.alloc (.cells #[.string (bstr x.1.1), .bool b.has, .slice b.va b.vn b.vc, .int .i64 b.home, .int .u64 (b.count : Int)] 61)).heap.size) := by show _ ≤ _; have h1 := HFC.out.size; have h2 := HBS.out; rw [World.size_alloc]; omega
          go_simp
          refine hK _ _ ?_
          clear hK K
          try simp only [Act.put, List.setIfInBounds_toArray, List.set_cons_zero, List.set_cons_succ]
          refine wpAnyIn_ready (rs := [6]) (by kernel_rfl) (by simp) ?_
          refine AllReadyIn.cons rfl (fun K hK => ?_) (AllReadyIn.nil)
          refine step_appWIn rfl _ _ 40 rfl w.heap.size 61 i0 _ 5 64 Try.underlying40 hi hz0 hz1 hz2 rfl (by decide) (.slice Av m cv) m (itsR ys) rfl HO4.out (some ⟨W3.heap.size, 0, none⟩) 1 1 [.string (bstr x.1.1), .bool b.has, .slice b.va b.vn b.vc, .int .i64 b.home, .int .u64 (b.count : Int)] rfl rfl HS4.out HON.out (fun h => by cases h) (by unfold maxLen; have := HMK.out; omega) (by have := HMK.out; omega) HSZ4.out ?_
          intro v2 W5 ho2 hg2 hb2
          have HNX := Lib.hid (GatZ.next (x := (x.1.1, x.1.2.2)) (y := (x.1.1, b)) (K := KK) HGZ.out HBX0.out HYS.out HM.out rfl ((HFD.out.trans HFC.out).alloc _) rfl ((HCP.out.low (by have := HBS.out; omega)).fr (C := NoBlk) ((Fr.refl NoBlk W3).alloc _) fun _ _ e => e) HO4.out ho2 hg2 HKW.out)
          obtain ⟨A2, c2, rfl, _, _⟩ := own_form ho2
          have HB5 : Hid (Bk W5 gd 40 #[.slice Av m cv]) := ((HBXd.out.fr HFC.out fun h => h).alloc _).fr (Fr.ofGrown hg2) (fun e => own_apart HO4.out ((HBXd.out.fr HFC.out fun h => h).alloc _) (by decide) e.symm)
          have hf5 := HB5.out.free 0
          have hl5 : W5.cell? ⟨gd, 0, none⟩ = some (.slice Av m cv) := HB5.out.cell 0
          clear ho2 hg2 hb2
          refine hK _ _ ?_
          clear hK K
          try simp only [Act.put, List.setIfInBounds_toArray]
          refine wpAnyIn_ready (rs := [7]) (by kernel_rfl) (by simp) ?_
          refine AllReadyIn.cons rfl (fun K hK => ?_) (AllReadyIn.nil)
          go_simp
          refine hK _ _ ?_
          clear hK K
          try simp only [Act.put, List.setIfInBounds_toArray, List.set_cons_zero, List.set_cons_succ]
          refine wpAnyIn_done (by kernel_rfl) ?_ _
          gi_wp2
          refine ⟨HNX.out.1.from _, by rw [← HKD.out]; exact HNX.out.2.1, ?_, ?_⟩
          · show GatZ _ _ ((pre ++ [x]).map fun (z : El zs) => (z.1.1, z.1.2.2)) _
            rw [List.map_append]
            exact HNX.out.2.2
          · exact (HNX.out.2.1 (gd + 1) (by rw [HKD.out]; exact .inr rfl)).trans HBT.out
      · skip
        go_simp
        refine hK _ _ ?_
        clear hK K
        try simp only [Act.put, List.setIfInBounds_toArray, List.set_cons_zero, List.set_cons_succ]
        refine wpAnyIn_ready (rs := [0, 3]) (by kernel_rfl) (by simp) ?_
        refine AllReadyIn.cons rfl (fun K hK => ?_) (AllReadyIn.cons rfl (fun K hK => ?_) (AllReadyIn.nil))
        · skip
          go_simp
          refine hK _ _ ?_
          clear hK K
          try simp only [Act.put, List.setIfInBounds_toArray, List.set_cons_zero, List.set_cons_succ]
          refine wpAnyIn_ready (rs := [3]) (by kernel_rfl) (by simp) ?_
          refine AllReadyIn.cons rfl (fun K hK => ?_) (AllReadyIn.nil)
          go_simp
          refine ⟨trivial, ?_⟩
          refine (CallsIn.inRound l' (callsIn_wide.2 (HCPD.out _ (Fr.refl _ _)))).mono ?_
          rintro e W3 ⟨b, rfl, hcp, hfc⟩
          have HCP := Lib.hid hcp
          have HFC := Lib.hid hfc
          unfold vaR
          have hld3 : W3.cell? ⟨gd, 0, none⟩ = some (.slice Av m cv) := (HBXd.out.fr hfc fun h => h).cell 0
          clear hcp hfc
          refine hK _ _ ?_
          clear hK K
          try simp only [Act.put, List.setIfInBounds_toArray, List.set_cons_zero, List.set_cons_succ]
          refine wpAnyIn_ready (rs := [4]) (by kernel_rfl) (by simp) ?_
          refine AllReadyIn.cons rfl (fun K hK => ?_) (AllReadyIn.nil)
          go_simp
          refine hK _ _ ?_
          clear hK K
          try simp only [Act.put, List.setIfInBounds_toArray, List.set_cons_zero, List.set_cons_succ]
          refine wpAnyIn_ready (rs := [5]) (by kernel_rfl) (by simp) ?_
          refine AllReadyIn.cons rfl (fun K hK => ?_) (AllReadyIn.nil)
          have HO4 : Hid ((W3.alloc (.cells #[.string (bstr x.1.1), .bool b.has, .slice b.va b.vn b.vc, .int .i64 b.home, .int .u64 (b.count : Int)] 61)).ownsRow w.heap.size 61 5 (.slice Av m cv) m (itsR ys)) := own_fr (own_fr HOVd.out HFC.out fun _ _ h => h) ((Fr.refl NoBlk _).alloc _) fun _ _ h => h
          have HS4 : Hid (Rd (W3.alloc (.cells #[.string (bstr x.1.1), .bool b.has, .slice b.va b.vn b.vc, .int .i64 b.home, .int .u64 (b.count : Int)] 61)) (some ⟨W3.heap.size, 0, none⟩) [.string (bstr x.1.1), .bool b.has, .slice b.va b.vn b.vc, .int .i64 b.home, .int .u64 (b.count : Int)]) := Rd.of_cells (Bk.new W3 61 #[.string (bstr x.1.1), .bool b.has, .slice b.va b.vn b.vc, .int .i64 b.home, .int .u64 (b.count : Int)])
          have hld4 : (W3.alloc (.cells #[.string (bstr x.1.1), .bool b.has, .slice b.va b.vn b.vc, .int .i64 b.home, .int .u64 (b.count : Int)] 61)).cell? ⟨gd, 0, none⟩ = some (.slice Av m cv) := (((HBXd.out.fr HFC.out fun h => h)).alloc _).cell 0
          have HON : Hid (∀ u ∈ ([.string (bstr x.1.1), .bool b.has, .slice b.va b.vn b.vc, .int .i64 b.home, .int .u64 (b.count : Int)] : List Value), u.oneCell' = true) := by intro u hu; simp only [List.mem_cons, List.not_mem_nil, or_false] at hu; rcases hu with rfl | rfl | rfl | rfl | rfl <;> rfl
          have HSZ4 : Hid (w.heap.size ≤ (W3.alloc (.cells #[.string (bstr x.1.1), .bool b.has, .slice b.va b.vn b.vc, .int .i64 b.home, .int .u64 (b.count : Int)] 61)).heap.size) := by show _ ≤ _; have h1 := HFC.out.size; have h2 := HBS.out; rw [World.size_alloc]; omega
          go_simp
          refine hK _ _ ?_
          clear hK K
          try simp only [Act.put, List.setIfInBounds_toArray, List.set_cons_zero, List.set_cons_succ]
          refine wpAnyIn_ready (rs := [6]) (by kernel_rfl) (by simp) ?_
          refine AllReadyIn.cons rfl (fun K hK => ?_) (AllReadyIn.nil)
          refine step_appWIn rfl _ _ 40 rfl w.heap.size 61 i0 _ 5 64 Try.underlying40 hi hz0 hz1 hz2 rfl (by decide) (.slice Av m cv) m (itsR ys) rfl HO4.out (some ⟨W3.heap.size, 0, none⟩) 1 1 [.string (bstr x.1.1), .bool b.has, .slice b.va b.vn b.vc, .int .i64 b.home, .int .u64 (b.count : Int)] rfl rfl HS4.out HON.out (fun h => by cases h) (by unfold maxLen; have := HMK.out; omega) (by have := HMK.out; omega) HSZ4.out ?_
          intro v2 W5 ho2 hg2 hb2
          have HNX := Lib.hid (GatZ.next (x := (x.1.1, x.1.2.2)) (y := (x.1.1, b)) (K := KK) HGZ.out HBX0.out HYS.out HM.out rfl ((HFD.out.trans HFC.out).alloc _) rfl ((HCP.out.low (by have := HBS.out; omega)).fr (C := NoBlk) ((Fr.refl NoBlk W3).alloc _) fun _ _ e => e) HO4.out ho2 hg2 HKW.out)
          obtain ⟨A2, c2, rfl, _, _⟩ := own_form ho2
          have HB5 : Hid (Bk W5 gd 40 #[.slice Av m cv]) := ((HBXd.out.fr HFC.out fun h => h).alloc _).fr (Fr.ofGrown hg2) (fun e => own_apart HO4.out ((HBXd.out.fr HFC.out fun h => h).alloc _) (by decide) e.symm)
          have hf5 := HB5.out.free 0
          have hl5 : W5.cell? ⟨gd, 0, none⟩ = some (.slice Av m cv) := HB5.out.cell 0
          clear ho2 hg2 hb2
          refine hK _ _ ?_
          clear hK K
          try simp only [Act.put, List.setIfInBounds_toArray]
          refine wpAnyIn_ready (rs := [7]) (by kernel_rfl) (by simp) ?_
          refine AllReadyIn.cons rfl (fun K hK => ?_) (AllReadyIn.nil)
          go_simp
          refine hK _ _ ?_
          clear hK K
          try simp only [Act.put, List.setIfInBounds_toArray, List.set_cons_zero, List.set_cons_succ]
          refine wpAnyIn_done (by kernel_rfl) ?_ _
          gi_wp2
          refine ⟨HNX.out.1.from _, by rw [← HKD.out]; exact HNX.out.2.1, ?_, ?_⟩
          · show GatZ _ _ ((pre ++ [x]).map fun (z : El zs) => (z.1.1, z.1.2.2)) _
            rw [List.map_append]
            exact HNX.out.2.2
          · exact (HNX.out.2.1 (gd + 1) (by rw [HKD.out]; exact .inr rfl)).trans HBT.out
        · skip
          go_simp
          refine ⟨trivial, ?_⟩
          refine (CallsIn.inRound l' (callsIn_wide.2 (HCPD.out _ (Fr.refl _ _)))).mono ?_
          rintro e W3 ⟨b, rfl, hcp, hfc⟩
          have HCP := Lib.hid hcp
          have HFC := Lib.hid hfc
          unfold vaR
          have hld3 : W3.cell? ⟨gd, 0, none⟩ = some (.slice Av m cv) := (HBXd.out.fr hfc fun h => h).cell 0
          clear hcp hfc
          refine hK _ _ ?_
          clear hK K
          try simp only [Act.put, List.setIfInBounds_toArray, List.set_cons_zero, List.set_cons_succ]
          refine wpAnyIn_ready (rs := [0, 4]) (by kernel_rfl) (by simp) ?_
          refine AllReadyIn.cons rfl (fun K hK => ?_) (AllReadyIn.cons rfl (fun K hK => ?_) (AllReadyIn.nil))
          · skip
            go_simp
            refine hK _ _ ?_
            clear hK K
            try simp only [Act.put, List.setIfInBounds_toArray, List.set_cons_zero, List.set_cons_succ]
            refine wpAnyIn_ready (rs := [4]) (by kernel_rfl) (by simp) ?_
            refine AllReadyIn.cons rfl (fun K hK => ?_) (AllReadyIn.nil)
            go_simp
            refine hK _ _ ?_
            clear hK K
            try simp only [Act.put, List.setIfInBounds_toArray, List.set_cons_zero, List.set_cons_succ]
            refine wpAnyIn_ready (rs := [5]) (by kernel_rfl) (by simp) ?_
            refine AllReadyIn.cons rfl (fun K hK => ?_) (AllReadyIn.nil)
            have HO4 : Hid ((W3.alloc (.cells #[.string (bstr x.1.1), .bool b.has, .slice b.va b.vn b.vc, .int .i64 b.home, .int .u64 (b.count : Int)] 61)).ownsRow w.heap.size 61 5 (.slice Av m cv) m (itsR ys)) := own_fr (own_fr HOVd.out HFC.out fun _ _ h => h) ((Fr.refl NoBlk _).alloc _) fun _ _ h => h
            have HS4 : Hid (Rd (W3.alloc (.cells #[.string (bstr x.1.1), .bool b.has, .slice b.va b.vn b.vc, .int .i64 b.home, .int .u64 (b.count : Int)] 61)) (some ⟨W3.heap.size, 0, none⟩) [.string (bstr x.1.1), .bool b.has, .slice b.va b.vn b.vc, .int .i64 b.home, .int .u64 (b.count : Int)]) := Rd.of_cells (Bk.new W3 61 #[.string (bstr x.1.1), .bool b.has, .slice b.va b.vn b.vc, .int .i64 b.home, .int .u64 (b.count : Int)])
            have hld4 : (W3.alloc (.cells #[.string (bstr x.1.1), .bool b.has, .slice b.va b.vn b.vc, .int .i64 b.home, .int .u64 (b.count : Int)] 61)).cell? ⟨gd, 0, none⟩ = some (.slice Av m cv) := (((HBXd.out.fr HFC.out fun h => h)).alloc _).cell 0
            have HON : Hid (∀ u ∈ ([.string (bstr x.1.1), .bool b.has, .slice b.va b.vn b.vc, .int .i64 b.home, .int .u64 (b.count : Int)] : List Value), u.oneCell' = true) := by intro u hu; simp only [List.mem_cons, List.not_mem_nil, or_false] at hu; rcases hu with rfl | rfl | rfl | rfl | rfl <;> rfl
            have HSZ4 : Hid (w.heap.size ≤ (W3.alloc (.cells #[.string (bstr x.1.1), .bool b.has, .slice b.va b.vn b.vc, .int .i64 b.home, .int .u64 (b.count : Int)] 61)).heap.size) := by show _ ≤ _; have h1 := HFC.out.size; have h2 := HBS.out; rw [World.size_alloc]; omega
            go_simp
            refine hK _ _ ?_
            clear hK K
            try simp only [Act.put, List.setIfInBounds_toArray, List.set_cons_zero, List.set_cons_succ]
            refine wpAnyIn_ready (rs := [6]) (by kernel_rfl) (by simp) ?_
            refine AllReadyIn.cons rfl (fun K hK => ?_) (AllReadyIn.nil)
            refine step_appWIn rfl _ _ 40 rfl w.heap.size 61 i0 _ 5 64 Try.underlying40 hi hz0 hz1 hz2 rfl (by decide) (.slice Av m cv) m (itsR ys) rfl HO4.out (some ⟨W3.heap.size, 0, none⟩) 1 1 [.string (bstr x.1.1), .bool b.has, .slice b.va b.vn b.vc, .int .i64 b.home, .int .u64 (b.count : Int)] rfl rfl HS4.out HON.out (fun h => by cases h) (by unfold maxLen; have := HMK.out; omega) (by have := HMK.out; omega) HSZ4.out ?_
            intro v2 W5 ho2 hg2 hb2
            have HNX := Lib.hid (GatZ.next (x := (x.1.1, x.1.2.2)) (y := (x.1.1, b)) (K := KK) HGZ.out HBX0.out HYS.out HM.out rfl ((HFD.out.trans HFC.out).alloc _) rfl ((HCP.out.low (by have := HBS.out; omega)).fr (C := NoBlk) ((Fr.refl NoBlk W3).alloc _) fun _ _ e => e) HO4.out ho2 hg2 HKW.out)
            obtain ⟨A2, c2, rfl, _, _⟩ := own_form ho2
            have HB5 : Hid (Bk W5 gd 40 #[.slice Av m cv]) := ((HBXd.out.fr HFC.out fun h => h).alloc _).fr (Fr.ofGrown hg2) (fun e => own_apart HO4.out ((HBXd.out.fr HFC.out fun h => h).alloc _) (by decide) e.symm)
            have hf5 := HB5.out.free 0
            have hl5 : W5.cell? ⟨gd, 0, none⟩ = some (.slice Av m cv) := HB5.out.cell 0
            clear ho2 hg2 hb2
            refine hK _ _ ?_
            clear hK K
            try simp only [Act.put, List.setIfInBounds_toArray]
            refine wpAnyIn_ready (rs := [7]) (by kernel_rfl) (by simp) ?_
            refine AllReadyIn.cons rfl (fun K hK => ?_) (AllReadyIn.nil)
            go_simp
            refine hK _ _ ?_
            clear hK K
            try simp only [Act.put, List.setIfInBounds_toArray, List.set_cons_zero, List.set_cons_succ]
            refine wpAnyIn_done (by kernel_rfl) ?_ _
            gi_wp2
            refine ⟨HNX.out.1.from _, by rw [← HKD.out]; exact HNX.out.2.1, ?_, ?_⟩
            · show GatZ _ _ ((pre ++ [x]).map fun (z : El zs) => (z.1.1, z.1.2.2)) _
              rw [List.map_append]
              exact HNX.out.2.2
            · exact (HNX.out.2.1 (gd + 1) (by rw [HKD.out]; exact .inr rfl)).trans HBT.out
          · skip
            go_simp
            refine hK _ _ ?_
            clear hK K
            try simp only [Act.put, List.setIfInBounds_toArray, List.set_cons_zero, List.set_cons_succ]
            refine wpAnyIn_ready (rs := [0, 5]) (by kernel_rfl) (by simp) ?_
            refine AllReadyIn.cons rfl (fun K hK => ?_) (AllReadyIn.cons rfl (fun K hK => ?_) (AllReadyIn.nil))
            · skip
              go_simp
              refine hK _ _ ?_
              clear hK K
              try simp only [Act.put, List.setIfInBounds_toArray, List.set_cons_zero, List.set_cons_succ]
              refine wpAnyIn_ready (rs := [5]) (by kernel_rfl) (by simp) ?_
              refine AllReadyIn.cons rfl (fun K hK => ?_) (AllReadyIn.nil)
              have HO4 : Hid ((W3.alloc (.cells #[.string (bstr x.1.1), .bool b.has, .slice b.va b.vn b.vc, .int .i64 b.home, .int .u64 (b.count : Int)] 61)).ownsRow w.heap.size 61 5 (.slice Av m cv) m (itsR ys)) := own_fr (own_fr HOVd.out HFC.out fun _ _ h => h) ((Fr.refl NoBlk _).alloc _) fun _ _ h => h
              have HS4 : Hid (Rd (W3.alloc (.cells #[.string (bstr x.1.1), .bool b.has, .slice b.va b.vn b.vc, .int .i64 b.home, .int .u64 (b.count : Int)] 61)) (some ⟨W3.heap.size, 0, none⟩) [.string (bstr x.1.1), .bool b.has, .slice b.va b.vn b.vc, .int .i64 b.home, .int .u64 (b.count : Int)]) := Rd.of_cells (Bk.new W3 61 #[.string (bstr x.1.1), .bool b.has, .slice b.va b.vn b.vc, .int .i64 b.home, .int .u64 (b.count : Int)])
              have hld4 : (W3.alloc (.cells #[.string (bstr x.1.1), .bool b.has, .slice b.va b.vn b.vc, .int .i64 b.home, .int .u64 (b.count : Int)] 61)).cell? ⟨gd, 0, none⟩ = some (.slice Av m cv) := (((HBXd.out.fr HFC.out fun h => h)).alloc _).cell 0
              have HON : Hid (∀ u ∈ ([.string (bstr x.1.1), .bool b.has, .slice b.va b.vn b.vc, .int .i64 b.home, .int .u64 (b.count : Int)] : List Value), u.oneCell' = true) := by intro u hu; simp only [List.mem_cons, List.not_mem_nil, or_false] at hu; rcases hu with rfl | rfl | rfl | rfl | rfl <;> rfl
              have HSZ4 : Hid (w.heap.size ≤ (W3.alloc (.cells #[.string (bstr x.1.1), .bool b.has, .slice b.va b.vn b.vc, .int .i64 b.home, .int .u64 (b.count : Int)] 61)).heap.size) := by show _ ≤ _; have h1 := HFC.out.size; have h2 := HBS.out; rw [World.size_alloc]; omega
              go_simp
              refine hK _ _ ?_
              clear hK K
              try simp only [Act.put, List.setIfInBounds_toArray, List.set_cons_zero, List.set_cons_succ]
              refine wpAnyIn_ready (rs := [6]) (by kernel_rfl) (by simp) ?_
              refine AllReadyIn.cons rfl (fun K hK => ?_) (AllReadyIn.nil)
              refine step_appWIn rfl _ _ 40 rfl w.heap.size 61 i0 _ 5 64 Try.underlying40 hi hz0 hz1 hz2 rfl (by decide) (.slice Av m cv) m (itsR ys) rfl HO4.out (some ⟨W3.heap.size, 0, none⟩) 1 1 [.string (bstr x.1.1), .bool b.has, .slice b.va b.vn b.vc, .int .i64 b.home, .int .u64 (b.count : Int)] rfl rfl HS4.out HON.out (fun h => by cases h) (by unfold maxLen; have := HMK.out; omega) (by have := HMK.out; omega) HSZ4.out ?_
              intro v2 W5 ho2 hg2 hb2
              have HNX := Lib.hid (GatZ.next (x := (x.1.1, x.1.2.2)) (y := (x.1.1, b)) (K := KK) HGZ.out HBX0.out HYS.out HM.out rfl ((HFD.out.trans HFC.out).alloc _) rfl ((HCP.out.low (by have := HBS.out; omega)).fr (C := NoBlk) ((Fr.refl NoBlk W3).alloc _) fun _ _ e => e) HO4.out ho2 hg2 HKW.out)
              obtain ⟨A2, c2, rfl, _, _⟩ := own_form ho2
              have HB5 : Hid (Bk W5 gd 40 #[.slice Av m cv]) := ((HBXd.out.fr HFC.out fun h => h).alloc _).fr (Fr.ofGrown hg2) (fun e => own_apart HO4.out ((HBXd.out.fr HFC.out fun h => h).alloc _) (by decide) e.symm)
              have hf5 := HB5.out.free 0
              have hl5 : W5.cell? ⟨gd, 0, none⟩ = some (.slice Av m cv) := HB5.out.cell 0
              clear ho2 hg2 hb2
              refine hK _ _ ?_
              clear hK K
              try simp only [Act.put, List.setIfInBounds_toArray]
              refine wpAnyIn_ready (rs := [7]) (by kernel_rfl) (by simp) ?_
              refine AllReadyIn.cons rfl (fun K hK => ?_) (AllReadyIn.nil)
              go_simp
              refine hK _ _ ?_
              clear hK K
              try simp only [Act.put, List.setIfInBounds_toArray, List.set_cons_zero, List.set_cons_succ]
              refine wpAnyIn_done (by kernel_rfl) ?_ _
              gi_wp2
              refine ⟨HNX.out.1.from _, by rw [← HKD.out]; exact HNX.out.2.1, ?_, ?_⟩
              · show GatZ _ _ ((pre ++ [x]).map fun (z : El zs) => (z.1.1, z.1.2.2)) _
                rw [List.map_append]
                exact HNX.out.2.2
              · exact (HNX.out.2.1 (gd + 1) (by rw [HKD.out]; exact .inr rfl)).trans HBT.out
            · skip
              have HO4 : Hid ((W3.alloc (.cells #[.string (bstr x.1.1), .bool b.has, .slice b.va b.vn b.vc, .int .i64 b.home, .int .u64 (b.count : Int)] 61)).ownsRow w.heap.size 61 5 (.slice Av m cv) m (itsR ys)) := own_fr (own_fr HOVd.out HFC.out fun _ _ h => h) ((Fr.refl NoBlk _).alloc _) fun _ _ h => h
              have HS4 : Hid (Rd (W3.alloc (.cells #[.string (bstr x.1.1), .bool b.has, .slice b.va b.vn b.vc, .int .i64 b.home, .int .u64 (b.count : Int)] 61)) (some ⟨W3.heap.size, 0, none⟩) [.string (bstr x.1.1), .bool b.has, .slice b.va b.vn b.vc, .int .i64 b.home, .int .u64 (b.count : Int)]) := Rd.of_cells (Bk.new W3 61 #[.string (bstr x.1.1), .bool b.has, .slice b.va b.vn b.vc, .int .i64 b.home, .int .u64 (b.count : Int)])
              have hld4 : (W3.alloc (.cells #[.string (bstr x.1.1), .bool b.has, .slice b.va b.vn b.vc, .int .i64 b.home, .int .u64 (b.count : Int)] 61)).cell? ⟨gd, 0, none⟩ = some (.slice Av m cv) := (((HBXd.out.fr HFC.out fun h => h)).alloc _).cell 0
              have HON : Hid (∀ u ∈ ([.string (bstr x.1.1), .bool b.has, .slice b.va b.vn b.vc, .int .i64 b.home, .int .u64 (b.count : Int)] : List Value), u.oneCell' = true) := by intro u hu; simp only [List.mem_cons, List.not_mem_nil, or_false] at hu; rcases hu with rfl | rfl | rfl | rfl | rfl <;> rfl
              have HSZ4 : Hid (w.heap.size ≤ (W3.alloc (.cells #[.string (bstr x.1.1), .bool b.has, .slice b.va b.vn b.vc, .int .i64 b.home, .int .u64 (b.count : Int)] 61)).heap.size) := by show _ ≤ _; have h1 := HFC.out.size; have h2 := HBS.out; rw [World.size_alloc]; omega
              go_simp
              refine hK _ _ ?_
              clear hK K
              try simp only [Act.put, List.setIfInBounds_toArray, List.set_cons_zero, List.set_cons_succ]
              refine wpAnyIn_ready (rs := [0]) (by kernel_rfl) (by simp) ?_
              refine AllReadyIn.cons rfl (fun K hK => ?_) (AllReadyIn.nil)
              go_simp
              refine hK _ _ ?_
              clear hK K
              try simp only [Act.put, List.setIfInBounds_toArray, List.set_cons_zero, List.set_cons_succ]
              refine wpAnyIn_ready (rs := [6]) (by kernel_rfl) (by simp) ?_
              refine AllReadyIn.cons rfl (fun K hK => ?_) (AllReadyIn.nil)
              refine step_appWIn rfl _ _ 40 rfl w.heap.size 61 i0 _ 5 64 Try.underlying40 hi hz0 hz1 hz2 rfl (by decide) (.slice Av m cv) m (itsR ys) rfl HO4.out (some ⟨W3.heap.size, 0, none⟩) 1 1 [.string (bstr x.1.1), .bool b.has, .slice b.va b.vn b.vc, .int .i64 b.home, .int .u64 (b.count : Int)] rfl rfl HS4.out HON.out (fun h => by cases h) (by unfold maxLen; have := HMK.out; omega) (by have := HMK.out; omega) HSZ4.out ?_
              intro v2 W5 ho2 hg2 hb2
              have HNX := Lib.hid (GatZ.next (x := (x.1.1, x.1.2.2)) (y := (x.1.1, b)) (K := KK) HGZ.out HBX0.out HYS.out HM.out rfl ((HFD.out.trans HFC.out).alloc _) rfl ((HCP.out.low (by have := HBS.out; omega)).fr (C := NoBlk) ((Fr.refl NoBlk W3).alloc _) fun _ _ e => e) HO4.out ho2 hg2 HKW.out)
              obtain ⟨A2, c2, rfl, _, _⟩ := own_form ho2
              have HB5 : Hid (Bk W5 gd 40 #[.slice Av m cv]) := ((HBXd.out.fr HFC.out fun h => h).alloc _).fr (Fr.ofGrown hg2) (fun e => own_apart HO4.out ((HBXd.out.fr HFC.out fun h => h).alloc _) (by decide) e.symm)
              have hf5 := HB5.out.free 0
              have hl5 : W5.cell? ⟨gd, 0, none⟩ = some (.slice Av m cv) := HB5.out.cell 0
              clear ho2 hg2 hb2
              refine hK _ _ ?_
              clear hK K
              try simp only [Act.put, List.setIfInBounds_toArray]
              refine wpAnyIn_ready (rs := [7]) (by kernel_rfl) (by simp) ?_
              refine AllReadyIn.cons rfl (fun K hK => ?_) (AllReadyIn.nil)
              go_simp
              refine hK _ _ ?_
              clear hK K
              try simp only [Act.put, List.setIfInBounds_toArray, List.set_cons_zero, List.set_cons_succ]
              refine wpAnyIn_done (by kernel_rfl) ?_ _
              gi_wp2
              refine ⟨HNX.out.1.from _, by rw [← HKD.out]; exact HNX.out.2.1, ?_, ?_⟩
              · show GatZ _ _ ((pre ++ [x]).map fun (z : El zs) => (z.1.1, z.1.2.2)) _
                rw [List.map_append]
                exact HNX.out.2.2
              · exact (HNX.out.2.1 (gd + 1) (by rw [HKD.out]; exact .inr rfl)).trans HBT.out
      · skip
        go_simp
        refine ⟨trivial, ?_⟩
        refine (CallsIn.inRound l' (callsIn_wide.2 (HCPD.out _ (Fr.refl _ _)))).mono ?_
        rintro e W3 ⟨b, rfl, hcp, hfc⟩
        have HCP := Lib.hid hcp
        have HFC := Lib.hid hfc
        unfold vaR
        have hld3 : W3.cell? ⟨gd, 0, none⟩ = some (.slice Av m cv) := (HBXd.out.fr hfc fun h => h).cell 0
        clear hcp hfc
        refine hK _ _ ?_
        clear hK K
        try simp only [Act.put, List.setIfInBounds_toArray, List.set_cons_zero, List.set_cons_succ]
        refine wpAnyIn_ready (rs := [0, 1]) (by kernel_rfl) (by simp) ?_
        refine AllReadyIn.cons rfl (fun K hK => ?_) (AllReadyIn.cons rfl (fun K hK => ?_) (AllReadyIn.nil))
        · skip
          go_simp
          refine hK _ _ ?_
          clear hK K
          try simp only [Act.put, List.setIfInBounds_toArray, List.set_cons_zero, List.set_cons_succ]
          refine wpAnyIn_ready (rs := [1]) (by kernel_rfl) (by simp) ?_
          refine AllReadyIn.cons rfl (fun K hK => ?_) (AllReadyIn.nil)
          go_simp
          refine hK _ _ ?_
          clear hK K
          try simp only [Act.put, List.setIfInBounds_toArray, List.set_cons_zero, List.set_cons_succ]
          refine wpAnyIn_ready (rs := [4]) (by kernel_rfl) (by simp) ?_
          refine AllReadyIn.cons rfl (fun K hK => ?_) (AllReadyIn.nil)
          go_simp
          refine hK _ _ ?_
          clear hK K
          try simp only [Act.put, List.setIfInBounds_toArray, List.set_cons_zero, List.set_cons_succ]
          refine wpAnyIn_ready (rs := [5]) (by kernel_rfl) (by simp) ?_
          refine AllReadyIn.cons rfl (fun K hK => ?_) (AllReadyIn.nil)
          have HO4 : Hid ((W3.alloc (.cells #[.string (bstr x.1.1), .bool b.has, .slice b.va b.vn b.vc, .int .i64 b.home, .int .u64 (b.count : Int)] 61)).ownsRow w.heap.size 61 5 (.slice Av m cv) m (itsR ys)) := own_fr (own_fr HOVd.out HFC.out fun _ _ h => h) ((Fr.refl NoBlk _).alloc _) fun _ _ h => h
          have HS4 : Hid (Rd (W3.alloc (.cells #[.string (bstr x.1.1), .bool b.has, .slice b.va b.vn b.vc, .int .i64 b.home, .int .u64 (b.count : Int)] 61)) (some ⟨W3.heap.size, 0, none⟩) [.string (bstr x.1.1), .bool b.has, .slice b.va b.vn b.vc, .int .i64 b.home, .int .u64 (b.count : Int)]) := Rd.of_cells (Bk.new W3 61 #[.string (bstr x.1.1), .bool b.has, .slice b.va b.vn b.vc, .int .i64 b.home, .int .u64 (b.count : Int)])
          have hld4 : (W3.alloc (.cells #[.string (bstr x.1.1), .bool b.has, .slice b.va b.vn b.vc, .int .i64 b.home, .int .u64 (b.count : Int)] 61)).cell? ⟨gd, 0, none⟩ = some (.slice Av m cv) := (((HBXd.out.fr HFC.out fun h => h)).alloc _).cell 0
          have HON : Hid (∀ u ∈ ([.string (bstr x.1.1), .bool b.has, .slice b.va b.vn b.vc, .int .i64 b.home, .int .u64 (b.count : Int)] : List Value), u.oneCell' = true) := by intro u hu; simp only [List.mem_cons, List.not_mem_nil, or_false] at hu; rcases hu with rfl | rfl | rfl | rfl | rfl <;> rfl
          have HSZ4 : Hid (w.heap.size ≤ (W3.alloc (.cells #[.string (bstr x.1.1), .bool b.has, .slice b.va b.vn b.vc, .int .i64 b.home, .int .u64 (b.count : Int)] 61)).heap.size) := by show _ ≤ _; have h1 := HFC.out.size; have h2 := HBS.out; rw [World.size_alloc]; omega
          go_simp
          refine hK _ _ ?_
          clear hK K
          try simp only [Act.put, List.setIfInBounds_toArray, List.set_cons_zero, List.set_cons_succ]
          refine wpAnyIn_ready (rs := [6]) (by kernel_rfl) (by simp) ?_
          refine AllReadyIn.cons rfl (fun K hK => ?_) (AllReadyIn.nil)
          refine step_appWIn rfl _ _ 40 rfl w.heap.size 61 i0 _ 5 64 Try.underlying40 hi hz0 hz1 hz2 rfl (by decide) (.slice Av m cv) m (itsR ys) rfl HO4.out (some ⟨W3.heap.size, 0, none⟩) 1 1 [.string (bstr x.1.1), .bool b.has, .slice b.va b.vn b.vc, .int .i64 b.home, .int .u64 (b.count : Int)] rfl rfl HS4.out HON.out (fun h => by cases h) (by unfold maxLen; have := HMK.out; omega) (by have := HMK.out; omega) HSZ4.out ?_
          intro v2 W5 ho2 hg2 hb2
          have HNX := Lib.hid (GatZ.next (x := (x.1.1, x.1.2.2)) (y := (x.1.1, b)) (K := KK) HGZ.out HBX0.out HYS.out HM.out rfl ((HFD.out.trans HFC.out).alloc _) rfl ((HCP.out.low (by have := HBS.out; omega)).fr (C := NoBlk) ((Fr.refl NoBlk W3).alloc _) fun _ _ e => e) HO4.out ho2 hg2 HKW.out)
          obtain ⟨A2, c2, rfl, _, _⟩ := own_form ho2
          have HB5 : Hid (Bk W5 gd 40 #[.slice Av m cv]) := ((HBXd.out.fr HFC.out fun h => h).alloc _).fr (Fr.ofGrown hg2) (fun e => own_apart HO4.out ((HBXd.out.fr HFC.out fun h => h).alloc _) (by decide) e.symm)
          have hf5 := HB5.out.free 0
          have hl5 : W5.cell? ⟨gd, 0, none⟩ = some (.slice Av m cv) := HB5.out.cell 0
          clear ho2 hg2 hb2
          refine hK _ _ ?_
          clear hK K
          try simp only [Act.put, List.setIfInBounds_toArray]
          refine wpAnyIn_ready (rs := [7]) (by kernel_rfl) (by simp) ?_
          refine AllReadyIn.cons rfl (fun K hK => ?_) (AllReadyIn.nil)
          go_simp
          refine hK _ _ ?_
          clear hK K
          try simp only [Act.put, List.setIfInBounds_toArray, List.set_cons_zero, List.set_cons_succ]
          refine wpAnyIn_done (by kernel_rfl) ?_ _
          gi_wp2
          refine ⟨HNX.out.1.from _, by rw [← HKD.out]; exact HNX.out.2.1, ?_, ?_⟩
          · show GatZ _ _ ((pre ++ [x]).map fun (z : El zs) => (z.1.1, z.1.2.2)) _
            rw [List.map_append]
            exact HNX.out.2.2
          · exact (HNX.out.2.1 (gd + 1) (by rw [HKD.out]; exact .inr rfl)).trans HBT.out
        · skip
          go_simp
          refine hK _ _ ?_
          clear hK K
          try simp only [Act.put, List.setIfInBounds_toArray, List.set_cons_zero, List.set_cons_succ]
          refine wpAnyIn_ready (rs := [0, 4]) (by kernel_rfl) (by simp) ?_
          refine AllReadyIn.cons rfl (fun K hK => ?_) (AllReadyIn.cons rfl (fun K hK => ?_) (AllReadyIn.nil))
          · skip
            go_simp
            refine hK _ _ ?_
            clear hK K
            try simp only [Act.put, List.setIfInBounds_toArray, List.set_cons_zero, List.set_cons_succ]
            refine wpAnyIn_ready (rs := [4]) (by kernel_rfl) (by simp) ?_
            refine AllReadyIn.cons rfl (fun K hK => ?_) (AllReadyIn.nil)
            go_simp
            refine hK _ _ ?_
            clear hK K
            try simp only [Act.put, List.setIfInBounds_toArray, List.set_cons_zero, List.set_cons_succ]
            refine wpAnyIn_ready (rs := [5]) (by kernel_rfl) (by simp) ?_
            refine AllReadyIn.cons rfl (fun K hK => ?_) (AllReadyIn.nil)
            have HO4 : Hid ((W3.alloc (.cells #[.string (bstr x.1.1), .bool b.has, .slice b.va b.vn b.vc, .int .i64 b.home, .int .u64 (b.count : Int)] 61)).ownsRow w.heap.size 61 5 (.slice Av m cv) m (itsR ys)) := own_fr (own_fr HOVd.out HFC.out fun _ _ h => h) ((Fr.refl NoBlk _).alloc _) fun _ _ h => h
            have HS4 : Hid (Rd (W3.alloc (.cells #[.string (bstr x.1.1), .bool b.has, .slice b.va b.vn b.vc, .int .i64 b.home, .int .u64 (b.count : Int)] 61)) (some ⟨W3.heap.size, 0, none⟩) [.string (bstr x.1.1), .bool b.has, .slice b.va b.vn b.vc, .int .i64 b.home, .int .u64 (b.count : Int)]) := Rd.of_cells (Bk.new W3 61 #[.string (bstr x.1.1), .bool b.has, .slice b.va b.vn b.vc, .int .i64 b.home, .int .u64 (b.count : Int)])
            have hld4 : (W3.alloc (.cells #[.string (bstr x.1.1), .bool b.has, .slice b.va b.vn b.vc, .int .i64 b.home, .int .u64 (b.count : Int)] 61)).cell? ⟨gd, 0, none⟩ = some (.slice Av m cv) := (((HBXd.out.fr HFC.out fun h => h)).alloc _).cell 0
            have HON : Hid (∀ u ∈ ([.string (bstr x.1.1), .bool b.has, .slice b.va b.vn b.vc, .int .i64 b.home, .int .u64 (b.count : Int)] : List Value), u.oneCell' = true) := by intro u hu; simp only [List.mem_cons, List.not_mem_nil, or_false] at hu; rcases hu with rfl | rfl | rfl | rfl | rfl <;> rfl
            have HSZ4 : Hid (w.heap.size ≤ (W3.alloc (.cells #[.string (bstr x.1.1), .bool b.has, .slice b.va b.vn b.vc, .int .i64 b.home, .int .u64 (b.count : Int)] 61)).heap.size) := by show _ ≤ _; have h1 := HFC.out.size; have h2 := HBS.out; rw [World.size_alloc]; omega
            go_simp
            refine hK _ _ ?_
            clear hK K
            try simp only [Act.put, List.setIfInBounds_toArray, List.set_cons_zero, List.set_cons_succ]
            refine wpAnyIn_ready (rs := [6]) (by kernel_rfl) (by simp) ?_
            refine AllReadyIn.cons rfl (fun K hK => ?_) (AllReadyIn.nil)
            refine step_appWIn rfl _ _ 40 rfl w.heap.size 61 i0 _ 5 64 Try.underlying40 hi hz0 hz1 hz2 rfl (by decide) (.slice Av m cv) m (itsR ys) rfl HO4.out (some ⟨W3.heap.size, 0, none⟩) 1 1 [.string (bstr x.1.1), .bool b.has, .slice b.va b.vn b.vc, .int .i64 b.home, .int .u64 (b.count : Int)] rfl rfl HS4.out HON.out (fun h => by cases h) (by unfold maxLen; have := HMK.out; omega) (by have := HMK.out; omega) HSZ4.out ?_
            intro v2 W5 ho2 hg2 hb2
            have HNX := Lib.hid (GatZ.next (x := (x.1.1, x.1.2.2)) (y := (x.1.1, b)) (K := KK) HGZ.out HBX0.out HYS.out HM.out rfl ((HFD.out.trans HFC.out).alloc _) rfl ((HCP.out.low (by have := HBS.out; omega)).fr (C := NoBlk) ((Fr.refl NoBlk W3).alloc _) fun _ _ e => e) HO4.out ho2 hg2 HKW.out)
            obtain ⟨A2, c2, rfl, _, _⟩ := own_form ho2
            have HB5 : Hid (Bk W5 gd 40 #[.slice Av m cv]) := ((HBXd.out.fr HFC.out fun h => h).alloc _).fr (Fr.ofGrown hg2) (fun e => own_apart HO4.out ((HBXd.out.fr HFC.out fun h => h).alloc _) (by decide) e.symm)
            have hf5 := HB5.out.free 0
            have hl5 : W5.cell? ⟨gd, 0, none⟩ = some (.slice Av m cv) := HB5.out.cell 0
            clear ho2 hg2 hb2
            refine hK _ _ ?_
            clear hK K
            try simp only [Act.put, List.setIfInBounds_toArray]
            refine wpAnyIn_ready (rs := [7]) (by kernel_rfl) (by simp) ?_
            refine AllReadyIn.cons rfl (fun K hK => ?_) (AllReadyIn.nil)
            go_simp
            refine hK _ _ ?_
            clear hK K
            try simp only [Act.put, List.setIfInBounds_toArray, List.set_cons_zero, List.set_cons_succ]
            refine wpAnyIn_done (by kernel_rfl) ?_ _
            gi_wp2
            refine ⟨HNX.out.1.from _, by rw [← HKD.out]; exact HNX.out.2.1, ?_, ?_⟩
            · show GatZ _ _ ((pre ++ [x]).map fun (z : El zs) => (z.1.1, z.1.2.2)) _
              rw [List.map_append]
              exact HNX.out.2.2
            · exact (HNX.out.2.1 (gd + 1) (by rw [HKD.out]; exact .inr rfl)).trans HBT.out
          · skip
            go_simp
            refine hK _ _ ?_
            clear hK K
            try simp only [Act.put, List.setIfInBounds_toArray, List.set_cons_zero, List.set_cons_succ]
            refine wpAnyIn_ready (rs := [0, 5]) (by kernel_rfl) (by simp) ?_
            refine AllReadyIn.cons rfl (fun K hK => ?_) (AllReadyIn.cons rfl (fun K hK => ?_) (AllReadyIn.nil))
            · skip
              go_simp
              refine hK _ _ ?_
              clear hK K
              try simp only [Act.put, List.setIfInBounds_toArray, List.set_cons_zero, List.set_cons_succ]
              refine wpAnyIn_ready (rs := [5]) (by kernel_rfl) (by simp) ?_
              refine AllReadyIn.cons rfl (fun K hK => ?_) (AllReadyIn.nil)
              have HO4 : Hid ((W3.alloc (.cells #[.string (bstr x.1.1), .bool b.has, .slice b.va b.vn b.vc, .int .i64 b.home, .int .u64 (b.count : Int)] 61)).ownsRow w.heap.size 61 5 (.slice Av m cv) m (itsR ys)) := own_fr (own_fr HOVd.out HFC.out fun _ _ h => h) ((Fr.refl NoBlk _).alloc _) fun _ _ h => h
              have HS4 : Hid (Rd (W3.alloc (.cells #[.string (bstr x.1.1), .bool b.has, .slice b.va b.vn b.vc, .int .i64 b.home, .int .u64 (b.count : Int)] 61)) (some ⟨W3.heap.size, 0, none⟩) [.string (bstr x.1.1), .bool b.has, .slice b.va b.vn b.vc, .int .i64 b.home, .int .u64 (b.count : Int)]) := Rd.of_cells (Bk.new W3 61 #[.string (bstr x.1.1), .bool b.has, .slice b.va b.vn b.vc, .int .i64 b.home, .int .u64 (b.count : Int)])
              have hld4 : (W3.alloc (.cells #[.string (bstr x.1.1), .bool b.has, .slice b.va b.vn b.vc, .int .i64 b.home, .int .u64 (b.count : Int)] 61)).cell? ⟨gd, 0, none⟩ = some (.slice Av m cv) := (((HBXd.out.fr HFC.out fun h => h)).alloc _).cell 0
              have HON : Hid (∀ u ∈ ([.string (bstr x.1.1), .bool b.has, .slice b.va b.vn b.vc, .int .i64 b.home, .int .u64 (b.count : Int)] : List Value), u.oneCell' = true) := by intro u hu; simp only [List.mem_cons, List.not_mem_nil, or_false] at hu; rcases hu with rfl | rfl | rfl | rfl | rfl <;> rfl
              have HSZ4 : Hid (w.heap.size ≤ (W3.alloc (.cells #[.string (bstr x.1.1), .bool b.has, .slice b.va b.vn b.vc, .int .i64 b.home, .int .u64 (b.count : Int)] 61)).heap.size) := by show _ ≤ _; have h1 := HFC.out.size; have h2 := HBS.out; rw [World.size_alloc]; omega
              go_simp
              refine hK _ _ ?_
              clear hK K
              try simp only [Act.put, List.setIfInBounds_toArray, List.set_cons_zero, List.set_cons_succ]
              refine wpAnyIn_ready (rs := [6]) (by kernel_rfl) (by simp) ?_
              refine AllReadyIn.cons rfl (fun K hK => ?_) (AllReadyIn.nil)
              refine step_appWIn rfl _ _ 40 rfl w.heap.size 61 i0 _ 5 64 Try.underlying40 hi hz0 hz1 hz2 rfl (by decide) (.slice Av m cv) m (itsR ys) rfl HO4.out (some ⟨W3.heap.size, 0, none⟩) 1 1 [.string (bstr x.1.1), .bool b.has, .slice b.va b.vn b.vc, .int .i64 b.home, .int .u64 (b.count : Int)] rfl rfl HS4.out HON.out (fun h => by cases h) (by unfold maxLen; have := HMK.out; omega) (by have := HMK.out; omega) HSZ4.out ?_
              intro v2 W5 ho2 hg2 hb2
              have HNX := Lib.hid (GatZ.next (x := (x.1.1, x.1.2.2)) (y := (x.1.1, b)) (K := KK) HGZ.out HBX0.out HYS.out HM.out rfl ((HFD.out.trans HFC.out).alloc _) rfl ((HCP.out.low (by have := HBS.out; omega)).fr (C := NoBlk) ((Fr.refl NoBlk W3).alloc _) fun _ _ e => e) HO4.out ho2 hg2 HKW.out)
              obtain ⟨A2, c2, rfl, _, _⟩ := own_form ho2
              have HB5 : Hid (Bk W5 gd 40 #[.slice Av m cv]) := ((HBXd.out.fr HFC.out fun h => h).alloc _).fr (Fr.ofGrown hg2) (fun e => own_apart HO4.out ((HBXd.out.fr HFC.out fun h => h).alloc _) (by decide) e.symm)
              have hf5 := HB5.out.free 0
              have hl5 : W5.cell? ⟨gd, 0, none⟩ = some (.slice Av m cv) := HB5.out.cell 0
              clear ho2 hg2 hb2
              refine hK _ _ ?_
              clear hK K
              try simp only [Act.put, List.setIfInBounds_toArray]
              refine wpAnyIn_ready (rs := [7]) (by kernel_rfl) (by simp) ?_
              refine AllReadyIn.cons rfl (fun K hK => ?_) (AllReadyIn.nil)
              go_simp
              refine hK _ _ ?_
              clear hK K
              try simp only [Act.put, List.setIfInBounds_toArray, List.set_cons_zero, List.set_cons_succ]
              refine wpAnyIn_done (by kernel_rfl) ?_ _
              gi_wp2
              refine ⟨HNX.out.1.from _, by rw [← HKD.out]; exact HNX.out.2.1, ?_, ?_⟩
              · show GatZ _ _ ((pre ++ [x]).map fun (z : El zs) => (z.1.1, z.1.2.2)) _
                rw [List.map_append]
                exact HNX.out.2.2
              · exact (HNX.out.2.1 (gd + 1) (by rw [HKD.out]; exact .inr rfl)).trans HBT.out
            · skip
              have HO4 : Hid ((W3.alloc (.cells #[.string (bstr x.1.1), .bool b.has, .slice b.va b.vn b.vc, .int .i64 b.home, .int .u64 (b.count : Int)] 61)).ownsRow w.heap.size 61 5 (.slice Av m cv) m (itsR ys)) := own_fr (own_fr HOVd.out HFC.out fun _ _ h => h) ((Fr.refl NoBlk _).alloc _) fun _ _ h => h
              have HS4 : Hid (Rd (W3.alloc (.cells #[.string (bstr x.1.1), .bool b.has, .slice b.va b.vn b.vc, .int .i64 b.home, .int .u64 (b.count : Int)] 61)) (some ⟨W3.heap.size, 0, none⟩) [.string (bstr x.1.1), .bool b.has, .slice b.va b.vn b.vc, .int .i64 b.home, .int .u64 (b.count : Int)]) := Rd.of_cells (Bk.new W3 61 #[.string (bstr x.1.1), .bool b.has, .slice b.va b.vn b.vc, .int .i64 b.home, .int .u64 (b.count : Int)])
              have hld4 : (W3.alloc (.cells #[.string (bstr x.1.1), .bool b.has, .slice b.va b.vn b.vc, .int .i64 b.home, .int .u64 (b.count : Int)] 61)).cell? ⟨gd, 0, none⟩ = some (.slice Av m cv) := (((HBXd.out.fr HFC.out fun h => h)).alloc _).cell 0
              have HON : Hid (∀ u ∈ ([.string (bstr x.1.1), .bool b.has, .slice b.va b.vn b.vc, .int .i64 b.home, .int .u64 (b.count : Int)] : List Value), u.oneCell' = true) := by intro u hu; simp only [List.mem_cons, List.not_mem_nil, or_false] at hu; rcases hu with rfl | rfl | rfl | rfl | rfl <;> rfl
              have HSZ4 : Hid (w.heap.size ≤ (W3.alloc (.cells #[.string (bstr x.1.1), .bool b.has, .slice b.va b.vn b.vc, .int .i64 b.home, .int .u64 (b.count : Int)] 61)).heap.size) := by show _ ≤ _; have h1 := HFC.out.size; have h2 := HBS.out; rw [World.size_alloc]; omega
              go_simp
              refine hK _ _ ?_
              clear hK K
              try simp only [Act.put, List.setIfInBounds_toArray, List.set_cons_zero, List.set_cons_succ]
              refine wpAnyIn_ready (rs := [0]) (by kernel_rfl) (by simp) ?_
              refine AllReadyIn.cons rfl (fun K hK => ?_) (AllReadyIn.nil)
              go_simp
              refine hK _ _ ?_
              clear hK K
              try simp only [Act.put, List.setIfInBounds_toArray, List.set_cons_zero, List.set_cons_succ]
              refine wpAnyIn_ready (rs := [6]) (by kernel_rfl) (by simp) ?_
              refine AllReadyIn.cons rfl (fun K hK => ?_) (AllReadyIn.nil)
              refine step_appWIn rfl _ _ 40 rfl w.heap.size 61 i0 _ 5 64 Try.underlying40 hi hz0 hz1 hz2 rfl (by decide) (.slice Av m cv) m (itsR ys) rfl HO4.out (some ⟨W3.heap.size, 0, none⟩) 1 1 [.string (bstr x.1.1), .bool b.has, .slice b.va b.vn b.vc, .int .i64 b.home, .int .u64 (b.count : Int)] rfl rfl HS4.out HON.out (fun h => by cases h) (by unfold maxLen; have := HMK.out; omega) (by have := HMK.out; omega) HSZ4.out ?_
              intro v2 W5 ho2 hg2 hb2
              have HNX := Lib.hid (GatZ.next (x := (x.1.1, x.1.2.2)) (y := (x.1.1, b)) (K := KK) HGZ.out HBX0.out HYS.out HM.out rfl ((HFD.out.trans HFC.out).alloc _) rfl ((HCP.out.low (by have := HBS.out; omega)).fr (C := NoBlk) ((Fr.refl NoBlk W3).alloc _) fun _ _ e => e) HO4.out ho2 hg2 HKW.out)
              obtain ⟨A2, c2, rfl, _, _⟩ := own_form ho2
              have HB5 : Hid (Bk W5 gd 40 #[.slice Av m cv]) := ((HBXd.out.fr HFC.out fun h => h).alloc _).fr (Fr.ofGrown hg2) (fun e => own_apart HO4.out ((HBXd.out.fr HFC.out fun h => h).alloc _) (by decide) e.symm)
              have hf5 := HB5.out.free 0
              have hl5 : W5.cell? ⟨gd, 0, none⟩ = some (.slice Av m cv) := HB5.out.cell 0
              clear ho2 hg2 hb2
              refine hK _ _ ?_
              clear hK K
              try simp only [Act.put, List.setIfInBounds_toArray]
              refine wpAnyIn_ready (rs := [7]) (by kernel_rfl) (by simp) ?_
              refine AllReadyIn.cons rfl (fun K hK => ?_) (AllReadyIn.nil)
              go_simp
              refine hK _ _ ?_
              clear hK K
              try simp only [Act.put, List.setIfInBounds_toArray, List.set_cons_zero, List.set_cons_succ]
              refine wpAnyIn_done (by kernel_rfl) ?_ _
              gi_wp2
              refine ⟨HNX.out.1.from _, by rw [← HKD.out]; exact HNX.out.2.1, ?_, ?_⟩
              · show GatZ _ _ ((pre ++ [x]).map fun (z : El zs) => (z.1.1, z.1.2.2)) _
                rw [List.map_append]
                exact HNX.out.2.2
              · exact (HNX.out.2.1 (gd + 1) (by rw [HKD.out]; exact .inr rfl)).trans HBT.out
  case done =>
    rintro D ys W hD hS hI hK
    have hgo := hI.1.others (grownBy_putObj' W D (.deferred none)) (fun r e => by cases e; exact ⟨by have := HGE.out; omega, _, hK, rfl⟩)
    obtain ⟨v, zs2, hb, ho, hrs⟩ := hgo.box
    obtain ⟨v', zs2', hb', ho', _⟩ := hI.1.box
    obtain rfl : v' = v := by
      have h1 := hb'.others (grownBy_putObj' W D (.deferred none)) (fun r e => by cases e; exact ⟨_, hK, rfl⟩)
      unfold Bk at h1 hb
      rw [h1] at hb
      simpa using hb
    have hc1 : W.cell? ⟨gd, 0, none⟩ = some v' := hb'.cell 0
    have HGO := Lib.hid hgo
    have HO := Lib.hid ho
    have HRS := Lib.hid hrs
    have HKD := Lib.hid hK
    have hel := els_of HS.out.tr.up hS
    have HEL := Lib.hid hel
    obtain ⟨Av, cv, rfl, _, _⟩ := own_form ho
    clear hI hb ho hb' ho' hrs hK hgo hS hD hel
    obtain ⟨m, hm⟩ : ∃ m, m = (ys.map fun (z : El zs) => (z.1.1, z.1.2.2)).length := ⟨_, rfl⟩
    have HM := Lib.hid hm
    rw [← hm] at hc1
    clear hm
    gi_wp2
    refine ⟨by simp, .inl ⟨_, _, rfl, run_takeDeferred HKD.out, ?_⟩⟩
    have h1 := HO.out
    have h2 := HRS.out
    rw [HEL.out] at h1 h2
    have h3 : m = (rz zs).length := by rw [HM.out, HEL.out]
    refine ⟨_, results_tmp rfl _ _ _, Av, cv, zs2, by rw [← h3]; rfl, ?_, h2, HGO.out.fr⟩
    rw [← h3]
    rw [← h3] at h1
    exact h1
  case stop =>
    rintro D c' pre W _ _ h _
    exact h.elim
end Go.Proofs.Ytkdcacajacndmaa
