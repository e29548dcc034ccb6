/- OrderItemsApart is true: unlike items have unlike bytes, which end with their order's. No condition. -/
import Derived.Test.YtakbjjohfcgaoaaLawp
import Derived.Test.YtakbjjohfcgaoaaSpeaks9
import Derived.Test.YtakbjjohfcgaoaaOpenO
import Derived.Test.YtakbjjohfcgaoaaItem
import Derived.Deep.RegionWith
namespace Go.Proofs.Ytakbjjohfcgaoaa.orderItemsApart
open Go.ChangeShapes Go.WideShapes Go.ChangeAt Go.RowKit

set_option maxRecDepth 100000 in
set_option maxHeartbeats 16000000 in
theorem walk (w : World) (a b : It) (ha : OdIn w a.o) (hb : OdIn w b.o) (na : Bnd a.o) (nb : Bnd b.o) : Calls Try.prog 5 #[itv a, itv b] w fun e w' => e = .returned (.bool true) ∧ Fr NoBlk w w' := by
  obtain ⟨w0, hw0⟩ : ∃ w0, w0 = (w.alloc (.cells (ita a) 51)).alloc (.cells (ita b) 51) := ⟨_, rfl⟩
  have HF0 : Hid (Fr NoBlk w w0) := by
    show Fr _ _ _
    rw [hw0]
    exact ((Fr.refl _ _).alloc _).alloc _
  have HBA0 : Hid (Bk w0 w.heap.size 51 (ita a)) := by
    show Bk _ _ _ _
    rw [hw0]
    exact (Bk.new w _ _).alloc _
  have HBB0 : Hid (Bk w0 (w.heap.size + 1) 51 (ita b)) := by
    show Bk _ _ _ _
    rw [hw0]
    exact Bk.new2 w _ _ _
  have HA := Lib.hid ha
  have HB := Lib.hid hb
  have HNA := Lib.hid na
  have HNB := Lib.hid nb
  clear ha hb na nb
  unfold ita at hw0
  unfold itv ita
  go_enter Try.func5, Try.ntmps5
  go_wp2_with fail
  rw [← hw0]
  clear hw0
  refine (speaks_any _).mono ?_
  rintro e w1 ⟨rfl, hf1⟩
  have HF1 := Lib.hid (HF0.out.trans hf1)
  have HBA1 := Lib.hid (HBA0.out.fr hf1 (fun h => h))
  have HBB1 := Lib.hid (HBB0.out.fr hf1 (fun h => h))
  clear hf1 HBA0 HBB0 HF0
  obtain ⟨_, _, p2, p3, p4, p5, p6, p7, p8, p9, p10, p11⟩ := HBA1.out.item
  have HG1 := Lib.hid (ogreat_any w1 a.o (HA.out.nofr HF1.out))
  unfold odv oda at HG1
  go_wp2_with fail
  refine HG1.out.mono ?_
  rintro e w2 ⟨⟨ba, rfl, hsa⟩, hf2⟩
  have HF2 := Lib.hid (HF1.out.trans hf2)
  have HBA2 := Lib.hid (HBA1.out.fr hf2 (fun h => h))
  have HBB2 := Lib.hid (HBB1.out.fr hf2 (fun h => h))
  have HSMA := Lib.hid hsa
  clear p2 p3 p4 p5 p6 p7 p8 p9 p10 p11 hf2 HBA1 HBB1 HF1 hsa HG1
  cases ba
  rotate_left
  · go_wp2_with fail
    go_ret
    exact ⟨rfl, HF2.out⟩
  have HSA := Lib.hid (HSMA.out rfl)
  clear HSMA
  obtain ⟨_, _, p2, p3, p4, p5, p6, p7, p8, p9, p10, p11⟩ := HBB2.out.item
  have HG2 := Lib.hid (ogreat_any w2 b.o (HB.out.nofr HF2.out))
  unfold odv oda at HG2
  go_wp2_with fail
  refine HG2.out.mono ?_
  rintro e w3 ⟨⟨bb, rfl, hsb⟩, hf3⟩
  have HF3 := Lib.hid (HF2.out.trans hf3)
  have HBA3 := Lib.hid (HBA2.out.fr hf3 (fun h => h))
  have HBB3 := Lib.hid (HBB2.out.fr hf3 (fun h => h))
  have HSMB := Lib.hid hsb
  clear p2 p3 p4 p5 p6 p7 p8 p9 p10 p11 hf3 HBA2 HBB2 HF2 hsb HG2
  cases bb
  rotate_left
  · go_wp2_with fail
    go_ret
    exact ⟨rfl, HF3.out⟩
  have HSB := Lib.hid (HSMB.out rfl)
  clear HSMB
  obtain ⟨p0, p1, p2, p3, p4, p5, p6, p7, p8, p9, p10, p11⟩ := HBA3.out.item
  have HW1 := Lib.hid (writeItem_any w3 a (HA.out.nofr HF3.out) (by have := HSA.out.t.r; omega) (by have := HSA.out.t.w; omega) HNA.out)
  unfold itv ita WriteItemPost at HW1
  go_wp2_with fail
  refine HW1.out.mono ?_
  clear HW1
  intro e w4 hp4
  by_cases hra : itemR a = true
  rotate_left
  · rw [if_neg hra] at hp4
    obtain ⟨rfl, hf4⟩ := hp4
    have HF4 := Lib.hid (HF3.out.trans hf4)
    have HBB4 := Lib.hid (HBB3.out.fr hf4 (fun h => h))
    clear hf4 hra p0 p1 p2 p3 p4 p5 p6 p7 p8 p9 p10 p11
    obtain ⟨p0, p1, p2, p3, p4, p5, p6, p7, p8, p9, p10, p11⟩ := HBB4.out.item
    have HW2 := Lib.hid (writeItem_any w4 b (HB.out.nofr HF4.out) (by have := HSB.out.t.r; omega) (by have := HSB.out.t.w; omega) HNB.out)
    unfold itv ita WriteItemPost at HW2
    go_wp2_with fail
    refine HW2.out.mono ?_
    clear HW2
    intro e w5 hp5
    by_cases hrb : itemR b = true
    · rw [if_pos hrb] at hp5
      obtain ⟨v5, rfl, hn5⟩ := hp5
      have HF5 := Lib.hid (HF4.out.trans hn5.fr)
      clear hn5 hrb
      go_wp2_with fail
      go_ret
      exact ⟨rfl, HF5.out⟩
    · rw [if_neg hrb] at hp5
      obtain ⟨rfl, hf5⟩ := hp5
      have HF5 := Lib.hid (HF4.out.trans hf5)
      clear hf5 hrb
      go_wp2_with fail
      go_ret
      exact ⟨rfl, HF5.out⟩
  rw [if_pos hra] at hp4
  obtain ⟨v4, rfl, hn4⟩ := hp4
  obtain ⟨A4, c4, rfl, hc4, hA4⟩ := own_form hn4.own
  have HR4 := Lib.hid (Rd.of_own hn4.own)
  have HC4 : Hid ((itemB a).length ≤ c4 ∧ (A4 = none → c4 = 0)) := ⟨hc4, hA4⟩
  have HF4 := Lib.hid (HF3.out.trans hn4.fr)
  have HBA4 := Lib.hid (HBA3.out.fr hn4.fr (fun h => h))
  have HBB4 := Lib.hid (HBB3.out.fr hn4.fr (fun h => h))
  have HRA := Lib.hid hra
  clear hn4 hc4 hA4 hra p0 p1 p2 p3 p4 p5 p6 p7 p8 p9 p10 p11
  obtain ⟨p0, p1, p2, p3, p4, p5, p6, p7, p8, p9, p10, p11⟩ := HBB4.out.item
  have HW2 := Lib.hid (writeItem_any w4 b (HB.out.nofr HF4.out) (by have := HSB.out.t.r; omega) (by have := HSB.out.t.w; omega) HNB.out)
  unfold itv ita WriteItemPost at HW2
  go_wp2_with fail
  refine HW2.out.mono ?_
  clear HW2
  intro e w5 hp5
  by_cases hrb : itemR b = true
  rotate_left
  · rw [if_neg hrb] at hp5
    obtain ⟨rfl, hf5⟩ := hp5
    have HF5 := Lib.hid (HF4.out.trans hf5)
    clear hf5 hrb
    go_wp2_with fail
    go_ret
    exact ⟨rfl, HF5.out⟩
  rw [if_pos hrb] at hp5
  obtain ⟨v5, rfl, hn5⟩ := hp5
  obtain ⟨A5, c5, rfl, hc5, hA5⟩ := own_form hn5.own
  have HR5 := Lib.hid (Rd.of_own hn5.own)
  have HF5 := Lib.hid (HF4.out.trans hn5.fr)
  have HF45 := Lib.hid hn5.fr
  have HBA5 := Lib.hid (HBA4.out.fr hn5.fr (fun h => h))
  have HBB5 := Lib.hid (HBB4.out.fr hn5.fr (fun h => h))
  have HRB := Lib.hid hrb
  clear hn5 hc5 hA5 hrb p0 p1 p2 p3 p4 p5 p6 p7 p8 p9 p10 p11
  obtain ⟨_, _, p2, p3, p4, p5, p6, p7, p8, p9, p10, p11⟩ := HBA5.out.item
  have hwo := write_any w5 a.o (HA.out.nofr HF5.out) (by have := HSA.out.t.r; omega) (by have := HSA.out.t.w; omega) HNA.out
  unfold WritePost at hwo
  simp only [if_pos (itemR_at HRA.out).1] at hwo
  have HW3 := Lib.hid hwo
  unfold odv oda at HW3
  clear hwo
  go_wp2_with fail
  refine HW3.out.mono ?_
  rintro e w6 ⟨v6, rfl, hn6⟩
  obtain ⟨A6, c6, rfl, hc6, hA6⟩ := own_form hn6.own
  have HR6 := Lib.hid (Rd.of_own hn6.own)
  have HF6 := Lib.hid (HF5.out.trans hn6.fr)
  have HF56 := Lib.hid hn6.fr
  have HBA6 := Lib.hid (HBA5.out.fr hn6.fr (fun h => h))
  have HBB6 := Lib.hid (HBB5.out.fr hn6.fr (fun h => h))
  clear hn6 hc6 hA6 HW3 p2 p3 p4 p5 p6 p7 p8 p9 p10 p11
  obtain ⟨k2, hk2⟩ : ∃ k2, k2 = (nums [a.kind.toNat, a.idx.toNat]).length := ⟨_, rfl⟩
  have hpos : 0 < k2 := by
    rw [hk2]
    unfold nums
    simp only [List.flatMap_cons, List.length_append]
    have := List.length_pos_iff.2 (num_ne a.kind.toNat)
    omega
  have hpo : 0 < (orderB a.o).length := by
    unfold orderB nums
    simp only [List.flatMap_cons, List.length_append]
    have := List.length_pos_iff.2 (num_ne a.o.node.toNat)
    omega
  have hlen : (itemB a).length = k2 + (orderB a.o).length := by rw [hk2]; unfold itemB; rw [List.length_append]
  have hcap := HC4.out.1
  rw [hlen] at hcap
  have hdr : (itemB a).drop k2 = orderB a.o := by rw [hk2]; unfold itemB; rw [List.drop_left]
  have HR7 : Hid (Rd w4 (A4.map fun q => q.add k2) (cb (orderB a.o))) := by
    have h := HR4.out.cut (k := k2) (cap := c4) (by rw [cb_length, hlen]; omega) (by rw [cb_length, hlen]; exact hcap)
    rw [if_neg (by omega), ← cb_drop, hdr] at h
    exact h
  have HEQ := Lib.hid (itemB_iff HRA.out HRB.out ⟨HNA.out, HA.out.nums⟩ ⟨HNB.out, HB.out.nums⟩)
  have hxs : k2 + (orderB a.o).length ≤ 1000000 := by
    have h1 := orderB_len (orderR_wod (itemR_at HRA.out).1 HNA.out) (orderR_small (itemR_at HRA.out).1) HA.out.nums
    obtain ⟨_, r1, r2, r3, r4⟩ := itemR_at HRA.out
    have h2 := nums_len [a.kind.toNat, a.idx.toNat] (fun n hx => by
      simp only [List.mem_cons, List.not_mem_nil, or_false] at hx
      rcases hx with rfl | rfl <;> omega)
    rw [← hk2] at h2
    simp only [List.length_cons, List.length_nil] at h2
    omega
  have HSAM := Lib.hid fun W (hf : Fr NoBlk w6 W) => sameItem_any W a b (HA.out.nofr (HF6.out.trans hf)) (HB.out.nofr (HF6.out.trans hf)) HSA.out HSB.out
  obtain ⟨nO, hnO⟩ : ∃ nO, nO = (orderB a.o).length := ⟨_, rfl⟩
  obtain ⟨n5, hn5⟩ : ∃ n5, n5 = (itemB b).length := ⟨_, rfl⟩
  have hl4 : k2 + nO = (itemB a).length := by rw [hnO]; exact hlen.symm
  have HL4 := Lib.hid hl4
  have HL5 := Lib.hid hn5
  have HL6 := Lib.hid hnO
  rw [← hnO] at hpo hlen hcap hxs ⊢
  rw [← hn5, hlen]
  clear hk2 hlen hdr hnO hn5 hl4
  obtain ⟨X4, hX4⟩ : ∃ X4, X4 = itemB a := ⟨_, rfl⟩
  obtain ⟨X5, hX5⟩ : ∃ X5, X5 = itemB b := ⟨_, rfl⟩
  obtain ⟨X6, hX6⟩ : ∃ X6, X6 = orderB a.o := ⟨_, rfl⟩
  rw [← hX4] at HR4 HEQ HL4
  rw [← hX5] at HR5 HEQ HL5
  rw [← hX6] at HR6 HR7 HL6
  clear hX4 hX5 hX6
  have e3 := bstr_toList X4
  have e4 := bstr_toList X5
  have e5 := bstr_toList X6
  have hq := HEQ.out
  generalize itemSame a b = sm at *
  have sOf : Hid (∀ w', Fr NoBlk w6 w' → (w'.cell? ⟨w.heap.size, 0, none⟩ = some (.int .i64 a.kind) ∧ w'.cell? ⟨w.heap.size, 1, none⟩ = some (.int .i64 a.idx) ∧ w'.cell? ⟨w.heap.size, 2, none⟩ = some (.int .i64 a.o.node) ∧ w'.cell? ⟨w.heap.size, 3, none⟩ = some (.int .u64 (a.o.epoch : Int)) ∧ w'.cell? ⟨w.heap.size, 4, none⟩ = some (.int .u64 (a.o.seq : Int)) ∧ w'.cell? ⟨w.heap.size, 5, none⟩ = some (.int .i64 a.o.tr) ∧ w'.cell? ⟨w.heap.size, 6, none⟩ = some (.int .i64 a.o.t.kind) ∧ w'.cell? ⟨w.heap.size, 7, none⟩ = some (.slice a.o.t.ra a.o.t.reads.length a.o.t.rc) ∧ w'.cell? ⟨w.heap.size, 8, none⟩ = some (.slice a.o.t.wa a.o.t.writes.length a.o.t.wc) ∧ w'.cell? ⟨w.heap.size, 9, none⟩ = some (.slice a.o.t.oa a.o.t.ops.length a.o.t.oc) ∧ w'.cell? ⟨w.heap.size, 10, none⟩ = some (.int .i64 a.o.t.to) ∧ w'.cell? ⟨w.heap.size, 11, none⟩ = some (.slice a.o.ma a.o.marks.length a.o.mc)) ∧ ((w'.cell? ⟨w.heap.size + 1, 0, none⟩ = some (.int .i64 b.kind) ∧ w'.cell? ⟨w.heap.size + 1, 1, none⟩ = some (.int .i64 b.idx) ∧ w'.cell? ⟨w.heap.size + 1, 2, none⟩ = some (.int .i64 b.o.node) ∧ w'.cell? ⟨w.heap.size + 1, 3, none⟩ = some (.int .u64 (b.o.epoch : Int)) ∧ w'.cell? ⟨w.heap.size + 1, 4, none⟩ = some (.int .u64 (b.o.seq : Int)) ∧ w'.cell? ⟨w.heap.size + 1, 5, none⟩ = some (.int .i64 b.o.tr) ∧ w'.cell? ⟨w.heap.size + 1, 6, none⟩ = some (.int .i64 b.o.t.kind) ∧ w'.cell? ⟨w.heap.size + 1, 7, none⟩ = some (.slice b.o.t.ra b.o.t.reads.length b.o.t.rc) ∧ w'.cell? ⟨w.heap.size + 1, 8, none⟩ = some (.slice b.o.t.wa b.o.t.writes.length b.o.t.wc) ∧ w'.cell? ⟨w.heap.size + 1, 9, none⟩ = some (.slice b.o.t.oa b.o.t.ops.length b.o.t.oc) ∧ w'.cell? ⟨w.heap.size + 1, 10, none⟩ = some (.int .i64 b.o.t.to) ∧ w'.cell? ⟨w.heap.size + 1, 11, none⟩ = some (.slice b.o.ma b.o.marks.length b.o.mc)) ∧ ((convert 45 9 (.slice A4 (k2 + nO) c4)).run Try.prog w' = .ok (.string (bstr (X4))) w' ∧ ((convert 45 9 (.slice A5 n5 c5)).run Try.prog w' = .ok (.string (bstr (X5))) w' ∧ ((convert 45 9 (.slice A6 nO c6)).run Try.prog w' = .ok (.string (bstr (X6))) w' ∧ (convert 45 9 (.slice (A4.map fun q => q.add k2) nO (c4 - k2))).run Try.prog w' = .ok (.string (bstr (X6))) w'))))) := fun W hf => ⟨(HBA6.out.fr hf (fun h => h)).item, (HBB6.out.fr hf (fun h => h)).item,
    strOf W A4 _ c4 X4 HL4.out (HR4.out.nofr (HF45.out.trans (HF56.out.trans hf))), strOf W A5 _ c5 X5 HL5.out (HR5.out.nofr (HF56.out.trans hf)), strOf W A6 _ c6 X6 HL6.out (HR6.out.nofr hf),
    strOf W _ _ (c4 - k2) X6 HL6.out (HR7.out.nofr (HF45.out.trans (HF56.out.trans hf)))⟩
  have w1' : IntKind.i64.wrap (k2 : Int) = (k2 : Int) := IntWalk.i64_in _ (by omega)
  have b1 : (0 : Int) ≤ (k2 : Int) := by omega
  have b2 : (k2 : Int) ≤ (k2 : Int) + (nO : Int) := by omega
  have b3 : (nO : Int) < (k2 : Int) + (nO : Int) := by omega
  have b4 : ¬ c4 = k2 := by omega
  have b5 : k2 + nO - k2 = nO := by omega
  unfold itv ita at HSAM
  clear HRA HRB HR4 HR5 HR6 HR7 HL4 HL5 HL6 HC4 HF45 HF56 HBA5 HBB5 HBA4 HBB4 HF5 HF4 HF3 HBA3 HBB3
  go_wp2_with fail
  refine wp_region_held_drew (S := fun w' => (w'.cell? ⟨w.heap.size, 0, none⟩ = some (.int .i64 a.kind) ∧ w'.cell? ⟨w.heap.size, 1, none⟩ = some (.int .i64 a.idx) ∧ w'.cell? ⟨w.heap.size, 2, none⟩ = some (.int .i64 a.o.node) ∧ w'.cell? ⟨w.heap.size, 3, none⟩ = some (.int .u64 (a.o.epoch : Int)) ∧ w'.cell? ⟨w.heap.size, 4, none⟩ = some (.int .u64 (a.o.seq : Int)) ∧ w'.cell? ⟨w.heap.size, 5, none⟩ = some (.int .i64 a.o.tr) ∧ w'.cell? ⟨w.heap.size, 6, none⟩ = some (.int .i64 a.o.t.kind) ∧ w'.cell? ⟨w.heap.size, 7, none⟩ = some (.slice a.o.t.ra a.o.t.reads.length a.o.t.rc) ∧ w'.cell? ⟨w.heap.size, 8, none⟩ = some (.slice a.o.t.wa a.o.t.writes.length a.o.t.wc) ∧ w'.cell? ⟨w.heap.size, 9, none⟩ = some (.slice a.o.t.oa a.o.t.ops.length a.o.t.oc) ∧ w'.cell? ⟨w.heap.size, 10, none⟩ = some (.int .i64 a.o.t.to) ∧ w'.cell? ⟨w.heap.size, 11, none⟩ = some (.slice a.o.ma a.o.marks.length a.o.mc)) ∧ ((w'.cell? ⟨w.heap.size + 1, 0, none⟩ = some (.int .i64 b.kind) ∧ w'.cell? ⟨w.heap.size + 1, 1, none⟩ = some (.int .i64 b.idx) ∧ w'.cell? ⟨w.heap.size + 1, 2, none⟩ = some (.int .i64 b.o.node) ∧ w'.cell? ⟨w.heap.size + 1, 3, none⟩ = some (.int .u64 (b.o.epoch : Int)) ∧ w'.cell? ⟨w.heap.size + 1, 4, none⟩ = some (.int .u64 (b.o.seq : Int)) ∧ w'.cell? ⟨w.heap.size + 1, 5, none⟩ = some (.int .i64 b.o.tr) ∧ w'.cell? ⟨w.heap.size + 1, 6, none⟩ = some (.int .i64 b.o.t.kind) ∧ w'.cell? ⟨w.heap.size + 1, 7, none⟩ = some (.slice b.o.t.ra b.o.t.reads.length b.o.t.rc) ∧ w'.cell? ⟨w.heap.size + 1, 8, none⟩ = some (.slice b.o.t.wa b.o.t.writes.length b.o.t.wc) ∧ w'.cell? ⟨w.heap.size + 1, 9, none⟩ = some (.slice b.o.t.oa b.o.t.ops.length b.o.t.oc) ∧ w'.cell? ⟨w.heap.size + 1, 10, none⟩ = some (.int .i64 b.o.t.to) ∧ w'.cell? ⟨w.heap.size + 1, 11, none⟩ = some (.slice b.o.ma b.o.marks.length b.o.mc)) ∧ ((convert 45 9 (.slice A4 (k2 + nO) c4)).run Try.prog w' = .ok (.string (bstr (X4))) w' ∧ ((convert 45 9 (.slice A5 n5 c5)).run Try.prog w' = .ok (.string (bstr (X5))) w' ∧ ((convert 45 9 (.slice A6 nO c6)).run Try.prog w' = .ok (.string (bstr (X6))) w' ∧ (convert 45 9 (.slice (A4.map fun q => q.add k2) nO (c4 - k2))).run Try.prog w' = .ok (.string (bstr (X6))) w'))))) (by kernel_rfl) (sOf.out _ ((Fr.refl _ _).drew)) (fun hHeld => ?_)
  refine wpAnyH_take (i := 0) (oi := ⟨some 43, _, _, _, _, _⟩) (v := ?_) rfl (by kernel_rfl) (by kernel_rfl) (by kernel_rfl) (fun _ _ _ h => h) (Or.inl ⟨by rfl, ?_⟩) (by assumption) ?_
  rotate_left 1
  · (intro w hSw; (try dsimp only at hSw); obtain ⟨⟨sa0, sa1, sa2, sa3, sa4, sa5, sa6, sa7, sa8, sa9, sa10, sa11⟩, ⟨sb0, sb1, sb2, sb3, sb4, sb5, sb6, sb7, sb8, sb9, sb10, sb11⟩, sc1, sc2, sc3, sc4⟩ := hSw; go_simp) <;> (with_reducible rfl)
  try simp only [Act.put, List.setIfInBounds_toArray, List.set_cons_zero, List.set_cons_succ]
  refine wpAnyH_take (i := 1) (oi := ⟨some 44, _, _, _, _, _⟩) (v := ?_) rfl (by kernel_rfl) (by kernel_rfl) (by kernel_rfl) (fun _ _ _ h => h) (Or.inl ⟨by rfl, ?_⟩) (by assumption) ?_
  rotate_left 1
  · (intro w hSw; (try dsimp only at hSw); obtain ⟨⟨sa0, sa1, sa2, sa3, sa4, sa5, sa6, sa7, sa8, sa9, sa10, sa11⟩, ⟨sb0, sb1, sb2, sb3, sb4, sb5, sb6, sb7, sb8, sb9, sb10, sb11⟩, sc1, sc2, sc3, sc4⟩ := hSw; go_simp) <;> (with_reducible rfl)
  try simp only [Act.put, List.setIfInBounds_toArray, List.set_cons_zero, List.set_cons_succ]
  refine wpAnyH_take (i := 2) (oi := ⟨some 45, _, _, _, _, _⟩) (v := ?_) rfl (by kernel_rfl) (by kernel_rfl) (by kernel_rfl) (fun _ _ _ h => h) (Or.inl ⟨by rfl, ?_⟩) (by assumption) ?_
  rotate_left 1
  · (intro w hSw; (try dsimp only at hSw); obtain ⟨⟨sa0, sa1, sa2, sa3, sa4, sa5, sa6, sa7, sa8, sa9, sa10, sa11⟩, ⟨sb0, sb1, sb2, sb3, sb4, sb5, sb6, sb7, sb8, sb9, sb10, sb11⟩, sc1, sc2, sc3, sc4⟩ := hSw; go_simp) <;> (with_reducible rfl)
  try simp only [Act.put, List.setIfInBounds_toArray, List.set_cons_zero, List.set_cons_succ]
  refine wpAnyH_take (i := 3) (oi := ⟨some 46, _, _, _, _, _⟩) (v := ?_) rfl (by kernel_rfl) (by kernel_rfl) (by kernel_rfl) (fun _ _ _ h => h) (Or.inl ⟨by rfl, ?_⟩) (by assumption) ?_
  rotate_left 1
  · (intro w hSw; (try dsimp only at hSw); obtain ⟨⟨sa0, sa1, sa2, sa3, sa4, sa5, sa6, sa7, sa8, sa9, sa10, sa11⟩, ⟨sb0, sb1, sb2, sb3, sb4, sb5, sb6, sb7, sb8, sb9, sb10, sb11⟩, sc1, sc2, sc3, sc4⟩ := hSw; go_simp) <;> (with_reducible rfl)
  try simp only [Act.put, List.setIfInBounds_toArray, List.set_cons_zero, List.set_cons_succ]
  refine wpAnyH_take (i := 4) (oi := ⟨some 47, _, _, _, _, _⟩) (v := ?_) rfl (by kernel_rfl) (by kernel_rfl) (by kernel_rfl) (fun _ _ _ h => h) (Or.inl ⟨by rfl, ?_⟩) (by assumption) ?_
  rotate_left 1
  · (intro w hSw; (try dsimp only at hSw); obtain ⟨⟨sa0, sa1, sa2, sa3, sa4, sa5, sa6, sa7, sa8, sa9, sa10, sa11⟩, ⟨sb0, sb1, sb2, sb3, sb4, sb5, sb6, sb7, sb8, sb9, sb10, sb11⟩, sc1, sc2, sc3, sc4⟩ := hSw; go_simp) <;> (with_reducible rfl)
  try simp only [Act.put, List.setIfInBounds_toArray, List.set_cons_zero, List.set_cons_succ]
  refine wpAnyH_take (i := 5) (oi := ⟨some 48, _, _, _, _, _⟩) (v := ?_) rfl (by kernel_rfl) (by kernel_rfl) (by kernel_rfl) (fun _ _ _ h => h) (Or.inl ⟨by rfl, ?_⟩) (by assumption) ?_
  rotate_left 1
  · (intro w hSw; (try dsimp only at hSw); obtain ⟨⟨sa0, sa1, sa2, sa3, sa4, sa5, sa6, sa7, sa8, sa9, sa10, sa11⟩, ⟨sb0, sb1, sb2, sb3, sb4, sb5, sb6, sb7, sb8, sb9, sb10, sb11⟩, sc1, sc2, sc3, sc4⟩ := hSw; go_simp) <;> (with_reducible rfl)
  try simp only [Act.put, List.setIfInBounds_toArray, List.set_cons_zero, List.set_cons_succ]
  refine wpAnyH_take (i := 6) (oi := ⟨some 49, _, _, _, _, _⟩) (v := ?_) rfl (by kernel_rfl) (by kernel_rfl) (by kernel_rfl) (fun _ _ _ h => h) (Or.inl ⟨by rfl, ?_⟩) (by assumption) ?_
  rotate_left 1
  · (intro w hSw; (try dsimp only at hSw); obtain ⟨⟨sa0, sa1, sa2, sa3, sa4, sa5, sa6, sa7, sa8, sa9, sa10, sa11⟩, ⟨sb0, sb1, sb2, sb3, sb4, sb5, sb6, sb7, sb8, sb9, sb10, sb11⟩, sc1, sc2, sc3, sc4⟩ := hSw; go_simp) <;> (with_reducible rfl)
  try simp only [Act.put, List.setIfInBounds_toArray, List.set_cons_zero, List.set_cons_succ]
  refine wpAnyH_ready (rs := [7]) (by kernel_rfl) (by simp) ?_
  refine AllReadyH.cons (o := ⟨some 50, _, _, _, _, _⟩) rfl (fun K hK => ?_) AllReadyH.nil
  go_simp
  go_at_call 20
  refine (HSAM.out _ ((Fr.refl _ _).drew)).mono ?_
  rintro e w7 ⟨rfl, hf7⟩
  have HF7 := Lib.hid (((Fr.refl NoBlk w6).drew).trans hf7)
  clear hf7
  clear hHeld
  refine hK.out _ _ ?_ (fun hHeld => ?_)
  · exact sOf.out _ HF7.out
  clear hK K
  try simp only [Act.put, List.setIfInBounds_toArray, List.set_cons_zero, List.set_cons_succ]
  refine wpAnyH_take (i := 8) (oi := ⟨some 51, _, _, _, _, _⟩) (v := ?_) rfl (by kernel_rfl) (by kernel_rfl) (by kernel_rfl) (fun _ _ _ h => h) (Or.inl ⟨by rfl, ?_⟩) (by assumption) ?_
  rotate_left 1
  · (intro w hSw; (try dsimp only at hSw); obtain ⟨⟨sa0, sa1, sa2, sa3, sa4, sa5, sa6, sa7, sa8, sa9, sa10, sa11⟩, ⟨sb0, sb1, sb2, sb3, sb4, sb5, sb6, sb7, sb8, sb9, sb10, sb11⟩, sc1, sc2, sc3, sc4⟩ := hSw; go_simp) <;> (with_reducible rfl)
  try simp only [Act.put, List.setIfInBounds_toArray, List.set_cons_zero, List.set_cons_succ]
  refine wpAnyH_take (i := 9) (oi := ⟨some 52, _, _, _, _, _⟩) (v := ?_) rfl (by kernel_rfl) (by kernel_rfl) (by kernel_rfl) (fun _ _ _ h => h) (Or.inl ⟨by rfl, ?_⟩) (by assumption) ?_
  rotate_left 1
  · (intro w hSw; (try dsimp only at hSw); obtain ⟨⟨sa0, sa1, sa2, sa3, sa4, sa5, sa6, sa7, sa8, sa9, sa10, sa11⟩, ⟨sb0, sb1, sb2, sb3, sb4, sb5, sb6, sb7, sb8, sb9, sb10, sb11⟩, sc1, sc2, sc3, sc4⟩ := hSw; go_simp) <;> (with_reducible rfl)
  try simp only [Act.put, List.setIfInBounds_toArray, List.set_cons_zero, List.set_cons_succ]
  refine wpAnyH_take (i := 10) (oi := ⟨some 53, _, _, _, _, _⟩) (v := ?_) rfl (by kernel_rfl) (by kernel_rfl) (by kernel_rfl) (fun _ _ _ h => h) (Or.inl ⟨by rfl, ?_⟩) (by assumption) ?_
  rotate_left 1
  · (intro w hSw; (try dsimp only at hSw); obtain ⟨⟨sa0, sa1, sa2, sa3, sa4, sa5, sa6, sa7, sa8, sa9, sa10, sa11⟩, ⟨sb0, sb1, sb2, sb3, sb4, sb5, sb6, sb7, sb8, sb9, sb10, sb11⟩, sc1, sc2, sc3, sc4⟩ := hSw; go_simp) <;> (with_reducible rfl)
  try simp only [Act.put, List.setIfInBounds_toArray, List.set_cons_zero, List.set_cons_succ]
  refine wpAnyH_take (i := 11) (oi := ⟨some 54, _, _, _, _, _⟩) (v := ?_) rfl (by kernel_rfl) (by kernel_rfl) (by kernel_rfl) (fun _ _ _ h => h) (Or.inl ⟨by rfl, ?_⟩) (by assumption) ?_
  rotate_left 1
  · (intro w hSw; (try dsimp only at hSw); obtain ⟨⟨sa0, sa1, sa2, sa3, sa4, sa5, sa6, sa7, sa8, sa9, sa10, sa11⟩, ⟨sb0, sb1, sb2, sb3, sb4, sb5, sb6, sb7, sb8, sb9, sb10, sb11⟩, sc1, sc2, sc3, sc4⟩ := hSw; go_simp) <;> (with_reducible rfl)
  try simp only [Act.put, List.setIfInBounds_toArray, List.set_cons_zero, List.set_cons_succ]
  refine wpAnyH_take (i := 12) (oi := ⟨some 55, _, _, _, _, _⟩) (v := ?_) rfl (by kernel_rfl) (by kernel_rfl) (by kernel_rfl) (fun _ _ _ h => h) (Or.inl ⟨by rfl, ?_⟩) (by assumption) ?_
  rotate_left 1
  · (intro w hSw; (try dsimp only at hSw); obtain ⟨⟨sa0, sa1, sa2, sa3, sa4, sa5, sa6, sa7, sa8, sa9, sa10, sa11⟩, ⟨sb0, sb1, sb2, sb3, sb4, sb5, sb6, sb7, sb8, sb9, sb10, sb11⟩, sc1, sc2, sc3, sc4⟩ := hSw; go_simp) <;> (with_reducible rfl)
  try simp only [Act.put, List.setIfInBounds_toArray, List.set_cons_zero, List.set_cons_succ]
  refine wpAnyH_take (i := 13) (oi := ⟨some 56, _, _, _, _, _⟩) (v := ?_) rfl (by kernel_rfl) (by kernel_rfl) (by kernel_rfl) (fun _ _ _ h => h) (Or.inl ⟨by rfl, ?_⟩) (by assumption) ?_
  rotate_left 1
  · (intro w hSw; (try dsimp only at hSw); obtain ⟨⟨sa0, sa1, sa2, sa3, sa4, sa5, sa6, sa7, sa8, sa9, sa10, sa11⟩, ⟨sb0, sb1, sb2, sb3, sb4, sb5, sb6, sb7, sb8, sb9, sb10, sb11⟩, sc1, sc2, sc3, sc4⟩ := hSw; go_simp) <;> (with_reducible rfl)
  try simp only [Act.put, List.setIfInBounds_toArray, List.set_cons_zero, List.set_cons_succ]
  refine wpAnyH_take (i := 14) (oi := ⟨some 57, _, _, _, _, _⟩) (v := ?_) rfl (by kernel_rfl) (by kernel_rfl) (by kernel_rfl) (fun _ _ _ h => h) (Or.inl ⟨by rfl, ?_⟩) (by assumption) ?_
  rotate_left 1
  · (intro w hSw; (try dsimp only at hSw); obtain ⟨⟨sa0, sa1, sa2, sa3, sa4, sa5, sa6, sa7, sa8, sa9, sa10, sa11⟩, ⟨sb0, sb1, sb2, sb3, sb4, sb5, sb6, sb7, sb8, sb9, sb10, sb11⟩, sc1, sc2, sc3, sc4⟩ := hSw; go_simp) <;> (with_reducible rfl)
  try simp only [Act.put, List.setIfInBounds_toArray, List.set_cons_zero, List.set_cons_succ]
  refine wpAnyH_take (i := 15) (oi := ⟨some 58, _, _, _, _, _⟩) (v := ?_) rfl (by kernel_rfl) (by kernel_rfl) (by kernel_rfl) (fun _ _ _ h => h) (Or.inl ⟨by rfl, ?_⟩) (by assumption) ?_
  rotate_left 1
  · (intro w hSw; (try dsimp only at hSw); obtain ⟨⟨sa0, sa1, sa2, sa3, sa4, sa5, sa6, sa7, sa8, sa9, sa10, sa11⟩, ⟨sb0, sb1, sb2, sb3, sb4, sb5, sb6, sb7, sb8, sb9, sb10, sb11⟩, sc1, sc2, sc3, sc4⟩ := hSw; go_simp) <;> (with_reducible rfl)
  try simp only [Act.put, List.setIfInBounds_toArray, List.set_cons_zero, List.set_cons_succ]
  refine wpAnyH_take (i := 16) (oi := ⟨some 59, _, _, _, _, _⟩) (v := ?_) rfl (by kernel_rfl) (by kernel_rfl) (by kernel_rfl) (fun _ _ _ h => h) (Or.inl ⟨by rfl, ?_⟩) (by assumption) ?_
  rotate_left 1
  · (intro w hSw; (try dsimp only at hSw); obtain ⟨⟨sa0, sa1, sa2, sa3, sa4, sa5, sa6, sa7, sa8, sa9, sa10, sa11⟩, ⟨sb0, sb1, sb2, sb3, sb4, sb5, sb6, sb7, sb8, sb9, sb10, sb11⟩, sc1, sc2, sc3, sc4⟩ := hSw; go_simp) <;> (with_reducible rfl)
  try simp only [Act.put, List.setIfInBounds_toArray, List.set_cons_zero, List.set_cons_succ]
  refine wpAnyH_take (i := 17) (oi := ⟨some 60, _, _, _, _, _⟩) (v := ?_) rfl (by kernel_rfl) (by kernel_rfl) (by kernel_rfl) (fun _ _ _ h => h) (Or.inl ⟨by rfl, ?_⟩) (by assumption) ?_
  rotate_left 1
  · (intro w hSw; (try dsimp only at hSw); obtain ⟨⟨sa0, sa1, sa2, sa3, sa4, sa5, sa6, sa7, sa8, sa9, sa10, sa11⟩, ⟨sb0, sb1, sb2, sb3, sb4, sb5, sb6, sb7, sb8, sb9, sb10, sb11⟩, sc1, sc2, sc3, sc4⟩ := hSw; go_simp) <;> (with_reducible rfl)
  try simp only [Act.put, List.setIfInBounds_toArray, List.set_cons_zero, List.set_cons_succ]
  refine wpAnyH_take (i := 18) (oi := ⟨some 61, _, _, _, _, _⟩) (v := ?_) rfl (by kernel_rfl) (by kernel_rfl) (by kernel_rfl) (fun _ _ _ h => h) (Or.inl ⟨by rfl, ?_⟩) (by assumption) ?_
  rotate_left 1
  · (intro w hSw; (try dsimp only at hSw); obtain ⟨⟨sa0, sa1, sa2, sa3, sa4, sa5, sa6, sa7, sa8, sa9, sa10, sa11⟩, ⟨sb0, sb1, sb2, sb3, sb4, sb5, sb6, sb7, sb8, sb9, sb10, sb11⟩, sc1, sc2, sc3, sc4⟩ := hSw; go_simp) <;> (with_reducible rfl)
  try simp only [Act.put, List.setIfInBounds_toArray, List.set_cons_zero, List.set_cons_succ]
  refine wpAnyH_take (i := 19) (oi := ⟨some 62, _, _, _, _, _⟩) (v := ?_) rfl (by kernel_rfl) (by kernel_rfl) (by kernel_rfl) (fun _ _ _ h => h) (Or.inl ⟨by rfl, ?_⟩) (by assumption) ?_
  rotate_left 1
  · (intro w hSw; (try dsimp only at hSw); obtain ⟨⟨sa0, sa1, sa2, sa3, sa4, sa5, sa6, sa7, sa8, sa9, sa10, sa11⟩, ⟨sb0, sb1, sb2, sb3, sb4, sb5, sb6, sb7, sb8, sb9, sb10, sb11⟩, sc1, sc2, sc3, sc4⟩ := hSw; go_simp) <;> (with_reducible rfl)
  try simp only [Act.put, List.setIfInBounds_toArray, List.set_cons_zero, List.set_cons_succ]
  refine wpAnyH_take (i := 20) (oi := ⟨some 63, _, _, _, _, _⟩) (v := ?_) rfl (by kernel_rfl) (by kernel_rfl) (by kernel_rfl) (fun _ _ _ h => h) (Or.inl ⟨by rfl, ?_⟩) (by assumption) ?_
  rotate_left 1
  · (intro w hSw; (try dsimp only at hSw); obtain ⟨⟨sa0, sa1, sa2, sa3, sa4, sa5, sa6, sa7, sa8, sa9, sa10, sa11⟩, ⟨sb0, sb1, sb2, sb3, sb4, sb5, sb6, sb7, sb8, sb9, sb10, sb11⟩, sc1, sc2, sc3, sc4⟩ := hSw; go_simp) <;> (with_reducible rfl)
  try simp only [Act.put, List.setIfInBounds_toArray, List.set_cons_zero, List.set_cons_succ]
  refine wpAnyH_take (i := 21) (oi := ⟨some 64, _, _, _, _, _⟩) (v := ?_) rfl (by kernel_rfl) (by kernel_rfl) (by kernel_rfl) (fun _ _ _ h => h) (Or.inl ⟨by rfl, ?_⟩) (by assumption) ?_
  rotate_left 1
  · (intro w hSw; (try dsimp only at hSw); obtain ⟨⟨sa0, sa1, sa2, sa3, sa4, sa5, sa6, sa7, sa8, sa9, sa10, sa11⟩, ⟨sb0, sb1, sb2, sb3, sb4, sb5, sb6, sb7, sb8, sb9, sb10, sb11⟩, sc1, sc2, sc3, sc4⟩ := hSw; go_simp) <;> (with_reducible rfl)
  try simp only [Act.put, List.setIfInBounds_toArray, List.set_cons_zero, List.set_cons_succ]
  refine wpAnyH_take (i := 22) (oi := ⟨some 65, _, _, _, _, _⟩) (v := ?_) rfl (by kernel_rfl) (by kernel_rfl) (by kernel_rfl) (fun _ _ _ h => h) (Or.inl ⟨by rfl, ?_⟩) (by assumption) ?_
  rotate_left 1
  · (intro w hSw; (try dsimp only at hSw); obtain ⟨⟨sa0, sa1, sa2, sa3, sa4, sa5, sa6, sa7, sa8, sa9, sa10, sa11⟩, ⟨sb0, sb1, sb2, sb3, sb4, sb5, sb6, sb7, sb8, sb9, sb10, sb11⟩, sc1, sc2, sc3, sc4⟩ := hSw; go_simp) <;> (with_reducible rfl)
  try simp only [Act.put, List.setIfInBounds_toArray, List.set_cons_zero, List.set_cons_succ]
  refine wpAnyH_take (i := 23) (oi := ⟨some 66, _, _, _, _, _⟩) (v := ?_) rfl (by kernel_rfl) (by kernel_rfl) (by kernel_rfl) (fun _ _ _ h => h) (Or.inl ⟨by rfl, ?_⟩) (by assumption) ?_
  rotate_left 1
  · (intro w hSw; (try dsimp only at hSw); obtain ⟨⟨sa0, sa1, sa2, sa3, sa4, sa5, sa6, sa7, sa8, sa9, sa10, sa11⟩, ⟨sb0, sb1, sb2, sb3, sb4, sb5, sb6, sb7, sb8, sb9, sb10, sb11⟩, sc1, sc2, sc3, sc4⟩ := hSw; go_simp) <;> (with_reducible rfl)
  try simp only [Act.put, List.setIfInBounds_toArray, List.set_cons_zero, List.set_cons_succ]
  refine wpAnyH_take (i := 24) (oi := ⟨some 67, _, _, _, _, _⟩) (v := ?_) rfl (by kernel_rfl) (by kernel_rfl) (by kernel_rfl) (fun _ _ _ h => h) (Or.inl ⟨by rfl, ?_⟩) (by assumption) ?_
  rotate_left 1
  · (intro w hSw; (try dsimp only at hSw); obtain ⟨⟨sa0, sa1, sa2, sa3, sa4, sa5, sa6, sa7, sa8, sa9, sa10, sa11⟩, ⟨sb0, sb1, sb2, sb3, sb4, sb5, sb6, sb7, sb8, sb9, sb10, sb11⟩, sc1, sc2, sc3, sc4⟩ := hSw; go_simp) <;> (with_reducible rfl)
  try simp only [Act.put, List.setIfInBounds_toArray, List.set_cons_zero, List.set_cons_succ]
  refine wpAnyH_take (i := 25) (oi := ⟨some 68, _, _, _, _, _⟩) (v := ?_) rfl (by kernel_rfl) (by kernel_rfl) (by kernel_rfl) (fun _ _ _ h => h) (Or.inl ⟨by rfl, ?_⟩) (by assumption) ?_
  rotate_left 1
  · (intro w hSw; (try dsimp only at hSw); obtain ⟨⟨sa0, sa1, sa2, sa3, sa4, sa5, sa6, sa7, sa8, sa9, sa10, sa11⟩, ⟨sb0, sb1, sb2, sb3, sb4, sb5, sb6, sb7, sb8, sb9, sb10, sb11⟩, sc1, sc2, sc3, sc4⟩ := hSw; go_simp) <;> (with_reducible rfl)
  try simp only [Act.put, List.setIfInBounds_toArray, List.set_cons_zero, List.set_cons_succ]
  refine wpAnyH_take (i := 26) (oi := ⟨some 69, _, _, _, _, _⟩) (v := ?_) rfl (by kernel_rfl) (by kernel_rfl) (by kernel_rfl) (fun _ _ _ h => h) (Or.inl ⟨by rfl, ?_⟩) (by assumption) ?_
  rotate_left 1
  · (intro w hSw; (try dsimp only at hSw); obtain ⟨⟨sa0, sa1, sa2, sa3, sa4, sa5, sa6, sa7, sa8, sa9, sa10, sa11⟩, ⟨sb0, sb1, sb2, sb3, sb4, sb5, sb6, sb7, sb8, sb9, sb10, sb11⟩, sc1, sc2, sc3, sc4⟩ := hSw; go_simp) <;> (with_reducible rfl)
  try simp only [Act.put, List.setIfInBounds_toArray, List.set_cons_zero, List.set_cons_succ]
  refine wpAnyH_take (i := 27) (oi := ⟨some 70, _, _, _, _, _⟩) (v := ?_) rfl (by kernel_rfl) (by kernel_rfl) (by kernel_rfl) (fun _ _ _ h => h) (Or.inl ⟨by rfl, ?_⟩) (by assumption) ?_
  rotate_left 1
  · (intro w hSw; (try dsimp only at hSw); obtain ⟨⟨sa0, sa1, sa2, sa3, sa4, sa5, sa6, sa7, sa8, sa9, sa10, sa11⟩, ⟨sb0, sb1, sb2, sb3, sb4, sb5, sb6, sb7, sb8, sb9, sb10, sb11⟩, sc1, sc2, sc3, sc4⟩ := hSw; go_simp) <;> (with_reducible rfl)
  try simp only [Act.put, List.setIfInBounds_toArray, List.set_cons_zero, List.set_cons_succ]
  refine wpAnyH_take (i := 28) (oi := ⟨some 71, _, _, _, _, _⟩) (v := ?_) rfl (by kernel_rfl) (by kernel_rfl) (by kernel_rfl) (fun _ _ _ h => h) (Or.inl ⟨by rfl, ?_⟩) (by assumption) ?_
  rotate_left 1
  · (intro w hSw; (try dsimp only at hSw); obtain ⟨⟨sa0, sa1, sa2, sa3, sa4, sa5, sa6, sa7, sa8, sa9, sa10, sa11⟩, ⟨sb0, sb1, sb2, sb3, sb4, sb5, sb6, sb7, sb8, sb9, sb10, sb11⟩, sc1, sc2, sc3, sc4⟩ := hSw; go_simp) <;> (with_reducible rfl)
  try simp only [Act.put, List.setIfInBounds_toArray, List.set_cons_zero, List.set_cons_succ]
  refine wpAnyH_take (i := 29) (oi := ⟨some 72, _, _, _, _, _⟩) (v := ?_) rfl (by kernel_rfl) (by kernel_rfl) (by kernel_rfl) (fun _ _ _ h => h) (Or.inl ⟨by rfl, ?_⟩) (by assumption) ?_
  rotate_left 1
  · (intro w hSw; (try dsimp only at hSw); obtain ⟨⟨sa0, sa1, sa2, sa3, sa4, sa5, sa6, sa7, sa8, sa9, sa10, sa11⟩, ⟨sb0, sb1, sb2, sb3, sb4, sb5, sb6, sb7, sb8, sb9, sb10, sb11⟩, sc1, sc2, sc3, sc4⟩ := hSw; go_simp) <;> (with_reducible rfl)
  try simp only [Act.put, List.setIfInBounds_toArray, List.set_cons_zero, List.set_cons_succ]
  refine wpAnyH_take (i := 30) (oi := ⟨some 73, _, _, _, _, _⟩) (v := ?_) rfl (by kernel_rfl) (by kernel_rfl) (by kernel_rfl) (fun _ _ _ h => h) (Or.inl ⟨by rfl, ?_⟩) (by assumption) ?_
  rotate_left 1
  · (intro w hSw; (try dsimp only at hSw); obtain ⟨⟨sa0, sa1, sa2, sa3, sa4, sa5, sa6, sa7, sa8, sa9, sa10, sa11⟩, ⟨sb0, sb1, sb2, sb3, sb4, sb5, sb6, sb7, sb8, sb9, sb10, sb11⟩, sc1, sc2, sc3, sc4⟩ := hSw; go_simp) <;> (with_reducible rfl)
  try simp only [Act.put, List.setIfInBounds_toArray, List.set_cons_zero, List.set_cons_succ]
  refine wpAnyH_take (i := 31) (oi := ⟨some 74, _, _, _, _, _⟩) (v := ?_) rfl (by kernel_rfl) (by kernel_rfl) (by kernel_rfl) (fun _ _ _ h => h) (Or.inl ⟨by rfl, ?_⟩) (by assumption) ?_
  rotate_left 1
  · (intro w hSw; (try dsimp only at hSw); obtain ⟨⟨sa0, sa1, sa2, sa3, sa4, sa5, sa6, sa7, sa8, sa9, sa10, sa11⟩, ⟨sb0, sb1, sb2, sb3, sb4, sb5, sb6, sb7, sb8, sb9, sb10, sb11⟩, sc1, sc2, sc3, sc4⟩ := hSw; go_simp) <;> (with_reducible rfl)
  try simp only [Act.put, List.setIfInBounds_toArray, List.set_cons_zero, List.set_cons_succ]
  refine wpAnyH_take (i := 32) (oi := ⟨some 75, _, _, _, _, _⟩) (v := ?_) rfl (by kernel_rfl) (by kernel_rfl) (by kernel_rfl) (fun _ _ _ h => h) (Or.inl ⟨by rfl, ?_⟩) (by assumption) ?_
  rotate_left 1
  · (intro w hSw; (try dsimp only at hSw); obtain ⟨⟨sa0, sa1, sa2, sa3, sa4, sa5, sa6, sa7, sa8, sa9, sa10, sa11⟩, ⟨sb0, sb1, sb2, sb3, sb4, sb5, sb6, sb7, sb8, sb9, sb10, sb11⟩, sc1, sc2, sc3, sc4⟩ := hSw; go_simp) <;> (with_reducible rfl)
  try simp only [Act.put, List.setIfInBounds_toArray, List.set_cons_zero, List.set_cons_succ]
  refine wpAnyH_take (i := 33) (oi := ⟨some 4, _, _, _, _, _⟩) (v := ?_) rfl (by kernel_rfl) (by kernel_rfl) (by kernel_rfl) (fun _ _ _ h => h) (Or.inl ⟨by rfl, ?_⟩) (by assumption) ?_
  rotate_left 1
  · (intro w hSw; (try dsimp only at hSw); obtain ⟨⟨sa0, sa1, sa2, sa3, sa4, sa5, sa6, sa7, sa8, sa9, sa10, sa11⟩, ⟨sb0, sb1, sb2, sb3, sb4, sb5, sb6, sb7, sb8, sb9, sb10, sb11⟩, sc1, sc2, sc3, sc4⟩ := hSw; go_simp) <;> (with_reducible rfl)
  try simp only [Act.put, List.setIfInBounds_toArray, List.set_cons_zero, List.set_cons_succ]
  refine wpAnyH_done (by kernel_rfl) ?_ _
  go_wp2_with fail
  go_ret
  exact ⟨rfl, HF6.out.trans HF7.out⟩


theorem paramsOk : ∀ t ∈ Try.f5.params.toList, Try.prog.readableRec t = true ∧ t < Try.prog.types.size := fun t ht => by
  have h := List.all_eq_true.1 (show (Try.f5.params.toList.all fun t => Try.prog.readableRec t && decide (t < Try.prog.types.size)) = true by kernel_rfl) t ht
  simpa using h

set_option maxRecDepth 100000 in
theorem lifted (os : Os) (started : os.Started) (H : Type) (enc : TypeId × Value → H) :
    ReturnsInHanded {} Try.checked os 5 .any (Rows.orderItemsApartSpec.pre6 enc Try.prog Try.f5 Rows.orderItemsApartRow.domain false) (Rows.orderItemsApartSpec.post enc Try.prog Try.f5 false true false false) := by
  refine returnsInHanded_of_change (C := Try.checked) own started (by kernel_rfl) Try.func5
    (ChangeSpec.witness6 (enc := enc) (C := Try.checked) false ⟨#[], #[.agg #[.int .i64 0, .int .i64 0, .int .i64 0, .int .u64 0, .int .u64 0, .int .i64 0, .int .i64 0, .slice none 0 0, .slice none 0 0, .slice none 0 0, .int .i64 0, .slice none 0 0], .agg #[.int .i64 0, .int .i64 0, .int .i64 0, .int .u64 0, .int .u64 0, .int .i64 0, .int .i64 0, .slice none 0 0, .slice none 0 0, .slice none 0 0, .int .i64 0, .slice none 0 0]], []⟩ 8 (by kernel_rfl) (by kernel_rfl) (by kernel_rfl) (by kernel_rfl)) ?_
  intro W base args ds gs before hval0 hW _ _
  have hval : ∀ (j : Nat) t v, Try.f5.params[j]? = some t → args[j]? = some v → Value.okWide Try.prog W .any base t v := hval0
  have hW' := hW
  obtain ⟨p, q, hA0, hV, rfl, _, _⟩ := hW
  have hA : DataW.TrodAll enc Try.prog W 0 (fun _ => true) true Try.f5.params.toList args.toList ds p := hA0
  rw [Try.params5] at hA hval
  obtain ⟨v0, vs0, d0, ds0, p0, q0, hargs, rfl, rfl, h0, r0⟩ := trodAll_cons hA
  obtain ⟨v1, vs1, d1, ds1, p1, q1, rfl, rfl, rfl, h1, r1⟩ := trodAll_cons r0
  obtain ⟨rfl, rfl, rfl⟩ := trodAll_nil r1
  obtain rfl : args = #[v0, v1] := by cases args; simp_all
  obtain ⟨rfl, rfl⟩ := trodVars_none hV
  obtain ⟨a, rfl, ha, na⟩ := open_item (hval 0 _ v0 rfl rfl) h0
  obtain ⟨b, rfl, hb, nb⟩ := open_item (hval 1 _ v1 rfl rfl) h1
  have walk := walk W a b ha hb na nb
  clear hA0 hval0
  refine walk.mono fun e W' ⟨he, hf⟩ => ?_
  subst he
  exact ⟨_, rfl, law_post laidOut paramsOk rfl rfl Try.underlying4 hW' rfl rfl rfl hf⟩

theorem said : Rows.OrderItemsApartSaid :=
  OpenClaim.holds_of_wide 5 Try.f5 rfl rfl rfl rfl rfl rfl rfl ⟨rfl, rfl, rfl, rfl, rfl⟩ rfl rfl rfl rfl rfl (by kernel_rfl) Try.func5 (by kernel_rfl)
    (of_decide_eq_true (by kernel_rfl)) (by unfold Func.isWrapper; first | (rw [if_pos (by decide +kernel)]; kernel_rfl) | (rw [if_neg (by decide +kernel)]; exact ⟨rfl, rfl⟩))
    (fun os started H enc _ => lifted os started H enc)
end Go.Proofs.Ytakbjjohfcgaoaa.orderItemsApart
