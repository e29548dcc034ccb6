/- WireApart is true: unlike messages have unlike bytes. No condition but what the card ties. -/
import Derived.Test.YtdpjmkgjjhcgeaaDoorOpenM
import Derived.Test.YtdpjmkgjjhcgeaaDoorGr18
import Derived.Test.YtdpjmkgjjhcgeaaDoorSame18
namespace Go.Proofs.YtdpjmkgjjhcgeaaDoor.wireApart
open Go.ChangeShapes Go.WideShapes Go.ChangeAt Go.RowKit

theorem _root_.Go.Proofs.YtdpjmkgjjhcgeaaDoor.OfPost.inn {w w' : World} {m q : Mg} (h : OfPost w m w' q) {w0 : World} (hm : MgIn w0 m) : MgIn w' q :=
  ⟨Rd.of_ownN h.own, own_lens h.own, ⟨by rw [h.like.value]; exact hm.vals.1, by rw [h.like.votes]; exact hm.vals.2⟩, ⟨by rw [h.like.ballot]; exact hm.nums.1, by rw [h.like.votes]; exact hm.nums.2⟩,
    by rw [h.like.kind]; exact hm.ints.1, by rw [h.like.frm]; exact hm.ints.2.1, by rw [h.like.dst]; exact hm.ints.2.2.1, by rw [h.like.grp]; exact hm.ints.2.2.2.1, by rw [h.like.slot]; exact hm.ints.2.2.2.2.1, by rw [h.like.votes]; exact hm.ints.2.2.2.2.2⟩

set_option maxRecDepth 100000 in
set_option maxHeartbeats 16000000 in
theorem walk (w : World) (ht : Tab w) (a b : Mg) (ha : MgIn w a) (hb : MgIn w b) : Calls Tryd.prog 6 #[mgv a, mgv b] w fun e w' => e = .returned (.bool true) ∧ Fr NoBlk w w' := by
  obtain ⟨w0, hw0⟩ : ∃ w0, w0 = (w.alloc (.cells (mga a) 26)).alloc (.cells (mga b) 26) := ⟨_, rfl⟩
  have HF0 : Hid (Fr NoBlk w w0) := by
    show Fr _ _ _
    rw [hw0]
    exact ((Fr.refl _ _).alloc _).alloc _
  have HBA : Hid (Bk w0 w.heap.size 26 (mga a)) := by
    show Bk _ _ _ _
    rw [hw0]
    exact (Bk.new w _ _).alloc _
  have HBB : Hid (Bk w0 (w.heap.size + 1) 26 (mga b)) := by
    show Bk _ _ _ _
    rw [hw0]
    exact Bk.new' _ _ _ (by simp)
  have HIA := Lib.hid ha
  have HIB := Lib.hid hb
  have HT := Lib.hid ht
  clear ha hb ht
  unfold mga at hw0
  unfold mgv mga
  go_enter Tryd.func6, Tryd.ntmps6
  go_wp2_with fail
  rw [← hw0]
  clear hw0
  refine (speaks_any _ (HT.out.fr HF0.out fun h => h)).mono ?_
  rintro e w1 ⟨rfl, hf1⟩
  have HF1 := Lib.hid (HF0.out.trans hf1)
  have HA1 := Lib.hid (HBA.out.fr hf1 (fun h => h))
  have HB1 := Lib.hid (HBB.out.fr hf1 (fun h => h))
  clear hf1 HF0 HBA HBB
  obtain ⟨c0, c1, c2, c3, c4, c5, c6, c7⟩ := HA1.out.msg
  have HG := Lib.hid (great_any w1 a (HIA.out.nofr HF1.out))
  unfold mgv mga at HG
  go_wp2_with fail
  refine HG.out.mono ?_
  rintro e w2 ⟨⟨g1, rfl, hs1⟩, hf2⟩
  have HF2 := Lib.hid (HF1.out.trans hf2)
  have HA2 := Lib.hid (HA1.out.fr hf2 (fun h => h))
  have HB2 := Lib.hid (HB1.out.fr hf2 (fun h => h))
  have HS1 := Lib.hid hs1
  clear hf2 hs1 HF1 HA1 HB1 HG c0 c1 c2 c3 c4 c5 c6 c7
  cases g1
  rotate_left
  · go_wp2_with fail
    go_ret
    exact ⟨rfl, HF2.out⟩
  have HSA := Lib.hid (HS1.out rfl)
  clear HS1
  obtain ⟨d0, d1, d2, d3, d4, d5, d6, d7⟩ := HB2.out.msg
  have HG := Lib.hid (great_any w2 b (HIB.out.nofr HF2.out))
  unfold mgv mga at HG
  go_wp2_with fail
  refine HG.out.mono ?_
  rintro e w3 ⟨⟨g2, rfl, hs2⟩, hf3⟩
  have HF3 := Lib.hid (HF2.out.trans hf3)
  have HA3 := Lib.hid (HA2.out.fr hf3 (fun h => h))
  have HB3 := Lib.hid (HB2.out.fr hf3 (fun h => h))
  have HS2 := Lib.hid hs2
  clear hf3 hs2 HF2 HA2 HB2 HG d0 d1 d2 d3 d4 d5 d6 d7
  cases g2
  rotate_left
  · go_wp2_with fail
    go_ret
    exact ⟨rfl, HF3.out⟩
  have HSB := Lib.hid (HS2.out rfl)
  clear HS2
  obtain ⟨c0, c1, c2, c3, c4, c5, c6, c7⟩ := HA3.out.msg
  by_cases hra : rightM a = true
  rotate_left
  · have HW := Lib.hid (write_bad w3 (HT.out.fr HF3.out fun h => h) a (HIA.out.nofr HF3.out) hra)
    unfold mgv mga at HW
    clear hra
    go_wp2_with fail
    refine HW.out.mono ?_
    rintro e w4 ⟨rfl, hf4⟩
    have HF4 := Lib.hid (HF3.out.trans hf4)
    have HB4 := Lib.hid (HB3.out.fr hf4 (fun h => h))
    clear hf4 HF3 HB3 HA3 HW c0 c1 c2 c3 c4 c5 c6 c7
    obtain ⟨d0, d1, d2, d3, d4, d5, d6, d7⟩ := HB4.out.msg
    have HW := Lib.hid (write_any w4 (HT.out.fr HF4.out fun h => h) b (HIB.out.nofr HF4.out))
    unfold mgv mga at HW
    go_wp2_with fail
    refine HW.out.mono ?_
    intro e w5 hp
    unfold WritePost at hp
    have hp2 : ∃ v n, e = .returned (.tuple #[v, .int .i64 n]) ∧ Fr NoBlk w4 w5 := by
      split at hp
      · obtain ⟨v, h1, h2⟩ := hp
        exact ⟨v, 0, h1, h2.fr⟩
      · exact ⟨_, 1, hp.1, hp.2⟩
    obtain ⟨v, n, rfl, hf5⟩ := hp2
    have HF5 := Lib.hid (HF4.out.trans hf5)
    clear hp hf5 HF4 HB4 HW d0 d1 d2 d3 d4 d5 d6 d7
    go_upto_region 7 with fail
    go_quiet (fail)
    go_wp2_with fail
    go_ret
    exact ⟨rfl, HF5.out.drewN _⟩
  have HW := Lib.hid (write_ok w3 (HT.out.fr HF3.out fun h => h) a (HIA.out.nofr HF3.out) hra)
  have HWA := Lib.hid (And.intro (rightM_wmg hra) HIA.out.nums)
  unfold mgv mga at HW
  clear hra
  go_wp2_with fail
  refine HW.out.mono ?_
  rintro e w4 ⟨v4, rfl, hn4⟩
  obtain ⟨A4, c4', rfl, _, _⟩ := own_form hn4.own
  have HF4 := Lib.hid (HF3.out.trans hn4.fr)
  have HA4 := Lib.hid (HA3.out.fr hn4.fr (fun h => h))
  have HB4 := Lib.hid (HB3.out.fr hn4.fr (fun h => h))
  have HR4 := Lib.hid (Rd.of_own hn4.own)
  clear hn4 HF3 HB3 HA3 HW c0 c1 c2 c3 c4 c5 c6 c7
  obtain ⟨d0, d1, d2, d3, d4, d5, d6, d7⟩ := HB4.out.msg
  by_cases hrb : rightM b = true
  rotate_left
  · have HW := Lib.hid (write_bad w4 (HT.out.fr HF4.out fun h => h) b (HIB.out.nofr HF4.out) hrb)
    unfold mgv mga at HW
    clear hrb
    go_wp2_with fail
    refine HW.out.mono ?_
    rintro e w5 ⟨rfl, hf5⟩
    have HF5 := Lib.hid (HF4.out.trans hf5)
    clear hf5 HF4 HB4 HA4 HW d0 d1 d2 d3 d4 d5 d6 d7
    go_upto_region 7 with fail
    go_quiet (fail)
    go_wp2_with fail
    go_ret
    exact ⟨rfl, HF5.out.drewN _⟩
  have HW := Lib.hid (write_ok w4 (HT.out.fr HF4.out fun h => h) b (HIB.out.nofr HF4.out) hrb)
  have HWB := Lib.hid (And.intro (rightM_wmg hrb) HIB.out.nums)
  unfold mgv mga at HW
  clear hrb
  go_wp2_with fail
  refine HW.out.mono ?_
  rintro e w5 ⟨v5, rfl, hn5⟩
  obtain ⟨A5, c5', rfl, _, _⟩ := own_form hn5.own
  obtain ⟨x, hx⟩ : ∃ x, x = msgB a := ⟨_, rfl⟩
  obtain ⟨y, hy⟩ : ∃ y, y = msgB b := ⟨_, rfl⟩
  obtain ⟨cc, hcc⟩ : ∃ cc, ((bstr x).toList == (bstr y).toList) = cc := ⟨_, rfl⟩
  have HCC : Hid (cc = true ↔ MLike a b) := by
    show _ ↔ _
    rw [← hcc, bstr_toList, bstr_toList, beq_iff_eq, hx, hy]
    exact msgB_inj HWA.out.1 HWB.out.1 HWA.out.2 HWB.out.2
  have HF5 := Lib.hid (HF4.out.trans hn5.fr)
  have HA5 := Lib.hid (HA4.out.fr hn5.fr (fun h => h))
  have HB5 := Lib.hid (HB4.out.fr hn5.fr (fun h => h))
  have HR5 := Lib.hid (HR4.out.nofr hn5.fr)
  have HY5 := Lib.hid (Rd.of_own hn5.own)
  rw [← hx] at HR5 ⊢
  rw [← hy] at HY5 ⊢
  have HSK : Hid (∀ W, Fr NoBlk w5 W → W.cell? ⟨w.heap.size, 0, none⟩ = some (.int .i64 a.kind) ∧ W.cell? ⟨w.heap.size, 1, none⟩ = some (.int .i64 a.frm) ∧ W.cell? ⟨w.heap.size, 2, none⟩ = some (.int .i64 a.dst) ∧ W.cell? ⟨w.heap.size, 3, none⟩ = some (.int .i64 a.grp) ∧ W.cell? ⟨w.heap.size, 4, none⟩ = some (.int .i64 a.slot) ∧ W.cell? ⟨w.heap.size, 5, none⟩ = some (.int .u64 (a.ballot : Int)) ∧ W.cell? ⟨w.heap.size, 6, none⟩ = some (.string (bstr a.value)) ∧ W.cell? ⟨w.heap.size, 7, none⟩ = some (.slice a.va a.votes.length a.vc) ∧
      W.cell? ⟨w.heap.size + 1, 0, none⟩ = some (.int .i64 b.kind) ∧ W.cell? ⟨w.heap.size + 1, 1, none⟩ = some (.int .i64 b.frm) ∧ W.cell? ⟨w.heap.size + 1, 2, none⟩ = some (.int .i64 b.dst) ∧ W.cell? ⟨w.heap.size + 1, 3, none⟩ = some (.int .i64 b.grp) ∧ W.cell? ⟨w.heap.size + 1, 4, none⟩ = some (.int .i64 b.slot) ∧ W.cell? ⟨w.heap.size + 1, 5, none⟩ = some (.int .u64 (b.ballot : Int)) ∧ W.cell? ⟨w.heap.size + 1, 6, none⟩ = some (.string (bstr b.value)) ∧ W.cell? ⟨w.heap.size + 1, 7, none⟩ = some (.slice b.va b.votes.length b.vc) ∧
      (convert 28 9 (.slice A4 x.length c4')).run Tryd.prog W = .ok (.string (bstr x)) W ∧ (convert 28 9 (.slice A5 y.length c5')).run Tryd.prog W = .ok (.string (bstr y)) W) := fun W hf => by
    obtain ⟨c0, c1, c2, c3, c4, c5, c6, c7⟩ := (HA5.out.fr hf (fun h => h)).msg
    obtain ⟨d0, d1, d2, d3, d4, d5, d6, d7⟩ := (HB5.out.fr hf (fun h => h)).msg
    exact ⟨c0, c1, c2, c3, c4, c5, c6, c7, d0, d1, d2, d3, d4, d5, d6, d7, strBs W A4 _ c4' x rfl (HR5.out.nofr hf), strBs W A5 _ c5' y rfl (HY5.out.nofr hf)⟩
  have HOA := Lib.hid fun W (hf : Fr NoBlk w5 W) => of_any W a (HIA.out.nofr (HF5.out.trans hf)) (by have := HSA.out.few; omega)
  have HOB := Lib.hid fun W (hf : Fr NoBlk w5 W) => of_any W b (HIB.out.nofr (HF5.out.trans hf)) (by have := HSB.out.few; omega)
  unfold mgv mga at HOA HOB
  clear hn5 hx hy HF4 HA4 HB4 HR4 HW d0 d1 d2 d3 d4 d5 d6 d7 HA5 HB5 HR5 HY5
  go_upto_region 7 with fail
  refine wp_region_held_drew (S := fun w' => Fr NoBlk w5 w') (by kernel_rfl) ((Fr.refl NoBlk w5).drew) (fun hHeld => ?_)
  refine wpAnyH_take (i := 0) (oi := ⟨some 27, _, _, _, _, _⟩) (v := ?_) rfl (by kernel_rfl) (by kernel_rfl) (by kernel_rfl) (fun _ _ _ h => h) (Or.inl ⟨by rfl, ?_⟩) (by assumption) ?_
  rotate_left 1
  · (intro w hSw; (try dsimp only at hSw); obtain ⟨sa0, sa1, sa2, sa3, sa4, sa5, sa6, sa7, sb0, sb1, sb2, sb3, sb4, sb5, sb6, sb7, sx, sy⟩ := HSK.out _ hSw; go_simp) <;> (with_reducible rfl)
  try simp only [Act.put, List.setIfInBounds_toArray, List.set_cons_zero, List.set_cons_succ]
  refine wpAnyH_take (i := 1) (oi := ⟨some 28, _, _, _, _, _⟩) (v := ?_) rfl (by kernel_rfl) (by kernel_rfl) (by kernel_rfl) (fun _ _ _ h => h) (Or.inl ⟨by rfl, ?_⟩) (by assumption) ?_
  rotate_left 1
  · (intro w hSw; (try dsimp only at hSw); obtain ⟨sa0, sa1, sa2, sa3, sa4, sa5, sa6, sa7, sb0, sb1, sb2, sb3, sb4, sb5, sb6, sb7, sx, sy⟩ := HSK.out _ hSw; go_simp) <;> (with_reducible rfl)
  try simp only [Act.put, List.setIfInBounds_toArray, List.set_cons_zero, List.set_cons_succ]
  refine wpAnyH_take (i := 2) (oi := ⟨some 29, _, _, _, _, _⟩) (v := ?_) rfl (by kernel_rfl) (by kernel_rfl) (by kernel_rfl) (fun _ _ _ h => h) (Or.inl ⟨by rfl, ?_⟩) (by assumption) ?_
  rotate_left 1
  · (intro w hSw; (try dsimp only at hSw); obtain ⟨sa0, sa1, sa2, sa3, sa4, sa5, sa6, sa7, sb0, sb1, sb2, sb3, sb4, sb5, sb6, sb7, sx, sy⟩ := HSK.out _ hSw; go_simp) <;> (with_reducible rfl)
  try simp only [Act.put, List.setIfInBounds_toArray, List.set_cons_zero, List.set_cons_succ]
  refine wpAnyH_take (i := 3) (oi := ⟨some 30, _, _, _, _, _⟩) (v := ?_) rfl (by kernel_rfl) (by kernel_rfl) (by kernel_rfl) (fun _ _ _ h => h) (Or.inl ⟨by rfl, ?_⟩) (by assumption) ?_
  rotate_left 1
  · (intro w hSw; (try dsimp only at hSw); obtain ⟨sa0, sa1, sa2, sa3, sa4, sa5, sa6, sa7, sb0, sb1, sb2, sb3, sb4, sb5, sb6, sb7, sx, sy⟩ := HSK.out _ hSw; go_simp) <;> (with_reducible rfl)
  try simp only [Act.put, List.setIfInBounds_toArray, List.set_cons_zero, List.set_cons_succ]
  refine wpAnyH_take (i := 4) (oi := ⟨some 31, _, _, _, _, _⟩) (v := ?_) rfl (by kernel_rfl) (by kernel_rfl) (by kernel_rfl) (fun _ _ _ h => h) (Or.inl ⟨by rfl, ?_⟩) (by assumption) ?_
  rotate_left 1
  · (intro w hSw; (try dsimp only at hSw); obtain ⟨sa0, sa1, sa2, sa3, sa4, sa5, sa6, sa7, sb0, sb1, sb2, sb3, sb4, sb5, sb6, sb7, sx, sy⟩ := HSK.out _ hSw; go_simp) <;> (with_reducible rfl)
  try simp only [Act.put, List.setIfInBounds_toArray, List.set_cons_zero, List.set_cons_succ]
  refine wpAnyH_take (i := 5) (oi := ⟨some 32, _, _, _, _, _⟩) (v := ?_) rfl (by kernel_rfl) (by kernel_rfl) (by kernel_rfl) (fun _ _ _ h => h) (Or.inl ⟨by rfl, ?_⟩) (by assumption) ?_
  rotate_left 1
  · (intro w hSw; (try dsimp only at hSw); obtain ⟨sa0, sa1, sa2, sa3, sa4, sa5, sa6, sa7, sb0, sb1, sb2, sb3, sb4, sb5, sb6, sb7, sx, sy⟩ := HSK.out _ hSw; go_simp) <;> (with_reducible rfl)
  try simp only [Act.put, List.setIfInBounds_toArray, List.set_cons_zero, List.set_cons_succ]
  refine wpAnyH_take (i := 6) (oi := ⟨some 33, _, _, _, _, _⟩) (v := ?_) rfl (by kernel_rfl) (by kernel_rfl) (by kernel_rfl) (fun _ _ _ h => h) (Or.inl ⟨by rfl, ?_⟩) (by assumption) ?_
  rotate_left 1
  · (intro w hSw; (try dsimp only at hSw); obtain ⟨sa0, sa1, sa2, sa3, sa4, sa5, sa6, sa7, sb0, sb1, sb2, sb3, sb4, sb5, sb6, sb7, sx, sy⟩ := HSK.out _ hSw; go_simp) <;> (with_reducible rfl)
  try simp only [Act.put, List.setIfInBounds_toArray, List.set_cons_zero, List.set_cons_succ]
  refine wpAnyH_take (i := 7) (oi := ⟨some 34, _, _, _, _, _⟩) (v := ?_) rfl (by kernel_rfl) (by kernel_rfl) (by kernel_rfl) (fun _ _ _ h => h) (Or.inl ⟨by rfl, ?_⟩) (by assumption) ?_
  rotate_left 1
  · (intro w hSw; (try dsimp only at hSw); obtain ⟨sa0, sa1, sa2, sa3, sa4, sa5, sa6, sa7, sb0, sb1, sb2, sb3, sb4, sb5, sb6, sb7, sx, sy⟩ := HSK.out _ hSw; go_simp) <;> (with_reducible rfl)
  try simp only [Act.put, List.setIfInBounds_toArray, List.set_cons_zero, List.set_cons_succ]
  refine wpAnyH_take (i := 8) (oi := ⟨some 35, _, _, _, _, _⟩) (v := ?_) rfl (by kernel_rfl) (by kernel_rfl) (by kernel_rfl) (fun _ _ _ h => h) (Or.inl ⟨by rfl, ?_⟩) (by assumption) ?_
  rotate_left 1
  · (intro w hSw; (try dsimp only at hSw); obtain ⟨sa0, sa1, sa2, sa3, sa4, sa5, sa6, sa7, sb0, sb1, sb2, sb3, sb4, sb5, sb6, sb7, sx, sy⟩ := HSK.out _ hSw; go_simp) <;> (with_reducible rfl)
  try simp only [Act.put, List.setIfInBounds_toArray, List.set_cons_zero, List.set_cons_succ]
  refine wpAnyH_take (i := 9) (oi := ⟨some 36, _, _, _, _, _⟩) (v := ?_) rfl (by kernel_rfl) (by kernel_rfl) (by kernel_rfl) (fun _ _ _ h => h) (Or.inl ⟨by rfl, ?_⟩) (by assumption) ?_
  rotate_left 1
  · (intro w hSw; (try dsimp only at hSw); obtain ⟨sa0, sa1, sa2, sa3, sa4, sa5, sa6, sa7, sb0, sb1, sb2, sb3, sb4, sb5, sb6, sb7, sx, sy⟩ := HSK.out _ hSw; go_simp) <;> (with_reducible rfl)
  try simp only [Act.put, List.setIfInBounds_toArray, List.set_cons_zero, List.set_cons_succ]
  refine wpAnyH_take (i := 10) (oi := ⟨some 37, _, _, _, _, _⟩) (v := ?_) rfl (by kernel_rfl) (by kernel_rfl) (by kernel_rfl) (fun _ _ _ h => h) (Or.inl ⟨by rfl, ?_⟩) (by assumption) ?_
  rotate_left 1
  · (intro w hSw; (try dsimp only at hSw); obtain ⟨sa0, sa1, sa2, sa3, sa4, sa5, sa6, sa7, sb0, sb1, sb2, sb3, sb4, sb5, sb6, sb7, sx, sy⟩ := HSK.out _ hSw; go_simp) <;> (with_reducible rfl)
  try simp only [Act.put, List.setIfInBounds_toArray, List.set_cons_zero, List.set_cons_succ]
  refine wpAnyH_take (i := 11) (oi := ⟨some 38, _, _, _, _, _⟩) (v := ?_) rfl (by kernel_rfl) (by kernel_rfl) (by kernel_rfl) (fun _ _ _ h => h) (Or.inl ⟨by rfl, ?_⟩) (by assumption) ?_
  rotate_left 1
  · (intro w hSw; (try dsimp only at hSw); obtain ⟨sa0, sa1, sa2, sa3, sa4, sa5, sa6, sa7, sb0, sb1, sb2, sb3, sb4, sb5, sb6, sb7, sx, sy⟩ := HSK.out _ hSw; go_simp) <;> (with_reducible rfl)
  try simp only [Act.put, List.setIfInBounds_toArray, List.set_cons_zero, List.set_cons_succ]
  refine wpAnyH_take (i := 12) (oi := ⟨some 39, _, _, _, _, _⟩) (v := ?_) rfl (by kernel_rfl) (by kernel_rfl) (by kernel_rfl) (fun _ _ _ h => h) (Or.inl ⟨by rfl, ?_⟩) (by assumption) ?_
  rotate_left 1
  · (intro w hSw; (try dsimp only at hSw); obtain ⟨sa0, sa1, sa2, sa3, sa4, sa5, sa6, sa7, sb0, sb1, sb2, sb3, sb4, sb5, sb6, sb7, sx, sy⟩ := HSK.out _ hSw; go_simp) <;> (with_reducible rfl)
  try simp only [Act.put, List.setIfInBounds_toArray, List.set_cons_zero, List.set_cons_succ]
  refine wpAnyH_take (i := 14) (oi := ⟨some 41, _, _, _, _, _⟩) (v := ?_) rfl (by kernel_rfl) (by kernel_rfl) (by kernel_rfl) (fun _ _ _ h => h) (Or.inl ⟨by rfl, ?_⟩) (by assumption) ?_
  rotate_left 1
  · (intro w hSw; (try dsimp only at hSw); obtain ⟨sa0, sa1, sa2, sa3, sa4, sa5, sa6, sa7, sb0, sb1, sb2, sb3, sb4, sb5, sb6, sb7, sx, sy⟩ := HSK.out _ hSw; go_simp) <;> (with_reducible rfl)
  try simp only [Act.put, List.setIfInBounds_toArray, List.set_cons_zero, List.set_cons_succ]
  refine wpAnyH_ready (rs := [13]) (by kernel_rfl) (by simp) ?_
  refine AllReadyH.cons (o := ⟨some 40, _, _, _, _, _⟩) rfl (fun K hK => ?_) AllReadyH.nil
  go_simp
  go_at_call 12
  refine (HOA.out _ ((Fr.refl NoBlk w5).drew)).mono ?_
  rintro e wa ⟨qa, rfl, hqa⟩
  have HQA := Lib.hid hqa
  have HFA : Hid (Fr NoBlk w5 wa) := ((Fr.refl NoBlk w5).drew).trans hqa.fr
  clear hqa
  clear hHeld
  refine hK.out _ _ ?_ (fun hHeld => ?_)
  · exact HFA.out
  clear hK K
  try simp only [Act.put, List.setIfInBounds_toArray, List.set_cons_zero, List.set_cons_succ]
  refine wpAnyH_ready (rs := [15]) (by kernel_rfl) (by simp) ?_
  refine AllReadyH.cons (o := ⟨some 42, _, _, _, _, _⟩) rfl (fun K hK => ?_) AllReadyH.nil
  go_simp
  go_at_call 12
  refine (HOB.out _ HFA.out).mono ?_
  rintro e wb ⟨qb, rfl, hqb⟩
  have HQB := Lib.hid hqb
  have HFB : Hid (Fr NoBlk w5 wb) := HFA.out.trans hqb.fr
  have HSM := Lib.hid (same_any wb qa qb ((HQA.out.inn HIA.out).nofr hqb.fr) (hqb.inn HIB.out))
  unfold mgv mga at HSM
  clear hqb
  clear hHeld
  refine hK.out _ _ ?_ (fun hHeld => ?_)
  · exact HFB.out
  clear hK K
  try simp only [Act.put, List.setIfInBounds_toArray, List.set_cons_zero, List.set_cons_succ]
  refine wpAnyH_ready (rs := [16]) (by kernel_rfl) (by simp) ?_
  refine AllReadyH.cons (o := ⟨some 43, _, _, _, _, _⟩) rfl (fun K hK => ?_) AllReadyH.nil
  go_simp
  go_at_call 15
  refine (HSM.out).mono ?_
  rintro e wc ⟨⟨dd, rfl, hdd⟩, hfc⟩
  have HFC : Hid (Fr NoBlk w5 wc) := HFB.out.trans hfc
  have hcd : dd = cc := by
    rw [Bool.eq_iff_iff, hdd, HCC.out]
    exact ⟨fun h => ⟨HQA.out.like.kind.symm.trans (h.kind.trans HQB.out.like.kind), HQA.out.like.frm.symm.trans (h.frm.trans HQB.out.like.frm), HQA.out.like.dst.symm.trans (h.dst.trans HQB.out.like.dst), HQA.out.like.grp.symm.trans (h.grp.trans HQB.out.like.grp), HQA.out.like.slot.symm.trans (h.slot.trans HQB.out.like.slot), HQA.out.like.ballot.symm.trans (h.ballot.trans HQB.out.like.ballot), HQA.out.like.value.symm.trans (h.value.trans HQB.out.like.value), HQA.out.like.votes.symm.trans (h.votes.trans HQB.out.like.votes)⟩,
      fun h => ⟨HQA.out.like.kind.trans (h.kind.trans HQB.out.like.kind.symm), HQA.out.like.frm.trans (h.frm.trans HQB.out.like.frm.symm), HQA.out.like.dst.trans (h.dst.trans HQB.out.like.dst.symm), HQA.out.like.grp.trans (h.grp.trans HQB.out.like.grp.symm), HQA.out.like.slot.trans (h.slot.trans HQB.out.like.slot.symm), HQA.out.like.ballot.trans (h.ballot.trans HQB.out.like.ballot.symm), HQA.out.like.value.trans (h.value.trans HQB.out.like.value.symm), HQA.out.like.votes.trans (h.votes.trans HQB.out.like.votes.symm)⟩⟩
  subst hcd
  clear hdd hfc HSM
  clear hHeld
  refine hK.out _ _ ?_ (fun hHeld => ?_)
  · exact HFC.out
  clear hK K
  try simp only [Act.put, List.setIfInBounds_toArray, List.set_cons_zero, List.set_cons_succ]
  refine wpAnyH_take (i := 17) (oi := ⟨some 44, _, _, _, _, _⟩) (v := ?_) rfl (by kernel_rfl) (by kernel_rfl) (by kernel_rfl) (fun _ _ _ h => h) (Or.inl ⟨by rfl, ?_⟩) (by assumption) ?_
  rotate_left 1
  · (intro w hSw; (try dsimp only at hSw); obtain ⟨sa0, sa1, sa2, sa3, sa4, sa5, sa6, sa7, sb0, sb1, sb2, sb3, sb4, sb5, sb6, sb7, sx, sy⟩ := HSK.out _ hSw; go_simp) <;> (with_reducible rfl)
  try simp only [Act.put, List.setIfInBounds_toArray, List.set_cons_zero, List.set_cons_succ]
  refine wpAnyH_take (i := 18) (oi := ⟨some 45, _, _, _, _, _⟩) (v := ?_) rfl (by kernel_rfl) (by kernel_rfl) (by kernel_rfl) (fun _ _ _ h => h) (Or.inl ⟨by rfl, ?_⟩) (by assumption) ?_
  rotate_left 1
  · (intro w hSw; (try dsimp only at hSw); obtain ⟨sa0, sa1, sa2, sa3, sa4, sa5, sa6, sa7, sb0, sb1, sb2, sb3, sb4, sb5, sb6, sb7, sx, sy⟩ := HSK.out _ hSw; go_simp) <;> (with_reducible rfl)
  try simp only [Act.put, List.setIfInBounds_toArray, List.set_cons_zero, List.set_cons_succ]
  refine wpAnyH_take (i := 19) (oi := ⟨some 4, _, _, _, _, _⟩) (v := ?_) rfl (by kernel_rfl) (by kernel_rfl) (by kernel_rfl) (fun _ _ _ h => h) (Or.inl ⟨by rfl, ?_⟩) (by assumption) ?_
  rotate_left 1
  · (intro w hSw; (try dsimp only at hSw); obtain ⟨sa0, sa1, sa2, sa3, sa4, sa5, sa6, sa7, sb0, sb1, sb2, sb3, sb4, sb5, sb6, sb7, sx, sy⟩ := HSK.out _ hSw; go_simp) <;> (with_reducible rfl)
  try simp only [Act.put, List.setIfInBounds_toArray, List.set_cons_zero, List.set_cons_succ]
  refine wpAnyH_done (by kernel_rfl) ?_ _
  clear hHeld
  go_wp2_with fail
  go_ret
  exact ⟨by simp, HF5.out.trans HFC.out⟩

theorem paramsOk : ∀ t ∈ Tryd.f6.params.toList, Tryd.prog.readableRec t = true ∧ t < Tryd.prog.types.size := fun t ht => by
  have h := List.all_eq_true.1 (show (Tryd.f6.params.toList.all fun t => Tryd.prog.readableRec t && decide (t < Tryd.prog.types.size)) = true by kernel_rfl) t ht
  simpa using h
theorem paramsPlain : ∀ (j : Nat) t, Tryd.f6.params[j]? = some t → Tryd.prog.wantsStandIn t = false := fun j t ht => by
  have h := List.all_eq_true.1 (show (Tryd.f6.params.toList.all fun t => !Tryd.prog.wantsStandIn t) = true by kernel_rfl) t (by simpa using Array.mem_of_getElem? ht)
  simpa using h

set_option maxRecDepth 100000 in
theorem contract (H : Type) (enc : TypeId × Value → H) (W : World) (args : Array Value) (ds gs : List (DataW H)) (before : List MemPlace)
    (base : Nat) (hval : ∀ (j : Nat) t v, Tryd.f6.params[j]? = some t → args[j]? = some v → Value.okWide Tryd.prog W .any base t v)
    (hW : DataW.Whole enc Tryd.prog Tryd.f6.params.toList Rows.wireApartSpec.vars false W args.toList ds gs before) (hL : laidMetH Tryd.prog Rows.wireApartRow.laid W) :
    Calls Tryd.prog 6 args W fun e W' => ∃ v, e = .returned v ∧ Rows.wireApartSpec.post enc Tryd.prog Tryd.f6 false true false false W args v W' := by
  have hW' := hW
  obtain ⟨p, q, hA, hV, rfl, _, _⟩ := hW
  rw [Tryd.params6] at hA hval
  obtain ⟨v0, vs0, d0, ds0, p0, q0, hargs, rfl, rfl, h0, r0⟩ := trodAll_cons hA
  obtain ⟨v1, vs1, d1, ds1, p1, q1, rfl, rfl, rfl, h1, r1⟩ := trodAll_cons r0
  obtain ⟨rfl, rfl, rfl⟩ := trodAll_nil r1
  obtain rfl : args = #[v0, v1] := by cases args; simp_all
  obtain ⟨rfl, rfl⟩ := trodVars_none hV
  obtain ⟨a, rfl, ha⟩ := open_msg (hval 0 _ v0 rfl rfl) h0
  obtain ⟨b, rfl, hb⟩ := open_msg (hval 1 _ v1 rfl rfl) h1
  have walk := walk W (table hL) a b ha hb
  refine walk.mono fun e W' ⟨he, hf⟩ => ?_
  subst he
  exact ⟨_, rfl, law_post laidOut paramsOk rfl rfl Tryd.underlying4 hW' rfl rfl rfl hf⟩

theorem laid_met (os : Os) : laidMet Tryd.prog Rows.wireApartRow.laid ((laidWorld os).forCall (fun _ _ => 0) ⟨#[], #[.agg #[.int .i64 0, .int .i64 0, .int .i64 0, .int .i64 0, .int .i64 0, .int .u64 0, .string ByteArray.empty, .slice none 0 0], .agg #[.int .i64 0, .int .i64 0, .int .i64 0, .int .i64 0, .int .i64 0, .int .u64 0, .string ByteArray.empty, .slice none 0 0]], []⟩).memory :=
  laidMet_of_run' 20 (by kernel_rfl) (by kernel_rfl)
theorem reads (os : Os) {H : Type} (enc : TypeId × Value → H) : ∃ places, DataW.whole enc Tryd.prog ((laidWorld os).forCall (fun _ _ => 0) ⟨#[], #[.agg #[.int .i64 0, .int .i64 0, .int .i64 0, .int .i64 0, .int .i64 0, .int .u64 0, .string ByteArray.empty, .slice none 0 0], .agg #[.int .i64 0, .int .i64 0, .int .i64 0, .int .i64 0, .int .i64 0, .int .u64 0, .string ByteArray.empty, .slice none 0 0]], []⟩).memory Tryd.f6.params.toList Rows.wireApartSpec.vars false (#[.agg #[.int .i64 0, .int .i64 0, .int .i64 0, .int .i64 0, .int .i64 0, .int .u64 0, .string ByteArray.empty, .slice none 0 0], .agg #[.int .i64 0, .int .i64 0, .int .i64 0, .int .i64 0, .int .i64 0, .int .u64 0, .string ByteArray.empty, .slice none 0 0]] : Array Value).toList 8 = some ([.agg [.lit (.int .i64 0), .lit (.int .i64 0), .lit (.int .i64 0), .lit (.int .i64 0), .lit (.int .i64 0), .lit (.int .u64 0), .lit (.string []), .nil], .agg [.lit (.int .i64 0), .lit (.int .i64 0), .lit (.int .i64 0), .lit (.int .i64 0), .lit (.int .i64 0), .lit (.int .u64 0), .lit (.string []), .nil]], [], places) :=
  ⟨[], by kernel_rfl⟩

set_option maxRecDepth 100000 in
theorem lifted (os : Os) (started : os.Started) (H : Type) (enc : TypeId × Value → H) (F : Stop.Interp) :
    ReturnsInHanded {} Tryd.checked os 6 .any ((OpenSpec.ofChange Rows.wireApartSpec).preRow enc Tryd.prog Tryd.f6 Rows.wireApartRow.domain false Rows.wireApartRow.laid) (((OpenSpec.ofChange Rows.wireApartSpec).at F).post enc Tryd.prog Tryd.f6 false true false false) := by
  obtain ⟨places, hx⟩ := reads os enc
  refine returnsInHanded_of_row (C := Tryd.checked) (s := OpenSpec.ofChange Rows.wireApartSpec) own started (by kernel_rfl) Tryd.func6
    (witness_row_at (enc := enc) (C := Tryd.checked) false (laidWorld os) #[.agg #[.int .i64 0, .int .i64 0, .int .i64 0, .int .i64 0, .int .i64 0, .int .u64 0, .string ByteArray.empty, .slice none 0 0], .agg #[.int .i64 0, .int .i64 0, .int .i64 0, .int .i64 0, .int .i64 0, .int .u64 0, .string ByteArray.empty, .slice none 0 0]] rfl (by kernel_rfl) (by kernel_rfl) (by kernel_rfl)
      (OpenSpec.preRow_of_cond 8 hx (by kernel_rfl) (fun k hk => by cases hk) (by kernel_rfl) (laid_met os))) ?_
  intro W base args ds gs before hval hW _ _ _ hL _ _
  exact contract H enc W args ds gs before base hval hW hL

theorem said : Rows.WireApartSaid :=
  OpenClaim.holds_of_cond 6 Tryd.f6 rfl rfl rfl rfl rfl rfl rfl ⟨rfl, rfl, rfl, rfl, rfl⟩ rfl rfl rfl rfl rfl (by kernel_rfl) Tryd.func6 (by kernel_rfl)
    (of_decide_eq_true (by kernel_rfl)) (by unfold Func.isWrapper; first | (rw [if_pos (by decide +kernel)]; kernel_rfl) | (rw [if_neg (by decide +kernel)]; exact ⟨rfl, rfl⟩))
    (fun os started H enc _ F => by rw [OpenClaim.pre_eq_preRow]; exact lifted os started H enc F)

theorem plain (f : FuncId) (fn : Func) (hf : Tryd.pinned.checked.prog.funcNamed "argosy/argosylaw18.WireApart" = some f) (hfn : Tryd.pinned.checked.prog.funcs[f]? = some fn) :
    false = Tryd.pinned.checked.prog.looks [] ∧ ∀ (j : Nat) t, fn.params[j]? = some t → Tryd.pinned.checked.prog.wantsStandIn t = false := by
  obtain rfl : f = 6 := Option.some.inj ((show Tryd.prog.funcNamed "argosy/argosylaw18.WireApart" = some 6 by kernel_rfl).symm.trans hf) |>.symm
  obtain rfl : fn = Tryd.f6 := (Option.some.inj (Tryd.func6.symm.trans hfn)).symm
  exact ⟨by kernel_rfl, paramsPlain⟩

theorem card : Rows.WireApartCardSaid :=
  Claim7.holds_tied_plain_at .later [] _ _ _ _ said (fun _ h => by cases h) (by kernel_rfl) (fun _ h => by cases h) wireApart_row_tie rfl ⟨rfl, rfl⟩ (by kernel_rfl) rfl plain (by kernel_rfl)
end Go.Proofs.YtdpjmkgjjhcgeaaDoor.wireApart
