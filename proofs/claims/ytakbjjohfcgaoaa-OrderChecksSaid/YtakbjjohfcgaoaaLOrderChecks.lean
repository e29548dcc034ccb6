/- OrderChecks is true: whether any order is right, which homes it has, and whether it is single, is told exactly; it stays. No condition. -/
import Derived.Test.YtakbjjohfcgaoaaLawp
import Derived.Test.YtakbjjohfcgaoaaSpeaks9
import Derived.Test.YtakbjjohfcgaoaaOpenO
import Derived.Test.YtakbjjohfcgaoaaORight
import Derived.Test.YtakbjjohfcgaoaaOCopy
import Derived.Deep.RegionWith
namespace Go.Proofs.Ytakbjjohfcgaoaa.orderChecks
open Go.ChangeShapes Go.WideShapes Go.ChangeAt Go.RowKit

set_option maxRecDepth 100000 in
set_option maxHeartbeats 8000000 in
theorem walk (w : World) (o : Od) (r : Int) (ho : OdIn w o) : Calls Try.prog 3 #[odv o, .int .i64 r] w fun e w' => e = .returned (.bool true) ∧ Fr NoBlk w w' := by
  have HO := Lib.hid ho
  have HF0 : Hid (Fr NoBlk w (w.alloc (.cells (oda o) 33))) := (Fr.refl _ _).alloc _
  have HB0 := Lib.hid (Bk.new w 33 (oda o))
  clear ho
  unfold oda at HF0
  unfold odv oda
  go_enter Try.func3, Try.ntmps3
  go_wp2_with fail
  refine (speaks_any _).mono ?_
  rintro e w1 ⟨rfl, hf1⟩
  have HF1 := Lib.hid (HF0.out.trans hf1)
  have HB1 := Lib.hid (HB0.out.fr hf1 (fun h => h))
  clear hf1 HF0 HB0
  obtain ⟨c0, c1, c2, c3, c4, c5, c6, c7, c8, c9⟩ := HB1.out.ord
  go_wp2_with fail
  refine (ogreat_any w1 o (HO.out.nofr HF1.out)).mono ?_
  rintro e w2 ⟨⟨bb, rfl, hsm⟩, hf2⟩
  have HF2 := Lib.hid (HF1.out.trans hf2)
  have HB2 := Lib.hid (HB1.out.fr hf2 (fun h => h))
  have HSM := Lib.hid hsm
  clear c0 c1 c2 c3 c4 c5 c6 c7 c8 c9 hf2 HB1 HF1 hsm
  cases bb
  rotate_left
  · go_wp2_with fail
    go_ret
    exact ⟨rfl, HF2.out⟩
  have HS := Lib.hid (HSM.out rfl)
  clear HSM
  obtain ⟨c0, c1, c2, c3, c4, c5, c6, c7, c8, c9⟩ := HB2.out.ord
  go_wp2_with fail
  refine (ocopy_any w2 o (HO.out.nofr HF2.out) HS.out).mono ?_
  rintro e w3 ⟨b, rfl, hcp⟩
  have HLK := Lib.hid hcp.like
  have HWB := Lib.hid ((Fr.refl NoBlk w3).alloc (.cells (oda b) 33))
  have HFC := Lib.hid ((HF2.out.trans hcp.fr).trans HWB.out)
  have HBC := Lib.hid ((HB2.out.fr hcp.fr (fun h => h)).fr HWB.out (fun h => h))
  have HDC := Lib.hid (Bk.new w3 33 (oda b))
  have HBI := Lib.hid (hcp.inn.nofr HWB.out)
  obtain ⟨gc, hgc⟩ : ∃ gc, gc = w3.heap.size := ⟨_, rfl⟩
  have HGC := Lib.hid hgc
  clear c0 c1 c2 c3 c4 c5 c6 c7 c8 c9 hcp hgc HB2 HF2
  unfold odv
  unfold oda at HWB HFC HBC HDC HBI ⊢
  obtain ⟨d0, d1, d2, d3, d4, d5, d6, d7, d8, d9⟩ := HDC.out.ord
  go_wp2_with fail
  rw [← HGC.out] at HDC ⊢
  generalize hW : w3.alloc _ = wc at *
  clear hW d0 d1 d2 d3 d4 d5 d6 d7 d8 d9 HWB
  have HWC := Lib.hid HFC.out
  have HSB := Lib.hid (HLK.out.small HS.out)
  have hom : o.marks.length ≤ 1000 := by have := HS.out.m; omega
  have hbm : b.marks.length ≤ 1000 := by have := HSB.out.m; omega
  have hbr : b.t.reads.length ≤ 1000 := by have := HSB.out.t.r; omega
  have hbw : b.t.writes.length ≤ 1000 := by have := HSB.out.t.w; omega
  have hl := homesOf_len o.marks hom
  have HHO := Lib.hid fun W (hf : Fr NoBlk wc W) => homes_any W b (HBI.out.nofr hf) hbm
  have HDH := Lib.hid fun W (hf : Fr NoBlk w W) => dhomes_any W o (HO.out.nofr hf) hom
  have HCK := Lib.hid fun W (hf : Fr NoBlk wc W) => ocheck_any W b r (HBI.out.nofr hf) hbr hbw
  have HRT := Lib.hid fun W (hf : Fr NoBlk w W) => oright_any W o r (HO.out.nofr hf) HS.out
  have HSI := Lib.hid fun W (hf : Fr NoBlk wc W) => single_any W b (HBI.out.nofr hf) hbm
  have HDS := Lib.hid fun W (hf : Fr NoBlk w W) => dsingle_any W o (HO.out.nofr hf) hom
  have HSA := Lib.hid fun W (hf : Fr NoBlk wc W) => osame_any W b o (HBI.out.nofr hf) (HO.out.nofr (HWC.out.trans hf)) HSB.out HS.out
  rw [HLK.out.right r] at HCK
  rw [show singleOf b = singleOf o by unfold singleOf; rw [HLK.out.kind, HLK.out.marks]] at HSI
  rw [(orderSame_iff b o).2 HLK.out] at HSA
  rw [HLK.out.marks] at HHO
  generalize orderR o r = bb at HCK HRT
  generalize singleOf o = sg at HSI HDS
  generalize homesOf o.marks = hs at *
  clear hom hbm hbr hbw HS HSB HLK HBI HO
  unfold odv oda at HHO HDH HCK HRT HSI HDS HSA
  have sOf : Hid (∀ W, Fr NoBlk wc W → _) := fun W hf => And.intro (HDC.out.fr hf (fun h => h)).ord (HBC.out.fr hf (fun h => h)).ord
  have HS0 := Lib.hid (sOf.out _ (Fr.refl _ _))
  go_region_held3 (fun w' => (w'.cell? ⟨gc, 0, none⟩ = some (.int .i64 b.node) ∧ w'.cell? ⟨gc, 1, none⟩ = some (.int .u64 (b.epoch : Int)) ∧ w'.cell? ⟨gc, 2, none⟩ = some (.int .u64 (b.seq : Int)) ∧ w'.cell? ⟨gc, 3, none⟩ = some (.int .i64 b.tr) ∧ w'.cell? ⟨gc, 4, none⟩ = some (.int .i64 b.t.kind) ∧ w'.cell? ⟨gc, 5, none⟩ = some (.slice b.t.ra b.t.reads.length b.t.rc) ∧ w'.cell? ⟨gc, 6, none⟩ = some (.slice b.t.wa b.t.writes.length b.t.wc) ∧ w'.cell? ⟨gc, 7, none⟩ = some (.slice b.t.oa b.t.ops.length b.t.oc) ∧ w'.cell? ⟨gc, 8, none⟩ = some (.int .i64 b.t.to) ∧ w'.cell? ⟨gc, 9, none⟩ = some (.slice b.ma b.marks.length b.mc)) ∧ (w'.cell? ⟨w.heap.size, 0, none⟩ = some (.int .i64 o.node) ∧ w'.cell? ⟨w.heap.size, 1, none⟩ = some (.int .u64 (o.epoch : Int)) ∧ w'.cell? ⟨w.heap.size, 2, none⟩ = some (.int .u64 (o.seq : Int)) ∧ w'.cell? ⟨w.heap.size, 3, none⟩ = some (.int .i64 o.tr) ∧ w'.cell? ⟨w.heap.size, 4, none⟩ = some (.int .i64 o.t.kind) ∧ w'.cell? ⟨w.heap.size, 5, none⟩ = some (.slice o.t.ra o.t.reads.length o.t.rc) ∧ w'.cell? ⟨w.heap.size, 6, none⟩ = some (.slice o.t.wa o.t.writes.length o.t.wc) ∧ w'.cell? ⟨w.heap.size, 7, none⟩ = some (.slice o.t.oa o.t.ops.length o.t.oc) ∧ w'.cell? ⟨w.heap.size, 8, none⟩ = some (.int .i64 o.t.to) ∧ w'.cell? ⟨w.heap.size, 9, none⟩ = some (.slice o.ma o.marks.length o.mc)))
    ((first | exact hS5 | exact hS4 | exact HS0.out))
    (first
      | (go_at_call 10; refine (HHO.out _ ?_).mono ?_; exact ((Fr.refl _ _).drew); rintro e w4 ⟨A4, k4, rfl, h4⟩; have H4 := Lib.hid h4; have HF4 := Lib.hid (((Fr.refl NoBlk wc).drew).trans h4.fr); have hS4 := sOf.out _ HF4.out; clear h4)
      | (go_at_call 11; refine (HDH.out _ ?_).mono ?_; exact HWC.out.trans HF4.out; rintro e w5 ⟨A5, k5, rfl, h5⟩; have H5 := Lib.hid h5; have HF5 := Lib.hid (HF4.out.trans h5.fr); have hS5 := sOf.out _ HF5.out; clear h5))
  have HR4 := Lib.hid (H4.out.rd.nofr H5.out.fr)
  have HR5 := Lib.hid H5.out.rd
  have h4l : hs.length ≤ k4 := H4.out.le
  have h5l : hs.length ≤ k5 := H5.out.le
  clear H4 H5 hS4 hS5 HHO HDH HF4
  go_wp2_with fail
  go_loopw [27] (fun z wr => ∃ i : Nat, i ≤ hs.length ∧ z = .int .i64 i ∧ Hid (Fr NoBlk w5 wr)) (fun z _ => hs.length - (intOf z).toNat)
  case atStart => exact ⟨0, by omega, rfl, Fr.refl _ _⟩
  case round =>
    obtain ⟨i, hi, rfl, HFW⟩ := hrel
    by_cases hlt : i < hs.length
    · obtain ⟨x, hx⟩ : ∃ x, hs[i]? = some x := ⟨_, List.getElem?_eq_getElem hlt⟩
      obtain ⟨p, q, rfl, e1⟩ := (HR4.out.nofr HFW.out).at_ (ic_get hs i x hx)
      obtain ⟨p', q', rfl, e2⟩ := (HR5.out.nofr HFW.out).at_ (ic_get hs i x hx)
      have i1 : (0 : Int) ≤ (i : Int) := by omega
      have i2 : (i : Int) < (hs.length : Int) := by omega
      clear hx
      go_wp2_with fail
      go_quiet (fail)
      go_wp2
      go_roundw
      case rel => exact ⟨i + 1, by omega, by go_num, HFW.out.drewN _⟩
      case measure => simp [intOf]; omega
    · have i3 : (hs.length : Int) ≤ (i : Int) := by omega
      have HFX := Lib.hid (HF5.out.trans HFW.out)
      obtain ⟨⟨sa0, sa1, sa2, sa3, sa4, sa5, sa6, sa7, sa8, sa9⟩, _⟩ := sOf.out _ HFX.out
      go_wp2_with fail
      refine (HCK.out _ HFX.out).mono ?_
      rintro e w6 ⟨rfl, hf6⟩
      have HF6 := Lib.hid (HFX.out.trans hf6)
      clear hf6 sa0 sa1 sa2 sa3 sa4 sa5 sa6 sa7 sa8 sa9 HCK HR4 HR5
      cases bb
      · have e0 : codeR false = 1 := rfl
        rw [e0]
        go_wp2_with fail
        refine wp_region_held_drew (S := fun w' => (w'.cell? ⟨gc, 0, none⟩ = some (.int .i64 b.node) ∧ w'.cell? ⟨gc, 1, none⟩ = some (.int .u64 (b.epoch : Int)) ∧ w'.cell? ⟨gc, 2, none⟩ = some (.int .u64 (b.seq : Int)) ∧ w'.cell? ⟨gc, 3, none⟩ = some (.int .i64 b.tr) ∧ w'.cell? ⟨gc, 4, none⟩ = some (.int .i64 b.t.kind) ∧ w'.cell? ⟨gc, 5, none⟩ = some (.slice b.t.ra b.t.reads.length b.t.rc) ∧ w'.cell? ⟨gc, 6, none⟩ = some (.slice b.t.wa b.t.writes.length b.t.wc) ∧ w'.cell? ⟨gc, 7, none⟩ = some (.slice b.t.oa b.t.ops.length b.t.oc) ∧ w'.cell? ⟨gc, 8, none⟩ = some (.int .i64 b.t.to) ∧ w'.cell? ⟨gc, 9, none⟩ = some (.slice b.ma b.marks.length b.mc)) ∧ (w'.cell? ⟨w.heap.size, 0, none⟩ = some (.int .i64 o.node) ∧ w'.cell? ⟨w.heap.size, 1, none⟩ = some (.int .u64 (o.epoch : Int)) ∧ w'.cell? ⟨w.heap.size, 2, none⟩ = some (.int .u64 (o.seq : Int)) ∧ w'.cell? ⟨w.heap.size, 3, none⟩ = some (.int .i64 o.tr) ∧ w'.cell? ⟨w.heap.size, 4, none⟩ = some (.int .i64 o.t.kind) ∧ w'.cell? ⟨w.heap.size, 5, none⟩ = some (.slice o.t.ra o.t.reads.length o.t.rc) ∧ w'.cell? ⟨w.heap.size, 6, none⟩ = some (.slice o.t.wa o.t.writes.length o.t.wc) ∧ w'.cell? ⟨w.heap.size, 7, none⟩ = some (.slice o.t.oa o.t.ops.length o.t.oc) ∧ w'.cell? ⟨w.heap.size, 8, none⟩ = some (.int .i64 o.t.to) ∧ w'.cell? ⟨w.heap.size, 9, none⟩ = some (.slice o.ma o.marks.length o.mc))) (by kernel_rfl) (sOf.out _ (HF6.out.drew)) (fun hHeld => ?_)
        refine wpAnyH_take (i := 0) (oi := ⟨some 43, _, _, _, _, _⟩) (v := ?_) rfl (by kernel_rfl) (by kernel_rfl) (by kernel_rfl) (fun _ _ _ h => h) (Or.inl ⟨by rfl, ?_⟩) (by assumption) ?_
        rotate_left 1
        · (intro w hSw; (try dsimp only at hSw); obtain ⟨⟨sa0, sa1, sa2, sa3, sa4, sa5, sa6, sa7, sa8, sa9⟩, ⟨sb0, sb1, sb2, sb3, sb4, sb5, sb6, sb7, sb8, sb9⟩⟩ := hSw; go_simp) <;> (with_reducible rfl)
        try simp only [Act.put, List.setIfInBounds_toArray, List.set_cons_zero, List.set_cons_succ]
        refine wpAnyH_take (i := 1) (oi := ⟨some 44, _, _, _, _, _⟩) (v := ?_) rfl (by kernel_rfl) (by kernel_rfl) (by kernel_rfl) (fun _ _ _ h => h) (Or.inl ⟨by rfl, ?_⟩) (by assumption) ?_
        rotate_left 1
        · (intro w hSw; (try dsimp only at hSw); obtain ⟨⟨sa0, sa1, sa2, sa3, sa4, sa5, sa6, sa7, sa8, sa9⟩, ⟨sb0, sb1, sb2, sb3, sb4, sb5, sb6, sb7, sb8, sb9⟩⟩ := hSw; go_simp) <;> (with_reducible rfl)
        try simp only [Act.put, List.setIfInBounds_toArray, List.set_cons_zero, List.set_cons_succ]
        refine wpAnyH_take (i := 2) (oi := ⟨some 45, _, _, _, _, _⟩) (v := ?_) rfl (by kernel_rfl) (by kernel_rfl) (by kernel_rfl) (fun _ _ _ h => h) (Or.inl ⟨by rfl, ?_⟩) (by assumption) ?_
        rotate_left 1
        · (intro w hSw; (try dsimp only at hSw); obtain ⟨⟨sa0, sa1, sa2, sa3, sa4, sa5, sa6, sa7, sa8, sa9⟩, ⟨sb0, sb1, sb2, sb3, sb4, sb5, sb6, sb7, sb8, sb9⟩⟩ := hSw; go_simp) <;> (with_reducible rfl)
        try simp only [Act.put, List.setIfInBounds_toArray, List.set_cons_zero, List.set_cons_succ]
        refine wpAnyH_take (i := 3) (oi := ⟨some 46, _, _, _, _, _⟩) (v := ?_) rfl (by kernel_rfl) (by kernel_rfl) (by kernel_rfl) (fun _ _ _ h => h) (Or.inl ⟨by rfl, ?_⟩) (by assumption) ?_
        rotate_left 1
        · (intro w hSw; (try dsimp only at hSw); obtain ⟨⟨sa0, sa1, sa2, sa3, sa4, sa5, sa6, sa7, sa8, sa9⟩, ⟨sb0, sb1, sb2, sb3, sb4, sb5, sb6, sb7, sb8, sb9⟩⟩ := hSw; go_simp) <;> (with_reducible rfl)
        try simp only [Act.put, List.setIfInBounds_toArray, List.set_cons_zero, List.set_cons_succ]
        refine wpAnyH_ready (rs := [4]) (by kernel_rfl) (by simp) ?_
        refine AllReadyH.cons (o := ⟨some 47, _, _, _, _, _⟩) rfl (fun K hK => ?_) AllReadyH.nil
        go_simp
        go_at_call 13
        refine (HRT.out _ (HWC.out.trans (HF6.out.drew))).mono ?_
        rintro e w7 ⟨rfl, hf7⟩
        have HF7 := Lib.hid ((HF6.out.drew).trans hf7)
        clear hf7
        clear hHeld
        refine hK.out _ _ ?_ (fun hHeld => ?_)
        · exact sOf.out _ HF7.out
        clear hK K
        try simp only [Act.put, List.setIfInBounds_toArray, List.set_cons_zero, List.set_cons_succ]
        refine wpAnyH_take (i := 5) (oi := ⟨some 48, _, _, _, _, _⟩) (v := ?_) rfl (by kernel_rfl) (by kernel_rfl) (by kernel_rfl) (fun _ _ _ h => h) (Or.inl ⟨by rfl, ?_⟩) (by assumption) ?_
        rotate_left 1
        · (intro w hSw; (try dsimp only at hSw); obtain ⟨⟨sa0, sa1, sa2, sa3, sa4, sa5, sa6, sa7, sa8, sa9⟩, ⟨sb0, sb1, sb2, sb3, sb4, sb5, sb6, sb7, sb8, sb9⟩⟩ := hSw; go_simp) <;> (with_reducible rfl)
        try simp only [Act.put, List.setIfInBounds_toArray, List.set_cons_zero, List.set_cons_succ]
        refine wpAnyH_take (i := 6) (oi := ⟨some 49, _, _, _, _, _⟩) (v := ?_) rfl (by kernel_rfl) (by kernel_rfl) (by kernel_rfl) (fun _ _ _ h => h) (Or.inl ⟨by rfl, ?_⟩) (by assumption) ?_
        rotate_left 1
        · (intro w hSw; (try dsimp only at hSw); obtain ⟨⟨sa0, sa1, sa2, sa3, sa4, sa5, sa6, sa7, sa8, sa9⟩, ⟨sb0, sb1, sb2, sb3, sb4, sb5, sb6, sb7, sb8, sb9⟩⟩ := hSw; go_simp) <;> (with_reducible rfl)
        try simp only [Act.put, List.setIfInBounds_toArray, List.set_cons_zero, List.set_cons_succ]
        refine wpAnyH_take (i := 7) (oi := ⟨some 50, _, _, _, _, _⟩) (v := ?_) rfl (by kernel_rfl) (by kernel_rfl) (by kernel_rfl) (fun _ _ _ h => h) (Or.inl ⟨by rfl, ?_⟩) (by assumption) ?_
        rotate_left 1
        · (intro w hSw; (try dsimp only at hSw); obtain ⟨⟨sa0, sa1, sa2, sa3, sa4, sa5, sa6, sa7, sa8, sa9⟩, ⟨sb0, sb1, sb2, sb3, sb4, sb5, sb6, sb7, sb8, sb9⟩⟩ := hSw; go_simp) <;> (with_reducible rfl)
        try simp only [Act.put, List.setIfInBounds_toArray, List.set_cons_zero, List.set_cons_succ]
        refine wpAnyH_take (i := 8) (oi := ⟨some 51, _, _, _, _, _⟩) (v := ?_) rfl (by kernel_rfl) (by kernel_rfl) (by kernel_rfl) (fun _ _ _ h => h) (Or.inl ⟨by rfl, ?_⟩) (by assumption) ?_
        rotate_left 1
        · (intro w hSw; (try dsimp only at hSw); obtain ⟨⟨sa0, sa1, sa2, sa3, sa4, sa5, sa6, sa7, sa8, sa9⟩, ⟨sb0, sb1, sb2, sb3, sb4, sb5, sb6, sb7, sb8, sb9⟩⟩ := hSw; go_simp) <;> (with_reducible rfl)
        try simp only [Act.put, List.setIfInBounds_toArray, List.set_cons_zero, List.set_cons_succ]
        refine wpAnyH_take (i := 9) (oi := ⟨some 52, _, _, _, _, _⟩) (v := ?_) rfl (by kernel_rfl) (by kernel_rfl) (by kernel_rfl) (fun _ _ _ h => h) (Or.inl ⟨by rfl, ?_⟩) (by assumption) ?_
        rotate_left 1
        · (intro w hSw; (try dsimp only at hSw); obtain ⟨⟨sa0, sa1, sa2, sa3, sa4, sa5, sa6, sa7, sa8, sa9⟩, ⟨sb0, sb1, sb2, sb3, sb4, sb5, sb6, sb7, sb8, sb9⟩⟩ := hSw; go_simp) <;> (with_reducible rfl)
        try simp only [Act.put, List.setIfInBounds_toArray, List.set_cons_zero, List.set_cons_succ]
        refine wpAnyH_take (i := 10) (oi := ⟨some 53, _, _, _, _, _⟩) (v := ?_) rfl (by kernel_rfl) (by kernel_rfl) (by kernel_rfl) (fun _ _ _ h => h) (Or.inl ⟨by rfl, ?_⟩) (by assumption) ?_
        rotate_left 1
        · (intro w hSw; (try dsimp only at hSw); obtain ⟨⟨sa0, sa1, sa2, sa3, sa4, sa5, sa6, sa7, sa8, sa9⟩, ⟨sb0, sb1, sb2, sb3, sb4, sb5, sb6, sb7, sb8, sb9⟩⟩ := hSw; go_simp) <;> (with_reducible rfl)
        try simp only [Act.put, List.setIfInBounds_toArray, List.set_cons_zero, List.set_cons_succ]
        refine wpAnyH_take (i := 11) (oi := ⟨some 54, _, _, _, _, _⟩) (v := ?_) rfl (by kernel_rfl) (by kernel_rfl) (by kernel_rfl) (fun _ _ _ h => h) (Or.inl ⟨by rfl, ?_⟩) (by assumption) ?_
        rotate_left 1
        · (intro w hSw; (try dsimp only at hSw); obtain ⟨⟨sa0, sa1, sa2, sa3, sa4, sa5, sa6, sa7, sa8, sa9⟩, ⟨sb0, sb1, sb2, sb3, sb4, sb5, sb6, sb7, sb8, sb9⟩⟩ := hSw; go_simp) <;> (with_reducible rfl)
        try simp only [Act.put, List.setIfInBounds_toArray, List.set_cons_zero, List.set_cons_succ]
        refine wpAnyH_take (i := 12) (oi := ⟨some 55, _, _, _, _, _⟩) (v := ?_) rfl (by kernel_rfl) (by kernel_rfl) (by kernel_rfl) (fun _ _ _ h => h) (Or.inl ⟨by rfl, ?_⟩) (by assumption) ?_
        rotate_left 1
        · (intro w hSw; (try dsimp only at hSw); obtain ⟨⟨sa0, sa1, sa2, sa3, sa4, sa5, sa6, sa7, sa8, sa9⟩, ⟨sb0, sb1, sb2, sb3, sb4, sb5, sb6, sb7, sb8, sb9⟩⟩ := hSw; go_simp) <;> (with_reducible rfl)
        try simp only [Act.put, List.setIfInBounds_toArray, List.set_cons_zero, List.set_cons_succ]
        refine wpAnyH_take (i := 13) (oi := ⟨some 56, _, _, _, _, _⟩) (v := ?_) rfl (by kernel_rfl) (by kernel_rfl) (by kernel_rfl) (fun _ _ _ h => h) (Or.inl ⟨by rfl, ?_⟩) (by assumption) ?_
        rotate_left 1
        · (intro w hSw; (try dsimp only at hSw); obtain ⟨⟨sa0, sa1, sa2, sa3, sa4, sa5, sa6, sa7, sa8, sa9⟩, ⟨sb0, sb1, sb2, sb3, sb4, sb5, sb6, sb7, sb8, sb9⟩⟩ := hSw; go_simp) <;> (with_reducible rfl)
        try simp only [Act.put, List.setIfInBounds_toArray, List.set_cons_zero, List.set_cons_succ]
        refine wpAnyH_take (i := 14) (oi := ⟨some 57, _, _, _, _, _⟩) (v := ?_) rfl (by kernel_rfl) (by kernel_rfl) (by kernel_rfl) (fun _ _ _ h => h) (Or.inl ⟨by rfl, ?_⟩) (by assumption) ?_
        rotate_left 1
        · (intro w hSw; (try dsimp only at hSw); obtain ⟨⟨sa0, sa1, sa2, sa3, sa4, sa5, sa6, sa7, sa8, sa9⟩, ⟨sb0, sb1, sb2, sb3, sb4, sb5, sb6, sb7, sb8, sb9⟩⟩ := hSw; go_simp) <;> (with_reducible rfl)
        try simp only [Act.put, List.setIfInBounds_toArray, List.set_cons_zero, List.set_cons_succ]
        refine wpAnyH_take (i := 15) (oi := ⟨some 58, _, _, _, _, _⟩) (v := ?_) rfl (by kernel_rfl) (by kernel_rfl) (by kernel_rfl) (fun _ _ _ h => h) (Or.inl ⟨by rfl, ?_⟩) (by assumption) ?_
        rotate_left 1
        · (intro w hSw; (try dsimp only at hSw); obtain ⟨⟨sa0, sa1, sa2, sa3, sa4, sa5, sa6, sa7, sa8, sa9⟩, ⟨sb0, sb1, sb2, sb3, sb4, sb5, sb6, sb7, sb8, sb9⟩⟩ := hSw; go_simp) <;> (with_reducible rfl)
        try simp only [Act.put, List.setIfInBounds_toArray, List.set_cons_zero, List.set_cons_succ]
        refine wpAnyH_take (i := 17) (oi := ⟨some 60, _, _, _, _, _⟩) (v := ?_) rfl (by kernel_rfl) (by kernel_rfl) (by kernel_rfl) (fun _ _ _ h => h) (Or.inl ⟨by rfl, ?_⟩) (by assumption) ?_
        rotate_left 1
        · (intro w hSw; (try dsimp only at hSw); obtain ⟨⟨sa0, sa1, sa2, sa3, sa4, sa5, sa6, sa7, sa8, sa9⟩, ⟨sb0, sb1, sb2, sb3, sb4, sb5, sb6, sb7, sb8, sb9⟩⟩ := hSw; go_simp) <;> (with_reducible rfl)
        try simp only [Act.put, List.setIfInBounds_toArray, List.set_cons_zero, List.set_cons_succ]
        refine wpAnyH_ready (rs := [16]) (by kernel_rfl) (by simp) ?_
        refine AllReadyH.cons (o := ⟨some 59, _, _, _, _, _⟩) rfl (fun K hK => ?_) AllReadyH.nil
        go_simp
        go_at_call 14
        refine (HSI.out _ HF7.out).mono ?_
        rintro e w8 ⟨rfl, hf8⟩
        have HF8 := Lib.hid (HF7.out.trans hf8)
        clear hf8
        clear hHeld
        refine hK.out _ _ ?_ (fun hHeld => ?_)
        · exact sOf.out _ HF8.out
        clear hK K
        try simp only [Act.put, List.setIfInBounds_toArray, List.set_cons_zero, List.set_cons_succ]
        refine wpAnyH_ready (rs := [18]) (by kernel_rfl) (by simp) ?_
        refine AllReadyH.cons (o := ⟨some 61, _, _, _, _, _⟩) rfl (fun K hK => ?_) AllReadyH.nil
        go_simp
        go_at_call 15
        refine (HDS.out _ (HWC.out.trans HF8.out)).mono ?_
        rintro e w9 ⟨rfl, hf9⟩
        have HF9 := Lib.hid (HF8.out.trans hf9)
        clear hf9
        clear hHeld
        refine hK.out _ _ ?_ (fun hHeld => ?_)
        · exact sOf.out _ HF9.out
        clear hK K
        try simp only [Act.put, List.setIfInBounds_toArray, List.set_cons_zero, List.set_cons_succ]
        refine wpAnyH_take (i := 19) (oi := ⟨some 62, _, _, _, _, _⟩) (v := ?_) rfl (by kernel_rfl) (by kernel_rfl) (by kernel_rfl) (fun _ _ _ h => h) (Or.inl ⟨by rfl, ?_⟩) (by assumption) ?_
        rotate_left 1
        · (intro w hSw; (try dsimp only at hSw); obtain ⟨⟨sa0, sa1, sa2, sa3, sa4, sa5, sa6, sa7, sa8, sa9⟩, ⟨sb0, sb1, sb2, sb3, sb4, sb5, sb6, sb7, sb8, sb9⟩⟩ := hSw; go_simp) <;> (with_reducible rfl)
        try simp only [Act.put, List.setIfInBounds_toArray, List.set_cons_zero, List.set_cons_succ]
        refine wpAnyH_take (i := 20) (oi := ⟨some 63, _, _, _, _, _⟩) (v := ?_) rfl (by kernel_rfl) (by kernel_rfl) (by kernel_rfl) (fun _ _ _ h => h) (Or.inl ⟨by rfl, ?_⟩) (by assumption) ?_
        rotate_left 1
        · (intro w hSw; (try dsimp only at hSw); obtain ⟨⟨sa0, sa1, sa2, sa3, sa4, sa5, sa6, sa7, sa8, sa9⟩, ⟨sb0, sb1, sb2, sb3, sb4, sb5, sb6, sb7, sb8, sb9⟩⟩ := hSw; go_simp) <;> (with_reducible rfl)
        try simp only [Act.put, List.setIfInBounds_toArray, List.set_cons_zero, List.set_cons_succ]
        refine wpAnyH_take (i := 21) (oi := ⟨some 64, _, _, _, _, _⟩) (v := ?_) rfl (by kernel_rfl) (by kernel_rfl) (by kernel_rfl) (fun _ _ _ h => h) (Or.inl ⟨by rfl, ?_⟩) (by assumption) ?_
        rotate_left 1
        · (intro w hSw; (try dsimp only at hSw); obtain ⟨⟨sa0, sa1, sa2, sa3, sa4, sa5, sa6, sa7, sa8, sa9⟩, ⟨sb0, sb1, sb2, sb3, sb4, sb5, sb6, sb7, sb8, sb9⟩⟩ := hSw; go_simp) <;> (with_reducible rfl)
        try simp only [Act.put, List.setIfInBounds_toArray, List.set_cons_zero, List.set_cons_succ]
        refine wpAnyH_take (i := 22) (oi := ⟨some 65, _, _, _, _, _⟩) (v := ?_) rfl (by kernel_rfl) (by kernel_rfl) (by kernel_rfl) (fun _ _ _ h => h) (Or.inl ⟨by rfl, ?_⟩) (by assumption) ?_
        rotate_left 1
        · (intro w hSw; (try dsimp only at hSw); obtain ⟨⟨sa0, sa1, sa2, sa3, sa4, sa5, sa6, sa7, sa8, sa9⟩, ⟨sb0, sb1, sb2, sb3, sb4, sb5, sb6, sb7, sb8, sb9⟩⟩ := hSw; go_simp) <;> (with_reducible rfl)
        try simp only [Act.put, List.setIfInBounds_toArray, List.set_cons_zero, List.set_cons_succ]
        refine wpAnyH_take (i := 23) (oi := ⟨some 66, _, _, _, _, _⟩) (v := ?_) rfl (by kernel_rfl) (by kernel_rfl) (by kernel_rfl) (fun _ _ _ h => h) (Or.inl ⟨by rfl, ?_⟩) (by assumption) ?_
        rotate_left 1
        · (intro w hSw; (try dsimp only at hSw); obtain ⟨⟨sa0, sa1, sa2, sa3, sa4, sa5, sa6, sa7, sa8, sa9⟩, ⟨sb0, sb1, sb2, sb3, sb4, sb5, sb6, sb7, sb8, sb9⟩⟩ := hSw; go_simp) <;> (with_reducible rfl)
        try simp only [Act.put, List.setIfInBounds_toArray, List.set_cons_zero, List.set_cons_succ]
        refine wpAnyH_ready (rs := [24]) (by kernel_rfl) (by simp) ?_
        refine AllReadyH.cons (o := ⟨some 67, _, _, _, _, _⟩) rfl (fun K hK => ?_) AllReadyH.nil
        go_simp
        go_at_call 16
        refine (HSA.out _ HF9.out).mono ?_
        rintro e w10 ⟨rfl, hf10⟩
        have HF10 := Lib.hid (HF9.out.trans hf10)
        clear hf10
        clear hHeld
        refine hK.out _ _ ?_ (fun hHeld => ?_)
        · exact sOf.out _ HF10.out
        clear hK K
        try simp only [Act.put, List.setIfInBounds_toArray, List.set_cons_zero, List.set_cons_succ]
        refine wpAnyH_take (i := 25) (oi := ⟨some 68, _, _, _, _, _⟩) (v := ?_) rfl (by kernel_rfl) (by kernel_rfl) (by kernel_rfl) (fun _ _ _ h => h) (Or.inl ⟨by rfl, ?_⟩) (by assumption) ?_
        rotate_left 1
        · (intro w hSw; (try dsimp only at hSw); obtain ⟨⟨sa0, sa1, sa2, sa3, sa4, sa5, sa6, sa7, sa8, sa9⟩, ⟨sb0, sb1, sb2, sb3, sb4, sb5, sb6, sb7, sb8, sb9⟩⟩ := hSw; go_simp) <;> (with_reducible rfl)
        try simp only [Act.put, List.setIfInBounds_toArray, List.set_cons_zero, List.set_cons_succ]
        refine wpAnyH_take (i := 26) (oi := ⟨some 4, _, _, _, _, _⟩) (v := ?_) rfl (by kernel_rfl) (by kernel_rfl) (by kernel_rfl) (fun _ _ _ h => h) (Or.inl ⟨by rfl, ?_⟩) (by assumption) ?_
        rotate_left 1
        · (intro w hSw; (try dsimp only at hSw); obtain ⟨⟨sa0, sa1, sa2, sa3, sa4, sa5, sa6, sa7, sa8, sa9⟩, ⟨sb0, sb1, sb2, sb3, sb4, sb5, sb6, sb7, sb8, sb9⟩⟩ := hSw; go_simp) <;> (with_reducible rfl)
        try simp only [Act.put, List.setIfInBounds_toArray, List.set_cons_zero, List.set_cons_succ]
        refine wpAnyH_done (by kernel_rfl) ?_ _
        go_wp2_with fail
        go_ret
        exact ⟨rfl, HFC.out.trans HF10.out⟩
      · have e0 : codeR true = 0 := rfl
        rw [e0]
        go_wp2_with fail
        refine wp_region_held_drew (S := fun w' => (w'.cell? ⟨gc, 0, none⟩ = some (.int .i64 b.node) ∧ w'.cell? ⟨gc, 1, none⟩ = some (.int .u64 (b.epoch : Int)) ∧ w'.cell? ⟨gc, 2, none⟩ = some (.int .u64 (b.seq : Int)) ∧ w'.cell? ⟨gc, 3, none⟩ = some (.int .i64 b.tr) ∧ w'.cell? ⟨gc, 4, none⟩ = some (.int .i64 b.t.kind) ∧ w'.cell? ⟨gc, 5, none⟩ = some (.slice b.t.ra b.t.reads.length b.t.rc) ∧ w'.cell? ⟨gc, 6, none⟩ = some (.slice b.t.wa b.t.writes.length b.t.wc) ∧ w'.cell? ⟨gc, 7, none⟩ = some (.slice b.t.oa b.t.ops.length b.t.oc) ∧ w'.cell? ⟨gc, 8, none⟩ = some (.int .i64 b.t.to) ∧ w'.cell? ⟨gc, 9, none⟩ = some (.slice b.ma b.marks.length b.mc)) ∧ (w'.cell? ⟨w.heap.size, 0, none⟩ = some (.int .i64 o.node) ∧ w'.cell? ⟨w.heap.size, 1, none⟩ = some (.int .u64 (o.epoch : Int)) ∧ w'.cell? ⟨w.heap.size, 2, none⟩ = some (.int .u64 (o.seq : Int)) ∧ w'.cell? ⟨w.heap.size, 3, none⟩ = some (.int .i64 o.tr) ∧ w'.cell? ⟨w.heap.size, 4, none⟩ = some (.int .i64 o.t.kind) ∧ w'.cell? ⟨w.heap.size, 5, none⟩ = some (.slice o.t.ra o.t.reads.length o.t.rc) ∧ w'.cell? ⟨w.heap.size, 6, none⟩ = some (.slice o.t.wa o.t.writes.length o.t.wc) ∧ w'.cell? ⟨w.heap.size, 7, none⟩ = some (.slice o.t.oa o.t.ops.length o.t.oc) ∧ w'.cell? ⟨w.heap.size, 8, none⟩ = some (.int .i64 o.t.to) ∧ w'.cell? ⟨w.heap.size, 9, none⟩ = some (.slice o.ma o.marks.length o.mc))) (by kernel_rfl) (sOf.out _ (HF6.out.drew)) (fun hHeld => ?_)
        refine wpAnyH_take (i := 0) (oi := ⟨some 43, _, _, _, _, _⟩) (v := ?_) rfl (by kernel_rfl) (by kernel_rfl) (by kernel_rfl) (fun _ _ _ h => h) (Or.inl ⟨by rfl, ?_⟩) (by assumption) ?_
        rotate_left 1
        · (intro w hSw; (try dsimp only at hSw); obtain ⟨⟨sa0, sa1, sa2, sa3, sa4, sa5, sa6, sa7, sa8, sa9⟩, ⟨sb0, sb1, sb2, sb3, sb4, sb5, sb6, sb7, sb8, sb9⟩⟩ := hSw; go_simp) <;> (with_reducible rfl)
        try simp only [Act.put, List.setIfInBounds_toArray, List.set_cons_zero, List.set_cons_succ]
        refine wpAnyH_take (i := 1) (oi := ⟨some 44, _, _, _, _, _⟩) (v := ?_) rfl (by kernel_rfl) (by kernel_rfl) (by kernel_rfl) (fun _ _ _ h => h) (Or.inl ⟨by rfl, ?_⟩) (by assumption) ?_
        rotate_left 1
        · (intro w hSw; (try dsimp only at hSw); obtain ⟨⟨sa0, sa1, sa2, sa3, sa4, sa5, sa6, sa7, sa8, sa9⟩, ⟨sb0, sb1, sb2, sb3, sb4, sb5, sb6, sb7, sb8, sb9⟩⟩ := hSw; go_simp) <;> (with_reducible rfl)
        try simp only [Act.put, List.setIfInBounds_toArray, List.set_cons_zero, List.set_cons_succ]
        refine wpAnyH_take (i := 2) (oi := ⟨some 45, _, _, _, _, _⟩) (v := ?_) rfl (by kernel_rfl) (by kernel_rfl) (by kernel_rfl) (fun _ _ _ h => h) (Or.inl ⟨by rfl, ?_⟩) (by assumption) ?_
        rotate_left 1
        · (intro w hSw; (try dsimp only at hSw); obtain ⟨⟨sa0, sa1, sa2, sa3, sa4, sa5, sa6, sa7, sa8, sa9⟩, ⟨sb0, sb1, sb2, sb3, sb4, sb5, sb6, sb7, sb8, sb9⟩⟩ := hSw; go_simp) <;> (with_reducible rfl)
        try simp only [Act.put, List.setIfInBounds_toArray, List.set_cons_zero, List.set_cons_succ]
        refine wpAnyH_take (i := 3) (oi := ⟨some 46, _, _, _, _, _⟩) (v := ?_) rfl (by kernel_rfl) (by kernel_rfl) (by kernel_rfl) (fun _ _ _ h => h) (Or.inl ⟨by rfl, ?_⟩) (by assumption) ?_
        rotate_left 1
        · (intro w hSw; (try dsimp only at hSw); obtain ⟨⟨sa0, sa1, sa2, sa3, sa4, sa5, sa6, sa7, sa8, sa9⟩, ⟨sb0, sb1, sb2, sb3, sb4, sb5, sb6, sb7, sb8, sb9⟩⟩ := hSw; go_simp) <;> (with_reducible rfl)
        try simp only [Act.put, List.setIfInBounds_toArray, List.set_cons_zero, List.set_cons_succ]
        refine wpAnyH_ready (rs := [4]) (by kernel_rfl) (by simp) ?_
        refine AllReadyH.cons (o := ⟨some 47, _, _, _, _, _⟩) rfl (fun K hK => ?_) AllReadyH.nil
        go_simp
        go_at_call 13
        refine (HRT.out _ (HWC.out.trans (HF6.out.drew))).mono ?_
        rintro e w7 ⟨rfl, hf7⟩
        have HF7 := Lib.hid ((HF6.out.drew).trans hf7)
        clear hf7
        clear hHeld
        refine hK.out _ _ ?_ (fun hHeld => ?_)
        · exact sOf.out _ HF7.out
        clear hK K
        try simp only [Act.put, List.setIfInBounds_toArray, List.set_cons_zero, List.set_cons_succ]
        refine wpAnyH_take (i := 5) (oi := ⟨some 48, _, _, _, _, _⟩) (v := ?_) rfl (by kernel_rfl) (by kernel_rfl) (by kernel_rfl) (fun _ _ _ h => h) (Or.inl ⟨by rfl, ?_⟩) (by assumption) ?_
        rotate_left 1
        · (intro w hSw; (try dsimp only at hSw); obtain ⟨⟨sa0, sa1, sa2, sa3, sa4, sa5, sa6, sa7, sa8, sa9⟩, ⟨sb0, sb1, sb2, sb3, sb4, sb5, sb6, sb7, sb8, sb9⟩⟩ := hSw; go_simp) <;> (with_reducible rfl)
        try simp only [Act.put, List.setIfInBounds_toArray, List.set_cons_zero, List.set_cons_succ]
        refine wpAnyH_take (i := 6) (oi := ⟨some 49, _, _, _, _, _⟩) (v := ?_) rfl (by kernel_rfl) (by kernel_rfl) (by kernel_rfl) (fun _ _ _ h => h) (Or.inl ⟨by rfl, ?_⟩) (by assumption) ?_
        rotate_left 1
        · (intro w hSw; (try dsimp only at hSw); obtain ⟨⟨sa0, sa1, sa2, sa3, sa4, sa5, sa6, sa7, sa8, sa9⟩, ⟨sb0, sb1, sb2, sb3, sb4, sb5, sb6, sb7, sb8, sb9⟩⟩ := hSw; go_simp) <;> (with_reducible rfl)
        try simp only [Act.put, List.setIfInBounds_toArray, List.set_cons_zero, List.set_cons_succ]
        refine wpAnyH_take (i := 7) (oi := ⟨some 50, _, _, _, _, _⟩) (v := ?_) rfl (by kernel_rfl) (by kernel_rfl) (by kernel_rfl) (fun _ _ _ h => h) (Or.inl ⟨by rfl, ?_⟩) (by assumption) ?_
        rotate_left 1
        · (intro w hSw; (try dsimp only at hSw); obtain ⟨⟨sa0, sa1, sa2, sa3, sa4, sa5, sa6, sa7, sa8, sa9⟩, ⟨sb0, sb1, sb2, sb3, sb4, sb5, sb6, sb7, sb8, sb9⟩⟩ := hSw; go_simp) <;> (with_reducible rfl)
        try simp only [Act.put, List.setIfInBounds_toArray, List.set_cons_zero, List.set_cons_succ]
        refine wpAnyH_take (i := 8) (oi := ⟨some 51, _, _, _, _, _⟩) (v := ?_) rfl (by kernel_rfl) (by kernel_rfl) (by kernel_rfl) (fun _ _ _ h => h) (Or.inl ⟨by rfl, ?_⟩) (by assumption) ?_
        rotate_left 1
        · (intro w hSw; (try dsimp only at hSw); obtain ⟨⟨sa0, sa1, sa2, sa3, sa4, sa5, sa6, sa7, sa8, sa9⟩, ⟨sb0, sb1, sb2, sb3, sb4, sb5, sb6, sb7, sb8, sb9⟩⟩ := hSw; go_simp) <;> (with_reducible rfl)
        try simp only [Act.put, List.setIfInBounds_toArray, List.set_cons_zero, List.set_cons_succ]
        refine wpAnyH_take (i := 9) (oi := ⟨some 52, _, _, _, _, _⟩) (v := ?_) rfl (by kernel_rfl) (by kernel_rfl) (by kernel_rfl) (fun _ _ _ h => h) (Or.inl ⟨by rfl, ?_⟩) (by assumption) ?_
        rotate_left 1
        · (intro w hSw; (try dsimp only at hSw); obtain ⟨⟨sa0, sa1, sa2, sa3, sa4, sa5, sa6, sa7, sa8, sa9⟩, ⟨sb0, sb1, sb2, sb3, sb4, sb5, sb6, sb7, sb8, sb9⟩⟩ := hSw; go_simp) <;> (with_reducible rfl)
        try simp only [Act.put, List.setIfInBounds_toArray, List.set_cons_zero, List.set_cons_succ]
        refine wpAnyH_take (i := 10) (oi := ⟨some 53, _, _, _, _, _⟩) (v := undef) rfl (by kernel_rfl) (by kernel_rfl) (by kernel_rfl) (fun _ _ _ h => h) (Or.inr ⟨by rfl, rfl⟩) (by assumption) ?_
        try simp only [Act.put, List.setIfInBounds_toArray, List.set_cons_zero, List.set_cons_succ]
        refine wpAnyH_take (i := 11) (oi := ⟨some 54, _, _, _, _, _⟩) (v := undef) rfl (by kernel_rfl) (by kernel_rfl) (by kernel_rfl) (fun _ _ _ h => h) (Or.inr ⟨by rfl, rfl⟩) (by assumption) ?_
        try simp only [Act.put, List.setIfInBounds_toArray, List.set_cons_zero, List.set_cons_succ]
        refine wpAnyH_take (i := 12) (oi := ⟨some 55, _, _, _, _, _⟩) (v := ?_) rfl (by kernel_rfl) (by kernel_rfl) (by kernel_rfl) (fun _ _ _ h => h) (Or.inl ⟨by rfl, ?_⟩) (by assumption) ?_
        rotate_left 1
        · (intro w hSw; (try dsimp only at hSw); obtain ⟨⟨sa0, sa1, sa2, sa3, sa4, sa5, sa6, sa7, sa8, sa9⟩, ⟨sb0, sb1, sb2, sb3, sb4, sb5, sb6, sb7, sb8, sb9⟩⟩ := hSw; go_simp) <;> (with_reducible rfl)
        try simp only [Act.put, List.setIfInBounds_toArray, List.set_cons_zero, List.set_cons_succ]
        refine wpAnyH_take (i := 13) (oi := ⟨some 56, _, _, _, _, _⟩) (v := ?_) rfl (by kernel_rfl) (by kernel_rfl) (by kernel_rfl) (fun _ _ _ h => h) (Or.inl ⟨by rfl, ?_⟩) (by assumption) ?_
        rotate_left 1
        · (intro w hSw; (try dsimp only at hSw); obtain ⟨⟨sa0, sa1, sa2, sa3, sa4, sa5, sa6, sa7, sa8, sa9⟩, ⟨sb0, sb1, sb2, sb3, sb4, sb5, sb6, sb7, sb8, sb9⟩⟩ := hSw; go_simp) <;> (with_reducible rfl)
        try simp only [Act.put, List.setIfInBounds_toArray, List.set_cons_zero, List.set_cons_succ]
        refine wpAnyH_take (i := 14) (oi := ⟨some 57, _, _, _, _, _⟩) (v := ?_) rfl (by kernel_rfl) (by kernel_rfl) (by kernel_rfl) (fun _ _ _ h => h) (Or.inl ⟨by rfl, ?_⟩) (by assumption) ?_
        rotate_left 1
        · (intro w hSw; (try dsimp only at hSw); obtain ⟨⟨sa0, sa1, sa2, sa3, sa4, sa5, sa6, sa7, sa8, sa9⟩, ⟨sb0, sb1, sb2, sb3, sb4, sb5, sb6, sb7, sb8, sb9⟩⟩ := hSw; go_simp) <;> (with_reducible rfl)
        try simp only [Act.put, List.setIfInBounds_toArray, List.set_cons_zero, List.set_cons_succ]
        refine wpAnyH_take (i := 15) (oi := ⟨some 58, _, _, _, _, _⟩) (v := ?_) rfl (by kernel_rfl) (by kernel_rfl) (by kernel_rfl) (fun _ _ _ h => h) (Or.inl ⟨by rfl, ?_⟩) (by assumption) ?_
        rotate_left 1
        · (intro w hSw; (try dsimp only at hSw); obtain ⟨⟨sa0, sa1, sa2, sa3, sa4, sa5, sa6, sa7, sa8, sa9⟩, ⟨sb0, sb1, sb2, sb3, sb4, sb5, sb6, sb7, sb8, sb9⟩⟩ := hSw; go_simp) <;> (with_reducible rfl)
        try simp only [Act.put, List.setIfInBounds_toArray, List.set_cons_zero, List.set_cons_succ]
        refine wpAnyH_take (i := 17) (oi := ⟨some 60, _, _, _, _, _⟩) (v := ?_) rfl (by kernel_rfl) (by kernel_rfl) (by kernel_rfl) (fun _ _ _ h => h) (Or.inl ⟨by rfl, ?_⟩) (by assumption) ?_
        rotate_left 1
        · (intro w hSw; (try dsimp only at hSw); obtain ⟨⟨sa0, sa1, sa2, sa3, sa4, sa5, sa6, sa7, sa8, sa9⟩, ⟨sb0, sb1, sb2, sb3, sb4, sb5, sb6, sb7, sb8, sb9⟩⟩ := hSw; go_simp) <;> (with_reducible rfl)
        try simp only [Act.put, List.setIfInBounds_toArray, List.set_cons_zero, List.set_cons_succ]
        refine wpAnyH_ready (rs := [16]) (by kernel_rfl) (by simp) ?_
        refine AllReadyH.cons (o := ⟨some 59, _, _, _, _, _⟩) rfl (fun K hK => ?_) AllReadyH.nil
        go_simp
        go_at_call 14
        refine (HSI.out _ HF7.out).mono ?_
        rintro e w8 ⟨rfl, hf8⟩
        have HF8 := Lib.hid (HF7.out.trans hf8)
        clear hf8
        clear hHeld
        refine hK.out _ _ ?_ (fun hHeld => ?_)
        · exact sOf.out _ HF8.out
        clear hK K
        try simp only [Act.put, List.setIfInBounds_toArray, List.set_cons_zero, List.set_cons_succ]
        refine wpAnyH_ready (rs := [18]) (by kernel_rfl) (by simp) ?_
        refine AllReadyH.cons (o := ⟨some 61, _, _, _, _, _⟩) rfl (fun K hK => ?_) AllReadyH.nil
        go_simp
        go_at_call 15
        refine (HDS.out _ (HWC.out.trans HF8.out)).mono ?_
        rintro e w9 ⟨rfl, hf9⟩
        have HF9 := Lib.hid (HF8.out.trans hf9)
        clear hf9
        clear hHeld
        refine hK.out _ _ ?_ (fun hHeld => ?_)
        · exact sOf.out _ HF9.out
        clear hK K
        try simp only [Act.put, List.setIfInBounds_toArray, List.set_cons_zero, List.set_cons_succ]
        refine wpAnyH_take (i := 19) (oi := ⟨some 62, _, _, _, _, _⟩) (v := ?_) rfl (by kernel_rfl) (by kernel_rfl) (by kernel_rfl) (fun _ _ _ h => h) (Or.inl ⟨by rfl, ?_⟩) (by assumption) ?_
        rotate_left 1
        · (intro w hSw; (try dsimp only at hSw); obtain ⟨⟨sa0, sa1, sa2, sa3, sa4, sa5, sa6, sa7, sa8, sa9⟩, ⟨sb0, sb1, sb2, sb3, sb4, sb5, sb6, sb7, sb8, sb9⟩⟩ := hSw; go_simp) <;> (with_reducible rfl)
        try simp only [Act.put, List.setIfInBounds_toArray, List.set_cons_zero, List.set_cons_succ]
        refine wpAnyH_take (i := 20) (oi := ⟨some 63, _, _, _, _, _⟩) (v := ?_) rfl (by kernel_rfl) (by kernel_rfl) (by kernel_rfl) (fun _ _ _ h => h) (Or.inl ⟨by rfl, ?_⟩) (by assumption) ?_
        rotate_left 1
        · (intro w hSw; (try dsimp only at hSw); obtain ⟨⟨sa0, sa1, sa2, sa3, sa4, sa5, sa6, sa7, sa8, sa9⟩, ⟨sb0, sb1, sb2, sb3, sb4, sb5, sb6, sb7, sb8, sb9⟩⟩ := hSw; go_simp) <;> (with_reducible rfl)
        try simp only [Act.put, List.setIfInBounds_toArray, List.set_cons_zero, List.set_cons_succ]
        refine wpAnyH_take (i := 21) (oi := ⟨some 64, _, _, _, _, _⟩) (v := ?_) rfl (by kernel_rfl) (by kernel_rfl) (by kernel_rfl) (fun _ _ _ h => h) (Or.inl ⟨by rfl, ?_⟩) (by assumption) ?_
        rotate_left 1
        · (intro w hSw; (try dsimp only at hSw); obtain ⟨⟨sa0, sa1, sa2, sa3, sa4, sa5, sa6, sa7, sa8, sa9⟩, ⟨sb0, sb1, sb2, sb3, sb4, sb5, sb6, sb7, sb8, sb9⟩⟩ := hSw; go_simp) <;> (with_reducible rfl)
        try simp only [Act.put, List.setIfInBounds_toArray, List.set_cons_zero, List.set_cons_succ]
        refine wpAnyH_take (i := 22) (oi := ⟨some 65, _, _, _, _, _⟩) (v := ?_) rfl (by kernel_rfl) (by kernel_rfl) (by kernel_rfl) (fun _ _ _ h => h) (Or.inl ⟨by rfl, ?_⟩) (by assumption) ?_
        rotate_left 1
        · (intro w hSw; (try dsimp only at hSw); obtain ⟨⟨sa0, sa1, sa2, sa3, sa4, sa5, sa6, sa7, sa8, sa9⟩, ⟨sb0, sb1, sb2, sb3, sb4, sb5, sb6, sb7, sb8, sb9⟩⟩ := hSw; go_simp) <;> (with_reducible rfl)
        try simp only [Act.put, List.setIfInBounds_toArray, List.set_cons_zero, List.set_cons_succ]
        refine wpAnyH_take (i := 23) (oi := ⟨some 66, _, _, _, _, _⟩) (v := ?_) rfl (by kernel_rfl) (by kernel_rfl) (by kernel_rfl) (fun _ _ _ h => h) (Or.inl ⟨by rfl, ?_⟩) (by assumption) ?_
        rotate_left 1
        · (intro w hSw; (try dsimp only at hSw); obtain ⟨⟨sa0, sa1, sa2, sa3, sa4, sa5, sa6, sa7, sa8, sa9⟩, ⟨sb0, sb1, sb2, sb3, sb4, sb5, sb6, sb7, sb8, sb9⟩⟩ := hSw; go_simp) <;> (with_reducible rfl)
        try simp only [Act.put, List.setIfInBounds_toArray, List.set_cons_zero, List.set_cons_succ]
        refine wpAnyH_ready (rs := [24]) (by kernel_rfl) (by simp) ?_
        refine AllReadyH.cons (o := ⟨some 67, _, _, _, _, _⟩) rfl (fun K hK => ?_) AllReadyH.nil
        go_simp
        go_at_call 16
        refine (HSA.out _ HF9.out).mono ?_
        rintro e w10 ⟨rfl, hf10⟩
        have HF10 := Lib.hid (HF9.out.trans hf10)
        clear hf10
        clear hHeld
        refine hK.out _ _ ?_ (fun hHeld => ?_)
        · exact sOf.out _ HF10.out
        clear hK K
        try simp only [Act.put, List.setIfInBounds_toArray, List.set_cons_zero, List.set_cons_succ]
        refine wpAnyH_take (i := 25) (oi := ⟨some 68, _, _, _, _, _⟩) (v := ?_) rfl (by kernel_rfl) (by kernel_rfl) (by kernel_rfl) (fun _ _ _ h => h) (Or.inl ⟨by rfl, ?_⟩) (by assumption) ?_
        rotate_left 1
        · (intro w hSw; (try dsimp only at hSw); obtain ⟨⟨sa0, sa1, sa2, sa3, sa4, sa5, sa6, sa7, sa8, sa9⟩, ⟨sb0, sb1, sb2, sb3, sb4, sb5, sb6, sb7, sb8, sb9⟩⟩ := hSw; go_simp) <;> (with_reducible rfl)
        try simp only [Act.put, List.setIfInBounds_toArray, List.set_cons_zero, List.set_cons_succ]
        refine wpAnyH_take (i := 26) (oi := ⟨some 4, _, _, _, _, _⟩) (v := ?_) rfl (by kernel_rfl) (by kernel_rfl) (by kernel_rfl) (fun _ _ _ h => h) (Or.inl ⟨by rfl, ?_⟩) (by assumption) ?_
        rotate_left 1
        · (intro w hSw; (try dsimp only at hSw); obtain ⟨⟨sa0, sa1, sa2, sa3, sa4, sa5, sa6, sa7, sa8, sa9⟩, ⟨sb0, sb1, sb2, sb3, sb4, sb5, sb6, sb7, sb8, sb9⟩⟩ := hSw; go_simp) <;> (with_reducible rfl)
        try simp only [Act.put, List.setIfInBounds_toArray, List.set_cons_zero, List.set_cons_succ]
        refine wpAnyH_done (by kernel_rfl) ?_ _
        go_wp2_with fail
        go_ret
        exact ⟨rfl, HFC.out.trans HF10.out⟩


theorem paramsOk : ∀ t ∈ Try.f3.params.toList, Try.prog.readableRec t = true ∧ t < Try.prog.types.size := fun t ht => by
  have h := List.all_eq_true.1 (show (Try.f3.params.toList.all fun t => Try.prog.readableRec t && decide (t < Try.prog.types.size)) = true by kernel_rfl) t ht
  simpa using h

set_option maxRecDepth 100000 in
theorem lifted (os : Os) (started : os.Started) (H : Type) (enc : TypeId × Value → H) :
    ReturnsInHanded {} Try.checked os 3 .any (Rows.orderChecksSpec.pre6 enc Try.prog Try.f3 Rows.orderChecksRow.domain false) (Rows.orderChecksSpec.post enc Try.prog Try.f3 false true false false) := by
  refine returnsInHanded_of_change (C := Try.checked) own started (by kernel_rfl) Try.func3
    (ChangeSpec.witness6 (enc := enc) (C := Try.checked) false ⟨#[], #[.agg #[.int .i64 0, .int .u64 0, .int .u64 0, .int .i64 0, .int .i64 0, .slice none 0 0, .slice none 0 0, .slice none 0 0, .int .i64 0, .slice none 0 0], .int .i64 0], []⟩ 8 (by kernel_rfl) (by kernel_rfl) (by kernel_rfl) (by kernel_rfl)) ?_
  intro W base args ds gs before hval0 hW _ _
  have hval : ∀ (j : Nat) t v, Try.f3.params[j]? = some t → args[j]? = some v → Value.okWide Try.prog W .any base t v := hval0
  have hW' := hW
  obtain ⟨p, q, hA0, hV, rfl, _, _⟩ := hW
  have hA : DataW.TrodAll enc Try.prog W 0 (fun _ => true) true Try.f3.params.toList args.toList ds p := hA0
  rw [Try.params3] at hA hval
  obtain ⟨v0, vs0, d0, ds0, p0, q0, hargs, rfl, rfl, h0, r0⟩ := trodAll_cons hA
  obtain ⟨v1, vs1, d1, ds1, p1, q1, rfl, rfl, rfl, h1, r1⟩ := trodAll_cons r0
  obtain ⟨rfl, rfl, rfl⟩ := trodAll_nil r1
  obtain rfl : args = #[v0, v1] := by cases args; simp_all
  obtain ⟨rfl, rfl⟩ := trodVars_none hV
  obtain ⟨o, rfl, ho⟩ := open_order (hval 0 _ v0 rfl rfl) h0
  obtain ⟨r, rfl, rfl, rfl, wr⟩ := open_int Try.underlying3 (hval 1 _ v1 rfl rfl) h1
  have walk := walk W o r ho
  clear hA0 hval0
  refine walk.mono fun e W' ⟨he, hf⟩ => ?_
  subst he
  exact ⟨_, rfl, law_post laidOut paramsOk rfl rfl Try.underlying4 hW' rfl rfl rfl hf⟩

theorem said : Rows.OrderChecksSaid :=
  OpenClaim.holds_of_wide 3 Try.f3 rfl rfl rfl rfl rfl rfl rfl ⟨rfl, rfl, rfl, rfl, rfl⟩ rfl rfl rfl rfl rfl (by kernel_rfl) Try.func3 (by kernel_rfl)
    (of_decide_eq_true (by kernel_rfl)) (by unfold Func.isWrapper; first | (rw [if_pos (by decide +kernel)]; kernel_rfl) | (rw [if_neg (by decide +kernel)]; exact ⟨rfl, rfl⟩))
    (fun os started H enc _ => lifted os started H enc)
end Go.Proofs.Ytakbjjohfcgaoaa.orderChecks
