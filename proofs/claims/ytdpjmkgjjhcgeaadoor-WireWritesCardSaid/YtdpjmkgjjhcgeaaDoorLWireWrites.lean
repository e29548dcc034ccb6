/- WireWrites is true: any message is put into bytes, or refused, exactly; what was written is read as itself. No condition but what the card ties. -/
import Derived.Test.YtdpjmkgjjhcgeaaDoorOpenM
import Derived.Test.YtdpjmkgjjhcgeaaDoorGr18
import Derived.Test.YtdpjmkgjjhcgeaaDoorDWr
import Derived.Test.YtdpjmkgjjhcgeaaDoorRead18
namespace Go.Proofs.YtdpjmkgjjhcgeaaDoor.wireWrites
open Go.ChangeShapes Go.WideShapes Go.ChangeAt Go.RowKit

theorem _root_.Go.Proofs.YtdpjmkgjjhcgeaaDoor.OfPost.inn {w w' : World} {m q : Mg} (h : OfPost w m w' q) {w0 : World} (hm : MgIn w0 m) : MgIn w' q :=
  ⟨Rd.of_ownN h.own, own_lens h.own, ⟨by rw [h.like.value]; exact hm.vals.1, by rw [h.like.votes]; exact hm.vals.2⟩, ⟨by rw [h.like.ballot]; exact hm.nums.1, by rw [h.like.votes]; exact hm.nums.2⟩,
    by rw [h.like.kind]; exact hm.ints.1, by rw [h.like.frm]; exact hm.ints.2.1, by rw [h.like.dst]; exact hm.ints.2.2.1, by rw [h.like.grp]; exact hm.ints.2.2.2.1, by rw [h.like.slot]; exact hm.ints.2.2.2.2.1, by rw [h.like.votes]; exact hm.ints.2.2.2.2.2⟩
theorem _root_.Go.Proofs.YtdpjmkgjjhcgeaaDoor.MLike.trans {a b c : Mg} (h : MLike a b) (k : MLike b c) : MLike a c := ⟨h.kind.trans k.kind, h.frm.trans k.frm, h.dst.trans k.dst, h.grp.trans k.grp, h.slot.trans k.slot, h.ballot.trans k.ballot, h.value.trans k.value, h.votes.trans k.votes⟩

set_option maxRecDepth 100000 in
set_option maxHeartbeats 16000000 in
theorem walk (w : World) (ht : Tab w) (m : Mg) (hm : MgIn w m) : Calls Tryd.prog 4 #[mgv m] w fun e w' => e = .returned (.bool true) ∧ Fr NoBlk w w' := by
  obtain ⟨w0, hw0⟩ : ∃ w0, w0 = w.alloc (.cells (mga m) 26) := ⟨_, rfl⟩
  have HF0 : Hid (Fr NoBlk w w0) := by
    show Fr _ _ _
    rw [hw0]
    exact (Fr.refl _ _).alloc _
  have HB0 : Hid (Bk w0 w.heap.size 26 (mga m)) := by
    show Bk _ _ _ _
    rw [hw0]
    exact Bk.new w _ _
  have HM := Lib.hid hm
  have HT := Lib.hid ht
  clear hm ht
  unfold mga at hw0
  unfold mgv mga
  go_enter Tryd.func4, Tryd.ntmps4
  go_wp2_with fail
  rw [← hw0]
  clear hw0
  refine (speaks_any _ (HT.out.fr HF0.out fun h => h)).mono ?_
  rintro e w1 ⟨rfl, hf1⟩
  have HF1 := Lib.hid (HF0.out.trans hf1)
  have HB1 := Lib.hid (HB0.out.fr hf1 (fun h => h))
  clear hf1 HB0 HF0
  obtain ⟨p0, p1, p2, p3, p4, p5, p6, p7⟩ := HB1.out.msg
  have HG1 := Lib.hid (great_any w1 m (HM.out.nofr HF1.out))
  unfold mgv mga at HG1
  go_wp2_with fail
  refine HG1.out.mono ?_
  rintro e w2 ⟨⟨bb, rfl, hsa⟩, hf2⟩
  have HF2 := Lib.hid (HF1.out.trans hf2)
  have HB2 := Lib.hid (HB1.out.fr hf2 (fun h => h))
  have HSM := Lib.hid hsa
  clear p0 p1 p2 p3 p4 p5 p6 p7 hf2 HB1 HF1 hsa HG1
  cases bb
  rotate_left
  · go_wp2_with fail
    go_ret
    exact ⟨rfl, HF2.out⟩
  have HS := Lib.hid (HSM.out rfl)
  clear HSM
  obtain ⟨p0, p1, p2, p3, p4, p5, p6, p7⟩ := HB2.out.msg
  by_cases hra : rightM m = true
  rotate_left
  · have HW := Lib.hid (write_bad w2 (HT.out.fr HF2.out fun h => h) m (HM.out.nofr HF2.out) hra)
    unfold mgv mga at HW
    have HRA := Lib.hid hra
    clear hra
    go_wp2_with fail
    refine HW.out.mono ?_
    rintro e w3 ⟨rfl, hf3⟩
    have HF3 := Lib.hid (HF2.out.trans hf3)
    have HB3 := Lib.hid (HB2.out.fr hf3 (fun h => h))
    clear hf3 HW p0 p1 p2 p3 p4 p5 p6 p7 HF2 HB2
    obtain ⟨p0, p1, p2, p3, p4, p5, p6, p7⟩ := HB3.out.msg
    have HO := Lib.hid (of_any w3 m (HM.out.nofr HF3.out) (by have := HS.out.few; omega))
    unfold mgv mga at HO
    go_wp2_with fail
    refine HO.out.mono ?_
    rintro e w4 ⟨q, rfl, hq⟩
    have hqr : rightM q = false := by rw [hq.like.right]; exact Bool.eq_false_iff.2 HRA.out
    have hd := dwrite_any w4 q (hq.inn HM.out)
    unfold DWPost at hd
    rw [hqr] at hd
    have HD := Lib.hid hd
    unfold mgv mga at HD
    have HF4 := Lib.hid (HF3.out.trans hq.fr)
    have HB4 := Lib.hid (HB3.out.fr hq.fr (fun h => h))
    clear hq hqr hd HO p0 p1 p2 p3 p4 p5 p6 p7 HF3 HB3
    go_wp2_with fail
    refine HD.out.mono ?_
    rintro e w5 ⟨v5, rfl, hn5⟩
    have hn5' : New w4 w5 v5 [] := hn5
    obtain ⟨A5, c5, rfl, _, _⟩ := own_form hn5'.own
    have HF5 := Lib.hid (HF4.out.trans hn5'.fr)
    have HB5 := Lib.hid (HB4.out.fr hn5'.fr (fun h => h))
    have s1 := fun W => strBs W none 0 0 [] rfl (Rd.none_ _ _)
    have s2 := fun W => strBs W A5 0 c5 [] rfl (Rd.none_ _ _)
    have e1 : codeR false = 1 := rfl
    obtain ⟨p0, p1, p2, p3, p4, p5, p6, p7⟩ := HB5.out.msg
    have HC := Lib.hid (check_any w5 m (HM.out.nofr HF5.out))
    rw [Bool.eq_false_iff.2 HRA.out, e1] at HC
    unfold mgv mga at HC
    rw [e1]
    dsimp only [List.length_nil]
    clear hn5 hn5' HD e1 HF4 HB4
    go_wp2_with fail
    refine HC.out.mono ?_
    rintro e w6 ⟨rfl, hf6⟩
    have HF6 := Lib.hid (HF5.out.trans hf6)
    clear hf6 HC p0 p1 p2 p3 p4 p5 p6 p7 s1 s2
    go_wp2_with fail
    go_ret
    exact ⟨rfl, HF6.out⟩
  have HW := Lib.hid (write_ok w2 (HT.out.fr HF2.out fun h => h) m (HM.out.nofr HF2.out) hra)
  unfold mgv mga at HW
  have HRA := Lib.hid hra
  have HWM := Lib.hid (rightM_wmg hra)
  have HLEN := Lib.hid (msgB_len HWM.out HM.out.nums)
  obtain ⟨x, hx⟩ : ∃ x, x = msgB m := ⟨_, rfl⟩
  rw [← hx] at HW HLEN
  have HX := Lib.hid hx
  clear hra hx
  go_wp2_with fail
  refine HW.out.mono ?_
  rintro e w3 ⟨v3, rfl, hn3⟩
  obtain ⟨A3, c3, rfl, _, hA3⟩ := own_form hn3.own
  have HA3 := Lib.hid hA3
  have HF3 := Lib.hid (HF2.out.trans hn3.fr)
  have HB3 := Lib.hid (HB2.out.fr hn3.fr (fun h => h))
  have HR3 := Lib.hid (Rd.of_own hn3.own)
  clear hn3 hA3 HW p0 p1 p2 p3 p4 p5 p6 p7 HF2 HB2
  obtain ⟨p0, p1, p2, p3, p4, p5, p6, p7⟩ := HB3.out.msg
  have HO := Lib.hid (of_any w3 m (HM.out.nofr HF3.out) (by have := HS.out.few; omega))
  unfold mgv mga at HO
  go_wp2_with fail
  refine HO.out.mono ?_
  rintro e w4 ⟨q, rfl, hq⟩
  have hqr : rightM q = true := by rw [hq.like.right]; exact HRA.out
  have hd := dwrite_any w4 q (hq.inn HM.out)
  unfold DWPost at hd
  rw [hqr, hq.like.msg, ← HX.out] at hd
  have HD := Lib.hid hd
  unfold mgv mga at HD
  have HF4 := Lib.hid (HF3.out.trans hq.fr)
  have HB4 := Lib.hid (HB3.out.fr hq.fr (fun h => h))
  have HR4 := Lib.hid (HR3.out.nofr hq.fr)
  clear hq hqr hd HO p0 p1 p2 p3 p4 p5 p6 p7 HF3 HB3 HR3
  go_wp2_with fail
  refine HD.out.mono ?_
  rintro e w5 ⟨v5, rfl, hn5⟩
  have hn5' : New w4 w5 v5 x := hn5
  obtain ⟨A5, c5, rfl, _, _⟩ := own_form hn5'.own
  have HF5 := Lib.hid (HF4.out.trans hn5'.fr)
  have HB5 := Lib.hid (HB4.out.fr hn5'.fr (fun h => h))
  have HR5 := Lib.hid (HR4.out.nofr hn5'.fr)
  have s1 := strBs w5 A3 _ c3 x rfl HR5.out
  have s2 := strBs w5 A5 _ c5 x rfl (Rd.of_own hn5'.own)
  have e1 : codeR true = 0 := rfl
  obtain ⟨p0, p1, p2, p3, p4, p5, p6, p7⟩ := HB5.out.msg
  have HC := Lib.hid (check_any w5 m (HM.out.nofr HF5.out))
  rw [HRA.out, e1] at HC
  unfold mgv mga at HC
  rw [e1]
  clear hn5 hn5' HD e1 HF4 HB4 HR4
  go_wp2_with fail
  refine HC.out.mono ?_
  rintro e w6 ⟨rfl, hf6⟩
  have HF6 := Lib.hid (HF5.out.trans hf6)
  have HB6 := Lib.hid (HB5.out.fr hf6 (fun h => h))
  have HR6 := Lib.hid (HR5.out.nofr hf6)
  clear hf6 HC p0 p1 p2 p3 p4 p5 p6 p7 s1 s2 HF5 HB5 HR5
  have HK := Lib.hid (read_any w6 (HT.out.fr HF6.out fun h => h) A3 x.length c3 x rfl HR6.out HA3.out (by have := HLEN.out; omega))
  go_wp2_with fail
  refine HK.out.mono ?_
  rintro e w7 ⟨q1, hq1, hof, hf7, rfl⟩
  have hrm := read_more (more := []) HWM.out HRA.out HM.out.nums (q := q1) (by rw [← HX.out, List.append_nil]; exact hof)
  rw [← HX.out, List.append_nil] at hrm
  rw [hrm.2, decide_eq_true rfl, if_pos rfl]
  have HLK := Lib.hid hrm.1
  have HF7 := Lib.hid (HF6.out.trans hf7)
  have HB7 := Lib.hid (HB6.out.fr hf7 (fun h => h))
  obtain ⟨w8, hw8⟩ : ∃ w8, w8 = w7.alloc (.cells (mga q1) 26) := ⟨_, rfl⟩
  have hf8 : Fr NoBlk w7 w8 := by rw [hw8]; exact (Fr.refl _ _).alloc _
  obtain ⟨g7, hg7⟩ : ∃ g7, g7 = w7.heap.size := ⟨_, rfl⟩
  have HF8 := Lib.hid (HF7.out.trans hf8)
  have HB8 := Lib.hid (HB7.out.fr hf8 (fun h => h))
  have HIX := Lib.hid (hq1.nofr hf8)
  have HBX : Hid (Bk w8 g7 26 (mga q1)) := by
    show Bk _ _ _ _
    rw [hw8]
    exact Bk.new' _ _ _ hg7
  have HSK : Hid (∀ W, Fr NoBlk w8 W → W.cell? ⟨g7, 0, none⟩ = some (.int .i64 q1.kind) ∧ W.cell? ⟨g7, 1, none⟩ = some (.int .i64 q1.frm) ∧ W.cell? ⟨g7, 2, none⟩ = some (.int .i64 q1.dst) ∧ W.cell? ⟨g7, 3, none⟩ = some (.int .i64 q1.grp) ∧ W.cell? ⟨g7, 4, none⟩ = some (.int .i64 q1.slot) ∧ W.cell? ⟨g7, 5, none⟩ = some (.int .u64 (q1.ballot : Int)) ∧ W.cell? ⟨g7, 6, none⟩ = some (.string (bstr q1.value)) ∧ W.cell? ⟨g7, 7, none⟩ = some (.slice q1.va q1.votes.length q1.vc) ∧ W.cell? ⟨w.heap.size, 0, none⟩ = some (.int .i64 m.kind) ∧ W.cell? ⟨w.heap.size, 1, none⟩ = some (.int .i64 m.frm) ∧ W.cell? ⟨w.heap.size, 2, none⟩ = some (.int .i64 m.dst) ∧ W.cell? ⟨w.heap.size, 3, none⟩ = some (.int .i64 m.grp) ∧ W.cell? ⟨w.heap.size, 4, none⟩ = some (.int .i64 m.slot) ∧ W.cell? ⟨w.heap.size, 5, none⟩ = some (.int .u64 (m.ballot : Int)) ∧ W.cell? ⟨w.heap.size, 6, none⟩ = some (.string (bstr m.value)) ∧ W.cell? ⟨w.heap.size, 7, none⟩ = some (.slice m.va m.votes.length m.vc)) := fun W hf => by
    obtain ⟨c0, c1, c2, c3, c4, c5, c6, c7⟩ := (HBX.out.fr hf (fun h => h)).msg
    obtain ⟨d0, d1, d2, d3, d4, d5, d6, d7⟩ := (HB8.out.fr hf (fun h => h)).msg
    exact ⟨c0, c1, c2, c3, c4, c5, c6, c7, d0, d1, d2, d3, d4, d5, d6, d7⟩
  have HOA := Lib.hid fun W (hf : Fr NoBlk w8 W) => of_any W q1 (HIX.out.nofr hf) (by rw [HLK.out.votes]; have := HS.out.few; omega)
  have HOB := Lib.hid fun W (hf : Fr NoBlk w8 W) => of_any W m (HM.out.nofr (HF8.out.trans hf)) (by have := HS.out.few; omega)
  unfold mgv mga at HOA HOB
  unfold mga at hw8
  unfold mgv mga
  clear hrm hq1 hof hf7 hf8 HK HF6 HB6 HR6 HF7 HB7 HB8 HBX
  go_upto_region 12 with fail
  rw [← hw8, ← hg7]
  clear hw8 hg7
  refine wp_region_held_drew (S := fun w' => Fr NoBlk w8 w') (by kernel_rfl) ((Fr.refl NoBlk w8).drew) (fun hHeld => ?_)
  refine wpAnyH_take (i := 0) (oi := ⟨some 47, _, _, _, _, _⟩) (v := ?_) rfl (by kernel_rfl) (by kernel_rfl) (by kernel_rfl) (fun _ _ _ h => h) (Or.inl ⟨by rfl, ?_⟩) (by assumption) ?_
  rotate_left 1
  · (intro w hSw; (try dsimp only at hSw); obtain ⟨sa0, sa1, sa2, sa3, sa4, sa5, sa6, sa7, sb0, sb1, sb2, sb3, sb4, sb5, sb6, sb7⟩ := HSK.out _ hSw; go_simp) <;> (with_reducible rfl)
  try simp only [Act.put, List.setIfInBounds_toArray, List.set_cons_zero, List.set_cons_succ]
  refine wpAnyH_take (i := 1) (oi := ⟨some 48, _, _, _, _, _⟩) (v := ?_) rfl (by kernel_rfl) (by kernel_rfl) (by kernel_rfl) (fun _ _ _ h => h) (Or.inl ⟨by rfl, ?_⟩) (by assumption) ?_
  rotate_left 1
  · (intro w hSw; (try dsimp only at hSw); obtain ⟨sa0, sa1, sa2, sa3, sa4, sa5, sa6, sa7, sb0, sb1, sb2, sb3, sb4, sb5, sb6, sb7⟩ := HSK.out _ hSw; go_simp) <;> (with_reducible rfl)
  try simp only [Act.put, List.setIfInBounds_toArray, List.set_cons_zero, List.set_cons_succ]
  refine wpAnyH_take (i := 2) (oi := ⟨some 49, _, _, _, _, _⟩) (v := ?_) rfl (by kernel_rfl) (by kernel_rfl) (by kernel_rfl) (fun _ _ _ h => h) (Or.inl ⟨by rfl, ?_⟩) (by assumption) ?_
  rotate_left 1
  · (intro w hSw; (try dsimp only at hSw); obtain ⟨sa0, sa1, sa2, sa3, sa4, sa5, sa6, sa7, sb0, sb1, sb2, sb3, sb4, sb5, sb6, sb7⟩ := HSK.out _ hSw; go_simp) <;> (with_reducible rfl)
  try simp only [Act.put, List.setIfInBounds_toArray, List.set_cons_zero, List.set_cons_succ]
  refine wpAnyH_take (i := 3) (oi := ⟨some 50, _, _, _, _, _⟩) (v := ?_) rfl (by kernel_rfl) (by kernel_rfl) (by kernel_rfl) (fun _ _ _ h => h) (Or.inl ⟨by rfl, ?_⟩) (by assumption) ?_
  rotate_left 1
  · (intro w hSw; (try dsimp only at hSw); obtain ⟨sa0, sa1, sa2, sa3, sa4, sa5, sa6, sa7, sb0, sb1, sb2, sb3, sb4, sb5, sb6, sb7⟩ := HSK.out _ hSw; go_simp) <;> (with_reducible rfl)
  try simp only [Act.put, List.setIfInBounds_toArray, List.set_cons_zero, List.set_cons_succ]
  refine wpAnyH_take (i := 5) (oi := ⟨some 52, _, _, _, _, _⟩) (v := ?_) rfl (by kernel_rfl) (by kernel_rfl) (by kernel_rfl) (fun _ _ _ h => h) (Or.inl ⟨by rfl, ?_⟩) (by assumption) ?_
  rotate_left 1
  · (intro w hSw; (try dsimp only at hSw); obtain ⟨sa0, sa1, sa2, sa3, sa4, sa5, sa6, sa7, sb0, sb1, sb2, sb3, sb4, sb5, sb6, sb7⟩ := HSK.out _ hSw; go_simp) <;> (with_reducible rfl)
  try simp only [Act.put, List.setIfInBounds_toArray, List.set_cons_zero, List.set_cons_succ]
  refine wpAnyH_ready (rs := [4]) (by kernel_rfl) (by simp) ?_
  refine AllReadyH.cons (o := ⟨some 51, _, _, _, _, _⟩) rfl (fun K hK => ?_) AllReadyH.nil
  go_simp
  go_at_call 12
  refine (HOA.out _ ((Fr.refl NoBlk w8).drew)).mono ?_
  rintro e wa ⟨qa, rfl, hqa⟩
  have HQA := Lib.hid hqa
  have HFA : Hid (Fr NoBlk w8 wa) := ((Fr.refl NoBlk w8).drew).trans hqa.fr
  clear hqa
  clear hHeld
  refine hK.out _ _ ?_ (fun hHeld => ?_)
  · exact HFA.out
  clear hK K
  try simp only [Act.put, List.setIfInBounds_toArray, List.set_cons_zero, List.set_cons_succ]
  refine wpAnyH_ready (rs := [6]) (by kernel_rfl) (by simp) ?_
  refine AllReadyH.cons (o := ⟨some 53, _, _, _, _, _⟩) rfl (fun K hK => ?_) AllReadyH.nil
  go_simp
  go_at_call 12
  refine (HOB.out _ HFA.out).mono ?_
  rintro e wb ⟨qb, rfl, hqb⟩
  have HQB := Lib.hid hqb
  have HFB : Hid (Fr NoBlk w8 wb) := HFA.out.trans hqb.fr
  have HSM := Lib.hid (same_any wb qa qb ((HQA.out.inn HIX.out).nofr hqb.fr) (hqb.inn HM.out))
  unfold mgv mga at HSM
  clear hqb
  clear hHeld
  refine hK.out _ _ ?_ (fun hHeld => ?_)
  · exact HFB.out
  clear hK K
  try simp only [Act.put, List.setIfInBounds_toArray, List.set_cons_zero, List.set_cons_succ]
  refine wpAnyH_ready (rs := [7]) (by kernel_rfl) (by simp) ?_
  refine AllReadyH.cons (o := ⟨some 54, _, _, _, _, _⟩) rfl (fun K hK => ?_) AllReadyH.nil
  go_simp
  go_at_call 15
  refine (HSM.out).mono ?_
  rintro e wc ⟨⟨dd, rfl, hdd⟩, hfc⟩
  have HFC : Hid (Fr NoBlk w8 wc) := HFB.out.trans hfc
  have hcd : dd = true := hdd.2 (HQA.out.like.trans (HLK.out.trans HQB.out.like.symm))
  subst hcd
  clear hdd hfc HSM
  clear hHeld
  refine hK.out _ _ ?_ (fun hHeld => ?_)
  · exact HFC.out
  clear hK K
  try simp only [Act.put, List.setIfInBounds_toArray, List.set_cons_zero, List.set_cons_succ]
  refine wpAnyH_take (i := 8) (oi := ⟨some 55, _, _, _, _, _⟩) (v := ?_) rfl (by kernel_rfl) (by kernel_rfl) (by kernel_rfl) (fun _ _ _ h => h) (Or.inl ⟨by rfl, ?_⟩) (by assumption) ?_
  rotate_left 1
  · (intro w hSw; (try dsimp only at hSw); obtain ⟨sa0, sa1, sa2, sa3, sa4, sa5, sa6, sa7, sb0, sb1, sb2, sb3, sb4, sb5, sb6, sb7⟩ := HSK.out _ hSw; go_simp) <;> (with_reducible rfl)
  try simp only [Act.put, List.setIfInBounds_toArray, List.set_cons_zero, List.set_cons_succ]
  refine wpAnyH_take (i := 9) (oi := ⟨some 2, _, _, _, _, _⟩) (v := ?_) rfl (by kernel_rfl) (by kernel_rfl) (by kernel_rfl) (fun _ _ _ h => h) (Or.inl ⟨by rfl, ?_⟩) (by assumption) ?_
  rotate_left 1
  · (intro w hSw; (try dsimp only at hSw); obtain ⟨sa0, sa1, sa2, sa3, sa4, sa5, sa6, sa7, sb0, sb1, sb2, sb3, sb4, sb5, sb6, sb7⟩ := HSK.out _ hSw; go_simp) <;> (with_reducible rfl)
  try simp only [Act.put, List.setIfInBounds_toArray, List.set_cons_zero, List.set_cons_succ]
  refine wpAnyH_done (by kernel_rfl) ?_ _
  clear hHeld
  go_wp2_with fail
  go_ret
  exact ⟨rfl, HF8.out.trans HFC.out⟩

theorem paramsOk : ∀ t ∈ Tryd.f4.params.toList, Tryd.prog.readableRec t = true ∧ t < Tryd.prog.types.size := fun t ht => by
  have h := List.all_eq_true.1 (show (Tryd.f4.params.toList.all fun t => Tryd.prog.readableRec t && decide (t < Tryd.prog.types.size)) = true by kernel_rfl) t ht
  simpa using h
theorem paramsPlain : ∀ (j : Nat) t, Tryd.f4.params[j]? = some t → Tryd.prog.wantsStandIn t = false := fun j t ht => by
  have h := List.all_eq_true.1 (show (Tryd.f4.params.toList.all fun t => !Tryd.prog.wantsStandIn t) = true by kernel_rfl) t (by simpa using Array.mem_of_getElem? ht)
  simpa using h

set_option maxRecDepth 100000 in
theorem contract (H : Type) (enc : TypeId × Value → H) (W : World) (args : Array Value) (ds gs : List (DataW H)) (before : List MemPlace)
    (base : Nat) (hval : ∀ (j : Nat) t v, Tryd.f4.params[j]? = some t → args[j]? = some v → Value.okWide Tryd.prog W .any base t v)
    (hW : DataW.Whole enc Tryd.prog Tryd.f4.params.toList Rows.wireWritesSpec.vars false W args.toList ds gs before) (hL : laidMetH Tryd.prog Rows.wireWritesRow.laid W) :
    Calls Tryd.prog 4 args W fun e W' => ∃ v, e = .returned v ∧ Rows.wireWritesSpec.post enc Tryd.prog Tryd.f4 false true false false W args v W' := by
  have hW' := hW
  obtain ⟨p, q, hA, hV, rfl, _, _⟩ := hW
  rw [Tryd.params4] at hA hval
  obtain ⟨v0, vs0, d0, ds0, p0, q0, hargs, rfl, rfl, h0, r0⟩ := trodAll_cons hA
  obtain ⟨rfl, rfl, rfl⟩ := trodAll_nil r0
  obtain rfl : args = #[v0] := by cases args; simp_all
  obtain ⟨rfl, rfl⟩ := trodVars_none hV
  obtain ⟨m, rfl, hm⟩ := open_msg (hval 0 _ v0 rfl rfl) h0
  have walk := walk W (table hL) m hm
  refine walk.mono fun e W' ⟨he, hf⟩ => ?_
  subst he
  exact ⟨_, rfl, law_post laidOut paramsOk rfl rfl Tryd.underlying4 hW' rfl rfl rfl hf⟩

theorem laid_met (os : Os) : laidMet Tryd.prog Rows.wireWritesRow.laid ((laidWorld os).forCall (fun _ _ => 0) ⟨#[], #[.agg #[.int .i64 0, .int .i64 0, .int .i64 0, .int .i64 0, .int .i64 0, .int .u64 0, .string ByteArray.empty, .slice none 0 0]], []⟩).memory :=
  laidMet_of_run' 20 (by kernel_rfl) (by kernel_rfl)
theorem reads (os : Os) {H : Type} (enc : TypeId × Value → H) : ∃ places, DataW.whole enc Tryd.prog ((laidWorld os).forCall (fun _ _ => 0) ⟨#[], #[.agg #[.int .i64 0, .int .i64 0, .int .i64 0, .int .i64 0, .int .i64 0, .int .u64 0, .string ByteArray.empty, .slice none 0 0]], []⟩).memory Tryd.f4.params.toList Rows.wireWritesSpec.vars false (#[.agg #[.int .i64 0, .int .i64 0, .int .i64 0, .int .i64 0, .int .i64 0, .int .u64 0, .string ByteArray.empty, .slice none 0 0]] : Array Value).toList 8 = some ([.agg [.lit (.int .i64 0), .lit (.int .i64 0), .lit (.int .i64 0), .lit (.int .i64 0), .lit (.int .i64 0), .lit (.int .u64 0), .lit (.string []), .nil]], [], places) :=
  ⟨[], by kernel_rfl⟩

set_option maxRecDepth 100000 in
theorem lifted (os : Os) (started : os.Started) (H : Type) (enc : TypeId × Value → H) (F : Stop.Interp) :
    ReturnsInHanded {} Tryd.checked os 4 .any ((OpenSpec.ofChange Rows.wireWritesSpec).preRow enc Tryd.prog Tryd.f4 Rows.wireWritesRow.domain false Rows.wireWritesRow.laid) (((OpenSpec.ofChange Rows.wireWritesSpec).at F).post enc Tryd.prog Tryd.f4 false true false false) := by
  obtain ⟨places, hx⟩ := reads os enc
  refine returnsInHanded_of_row (C := Tryd.checked) (s := OpenSpec.ofChange Rows.wireWritesSpec) own started (by kernel_rfl) Tryd.func4
    (witness_row_at (enc := enc) (C := Tryd.checked) false (laidWorld os) #[.agg #[.int .i64 0, .int .i64 0, .int .i64 0, .int .i64 0, .int .i64 0, .int .u64 0, .string ByteArray.empty, .slice none 0 0]] rfl (by kernel_rfl) (by kernel_rfl) (by kernel_rfl)
      (OpenSpec.preRow_of_cond 8 hx (by kernel_rfl) (fun k hk => by cases hk) (by kernel_rfl) (laid_met os))) ?_
  intro W base args ds gs before hval hW _ _ _ hL _ _
  exact contract H enc W args ds gs before base hval hW hL

theorem said : Rows.WireWritesSaid :=
  OpenClaim.holds_of_cond 4 Tryd.f4 rfl rfl rfl rfl rfl rfl rfl ⟨rfl, rfl, rfl, rfl, rfl⟩ rfl rfl rfl rfl rfl (by kernel_rfl) Tryd.func4 (by kernel_rfl)
    (of_decide_eq_true (by kernel_rfl)) (by unfold Func.isWrapper; first | (rw [if_pos (by decide +kernel)]; kernel_rfl) | (rw [if_neg (by decide +kernel)]; exact ⟨rfl, rfl⟩))
    (fun os started H enc _ F => by rw [OpenClaim.pre_eq_preRow]; exact lifted os started H enc F)

theorem plain (f : FuncId) (fn : Func) (hf : Tryd.pinned.checked.prog.funcNamed "argosy/argosylaw18.WireWrites" = some f) (hfn : Tryd.pinned.checked.prog.funcs[f]? = some fn) :
    false = Tryd.pinned.checked.prog.looks [] ∧ ∀ (j : Nat) t, fn.params[j]? = some t → Tryd.pinned.checked.prog.wantsStandIn t = false := by
  obtain rfl : f = 4 := Option.some.inj ((show Tryd.prog.funcNamed "argosy/argosylaw18.WireWrites" = some 4 by kernel_rfl).symm.trans hf) |>.symm
  obtain rfl : fn = Tryd.f4 := (Option.some.inj (Tryd.func4.symm.trans hfn)).symm
  exact ⟨by kernel_rfl, paramsPlain⟩

theorem card : Rows.WireWritesCardSaid :=
  Claim7.holds_tied_plain_at .later [] _ _ _ _ said (fun _ h => by cases h) (by kernel_rfl) (fun _ h => by cases h) wireWrites_row_tie rfl ⟨rfl, rfl⟩ (by kernel_rfl) rfl plain (by kernel_rfl)
end Go.Proofs.YtdpjmkgjjhcgeaaDoor.wireWrites
