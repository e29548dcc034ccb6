/- The program's Check. Conditions: the message lies in memory. -/
import Derived.Test.YtdpjmkgjjhcgeaaDoorMsg
import Derived.Deep.RegionHeld3
import Derived.IntWalk
namespace Go.Proofs.YtdpjmkgjjhcgeaaDoor
open Go.RowKit

theorem within_any (w : World) (n lo hi : Int) : Calls Tryd.prog 37 #[.int .i64 n, .int .i64 lo, .int .i64 hi] w fun e w' => e = .returned (.bool (inB n lo hi)) ∧ w = w' := by
  unfold inB
  by_cases h1 : lo ≤ n <;> by_cases h2 : n ≤ hi
  all_goals
    go_enter Tryd.func37, Tryd.ntmps37
    go_wp2_with fail
    go_ret
    simp [h1, h2]

set_option maxRecDepth 100000 in
set_option maxHeartbeats 4000000 in
theorem rightNumbers_any (w : World) (m : Mg) : Calls Tryd.prog 25 #[mgv m] w fun e w' => e = .returned (.bool (rightN m)) ∧ Fr NoBlk w w' := by
  obtain ⟨w1, hw1⟩ : ∃ w1, w1 = w.alloc (.cells (mga m) 26) := ⟨_, rfl⟩
  have HF : Hid (Fr NoBlk w w1) := by
    show Fr _ _ _
    rw [hw1]
    exact (Fr.refl _ _).alloc _
  obtain ⟨c0, c1, c2, c3, c4, c5, c6, c7⟩ : _ := (show Bk w1 w.heap.size 26 (mga m) by rw [hw1]; exact Bk.new w _ _).msg
  have HW := Lib.hid fun n lo hi => within_any w1 n lo hi
  unfold mgv mga at *
  unfold rightN
  generalize hA : inB m.kind 1 9 = b1
  generalize hB : inB m.frm 0 8 = b2
  generalize hC : inB m.dst 0 8 = b3
  generalize hD : inB m.grp 0 3 = b4
  generalize hE : inB m.slot 0 64 = b5
  have HA := Lib.hid (HW.out m.kind 1 9)
  have HB := Lib.hid (HW.out m.frm 0 8)
  have HC := Lib.hid (HW.out m.dst 0 8)
  have HD := Lib.hid (HW.out m.grp 0 3)
  have HE := Lib.hid (HW.out m.slot 0 64)
  rw [hA] at HA
  rw [hB] at HB
  rw [hC] at HC
  rw [hD] at HD
  rw [hE] at HE
  clear hA hB hC hD hE HW
  go_enter Tryd.func25, Tryd.ntmps25
  go_wp2_with fail
  rw [← hw1]
  clear hw1
  go_wp2_with fail
  refine HA.out.mono ?_
  rintro e wx ⟨rfl, rfl⟩
  cases b1
  · go_wp2_with fail
    go_ret
    exact ⟨rfl, HF.out⟩
  go_wp2_with fail
  refine HB.out.mono ?_
  rintro e wx ⟨rfl, rfl⟩
  cases b2
  · go_wp2_with fail
    go_ret
    exact ⟨rfl, HF.out⟩
  go_wp2_with fail
  refine HC.out.mono ?_
  rintro e wx ⟨rfl, rfl⟩
  cases b3
  · go_wp2_with fail
    go_ret
    exact ⟨rfl, HF.out⟩
  go_wp2_with fail
  refine HD.out.mono ?_
  rintro e wx ⟨rfl, rfl⟩
  cases b4
  · go_wp2_with fail
    go_ret
    exact ⟨rfl, HF.out⟩
  go_wp2_with fail
  refine HE.out.mono ?_
  rintro e wx ⟨rfl, rfl⟩
  cases b5
  · go_wp2_with fail
    go_ret
    exact ⟨rfl, HF.out⟩
  go_wp2_with fail
  go_ret
  exact ⟨rfl, HF.out⟩

set_option maxRecDepth 100000 in
set_option maxHeartbeats 4000000 in
theorem rightValue_any (w : World) (m : Mg) (hm : m.value.length ≤ maxLen) : Calls Tryd.prog 26 #[mgv m] w fun e w' => e = .returned (.bool (rightV m)) ∧ Fr NoBlk w w' := by
  unfold mgv mga at *
  have e4 : (bstr m.value).size = m.value.length := bstr_size m.value
  have hml : m.value.length ≤ 9223372036854775807 := hm
  have e6 : ((bstr m.value).toList == []) = m.value.isEmpty := by rw [bstr_toList]; cases m.value <;> rfl
  have HV : Hid (rightV m = if hasV m.kind then decide (m.value.length ≤ 4096) else m.value.isEmpty) := rfl
  clear hm
  by_cases h3 : m.kind = 3
  · go_enter Tryd.func26, Tryd.ntmps26
    go_wp2_with fail
    go_ret
    exact ⟨by rw [HV.out, h3]; simp [hasV]; try omega, (Fr.refl _ _).alloc _⟩
  by_cases h6 : m.kind = 6
  · go_enter Tryd.func26, Tryd.ntmps26
    go_wp2_with fail
    go_ret
    exact ⟨by rw [HV.out, h6]; simp [hasV]; try omega, (Fr.refl _ _).alloc _⟩
  by_cases h8 : m.kind = 8
  · go_enter Tryd.func26, Tryd.ntmps26
    go_wp2_with fail
    go_ret
    exact ⟨by rw [HV.out, h8]; simp [hasV]; try omega, (Fr.refl _ _).alloc _⟩
  by_cases h9 : m.kind = 9
  · go_enter Tryd.func26, Tryd.ntmps26
    go_wp2_with fail
    go_ret
    exact ⟨by rw [HV.out, h9]; simp [hasV]; try omega, (Fr.refl _ _).alloc _⟩
  have hk : hasV m.kind = false := by simp [hasV, h3, h6, h8, h9]
  have HK := Lib.hid hk
  clear hk
  go_enter Tryd.func26, Tryd.ntmps26
  go_wp2_with fail
  go_ret
  exact ⟨by rw [HV.out, HK.out]; simp, (Fr.refl _ _).alloc _⟩

theorem rises_drop (xs : List Vt) (n : Int) (k : Nat) (v : Vt) (h : xs[k]? = some v) : rises n (xs.drop k) = (inB v.slot n 63 && decide (v.value.length ≤ 4096) && rises (v.slot + 1) (xs.drop (k + 1))) := by
  obtain ⟨hk, rfl⟩ := List.getElem?_eq_some_iff.1 h
  rw [List.drop_eq_getElem_cons hk]
  rfl

set_option maxRecDepth 100000 in
set_option maxHeartbeats 4000000 in
theorem rightVotes_any (w : World) (m : Mg) (hm : MgIn w m) : Calls Tryd.prog 27 #[mgv m] w fun e w' => e = .returned (.bool (rightVs m)) ∧ Fr NoBlk w w' := by
  obtain ⟨w1, hw1⟩ : ∃ w1, w1 = w.alloc (.cells (mga m) 26) := ⟨_, rfl⟩
  have HF : Hid (Fr NoBlk w w1) := by
    show Fr _ _ _
    rw [hw1]
    exact (Fr.refl _ _).alloc _
  have HM := Lib.hid hm
  have HW := Lib.hid fun W n lo hi => within_any W n lo hi
  have HV : Hid (rightVs m = if m.kind == 2 then rises 0 m.votes else m.votes.isEmpty) := rfl
  have hml : m.votes.length ≤ 9223372036854775807 := Nat.le_trans hm.vl.1 hm.vl.2.1
  have c0 : w1.cell? ⟨w.heap.size, 0, none⟩ = some (.int .i64 m.kind) := by rw [hw1]; exact (Bk.new w _ _).cell 0
  have c7 : w1.cell? ⟨w.heap.size, 7, none⟩ = some (.slice m.va m.votes.length m.vc) := by rw [hw1]; exact (Bk.new w _ _).cell 7
  unfold mgv mga at *
  clear hm
  by_cases h2 : m.kind = 2
  rotate_left
  · have hk : (m.kind == 2) = false := by simp [h2]
    have HK := Lib.hid hk
    have hk2 : (m.kind != 2) = true := by simp [h2]
    have e5 : ((m.votes.length : Int) == 0) = m.votes.isEmpty := by
      cases m.votes with
      | nil => rfl
      | cons a t => simp; omega
    clear hk h2
    go_enter Tryd.func27, Tryd.ntmps27
    go_wp2_with fail
    rw [← hw1]
    clear hw1
    go_wp2_with fail
    go_ret
    exact ⟨by rw [HV.out, HK.out, ← e5]; simp, HF.out⟩
  have HK : Hid ((m.kind == 2) = true) := by show _ = _; simp [h2]
  have hk2 : (m.kind != 2) = false := by simp [h2]
  clear h2
  go_enter Tryd.func27, Tryd.ntmps27
  go_wp2_with fail
  rw [← hw1]
  clear hw1
  go_wp2_with fail
  go_loopw [3, 16] (fun n s wr => ∃ (z : Int) (k : Nat), k ≤ m.votes.length ∧ n = .int .i64 z ∧ s = .int .i64 k ∧ Hid (Fr NoBlk w wr ∧ rises 0 m.votes = rises z (m.votes.drop k) ∧ (0 ≤ z ∧ z ≤ 64))) (fun _ s _ => m.votes.length - (intOf s).toNat)
  case atStart => exact ⟨0, 0, by omega, rfl, rfl, HF.out, by rw [List.drop_zero], by omega⟩
  case round =>
    obtain ⟨z, k, hk, rfl, rfl, HI⟩ := hrel
    by_cases hlt : k < m.votes.length
    · obtain ⟨x, hx⟩ : ∃ x, m.votes[k]? = some x := ⟨_, List.getElem?_eq_getElem hlt⟩
      obtain ⟨b, o', hA, x0, x1, x2⟩ := (HM.out.votes.nofr HI.out.1).vote hx
      have hxl : x.value.length ≤ 9223372036854775807 := HM.out.vals.2 x (List.mem_of_getElem? hx)
      have e4 : (bstr x.value).size = x.value.length := bstr_size x.value
      have HD := Lib.hid (rises_drop m.votes z k x hx)
      obtain ⟨wb, hwb⟩ : ∃ wb, wb = wr.alloc (.cells #[.int .i64 x.slot, .int .u64 (x.ballot : Int), .string (bstr x.value)] 48) := ⟨_, rfl⟩
      have HFB : Hid (Fr NoBlk w wb) := by
        show Fr _ _ _
        rw [hwb]
        exact HI.out.1.alloc _
      have y0 : wb.cell? ⟨wr.heap.size, 0, none⟩ = some (.int .i64 x.slot) := by rw [hwb]; exact (Bk.new wr _ _).cell 0
      have y2 : wb.cell? ⟨wr.heap.size, 2, none⟩ = some (.string (bstr x.value)) := by rw [hwb]; exact (Bk.new wr _ _).cell 2
      have HWI := Lib.hid (HW.out wb x.slot z 63)
      obtain ⟨bi, hbi⟩ : ∃ bi, inB x.slot z 63 = bi := ⟨_, rfl⟩
      rw [hbi] at HWI
      have HBI := Lib.hid hbi
      rw [hA]
      clear hA hx hbi
      go_wp2_with fail
      rw [← hwb]
      clear hwb
      refine HWI.out.mono ?_
      rintro e wx ⟨rfl, rfl⟩
      cases bi
      · go_wp2_with fail
        go_ret
        exact ⟨by rw [HV.out, HK.out, if_pos rfl, HI.out.2.1, HD.out, HBI.out]; rfl, HFB.out⟩
      by_cases h4 : 4096 < x.value.length
      · have h4' : ¬ x.value.length ≤ 4096 := by omega
        go_wp2_with fail
        go_ret
        exact ⟨by rw [HV.out, HK.out, if_pos rfl, HI.out.2.1, HD.out, HBI.out, decide_eq_false h4']; rfl, HFB.out⟩
      have h4' : Hid (x.value.length ≤ 4096) := by show _ ≤ _; omega
      have HR := Lib.hid (inB_iff.1 HBI.out)
      have hsl : IntKind.i64.wrap (x.slot + 1) = x.slot + 1 := IntWalk.i64_in _ (by have := HR.out; have := HI.out.2.2; omega)
      go_wp2_with fail
      go_roundw
      case rel =>
        refine ⟨x.slot + 1, k + 1, by omega, rfl, by go_num, HFB.out, ?_, by have := HR.out; have := HI.out.2.2; omega⟩
        rw [HI.out.2.1, HD.out, HBI.out, decide_eq_true h4'.out]
        rfl
      case measure => simp [intOf]; omega
    · have HT : Hid (m.votes.drop k = []) := List.drop_eq_nil_of_le (by omega)
      go_wp2_with fail
      go_ret
      exact ⟨by rw [HV.out, HK.out, if_pos rfl, HI.out.2.1, HT.out]; rfl, HI.out.1⟩

set_option maxRecDepth 100000 in
set_option maxHeartbeats 4000000 in
theorem check_any (w : World) (m : Mg) (hm : MgIn w m) : Calls Tryd.prog 13 #[mgv m] w fun e w' => e = .returned (.int .i64 (codeR (rightM m))) ∧ Fr NoBlk w w' := by
  obtain ⟨w1, hw1⟩ : ∃ w1, w1 = w.alloc (.cells (mga m) 26) := ⟨_, rfl⟩
  have HF : Hid (Fr NoBlk w w1) := by
    show Fr _ _ _
    rw [hw1]
    exact (Fr.refl _ _).alloc _
  have HB : Hid (Bk w1 w.heap.size 26 (mga m)) := by
    show Bk _ _ _ _
    rw [hw1]
    exact Bk.new w _ _
  have HM := Lib.hid hm
  have HC1 := Lib.hid (rightNumbers_any w1 m)
  have HC2 := Lib.hid fun W => rightValue_any W m hm.vals.1
  have HC3 := Lib.hid fun W (h : Fr NoBlk w W) => rightVotes_any W m (hm.nofr h)
  have HV : Hid (rightM m = (rightN m && rightV m && rightVs m)) := rfl
  unfold mgv mga at HC1 HC2 HC3 ⊢
  unfold mga at hw1
  clear hm
  generalize rightN m = b1 at *
  generalize rightV m = b2 at *
  generalize rightVs m = b3 at *
  obtain ⟨c0, c1, c2, c3, c4, c5, c6, c7⟩ := HB.out.msg
  go_enter Tryd.func13, Tryd.ntmps13
  go_wp2_with fail
  rw [← hw1]
  clear hw1
  go_wp2_with fail
  refine HC1.out.mono ?_
  rintro e w2 ⟨rfl, hf2⟩
  have HF2 := Lib.hid (HF.out.trans hf2)
  have HB2 := Lib.hid (HB.out.fr hf2 (fun h => h))
  clear hf2 HB HF HC1 c0 c1 c2 c3 c4 c5 c6 c7
  cases b1
  · go_wp2_with fail
    go_ret
    exact ⟨by rw [HV.out]; rfl, HF2.out⟩
  obtain ⟨c0, c1, c2, c3, c4, c5, c6, c7⟩ := HB2.out.msg
  go_wp2_with fail
  refine (HC2.out _).mono ?_
  rintro e w3 ⟨rfl, hf3⟩
  have HF3 := Lib.hid (HF2.out.trans hf3)
  have HB3 := Lib.hid (HB2.out.fr hf3 (fun h => h))
  clear hf3 HB2 HF2 HC2 c0 c1 c2 c3 c4 c5 c6 c7
  cases b2
  · go_wp2_with fail
    go_ret
    exact ⟨by rw [HV.out]; rfl, HF3.out⟩
  obtain ⟨c0, c1, c2, c3, c4, c5, c6, c7⟩ := HB3.out.msg
  go_wp2_with fail
  refine (HC3.out _ HF3.out).mono ?_
  rintro e w4 ⟨rfl, hf4⟩
  have HF4 := Lib.hid (HF3.out.trans hf4)
  clear hf4 HB3 HF3 HC3 c0 c1 c2 c3 c4 c5 c6 c7
  cases b3
  · go_wp2_with fail
    go_ret
    exact ⟨by rw [HV.out]; rfl, HF4.out⟩
  go_wp2_with fail
  go_ret
  exact ⟨by rw [HV.out]; rfl, HF4.out⟩
end Go.Proofs.YtdpjmkgjjhcgeaaDoor
