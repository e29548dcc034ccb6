/- When a message is right, as the law has it. No condition but lengths. -/
import Derived.Test.YtdpjmkgjjhcgeaaDoorSame18
import Derived.Test.YtdpjmkgjjhcgeaaDoorChk
import Derived.Deep.DeepCutAuto
import Derived.IntWalk
namespace Go.Proofs.YtdpjmkgjjhcgeaaDoor
open Go.RowKit

theorem dwithin_any (w : World) (n hi : Int) : Calls Tryd.prog 36 #[.int .i64 n, .int .i64 hi] w fun e w' => e = .returned (.bool (inB n 0 hi)) ∧ w' = w := by
  unfold inB
  by_cases h1 : 0 ≤ n <;> by_cases h2 : n ≤ hi
  all_goals
    go_enter Tryd.func36, Tryd.ntmps36
    go_wp2_with fail
    go_ret
    simp [h1, h2]
theorem rightM_no {m : Mg} (h : rightN m = false ∨ rightV m = false ∨ rightVs m = false) : rightM m = false := by
  unfold rightM
  rcases h with h | h | h <;> simp [h]

set_option maxRecDepth 100000 in
set_option maxHeartbeats 8000000 in
theorem dright_any (w : World) (m : Mg) (hm : MgIn w m) :
    Calls Tryd.prog 21 #[mgv m] w fun e w' => e = .returned (.bool (rightM m)) ∧ Fr NoBlk w w' := by
  obtain ⟨w1, hw1⟩ : ∃ w1, w1 = w.alloc (.cells (mga m) 36) := ⟨_, rfl⟩
  have HF : Hid (Fr NoBlk w w1) := by
    show Fr _ _ _
    rw [hw1]
    exact (Fr.refl _ _).alloc _
  have hbm : Bk w1 w.heap.size 36 (mga m) := by rw [hw1]; exact Bk.new w _ _
  have HBM := Lib.hid hbm
  obtain ⟨c0, c1, c2, c3, c4, c5, c6, c7⟩ := hbm.msg
  have HM := Lib.hid (hm.nofr HF.out)
  have HNO := Lib.hid (fun h => rightM_no (m := m) h)
  have hml : m.votes.length ≤ 9223372036854775807 := Nat.le_trans hm.vl.1 hm.vl.2.1
  have hvl : m.value.length ≤ 9223372036854775807 := hm.vals.1
  have e6 : (bstr m.value).size = m.value.length := bstr_size m.value
  have HWI := Lib.hid fun W n hi => dwithin_any W n hi
  clear hm hbm
  unfold mgv mga at *
  by_cases k1 : m.kind < 1
  · have HR := Lib.hid (HNO.out (.inl (by unfold rightN inB; simp; omega)))
    go_enter Tryd.func21, Tryd.ntmps21
    go_wp2_with fail
    rw [← hw1]
    clear hw1
    try go_wp2_with fail
    go_ret
    exact ⟨by rw [HR.out]; rfl, HF.out⟩
  by_cases k9 : 9 < m.kind
  · have HR := Lib.hid (HNO.out (.inl (by unfold rightN inB; simp; omega)))
    go_enter Tryd.func21, Tryd.ntmps21
    go_wp2_with fail
    rw [← hw1]
    clear hw1
    try go_wp2_with fail
    go_ret
    exact ⟨by rw [HR.out]; rfl, HF.out⟩
  have HK : Hid (inB m.kind 1 9 = true) := by show _ = _; unfold inB; simp; omega
  go_enter Tryd.func21, Tryd.ntmps21
  go_wp2_with fail
  rw [← hw1]
  clear hw1
  obtain ⟨b_frm, hb_frm⟩ : ∃ b, inB m.frm 0 8 = b := ⟨_, rfl⟩
  have HB_frm := Lib.hid hb_frm
  have HW := Lib.hid (HWI.out w1 m.frm 8)
  rw [hb_frm] at HW
  clear hb_frm
  go_wp2_with fail
  refine HW.out.mono ?_
  rintro e wx ⟨rfl, hwx⟩
  subst wx
  cases b_frm
  · have HR := Lib.hid (HNO.out (.inl (by unfold rightN; rw [HB_frm.out]; simp)))
    go_wp2_with fail
    go_ret
    exact ⟨by rw [HR.out]; rfl, HF.out⟩
  clear HW
  obtain ⟨b_dst, hb_dst⟩ : ∃ b, inB m.dst 0 8 = b := ⟨_, rfl⟩
  have HB_dst := Lib.hid hb_dst
  have HW := Lib.hid (HWI.out w1 m.dst 8)
  rw [hb_dst] at HW
  clear hb_dst
  go_wp2_with fail
  refine HW.out.mono ?_
  rintro e wx ⟨rfl, hwx⟩
  subst wx
  cases b_dst
  · have HR := Lib.hid (HNO.out (.inl (by unfold rightN; rw [HB_dst.out]; simp)))
    go_wp2_with fail
    go_ret
    exact ⟨by rw [HR.out]; rfl, HF.out⟩
  clear HW
  obtain ⟨b_grp, hb_grp⟩ : ∃ b, inB m.grp 0 3 = b := ⟨_, rfl⟩
  have HB_grp := Lib.hid hb_grp
  have HW := Lib.hid (HWI.out w1 m.grp 3)
  rw [hb_grp] at HW
  clear hb_grp
  go_wp2_with fail
  refine HW.out.mono ?_
  rintro e wx ⟨rfl, hwx⟩
  subst wx
  cases b_grp
  · have HR := Lib.hid (HNO.out (.inl (by unfold rightN; rw [HB_grp.out]; simp)))
    go_wp2_with fail
    go_ret
    exact ⟨by rw [HR.out]; rfl, HF.out⟩
  clear HW
  obtain ⟨b_slot, hb_slot⟩ : ∃ b, inB m.slot 0 64 = b := ⟨_, rfl⟩
  have HB_slot := Lib.hid hb_slot
  have HW := Lib.hid (HWI.out w1 m.slot 64)
  rw [hb_slot] at HW
  clear hb_slot
  go_wp2_with fail
  refine HW.out.mono ?_
  rintro e wx ⟨rfl, hwx⟩
  subst wx
  cases b_slot
  · have HR := Lib.hid (HNO.out (.inl (by unfold rightN; rw [HB_slot.out]; simp)))
    go_wp2_with fail
    go_ret
    exact ⟨by rw [HR.out]; rfl, HF.out⟩
  clear HW
  by_cases hv4 : 4096 < m.value.length
  · have HR := Lib.hid (HNO.out (.inr (.inl (by
      unfold rightV
      split
      · exact decide_eq_false (by omega)
      · cases hv : m.value with
        | nil => rw [hv] at hv4; simp at hv4
        | cons a t => rfl))))
    go_wp2_with fail
    go_ret
    exact ⟨by rw [HR.out]; rfl, HF.out⟩
  have HRN : Hid (rightN m = true) := by
    show _ = _
    unfold rightN
    rw [HK.out, HB_frm.out, HB_dst.out, HB_grp.out, HB_slot.out]
    rfl
  by_cases hbadV : 0 < m.value.length ∧ hasV m.kind = false
  · obtain ⟨q1, q2⟩ := hbadV
    have HR := Lib.hid (HNO.out (.inr (.inl (by
      unfold rightV
      rw [q2]
      cases hv : m.value with
      | nil => rw [hv] at q1; simp at q1
      | cons a t => rfl))))
    unfold hasV at q2
    simp only [Bool.or_eq_false_iff] at q2
    obtain ⟨⟨⟨q3, q6⟩, q8⟩, q9⟩ := q2
    have n3 : (m.kind != 3) = true := by rw [bne, q3]; rfl
    have n6 : (m.kind != 6) = true := by rw [bne, q6]; rfl
    have n8 : (m.kind != 8) = true := by rw [bne, q8]; rfl
    have n9 : (m.kind != 9) = true := by rw [bne, q9]; rfl
    have q1' : (0 : Int) < (m.value.length : Int) := by omega
    clear q3 q6 q8 q9
    go_wp2_with fail
    go_ret
    exact ⟨by rw [HR.out]; rfl, HF.out⟩
  have HRV : Hid (rightV m = true) := by
    show _ = _
    unfold rightV
    split
    · exact decide_eq_true (by omega)
    · rename_i hh
      cases hv : m.value with
      | nil => rfl
      | cons a t => exact absurd ⟨by rw [hv]; simp, Bool.eq_false_iff.2 hh⟩ hbadV
  go_upto_region 3 with fail
  go_cut [65] from 42 to 64 (fun s wx => s = .bool false ∧ wx = w1)
  case first =>
    by_cases hv0 : m.value.length = 0
    · have hv1 : m.value = [] := List.eq_nil_of_length_eq_zero hv0
      clear hbadV hv0 hv4
      generalize m.value = vv at *
      subst hv1
      go_wp2_with fail
      go_meet
      exact ⟨rfl, rfl⟩
    have h2 : hasV m.kind = true := by
      by_cases h3 : hasV m.kind = true
      · exact h3
      · exact absurd ⟨by omega, Bool.eq_false_iff.2 h3⟩ hbadV
    have hv0' : (0 : Int) < (m.value.length : Int) := by omega
    unfold hasV at h2
    simp only [Bool.or_eq_true, beq_iff_eq] at h2
    clear hbadV hv0
    by_cases n3 : m.kind = 3
    · clear h2 
      generalize m.kind = kd at *
      subst n3
      go_wp2_with fail
      go_meet
      exact ⟨rfl, rfl⟩
    have g3 : (m.kind != 3) = true := by simp [n3]
    by_cases n6 : m.kind = 6
    · clear h2 n3
      generalize m.kind = kd at *
      subst n6
      go_wp2_with fail
      go_meet
      exact ⟨rfl, rfl⟩
    have g6 : (m.kind != 6) = true := by simp [n6]
    by_cases n8 : m.kind = 8
    · clear h2 n3 n6
      generalize m.kind = kd at *
      subst n8
      go_wp2_with fail
      go_meet
      exact ⟨rfl, rfl⟩
    have g8 : (m.kind != 8) = true := by simp [n8]
    have g9 : (m.kind != 9) = false := by
      rcases h2 with ((h | h) | h) | h
      · exact absurd h n3
      · exact absurd h n6
      · exact absurd h n8
      · rw [h]; rfl
    have NN : Hid (m.kind = 9) := by
      rcases h2 with ((h | h) | h) | h
      · exact absurd h n3
      · exact absurd h n6
      · exact absurd h n8
      · exact h
    clear h2 n3 n6 n8 g9
    have n9 := NN.out
    clear NN
    generalize m.kind = kd at *
    subst n9
    go_wp2_with fail
    go_meet
    exact ⟨rfl, rfl⟩
  case rest =>
    obtain ⟨rfl, hwx⟩ := hcut
    subst hwx
    clear hbadV
    by_cases hbad2 : 0 < m.votes.length ∧ ¬ m.kind = 2
    · obtain ⟨q1, q2⟩ := hbad2
      have HR := Lib.hid (HNO.out (.inr (.inr (by
        unfold rightVs
        rw [beq_eq_false_iff_ne.2 q2]
        cases hv : m.votes with
        | nil => rw [hv] at q1; simp at q1
        | cons a t => rfl))))
      have g2 : (m.kind != 2) = true := by simp [q2]
      have q1' : (0 : Int) < (m.votes.length : Int) := by omega
      clear q2
      go_wp2_with fail
      go_ret
      exact ⟨by rw [HR.out]; rfl, HF.out⟩
    go_upto_region 5 with fail
    go_cut [74] from 66 to 73 (fun s wx => s = .bool false ∧ wx = wc)
    case first =>
      by_cases hv0 : m.votes.length = 0
      · clear hbad2
        generalize m.votes.length = vn at *
        subst hv0
        go_wp2_with fail
        go_meet
        exact ⟨rfl, rfl⟩
      · have hv0' : (0 : Int) < (m.votes.length : Int) := by omega
        have n2 : m.kind = 2 := by
          by_cases h : m.kind = 2
          · exact h
          · exact absurd ⟨by omega, h⟩ hbad2
        have g2 : (m.kind != 2) = false := by simp [n2]
        have G2 := Lib.hid g2
        clear hbad2 n2 hv0 g2
        go_wp2_with fail
        go_meet
        exact ⟨by rw [G2.out], rfl⟩
    case rest =>
      obtain ⟨rfl, hwx⟩ := hcut
      subst hwx
      have HV : Hid (rightM m = rises 0 m.votes) := by
        show _ = _
        unfold rightM
        rw [HRN.out, HRV.out]
        unfold rightVs
        by_cases h : m.kind = 2
        · rw [h]; rfl
        · rw [beq_eq_false_iff_ne.2 h]
          have h0 : m.votes = [] := List.eq_nil_of_length_eq_zero (by
            by_cases hz : m.votes.length = 0
            · exact hz
            · exact absurd ⟨by omega, h⟩ hbad2)
          rw [h0]; rfl
      clear hbad2
      go_wp2_with fail
      clear c0 c1 c2 c3 c4 c5 c6 c7
      go_loopw [3] (fun s wr => ∃ (z : Int) (k : Nat), k ≤ m.votes.length ∧ s = .int .i64 k ∧ Hid (Bk wr w.heap.size 36 #[.int .i64 m.kind, .int .i64 m.frm, .int .i64 m.dst, .int .i64 m.grp, .int .i64 m.slot, .int .u64 (m.ballot : Int), .string (bstr m.value), .slice m.va m.votes.length m.vc]) ∧ Hid (Fr NoBlk w wr ∧ Fr NoBlk wc wr) ∧ Hid (rises 0 m.votes = rises z (m.votes.drop k) ∧ (0 ≤ z ∧ z ≤ 64) ∧ (k = 0 → z = 0) ∧ ∀ j y, j + 1 = k → m.votes[j]? = some y → z = y.slot + 1)) (fun s _ => m.votes.length - (intOf s).toNat)
      case atStart => exact ⟨0, 0, by omega, rfl, HBM, ⟨HF.out, Fr.refl _ _⟩, by rw [List.drop_zero], by omega, fun _ => rfl, fun j y h => absurd h (by omega)⟩
      case round =>
        obtain ⟨z, k, hk, rfl, HW, HFW, HI⟩ := hrel
        have c7 := HW.out.cell 7
        simp only [List.getElem?_toArray, List.getElem?_cons_succ, List.getElem?_cons_zero] at c7
        by_cases hlt : k < m.votes.length
        · obtain ⟨x, hx⟩ : ∃ x, m.votes[k]? = some x := ⟨_, List.getElem?_eq_getElem hlt⟩
          obtain ⟨b, o', hA, x0, x1, x2⟩ := (HM.out.votes.nofr HFW.out.2).vote hx
          have hxl : x.value.length ≤ 9223372036854775807 := HM.out.vals.2 x (List.mem_of_getElem? hx)
          have e4 : (bstr x.value).size = x.value.length := bstr_size x.value
          have HD := Lib.hid (rises_drop m.votes z k x hx)
          have HX := Lib.hid hx
          obtain ⟨bi, hbi⟩ : ∃ bi, inB x.slot 0 63 = bi := ⟨_, rfl⟩
          have HBI := Lib.hid hbi
          have HWQ := Lib.hid fun n => HWI.out (wr.drewN n) x.slot 63
          rw [hbi] at HWQ
          rw [hA] at c7
          have HAA := Lib.hid hA
          clear hA hx hbi
          cases bi
          · have HR : Hid (rightM m = false) := by
              show _ = _
              rw [HV.out, HI.out.1, HD.out]
              have h1 : inB x.slot z 63 = false := by
                have h2 := HBI.out
                have h3 := HI.out.2.1
                rw [Bool.eq_false_iff] at h2 ⊢
                intro h4
                exact h2 (inB_iff.2 (by have := inB_iff.1 h4; omega))
              rw [h1]; rfl
            go_upto_region 10 with fail
            go_quiet ((go_at_call 36; exact Calls.quiet_of_same (HWQ.out _)))
            go_wp2_with fail
            go_ret
            exact ⟨by rw [HR.out]; rfl, HFW.out.1.drewN _⟩
          by_cases h4 : 4096 < x.value.length
          · have HR : Hid (rightM m = false) := by
              show _ = _
              rw [HV.out, HI.out.1, HD.out, decide_eq_false (by omega : ¬ x.value.length ≤ 4096)]
              simp
            have h4' : decide (4096 < (x.value.length : Int)) = true := decide_eq_true (by omega)
            go_upto_region 10 with fail
            go_quiet ((go_at_call 36; exact Calls.quiet_of_same (HWQ.out _)))
            go_wp2_with fail
            go_ret
            exact ⟨by rw [HR.out]; rfl, HFW.out.1.drewN _⟩
          have h4' : decide (4096 < (x.value.length : Int)) = false := decide_eq_false (by omega)
          have H4 : Hid (x.value.length ≤ 4096) := by show _ ≤ _; omega
          have HS := Lib.hid (inB_iff.1 HBI.out)
          by_cases hk0 : k = 0
          · have hk0' : decide (0 < k) = false := decide_eq_false (by omega)
            have hk0'' : decide ((0 : Int) < (k : Int)) = false := decide_eq_false (by omega)
            have HK0 := Lib.hid hk0
            clear hk0 h4
            go_upto_region 10 with fail
            go_quiet ((go_at_call 36; exact Calls.quiet_of_same (HWQ.out _)))
            go_wp2_with fail
            go_roundw
            case rel =>
              refine ⟨x.slot + 1, k + 1, by omega, by go_num, ⟨HW.out.fr ((Fr.refl NoBlk _).drewN _) (fun h => h), ⟨HFW.out.1.drewN _, HFW.out.2.drewN _⟩, ?_, by have := HS.out; omega, fun h => absurd h (by omega), fun j y hj hy => ?_⟩⟩
              · rw [HI.out.1, HD.out, decide_eq_true H4.out, inB_iff.2 (by have := HS.out; have := HI.out.2.2.1 HK0.out; omega)]
                rfl
              · obtain rfl : j = k := by omega
                rw [HX.out] at hy
                injection hy with hy
                rw [hy]
            case measure => simp [intOf]; omega
          · obtain ⟨y, hy⟩ : ∃ y, m.votes[k - 1]? = some y := ⟨_, List.getElem?_eq_getElem (by omega)⟩
            have hz := HI.out.2.2.2 (k - 1) y (by omega) hy
            have HZ := Lib.hid hz
            obtain ⟨kp, hkp⟩ : ∃ kp, kp = k - 1 := ⟨_, rfl⟩
            have hkp1 : IntKind.i64.wrap ((k : Int) - 1) = (kp : Int) := (IntWalk.i64_in ((k : Int) - 1) (by omega)).trans (by omega)
            have hkp2 : ((k : Int) - 1) = (kp : Int) := by omega
            rw [← hkp] at hy
            obtain ⟨b2, o2, hA2, y0, y1, y2⟩ := (HM.out.votes.nofr HFW.out.2).vote hy
            rw [HAA.out] at hA2
            injection hA2 with hA2
            injection hA2 with hq1 hq2
            subst hq1 hq2
            have hk0' : decide (0 < k) = true := decide_eq_true (by omega)
            have hk0'' : decide ((0 : Int) < (k : Int)) = true := decide_eq_true (by omega)
            have hkb : (kp : Int) < (m.votes.length : Int) := by omega
            have HKK : Hid (¬ k = 0) := hk0
            clear hz hkp hy hk0 h4
            by_cases hge : x.slot ≤ y.slot
            · have hge' : decide (x.slot ≤ y.slot) = true := decide_eq_true hge
              have HR : Hid (rightM m = false) := by
                show _ = _
                rw [HV.out, HI.out.1, HD.out]
                have h1 : inB x.slot z 63 = false := by
                  rw [Bool.eq_false_iff]
                  intro h
                  have := inB_iff.1 h
                  have := HZ.out
                  omega
                rw [h1]; rfl
              go_upto_region 10 with fail
              go_quiet ((go_at_call 36; exact Calls.quiet_of_same (HWQ.out _)))
              go_wp2_with fail
              go_ret
              exact ⟨by rw [HR.out]; rfl, HFW.out.1.drewN _⟩
            · have hge' : decide (x.slot ≤ y.slot) = false := decide_eq_false hge
              have HG : Hid (y.slot < x.slot) := by show _ < _; omega
              clear hge
              go_upto_region 10 with fail
              go_quiet ((go_at_call 36; exact Calls.quiet_of_same (HWQ.out _)))
              go_wp2_with fail
              go_roundw
              case rel =>
                refine ⟨x.slot + 1, k + 1, by omega, by go_num, ⟨HW.out.fr ((Fr.refl NoBlk _).drewN _) (fun h => h), ⟨HFW.out.1.drewN _, HFW.out.2.drewN _⟩, ?_, by have := HS.out; omega, fun h => absurd h (by omega), fun j u hj hu => ?_⟩⟩
                · rw [HI.out.1, HD.out, decide_eq_true H4.out, inB_iff.2 (by have := HS.out; have := HZ.out; have := HG.out; omega)]
                  rfl
                · obtain rfl : j = k := by omega
                  rw [HX.out] at hu
                  injection hu with hu
                  rw [hu]
              case measure => simp [intOf]; omega
        · have HR : Hid (rightM m = true) := by
            show _ = _
            rw [HV.out, HI.out.1, List.drop_eq_nil_of_le (by omega)]
            rfl
          go_wp2_with fail
          go_ret
          exact ⟨by rw [HR.out]; rfl, HFW.out.1⟩
end Go.Proofs.YtdpjmkgjjhcgeaaDoor
