/- DiskStops is true: no more changes happen than the power lasts for. No condition. -/
import Derived.Test.YtbkcjaagdcijmaaLawp
import Derived.Test.YtbkcjaagdcijmaaStopP
import Derived.Test.YtbkcjaagdcijmaaRoomP
import Derived.Test.YtbkcjaagdcijmaaAtS2
namespace Go.Proofs.Ytbkcjaagdcijmaa.diskStops
open Go.ChangeShapes Go.WideShapes Go.ChangeAt Go.RowKit

def Pow (p : PD) (left : Int) (dn : Bool) : Prop := p.left = left ∧ 0 ≤ left ∧ left ≤ 31 ∧ p.down = dn

set_option maxRecDepth 100000 in
set_option maxHeartbeats 4000000 in
theorem walk (w : World) (A : Option Addr) (c : Nat) (xs : List Opn) (n : Int) (hr : Rd w A (opsc xs)) (hx : ∀ x ∈ xs, OpIn w x) (hm : xs.length ≤ maxLen) :
    Calls Try.prog 9 #[.slice A xs.length c, .int .i64 n] w fun e w' => e = .returned (.bool true) ∧ Fr NoBlk w w' := by
  have HR := Lib.hid hr
  have HX := Lib.hid hx
  have HM := Lib.hid hm
  clear hr hx
  unfold maxLen at hm
  go_enter Try.func9, Try.ntmps9
  go_wp2_with fail
  refine (speaks_any w).mono ?_
  rintro e w1 ⟨rfl, hf1⟩
  have HF1 := Lib.hid hf1
  clear hf1
  go_wp2_with fail
  refine (great_any w1 A c xs (HR.out.nofr HF1.out) (fun x h => (HX.out x h).nofr HF1.out) HM.out).mono ?_
  rintro e w2 ⟨⟨bb, rfl, hsm⟩, hf2⟩
  have HF2 := Lib.hid (HF1.out.trans hf2)
  have HSM := Lib.hid hsm
  clear hf2 hsm
  cases bb
  rotate_left
  · go_wp2_with fail
    go_ret
    exact ⟨rfl, HF2.out⟩
  have HS := Lib.hid (HSM.out rfl)
  clear HSM
  obtain ⟨rq, hrq, hrq1⟩ := low_bits n 31 (by omega)
  rw [show ((31 : Nat) : Int) = 31 from rfl] at hrq
  go_wp2_with fail
  refine (new_at w2 w2 (Fr.refl _ _) 100000 (by omega) (by omega)).mono ?_
  rintro e w3 ⟨gd, rfl, h3, hf3⟩
  have HL3 := Lib.hid (limitS (h3.prot (Fr.refl NoBlk _) (fun _ h => h.elim) : AtS w2 w3 gd _ NoS) (rq : Int) (by omega))
  clear h3 hf3
  go_wp2_with fail
  refine HL3.out.mono ?_
  clear HL3
  rintro e w4 ⟨rfl, h4, hf4⟩
  have H4 : Hid (∃ p, AtS w2 w4 gd p NoS ∧ Pow p (rq : Int) false) := ⟨_, h4, rfl, by omega, by omega, rfl⟩
  clear h4 hf4 hrq
  go_wp2_with fail
  go_loopw [7, 8, 31] (fun l d s wr => ∃ (i : Nat) (left : Int) (dn : Bool), i ≤ xs.length ∧ s = .int .i64 i ∧ l = .int .i64 left ∧ d = .bool dn ∧ Hid (∃ p, AtS w2 wr gd p NoS ∧ Pow p left dn)) (fun _ _ s _ => xs.length - (intOf s).toNat)
  case atStart => exact ⟨0, _, _, Nat.zero_le _, rfl, rfl, rfl, H4⟩
  case round =>
    clear H4
    obtain ⟨k, left, dn, hk, rfl, rfl, rfl, HE⟩ := hrel
    obtain ⟨p, hp, hpl, hl0, hl31, hpd⟩ := HE.out
    have HA := Lib.hid hp
    have HPL := Lib.hid hpl
    have HPD := Lib.hid hpd
    have HFR := Lib.hid (HF2.out.trans hp.fr)
    clear hp HE hpl hpd
    by_cases hlt : k < xs.length
    · obtain ⟨x, hx⟩ : ∃ x, xs[k]? = some x := ⟨_, List.getElem?_eq_getElem hlt⟩
      obtain ⟨b, o, rfl, c0, c1, c2, c3, c4, c5⟩ := (HR.out.nofr HFR.out).opn hx
      have HV := Lib.hid ((HX.out x (List.mem_of_getElem? hx)).nofr HFR.out)
      have HSX := Lib.hid (HS.out.o x (List.mem_of_getElem? hx))
      have HW : Hid (Fr NoBlk wr (wr.alloc (.cells (opa x) 34))) := (Fr.refl _ _).alloc _
      have HB : Hid (Bk (wr.alloc (.cells (opa x) 34)) wr.heap.size 34 (opa x)) := Bk.new _ _ _
      have HBl : Hid (wr.heap.size < (wr.alloc (.cells (opa x) 34)).heap.size) := HB.out.lt
      clear hx
      obtain ⟨kind, n', name, tt, ⟨va, vc, vb⟩, ⟨ka, kc, kb⟩⟩ := x
      have HA2 : Hid (AtS w2 (wr.alloc (.cells (opa ⟨kind, n', name, tt, (va, vc, vb), (ka, kc, kb)⟩) 34)) gd p (fun k => k = wr.heap.size)) := HA.out.prot HW.out (fun _ _ h => h.elim) fun k hk => .inr (by omega)
      have HSL : Hid (∀ k, k = wr.heap.size → k < (wr.alloc (.cells (opa ⟨kind, n', name, tt, (va, vc, vb), (ka, kc, kb)⟩) 34)).heap.size) := fun k hk => by have := HBl.out; omega
      have HNL := Lib.hid HV.out.2.2.1
      have HRD := Lib.hid fun W p2 (h : AtS w2 W gd p2 (fun k => k = wr.heap.size)) => readS h name HNL.out
      obtain ⟨q, hq, hq1⟩ := low_bits kind 3 (by omega)
      rw [show ((3 : Nat) : Int) = 3 from rfl] at hq
      have HAP := Lib.hid (appendS HA2.out HSL.out name HV.out.2.2.1 va vb.length vc vb rfl (HV.out.1.1.1.nofr HW.out) HV.out.1.1.2 (by have := HSX.out.1; unfold maxLen; dsimp only at this; omega))
      have HSY := Lib.hid (syncS HA2.out HSL.out name HV.out.2.2.1)
      have HRN := Lib.hid (renameS HA2.out HSL.out name HV.out.2.2.1 tt HV.out.2.2.2.1)
      have HRM := Lib.hid (removeS HA2.out HSL.out name HV.out.2.2.1)
      have HPS : Hid (0 ≤ p.left) := by show _ ≤ _; rw [HPL.out]; exact hl0
      have HT0 := Lib.hid (append_stp p HPS.out name vb)
      have HT1 : Hid (Stp p (pSync p name).1 (pSync p name).2) := change_stp p HPS.out name _ _
      have HT2 : Hid (Stp p (pRename p name tt).1 (pRename p name tt).2) := change_stp p HPS.out name _ _
      have HT3 : Hid (Stp p (pRemove p name).1 (pRemove p name).2) := change_stp p HPS.out name _ _
      unfold opa at HW HB HA2 HAP HSY HRN HRM
      unfold st at c2 c3 HW HB HA2 HAP HSY HRN HRM
      unfold sl at c4 HW HB HA2 HAP HSY HRN HRM
      unfold nsl at c5 HW HB HA2 HAP HSY HRN HRM
      dsimp only at c0 c1 c2 c3 c4 c5 HW HB HA2 HAP HSY HRN HRM
      clear HA HSX HV HPS HSL HBl HA2
      have hq4 : q = 0 ∨ q = 1 ∨ q = 2 ∨ q = 3 := by omega
      rcases hq4 with rfl | rfl | rfl | rfl
      · have HC := HAP
        have HT := HT0
        clear HAP HSY HRN HRM HT0 HT1 HT2 HT3
        go_wp2_with fail
        refine HC.out.mono ?_
        clear HC
        rintro e w5 ⟨rfl, ha5, hf5⟩
        have HA5 := Lib.hid ha5
        have HB5 := Lib.hid (HB.out.fr hf5 (fun hc => hc.1 rfl))
        have q2 : w5.cell? ⟨wr.heap.size, 2, none⟩ = some (.string (bstr name)) := HB5.out.cell 2
        clear ha5 hf5 HB
        generalize pAppend p name vb = r5 at *
        obtain ⟨p5, z5⟩ := r5
        dsimp only at HT HA5 ⊢
        have HRQ := Lib.hid (HRD.out w5 p5 HA5.out)
        have HRV := Lib.hid (read_down p5 name)
        have HAE := Lib.hid (HA5.out.prot (Fr.refl NoBlk _) (fun _ _ h => h.elim) (fun _ h => h.elim) : AtS w2 w5 gd p5 NoS)
        clear HA5 HB5 HRD c0 c1 c2 c3 c4 c5 HW
        rcases HT.out with ⟨hz, hd, h1, hl, hd2⟩ | ⟨hz, hl, hd2⟩ | ⟨hz0, hz3, hd, hl, hd2⟩
        · obtain rfl : dn = false := HPD.out.symm.trans hd
          subst hz
          have hle : 1 ≤ left := by rw [← HPL.out]; exact h1
          have HPW : Hid (Pow p5 (left - 1) false) := ⟨by rw [hl, HPL.out], by omega, by omega, hd2⟩
          have HRZ : Hid ((pRead p5 name).2 ≠ 3) := by
            rcases HRV.out with ⟨_, h⟩ | ⟨h, _⟩
            · rw [hd2] at h; cases h
            · exact h
          clear HT HRV hd h1 hl hd2
          go_wp2_with fail
          refine HRQ.out.mono ?_
          clear HRQ
          rintro e w6 ⟨A6, c6, rfl, hg⟩
          have HAF : Hid (∃ p, AtS w2 w6 gd p NoS ∧ Pow p (left - 1) false) := ⟨p5, HAE.out.nofr hg.got.fr, HPW.out⟩
          have hn3 := HRZ.out
          clear hg HRZ
          generalize (pRead p5 name).2 = z6 at *
          generalize (pRead p5 name).1.length = n6 at *
          have t1 : (z6 == 3) = false := beq_eq_false_iff_ne.2 hn3
          have t2 : decide (z6 = 3) = false := decide_eq_false hn3
          go_wp2_with fail
          go_roundw
          case rel => exact ⟨k + 1, _, _, by omega, by go_num, rfl, rfl, HAF⟩
          case measure => simp [intOf]; omega
        · subst hz
          have HPW : Hid (Pow p5 left true) := ⟨by rw [hl, HPL.out], by omega, by omega, hd2⟩
          have HRZ : Hid ((pRead p5 name).2 = 3) := by
            rcases HRV.out with ⟨h, _⟩ | ⟨_, h⟩
            · exact h
            · rw [hd2] at h; cases h
          clear HT HRV hl hd2
          have HRZ3 := HRZ.out
          cases dn
          all_goals
            clear HRZ3
            go_wp2_with fail
            refine HRQ.out.mono ?_
            clear HRQ
            rintro e w6 ⟨A6, c6, rfl, hg⟩
            have HAF : Hid (∃ p, AtS w2 w6 gd p NoS ∧ Pow p left true) := ⟨p5, HAE.out.nofr hg.got.fr, HPW.out⟩
            rw [HRZ.out]
            clear hg HRZ
            generalize (pRead p5 name).1.length = n6 at *
            go_wp2_with fail
            go_roundw
            case rel => exact ⟨k + 1, _, _, by omega, by go_num, rfl, rfl, HAF⟩
            case measure => simp [intOf]; omega
        · obtain rfl : dn = false := HPD.out.symm.trans hd
          have HPW : Hid (Pow p5 left false) := ⟨by rw [hl, HPL.out], by omega, by omega, hd2⟩
          have HRZ : Hid ((pRead p5 name).2 ≠ 3) := by
            rcases HRV.out with ⟨_, h⟩ | ⟨h, _⟩
            · rw [hd2] at h; cases h
            · exact h
          have t3 : (z5 == 3) = false := beq_eq_false_iff_ne.2 hz3
          have t4 : decide (z5 = 3) = false := decide_eq_false hz3
          have t5 : (z5 == 0) = false := beq_eq_false_iff_ne.2 hz0
          have t6 : decide (z5 = 0) = false := decide_eq_false hz0
          have t7 : (z5 != 3) = true := bne_iff_ne.2 hz3
          clear HT HRV hd hl hd2
          go_wp2_with fail
          refine HRQ.out.mono ?_
          clear HRQ
          rintro e w6 ⟨A6, c6, rfl, hg⟩
          have HAF : Hid (∃ p, AtS w2 w6 gd p NoS ∧ Pow p left false) := ⟨p5, HAE.out.nofr hg.got.fr, HPW.out⟩
          have hn3 := HRZ.out
          clear hg HRZ
          generalize (pRead p5 name).2 = z6 at *
          generalize (pRead p5 name).1.length = n6 at *
          have t1 : (z6 == 3) = false := beq_eq_false_iff_ne.2 hn3
          have t2 : decide (z6 = 3) = false := decide_eq_false hn3
          go_wp2_with fail
          go_roundw
          case rel => exact ⟨k + 1, _, _, by omega, by go_num, rfl, rfl, HAF⟩
          case measure => simp [intOf]; omega
      · have HC := HSY
        have HT := HT1
        clear HAP HSY HRN HRM HT0 HT1 HT2 HT3
        go_wp2_with fail
        refine HC.out.mono ?_
        clear HC
        rintro e w5 ⟨rfl, ha5, hf5⟩
        have HA5 := Lib.hid ha5
        have HB5 := Lib.hid (HB.out.fr hf5 (fun hc => hc.1 rfl))
        have q2 : w5.cell? ⟨wr.heap.size, 2, none⟩ = some (.string (bstr name)) := HB5.out.cell 2
        clear ha5 hf5 HB
        generalize pSync p name = r5 at *
        obtain ⟨p5, z5⟩ := r5
        dsimp only at HT HA5 ⊢
        have HRQ := Lib.hid (HRD.out w5 p5 HA5.out)
        have HRV := Lib.hid (read_down p5 name)
        have HAE := Lib.hid (HA5.out.prot (Fr.refl NoBlk _) (fun _ _ h => h.elim) (fun _ h => h.elim) : AtS w2 w5 gd p5 NoS)
        clear HA5 HB5 HRD c0 c1 c2 c3 c4 c5 HW
        rcases HT.out with ⟨hz, hd, h1, hl, hd2⟩ | ⟨hz, hl, hd2⟩ | ⟨hz0, hz3, hd, hl, hd2⟩
        · obtain rfl : dn = false := HPD.out.symm.trans hd
          subst hz
          have hle : 1 ≤ left := by rw [← HPL.out]; exact h1
          have HPW : Hid (Pow p5 (left - 1) false) := ⟨by rw [hl, HPL.out], by omega, by omega, hd2⟩
          have HRZ : Hid ((pRead p5 name).2 ≠ 3) := by
            rcases HRV.out with ⟨_, h⟩ | ⟨h, _⟩
            · rw [hd2] at h; cases h
            · exact h
          clear HT HRV hd h1 hl hd2
          go_wp2_with fail
          refine HRQ.out.mono ?_
          clear HRQ
          rintro e w6 ⟨A6, c6, rfl, hg⟩
          have HAF : Hid (∃ p, AtS w2 w6 gd p NoS ∧ Pow p (left - 1) false) := ⟨p5, HAE.out.nofr hg.got.fr, HPW.out⟩
          have hn3 := HRZ.out
          clear hg HRZ
          generalize (pRead p5 name).2 = z6 at *
          generalize (pRead p5 name).1.length = n6 at *
          have t1 : (z6 == 3) = false := beq_eq_false_iff_ne.2 hn3
          have t2 : decide (z6 = 3) = false := decide_eq_false hn3
          go_wp2_with fail
          go_roundw
          case rel => exact ⟨k + 1, _, _, by omega, by go_num, rfl, rfl, HAF⟩
          case measure => simp [intOf]; omega
        · subst hz
          have HPW : Hid (Pow p5 left true) := ⟨by rw [hl, HPL.out], by omega, by omega, hd2⟩
          have HRZ : Hid ((pRead p5 name).2 = 3) := by
            rcases HRV.out with ⟨h, _⟩ | ⟨_, h⟩
            · exact h
            · rw [hd2] at h; cases h
          clear HT HRV hl hd2
          have HRZ3 := HRZ.out
          cases dn
          all_goals
            clear HRZ3
            go_wp2_with fail
            refine HRQ.out.mono ?_
            clear HRQ
            rintro e w6 ⟨A6, c6, rfl, hg⟩
            have HAF : Hid (∃ p, AtS w2 w6 gd p NoS ∧ Pow p left true) := ⟨p5, HAE.out.nofr hg.got.fr, HPW.out⟩
            rw [HRZ.out]
            clear hg HRZ
            generalize (pRead p5 name).1.length = n6 at *
            go_wp2_with fail
            go_roundw
            case rel => exact ⟨k + 1, _, _, by omega, by go_num, rfl, rfl, HAF⟩
            case measure => simp [intOf]; omega
        · obtain rfl : dn = false := HPD.out.symm.trans hd
          have HPW : Hid (Pow p5 left false) := ⟨by rw [hl, HPL.out], by omega, by omega, hd2⟩
          have HRZ : Hid ((pRead p5 name).2 ≠ 3) := by
            rcases HRV.out with ⟨_, h⟩ | ⟨h, _⟩
            · rw [hd2] at h; cases h
            · exact h
          have t3 : (z5 == 3) = false := beq_eq_false_iff_ne.2 hz3
          have t4 : decide (z5 = 3) = false := decide_eq_false hz3
          have t5 : (z5 == 0) = false := beq_eq_false_iff_ne.2 hz0
          have t6 : decide (z5 = 0) = false := decide_eq_false hz0
          have t7 : (z5 != 3) = true := bne_iff_ne.2 hz3
          clear HT HRV hd hl hd2
          go_wp2_with fail
          refine HRQ.out.mono ?_
          clear HRQ
          rintro e w6 ⟨A6, c6, rfl, hg⟩
          have HAF : Hid (∃ p, AtS w2 w6 gd p NoS ∧ Pow p left false) := ⟨p5, HAE.out.nofr hg.got.fr, HPW.out⟩
          have hn3 := HRZ.out
          clear hg HRZ
          generalize (pRead p5 name).2 = z6 at *
          generalize (pRead p5 name).1.length = n6 at *
          have t1 : (z6 == 3) = false := beq_eq_false_iff_ne.2 hn3
          have t2 : decide (z6 = 3) = false := decide_eq_false hn3
          go_wp2_with fail
          go_roundw
          case rel => exact ⟨k + 1, _, _, by omega, by go_num, rfl, rfl, HAF⟩
          case measure => simp [intOf]; omega
      · have HC := HRN
        have HT := HT2
        clear HAP HSY HRN HRM HT0 HT1 HT2 HT3
        go_wp2_with fail
        refine HC.out.mono ?_
        clear HC
        rintro e w5 ⟨rfl, ha5, hf5⟩
        have HA5 := Lib.hid ha5
        have HB5 := Lib.hid (HB.out.fr hf5 (fun hc => hc.1 rfl))
        have q2 : w5.cell? ⟨wr.heap.size, 2, none⟩ = some (.string (bstr name)) := HB5.out.cell 2
        clear ha5 hf5 HB
        generalize pRename p name tt = r5 at *
        obtain ⟨p5, z5⟩ := r5
        dsimp only at HT HA5 ⊢
        have HRQ := Lib.hid (HRD.out w5 p5 HA5.out)
        have HRV := Lib.hid (read_down p5 name)
        have HAE := Lib.hid (HA5.out.prot (Fr.refl NoBlk _) (fun _ _ h => h.elim) (fun _ h => h.elim) : AtS w2 w5 gd p5 NoS)
        clear HA5 HB5 HRD c0 c1 c2 c3 c4 c5 HW
        rcases HT.out with ⟨hz, hd, h1, hl, hd2⟩ | ⟨hz, hl, hd2⟩ | ⟨hz0, hz3, hd, hl, hd2⟩
        · obtain rfl : dn = false := HPD.out.symm.trans hd
          subst hz
          have hle : 1 ≤ left := by rw [← HPL.out]; exact h1
          have HPW : Hid (Pow p5 (left - 1) false) := ⟨by rw [hl, HPL.out], by omega, by omega, hd2⟩
          have HRZ : Hid ((pRead p5 name).2 ≠ 3) := by
            rcases HRV.out with ⟨_, h⟩ | ⟨h, _⟩
            · rw [hd2] at h; cases h
            · exact h
          clear HT HRV hd h1 hl hd2
          go_wp2_with fail
          refine HRQ.out.mono ?_
          clear HRQ
          rintro e w6 ⟨A6, c6, rfl, hg⟩
          have HAF : Hid (∃ p, AtS w2 w6 gd p NoS ∧ Pow p (left - 1) false) := ⟨p5, HAE.out.nofr hg.got.fr, HPW.out⟩
          have hn3 := HRZ.out
          clear hg HRZ
          generalize (pRead p5 name).2 = z6 at *
          generalize (pRead p5 name).1.length = n6 at *
          have t1 : (z6 == 3) = false := beq_eq_false_iff_ne.2 hn3
          have t2 : decide (z6 = 3) = false := decide_eq_false hn3
          go_wp2_with fail
          go_roundw
          case rel => exact ⟨k + 1, _, _, by omega, by go_num, rfl, rfl, HAF⟩
          case measure => simp [intOf]; omega
        · subst hz
          have HPW : Hid (Pow p5 left true) := ⟨by rw [hl, HPL.out], by omega, by omega, hd2⟩
          have HRZ : Hid ((pRead p5 name).2 = 3) := by
            rcases HRV.out with ⟨h, _⟩ | ⟨_, h⟩
            · exact h
            · rw [hd2] at h; cases h
          clear HT HRV hl hd2
          have HRZ3 := HRZ.out
          cases dn
          all_goals
            clear HRZ3
            go_wp2_with fail
            refine HRQ.out.mono ?_
            clear HRQ
            rintro e w6 ⟨A6, c6, rfl, hg⟩
            have HAF : Hid (∃ p, AtS w2 w6 gd p NoS ∧ Pow p left true) := ⟨p5, HAE.out.nofr hg.got.fr, HPW.out⟩
            rw [HRZ.out]
            clear hg HRZ
            generalize (pRead p5 name).1.length = n6 at *
            go_wp2_with fail
            go_roundw
            case rel => exact ⟨k + 1, _, _, by omega, by go_num, rfl, rfl, HAF⟩
            case measure => simp [intOf]; omega
        · obtain rfl : dn = false := HPD.out.symm.trans hd
          have HPW : Hid (Pow p5 left false) := ⟨by rw [hl, HPL.out], by omega, by omega, hd2⟩
          have HRZ : Hid ((pRead p5 name).2 ≠ 3) := by
            rcases HRV.out with ⟨_, h⟩ | ⟨h, _⟩
            · rw [hd2] at h; cases h
            · exact h
          have t3 : (z5 == 3) = false := beq_eq_false_iff_ne.2 hz3
          have t4 : decide (z5 = 3) = false := decide_eq_false hz3
          have t5 : (z5 == 0) = false := beq_eq_false_iff_ne.2 hz0
          have t6 : decide (z5 = 0) = false := decide_eq_false hz0
          have t7 : (z5 != 3) = true := bne_iff_ne.2 hz3
          clear HT HRV hd hl hd2
          go_wp2_with fail
          refine HRQ.out.mono ?_
          clear HRQ
          rintro e w6 ⟨A6, c6, rfl, hg⟩
          have HAF : Hid (∃ p, AtS w2 w6 gd p NoS ∧ Pow p left false) := ⟨p5, HAE.out.nofr hg.got.fr, HPW.out⟩
          have hn3 := HRZ.out
          clear hg HRZ
          generalize (pRead p5 name).2 = z6 at *
          generalize (pRead p5 name).1.length = n6 at *
          have t1 : (z6 == 3) = false := beq_eq_false_iff_ne.2 hn3
          have t2 : decide (z6 = 3) = false := decide_eq_false hn3
          go_wp2_with fail
          go_roundw
          case rel => exact ⟨k + 1, _, _, by omega, by go_num, rfl, rfl, HAF⟩
          case measure => simp [intOf]; omega
      · have HC := HRM
        have HT := HT3
        clear HAP HSY HRN HRM HT0 HT1 HT2 HT3
        go_wp2_with fail
        refine HC.out.mono ?_
        clear HC
        rintro e w5 ⟨rfl, ha5, hf5⟩
        have HA5 := Lib.hid ha5
        have HB5 := Lib.hid (HB.out.fr hf5 (fun hc => hc.1 rfl))
        have q2 : w5.cell? ⟨wr.heap.size, 2, none⟩ = some (.string (bstr name)) := HB5.out.cell 2
        clear ha5 hf5 HB
        generalize pRemove p name = r5 at *
        obtain ⟨p5, z5⟩ := r5
        dsimp only at HT HA5 ⊢
        have HRQ := Lib.hid (HRD.out w5 p5 HA5.out)
        have HRV := Lib.hid (read_down p5 name)
        have HAE := Lib.hid (HA5.out.prot (Fr.refl NoBlk _) (fun _ _ h => h.elim) (fun _ h => h.elim) : AtS w2 w5 gd p5 NoS)
        clear HA5 HB5 HRD c0 c1 c2 c3 c4 c5 HW
        rcases HT.out with ⟨hz, hd, h1, hl, hd2⟩ | ⟨hz, hl, hd2⟩ | ⟨hz0, hz3, hd, hl, hd2⟩
        · obtain rfl : dn = false := HPD.out.symm.trans hd
          subst hz
          have hle : 1 ≤ left := by rw [← HPL.out]; exact h1
          have HPW : Hid (Pow p5 (left - 1) false) := ⟨by rw [hl, HPL.out], by omega, by omega, hd2⟩
          have HRZ : Hid ((pRead p5 name).2 ≠ 3) := by
            rcases HRV.out with ⟨_, h⟩ | ⟨h, _⟩
            · rw [hd2] at h; cases h
            · exact h
          clear HT HRV hd h1 hl hd2
          go_wp2_with fail
          refine HRQ.out.mono ?_
          clear HRQ
          rintro e w6 ⟨A6, c6, rfl, hg⟩
          have HAF : Hid (∃ p, AtS w2 w6 gd p NoS ∧ Pow p (left - 1) false) := ⟨p5, HAE.out.nofr hg.got.fr, HPW.out⟩
          have hn3 := HRZ.out
          clear hg HRZ
          generalize (pRead p5 name).2 = z6 at *
          generalize (pRead p5 name).1.length = n6 at *
          have t1 : (z6 == 3) = false := beq_eq_false_iff_ne.2 hn3
          have t2 : decide (z6 = 3) = false := decide_eq_false hn3
          go_wp2_with fail
          go_roundw
          case rel => exact ⟨k + 1, _, _, by omega, by go_num, rfl, rfl, HAF⟩
          case measure => simp [intOf]; omega
        · subst hz
          have HPW : Hid (Pow p5 left true) := ⟨by rw [hl, HPL.out], by omega, by omega, hd2⟩
          have HRZ : Hid ((pRead p5 name).2 = 3) := by
            rcases HRV.out with ⟨h, _⟩ | ⟨_, h⟩
            · exact h
            · rw [hd2] at h; cases h
          clear HT HRV hl hd2
          have HRZ3 := HRZ.out
          cases dn
          all_goals
            clear HRZ3
            go_wp2_with fail
            refine HRQ.out.mono ?_
            clear HRQ
            rintro e w6 ⟨A6, c6, rfl, hg⟩
            have HAF : Hid (∃ p, AtS w2 w6 gd p NoS ∧ Pow p left true) := ⟨p5, HAE.out.nofr hg.got.fr, HPW.out⟩
            rw [HRZ.out]
            clear hg HRZ
            generalize (pRead p5 name).1.length = n6 at *
            go_wp2_with fail
            go_roundw
            case rel => exact ⟨k + 1, _, _, by omega, by go_num, rfl, rfl, HAF⟩
            case measure => simp [intOf]; omega
        · obtain rfl : dn = false := HPD.out.symm.trans hd
          have HPW : Hid (Pow p5 left false) := ⟨by rw [hl, HPL.out], by omega, by omega, hd2⟩
          have HRZ : Hid ((pRead p5 name).2 ≠ 3) := by
            rcases HRV.out with ⟨_, h⟩ | ⟨h, _⟩
            · rw [hd2] at h; cases h
            · exact h
          have t3 : (z5 == 3) = false := beq_eq_false_iff_ne.2 hz3
          have t4 : decide (z5 = 3) = false := decide_eq_false hz3
          have t5 : (z5 == 0) = false := beq_eq_false_iff_ne.2 hz0
          have t6 : decide (z5 = 0) = false := decide_eq_false hz0
          have t7 : (z5 != 3) = true := bne_iff_ne.2 hz3
          clear HT HRV hd hl hd2
          go_wp2_with fail
          refine HRQ.out.mono ?_
          clear HRQ
          rintro e w6 ⟨A6, c6, rfl, hg⟩
          have HAF : Hid (∃ p, AtS w2 w6 gd p NoS ∧ Pow p left false) := ⟨p5, HAE.out.nofr hg.got.fr, HPW.out⟩
          have hn3 := HRZ.out
          clear hg HRZ
          generalize (pRead p5 name).2 = z6 at *
          generalize (pRead p5 name).1.length = n6 at *
          have t1 : (z6 == 3) = false := beq_eq_false_iff_ne.2 hn3
          have t2 : decide (z6 = 3) = false := decide_eq_false hn3
          go_wp2_with fail
          go_roundw
          case rel => exact ⟨k + 1, _, _, by omega, by go_num, rfl, rfl, HAF⟩
          case measure => simp [intOf]; omega
    · go_wp2_with fail
      go_ret
      exact ⟨rfl, HFR.out⟩

theorem paramsOk : ∀ t ∈ Try.f9.params.toList, Try.prog.readableRec t = true ∧ t < Try.prog.types.size := fun t ht => by
  have h := List.all_eq_true.1 (show (Try.f9.params.toList.all fun t => Try.prog.readableRec t && decide (t < Try.prog.types.size)) = true by kernel_rfl) t ht
  simpa using h

set_option maxRecDepth 100000 in
theorem lifted (os : Os) (started : os.Started) (H : Type) (enc : TypeId × Value → H) :
    ReturnsInHanded {} Try.checked os 9 .any (Rows.diskStopsSpec.pre6 enc Try.prog Try.f9 Rows.diskStopsRow.domain false) (Rows.diskStopsSpec.post enc Try.prog Try.f9 false true false false) := by
  refine returnsInHanded_of_change (C := Try.checked) own started (by kernel_rfl) Try.func9
    (ChangeSpec.witness6 (enc := enc) (C := Try.checked) false ⟨#[], #[.slice none 0 0, .int .i64 0], []⟩ 8 (by kernel_rfl) (by kernel_rfl) (by kernel_rfl) (by kernel_rfl)) ?_
  intro W base args ds gs before hval0 hW _ _
  have hval : ∀ (j : Nat) t v, Try.f9.params[j]? = some t → args[j]? = some v → Value.okWide Try.prog W .any base t v := hval0
  have hW' := hW
  obtain ⟨p, q, hA0, hV, rfl, _, _⟩ := hW
  have hA : DataW.TrodAll enc Try.prog W 0 (fun _ => true) true Try.f9.params.toList args.toList ds p := hA0
  rw [Try.params9] at hA hval
  obtain ⟨v0, vs0, d0, ds0, p0, q0, hargs, rfl, rfl, h0, r0⟩ := trodAll_cons hA
  obtain ⟨v1, vs1, d1, ds1, p1, q1, rfl, rfl, rfl, h1, r1⟩ := trodAll_cons r0
  obtain ⟨rfl, rfl, rfl⟩ := trodAll_nil r1
  obtain rfl : args = #[v0, v1] := by cases args; simp_all
  obtain ⟨rfl, rfl⟩ := trodVars_none hV
  obtain ⟨A, c, xs, rfl, hr, hx, hxc, hc⟩ := open_ops (hval 0 _ v0 rfl rfl) h0
  obtain ⟨n, rfl, rfl, rfl, wn⟩ := open_int Try.underlying3 (hval 1 _ v1 rfl rfl) h1
  have walk := walk W A c xs n hr hx (Nat.le_trans hxc hc)
  clear hA0 hval0
  refine walk.mono fun e W' ⟨he, hf⟩ => ?_
  subst he
  exact ⟨_, rfl, law_post laidOut paramsOk rfl rfl Try.underlying4 hW' rfl rfl rfl hf⟩

theorem said : Rows.DiskStopsSaid :=
  OpenClaim.holds_of_wide 9 Try.f9 rfl rfl rfl rfl rfl rfl rfl ⟨rfl, rfl, rfl, rfl, rfl⟩ rfl rfl rfl rfl rfl (by kernel_rfl) Try.func9 (by kernel_rfl)
    (of_decide_eq_true (by kernel_rfl)) (by unfold Func.isWrapper; first | (rw [if_pos (by decide +kernel)]; kernel_rfl) | (rw [if_neg (by decide +kernel)]; exact ⟨rfl, rfl⟩))
    (fun os started H enc _ => lifted os started H enc)
end Go.Proofs.Ytbkcjaagdcijmaa.diskStops
