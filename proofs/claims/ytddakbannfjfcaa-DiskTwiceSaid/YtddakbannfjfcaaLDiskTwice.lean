/- DiskTwice is true: a second crash changes nothing of what is there behind the first. No condition. -/
import Derived.Test.YtddakbannfjfcaaLawp
import Derived.Test.YtddakbannfjfcaaTwiceP
namespace Go.Proofs.Ytddakbannfjfcaa.diskTwice
open Go.ChangeShapes Go.WideShapes Go.ChangeAt Go.RowKit

set_option maxRecDepth 100000 in
set_option maxHeartbeats 4000000 in
theorem walk (w : World) (A : Option Addr) (c : Nat) (xs : List Opn) (K1 : Option Addr) (kc1 : Nat) (ks1 : List Int) (K2 : Option Addr) (kc2 : Nat) (ks2 : List Int) (hr : Rd w A (opsc xs)) (hx : ∀ x ∈ xs, OpIn w x) (hm : xs.length ≤ maxLen)
    (hk1 : Rd w K1 (ics ks1)) (hl1 : ks1.length ≤ maxLen) (hk2 : Rd w K2 (ics ks2)) (hl2 : ks2.length ≤ maxLen) :
    Calls Try.prog 8 #[.slice A xs.length c, .slice K1 ks1.length kc1, .slice K2 ks2.length kc2] w fun e w' => e = .returned (.bool true) ∧ Fr NoBlk w w' := by
  have HR := Lib.hid hr
  have HX := Lib.hid hx
  have HM := Lib.hid hm
  have HK1 := Lib.hid hk1
  have HL1 := Lib.hid hl1
  have HK2 := Lib.hid hk2
  have HL2 := Lib.hid hl2
  clear hr hx hk1 hk2
  unfold maxLen at hm hl1 hl2
  go_enter Try.func8, Try.ntmps8
  go_wp2_with fail
  refine (speaks_any w).mono ?_
  rintro e w1 ⟨rfl, hf1⟩
  have HF1 := Lib.hid hf1
  clear hf1
  go_wp2_with fail
  refine (great_any w1 A c xs (HR.out.nofr HF1.out) (fun x h => (HX.out x h).nofr HF1.out) HM.out).mono ?_
  rintro e w2 ⟨⟨bb, rfl, hsm⟩, hf2⟩
  have HF2 := Lib.hid (HF1.out.trans hf2)
  have HSM := Lib.hid hsm
  clear hf2 hsm
  cases bb
  rotate_left
  · go_wp2_with fail
    go_ret
    exact ⟨rfl, HF2.out⟩
  have HS := Lib.hid (HSM.out rfl)
  clear HSM
  by_cases hb1 : 100 < ks1.length
  · go_wp2_with fail
    go_ret
    exact ⟨rfl, HF2.out⟩
  by_cases hb2 : 100 < ks2.length
  · go_wp2_with fail
    go_ret
    exact ⟨rfl, HF2.out⟩
  go_wp2_with fail
  refine (new_at w2 w2 (Fr.refl _ _) 10000 (by omega) (by omega)).mono ?_
  rintro e w3 ⟨gd, rfl, h3, hf3⟩
  have H3 : Hid (∃ p, AtS w2 w3 gd p NoS) := ⟨_, h3.prot (Fr.refl NoBlk _) fun _ h => h.elim⟩
  clear h3 hf3
  go_wp2_with fail
  go_loopw [41] (fun s wr => ∃ i : Nat, i ≤ xs.length ∧ s = .int .i64 i ∧ Hid (∃ p, AtS w2 wr gd p NoS)) (fun s _ => xs.length - (intOf s).toNat)
  case atStart => exact ⟨0, Nat.zero_le _, rfl, H3⟩
  case round =>
    clear H3
    obtain ⟨k, hk, rfl, HE⟩ := hrel
    obtain ⟨p, hp⟩ := HE.out
    have HA := Lib.hid hp
    have HFR := Lib.hid (HF2.out.trans hp.fr)
    clear hp HE
    by_cases hlt : k < xs.length
    · obtain ⟨x, hx⟩ : ∃ x, xs[k]? = some x := ⟨_, List.getElem?_eq_getElem hlt⟩
      obtain ⟨b, o, rfl, c0, c1, c2, c3, c4, c5⟩ := (HR.out.nofr HFR.out).opn hx
      have HV := Lib.hid ((HX.out x (List.mem_of_getElem? hx)).nofr HFR.out)
      have HSX := Lib.hid (HS.out.o x (List.mem_of_getElem? hx))
      have HW : Hid (Fr NoBlk wr (wr.alloc (.cells (opa x) 34))) := (Fr.refl _ _).alloc _
      have HB : Hid (Bk (wr.alloc (.cells (opa x) 34)) wr.heap.size 34 (opa x)) := Bk.new _ _ _
      clear hx
      obtain ⟨kind, n, name, tt, ⟨va, vc, vb⟩, ⟨ka, kc, kb⟩⟩ := x
      have HA2 := Lib.hid (HA.out.nofr HW.out)
      have HAP := Lib.hid (appendS HA2.out (fun _ h => h.elim) name HV.out.2.2.1 va vb.length vc vb rfl (HV.out.1.1.1.nofr HW.out) HV.out.1.1.2 (by have := HSX.out.1; unfold maxLen; dsimp only at this; omega))
      have HSY := Lib.hid (syncS HA2.out (fun _ h => h.elim) name HV.out.2.2.1)
      unfold opa at HW HB HA2 HAP HSY
      unfold st at c2 c3 HW HB HA2 HAP HSY
      unfold sl at c4 HW HB HA2 HAP HSY
      unfold nsl at c5 HW HB HA2 HAP HSY
      dsimp only at c0 c1 c2 c3 c4 c5 HW HB HA2 HAP HSY
      obtain ⟨q, hq, hq1⟩ := low_bits kind 1 (by omega)
      rw [show ((1 : Nat) : Int) = 1 from rfl] at hq
      by_cases hq0 : q = 0
      · subst hq0
        go_wp2_with fail
        refine HAP.out.mono ?_
        clear HAP HSY
        rintro e w5 ⟨rfl, ha5, _⟩
        have H5 : Hid (∃ p, AtS w2 w5 gd p NoS) := ⟨_, ha5⟩
        clear ha5
        go_wp2_with fail
        go_roundw
        case rel => exact ⟨k + 1, by omega, by go_num, H5⟩
        case measure => simp [intOf]; omega
      · obtain rfl : q = 1 := by omega
        go_wp2_with fail
        refine HSY.out.mono ?_
        clear HAP HSY
        rintro e w5 ⟨rfl, ha5, _⟩
        have H5 : Hid (∃ p, AtS w2 w5 gd p NoS) := ⟨_, ha5⟩
        clear ha5
        go_wp2_with fail
        go_roundw
        case rel => exact ⟨k + 1, by omega, by go_num, H5⟩
        case measure => simp [intOf]; omega
    · have HC := Lib.hid (crashS HA.out K1 ks1.length kc1 ks1 rfl (HK1.out.nofr HFR.out) HL1.out)
      go_wp2_with fail
      refine HC.out.mono ?_
      clear HC
      rintro e w5 ⟨gx, rfl, hx5, hf5⟩
      have HX5 := Lib.hid (hx5 NoS fun _ h => h.elim)
      have HF5 := Lib.hid (HFR.out.trans hf5)
      obtain ⟨px, hpx⟩ : ∃ px, px = pCrash p ks1 := ⟨_, rfl⟩
      have HTW : Hid (∀ b, pCrash px b = px) := fun b => by rw [hpx]; exact crash_twice p HA.out.fits.2.2.2.2 ks1 b
      have HRE : Hid (∀ k ∈ px.files.map (·.name), ∃ d, pRead px k = (d, 0)) := by rw [hpx]; exact crash_read p ks1
      rw [← hpx] at HX5
      have HC := Lib.hid (crashS HX5.out K2 ks2.length kc2 ks2 rfl (HK2.out.nofr HF5.out) HL2.out)
      rw [HTW.out] at HC
      clear hx5 hf5 hpx HA HTW
      go_wp2_with fail
      refine HC.out.mono ?_
      clear HC
      rintro e w6 ⟨gy, rfl, hx6, hf6⟩
      have HY6 := Lib.hid (hx6 NoS fun _ h => h.elim)
      have HX6 := Lib.hid (HX5.out.nofr hf6)
      have HU := Lib.hid (usedS HX6.out)
      clear hx6 hf6
      go_wp2_with fail
      refine HU.out.mono ?_
      clear HU
      rintro e w7 ⟨rfl, hf7⟩
      have HY7 := Lib.hid (HY6.out.nofr hf7)
      have HX7 := Lib.hid (HX6.out.nofr hf7)
      have HU := Lib.hid (usedS HY7.out)
      clear hf7
      go_wp2_with fail
      refine HU.out.mono ?_
      clear HU
      rintro e w8 ⟨rfl, hf8⟩
      have HY8 := Lib.hid (HY7.out.nofr hf8)
      have HX8 := Lib.hid (HX7.out.nofr hf8)
      have HN := Lib.hid (namesS HX8.out)
      clear hf8 HX5 HX6 HX7 HY6 HY7
      go_wp2_with fail
      refine HN.out.mono ?_
      clear HN
      obtain ⟨ns, hns⟩ : ∃ ns, ns = px.files.map (·.name) := ⟨_, rfl⟩
      have HLN : Hid (ns.length ≤ 32) := by show _ ≤ _; rw [hns, List.length_map]; exact HX8.out.fits.2.2.1
      have HNM : Hid (∀ k ∈ ns, k.length ≤ maxLen) := by
        intro k hk
        rw [hns] at hk
        obtain ⟨f, hf, rfl⟩ := List.mem_map.1 hk
        have := HX8.out.names f hf
        unfold maxLen; omega
      rw [← hns] at HRE ⊢
      clear hns
      rintro e w9 ⟨A9, c9, rfl, ht⟩
      have HRN := Lib.hid ht.rd
      have HX9 := Lib.hid (HX8.out.nofr ht.fr)
      have HY9 := Lib.hid (HY8.out.nofr ht.fr)
      clear ht HX8 HY8
      have hn32 := HLN.out
      go_wp2_with fail
      go_loopw [80] (fun s wr => ∃ i : Nat, i ≤ ns.length ∧ s = .int .i64 i ∧ Hid (AtS w2 wr gx px NoS) ∧ Hid (AtS w2 wr gy px NoS) ∧ Hid (Rd wr A9 (sts ns))) (fun s _ => ns.length - (intOf s).toNat)
      case atStart => exact ⟨0, Nat.zero_le _, rfl, HX9, HY9, HRN⟩
      case round =>
        clear HX9 HY9 HRN
        obtain ⟨j, hj, rfl, HXR, HYR, HRR⟩ := hrel
        by_cases hlt2 : j < ns.length
        · obtain ⟨b, o, rfl, hcell⟩ := HRR.out.text (k := j) hlt2
          have hmem : ns.getD j [] ∈ ns := by
            rw [List.getD_eq_getElem?_getD, List.getElem?_eq_getElem hlt2]
            exact List.getElem_mem hlt2
          obtain ⟨d, hd⟩ := HRE.out _ hmem
          have hq1 := readS HXR.out (ns.getD j []) (HNM.out _ hmem)
          rw [hd] at hq1
          have HQ1 := Lib.hid hq1
          have HQ2 := Lib.hid fun W (h : AtS w2 W gy px NoS) => readS h (ns.getD j []) (HNM.out _ hmem)
          rw [hd] at HQ2
          clear hq1 hmem hd
          generalize ns.getD j [] = nm at *
          go_wp2_with fail
          refine HQ1.out.mono ?_
          clear HQ1
          rintro e w10 ⟨B1, d1, rfl, hg1⟩
          have HY10 := Lib.hid (HYR.out.nofr hg1.got.fr)
          have HX10 := Lib.hid (HXR.out.nofr hg1.got.fr)
          have HR10 := Lib.hid (HRR.out.nofr hg1.got.fr)
          have HG1 := Lib.hid hg1.got.rd
          have HQ := Lib.hid (HQ2.out w10 HY10.out)
          clear hg1 HQ2
          go_wp2_with fail
          refine HQ.out.mono ?_
          clear HQ
          rintro e w11 ⟨B2, d2, rfl, hg2⟩
          have HY11 := Lib.hid (HY10.out.nofr hg2.got.fr)
          have HX11 := Lib.hid (HX10.out.nofr hg2.got.fr)
          have HR11 := Lib.hid (HR10.out.nofr hg2.got.fr)
          have s1 := strBs w11 B1 _ d1 d rfl (HG1.out.nofr hg2.got.fr)
          have s2 := strBs w11 B2 _ d2 d rfl hg2.got.rd
          clear hg2
          generalize d.length = dn at *
          go_wp2_with fail
          go_roundw
          case rel => exact ⟨j + 1, by omega, by go_num, HX11, HY11, HR11⟩
          case measure => simp [intOf]; omega
        · have HFZ := Lib.hid (HF2.out.trans HXR.out.fr)
          go_wp2_with fail
          go_ret
          exact ⟨rfl, HFZ.out⟩

theorem paramsOk : ∀ t ∈ Try.f8.params.toList, Try.prog.readableRec t = true ∧ t < Try.prog.types.size := fun t ht => by
  have h := List.all_eq_true.1 (show (Try.f8.params.toList.all fun t => Try.prog.readableRec t && decide (t < Try.prog.types.size)) = true by kernel_rfl) t ht
  simpa using h

set_option maxRecDepth 100000 in
theorem lifted (os : Os) (started : os.Started) (H : Type) (enc : TypeId × Value → H) :
    ReturnsInHanded {} Try.checked os 8 .any (Rows.diskTwiceSpec.pre6 enc Try.prog Try.f8 Rows.diskTwiceRow.domain false) (Rows.diskTwiceSpec.post enc Try.prog Try.f8 false true false false) := by
  refine returnsInHanded_of_change (C := Try.checked) own started (by kernel_rfl) Try.func8
    (ChangeSpec.witness6 (enc := enc) (C := Try.checked) false ⟨#[], #[.slice none 0 0, .slice none 0 0, .slice none 0 0], []⟩ 8 (by kernel_rfl) (by kernel_rfl) (by kernel_rfl) (by kernel_rfl)) ?_
  intro W base args ds gs before hval0 hW _ _
  have hval : ∀ (j : Nat) t v, Try.f8.params[j]? = some t → args[j]? = some v → Value.okWide Try.prog W .any base t v := hval0
  have hW' := hW
  obtain ⟨p, q, hA0, hV, rfl, _, _⟩ := hW
  have hA : DataW.TrodAll enc Try.prog W 0 (fun _ => true) true Try.f8.params.toList args.toList ds p := hA0
  rw [Try.params8] at hA hval
  obtain ⟨v0, vs0, d0, ds0, p0, q0, hargs, rfl, rfl, h0, r0⟩ := trodAll_cons hA
  obtain ⟨v1, vs1, d1, ds1, p1, q1, rfl, rfl, rfl, h1, r1⟩ := trodAll_cons r0
  obtain ⟨v2, vs2, d2, ds2, p2, q2, rfl, rfl, rfl, h2, r2⟩ := trodAll_cons r1
  obtain ⟨rfl, rfl, rfl⟩ := trodAll_nil r2
  obtain rfl : args = #[v0, v1, v2] := by cases args; simp_all
  obtain ⟨rfl, rfl⟩ := trodVars_none hV
  obtain ⟨A, c, xs, rfl, hr, hx, hxc, hc⟩ := open_ops (hval 0 _ v0 rfl rfl) h0
  obtain ⟨K1, kc1, ks1, rfl, hk1, _, hkc1, hkm1⟩ := open_ints1 (hval 1 _ v1 rfl rfl) h1
  obtain ⟨K2, kc2, ks2, rfl, hk2, _, hkc2, hkm2⟩ := open_ints1 (hval 2 _ v2 rfl rfl) h2
  have walk := walk W A c xs K1 kc1 ks1 K2 kc2 ks2 hr hx (Nat.le_trans hxc hc) hk1 (Nat.le_trans hkc1 hkm1) hk2 (Nat.le_trans hkc2 hkm2)
  clear hA0 hval0
  refine walk.mono fun e W' ⟨he, hf⟩ => ?_
  subst he
  exact ⟨_, rfl, law_post laidOut paramsOk rfl rfl Try.underlying4 hW' rfl rfl rfl hf⟩

theorem said : Rows.DiskTwiceSaid :=
  OpenClaim.holds_of_wide 8 Try.f8 rfl rfl rfl rfl rfl rfl rfl ⟨rfl, rfl, rfl, rfl, rfl⟩ rfl rfl rfl rfl rfl (by kernel_rfl) Try.func8 (by kernel_rfl)
    (of_decide_eq_true (by kernel_rfl)) (by unfold Func.isWrapper; first | (rw [if_pos (by decide +kernel)]; kernel_rfl) | (rw [if_neg (by decide +kernel)]; exact ⟨rfl, rfl⟩))
    (fun os started H enc _ => lifted os started H enc)
end Go.Proofs.Ytddakbannfjfcaa.diskTwice
