/- DiskApart is true: a disk that crashed and the one that it was don't see each other. No condition. -/
import Derived.Test.YtddakbannfjfcaaLawp
import Derived.Test.YtddakbannfjfcaaApartP
import Derived.Lib.SlBytesConst
namespace Go.Proofs.Ytddakbannfjfcaa.diskApart
open Go.ChangeShapes Go.WideShapes Go.ChangeAt Go.RowKit

set_option maxRecDepth 100000 in
set_option maxHeartbeats 4000000 in
theorem walk (w : World) (A : Option Addr) (c : Nat) (xs : List Opn) (K1 : Option Addr) (kc1 : Nat) (ks1 : List Int) (hr : Rd w A (opsc xs)) (hx : ∀ x ∈ xs, OpIn w x) (hm : xs.length ≤ maxLen)
    (hk1 : Rd w K1 (ics ks1)) (hl1 : ks1.length ≤ maxLen) :
    Calls Try.prog 7 #[.slice A xs.length c, .slice K1 ks1.length kc1] w fun e w' => e = .returned (.bool true) ∧ Fr NoBlk w w' := by
  have HR := Lib.hid hr
  have HX := Lib.hid hx
  have HM := Lib.hid hm
  have HK1 := Lib.hid hk1
  have HL1 := Lib.hid hl1
  clear hr hx hk1
  unfold maxLen at hm hl1
  go_enter Try.func7, Try.ntmps7
  go_wp2_with fail
  refine (speaks_any w).mono ?_
  rintro e w1 ⟨rfl, hf1⟩
  have HF1 := Lib.hid hf1
  clear hf1
  go_wp2_with fail
  refine (great_any w1 A c xs (HR.out.nofr HF1.out) (fun x h => (HX.out x h).nofr HF1.out) HM.out).mono ?_
  rintro e w2 ⟨⟨bb, rfl, hsm⟩, hf2⟩
  have HF2 := Lib.hid (HF1.out.trans hf2)
  have HSM := Lib.hid hsm
  clear hf2 hsm
  cases bb
  rotate_left
  · go_wp2_with fail
    go_ret
    exact ⟨rfl, HF2.out⟩
  have HS := Lib.hid (HSM.out rfl)
  clear HSM
  by_cases hb1 : 100 < ks1.length
  · go_wp2_with fail
    go_ret
    exact ⟨rfl, HF2.out⟩
  go_wp2_with fail
  refine (new_at w2 w2 (Fr.refl _ _) 10000 (by omega) (by omega)).mono ?_
  rintro e w3 ⟨gd, rfl, h3, hf3⟩
  have H3 : Hid (∃ p, AtS w2 w3 gd p NoS ∧ On p) := ⟨_, h3.prot (Fr.refl NoBlk _) (fun _ h => h.elim), rfl, rfl⟩
  clear h3 hf3
  go_wp2_with fail
  go_loopw [39] (fun s wr => ∃ i : Nat, i ≤ xs.length ∧ s = .int .i64 i ∧ Hid (∃ p, AtS w2 wr gd p NoS ∧ On p)) (fun s _ => xs.length - (intOf s).toNat)
  case atStart => exact ⟨0, Nat.zero_le _, rfl, H3⟩
  case round =>
    clear H3
    obtain ⟨k, hk, rfl, HE⟩ := hrel
    obtain ⟨p, hp, hon⟩ := HE.out
    have HON := Lib.hid hon
    have HA := Lib.hid hp
    have HFR := Lib.hid (HF2.out.trans hp.fr)
    clear hp HE hon
    by_cases hlt : k < xs.length
    · obtain ⟨x, hx⟩ : ∃ x, xs[k]? = some x := ⟨_, List.getElem?_eq_getElem hlt⟩
      obtain ⟨b, o, rfl, c0, c1, c2, c3, c4, c5⟩ := (HR.out.nofr HFR.out).opn hx
      have HV := Lib.hid ((HX.out x (List.mem_of_getElem? hx)).nofr HFR.out)
      have HSX := Lib.hid (HS.out.o x (List.mem_of_getElem? hx))
      have HW : Hid (Fr NoBlk wr (wr.alloc (.cells (opa x) 34))) := (Fr.refl _ _).alloc _
      have HB : Hid (Bk (wr.alloc (.cells (opa x) 34)) wr.heap.size 34 (opa x)) := Bk.new _ _ _
      clear hx
      obtain ⟨kind, n, name, tt, ⟨va, vc, vb⟩, ⟨ka, kc, kb⟩⟩ := x
      have HA2 := Lib.hid (HA.out.nofr HW.out)
      have HAP := Lib.hid (appendS HA2.out (fun _ h => h.elim) name HV.out.2.2.1 va vb.length vc vb rfl (HV.out.1.1.1.nofr HW.out) HV.out.1.1.2 (by have := HSX.out.1; unfold maxLen; dsimp only at this; omega))
      have HSY := Lib.hid (syncS HA2.out (fun _ h => h.elim) name HV.out.2.2.1)
      unfold opa at HW HB HA2 HAP HSY
      unfold st at c2 c3 HW HB HA2 HAP HSY
      unfold sl at c4 HW HB HA2 HAP HSY
      unfold nsl at c5 HW HB HA2 HAP HSY
      dsimp only at c0 c1 c2 c3 c4 c5 HW HB HA2 HAP HSY
      have H5N : Hid (∃ p, AtS w2 (wr.alloc (.cells #[.int .i64 kind, .int .i64 n, .string (bstr name), .string (bstr tt), .slice va vb.length vc, .slice ka kb.length kc] 34)) gd p NoS ∧ On p) := ⟨_, HA2.out, HON.out⟩
      have e4 := bstr_size name
      obtain ⟨q, hq, hq1⟩ := low_bits kind 7 (by omega)
      rw [show ((7 : Nat) : Int) = 7 from rfl] at hq
      by_cases hq4 : q = 4
      · subst hq4
        go_wp2_with fail
        go_roundw
        case rel => exact ⟨k + 1, by omega, by go_num, H5N⟩
        case measure => simp [intOf]; omega
      by_cases hn0 : name.length = 0
      · have hz : ((name.length : Int)) = 0 := by omega
        by_cases hq0 : q = 0
        · subst hq0
          go_wp2_with fail
          refine HSY.out.mono ?_
          clear HAP HSY
          rintro e w5 ⟨rfl, ha5, _⟩
          have H5 : Hid (∃ p, AtS w2 w5 gd p NoS ∧ On p) := ⟨_, ha5, sync_on HON.out _⟩
          clear ha5
          go_wp2_with fail
          go_roundw
          case rel => exact ⟨k + 1, by omega, by go_num, H5⟩
          case measure => simp [intOf]; omega
        · have g1 : ¬ ((q : Int) = 0) := by omega
          have g2 : ¬ ((q : Int) = 4) := by omega
          go_wp2_with fail
          go_roundw
          case rel => exact ⟨k + 1, by omega, by go_num, H5N⟩
          case measure => simp [intOf]; omega
      · have hz : (0 : Int) < (name.length : Int) := by omega
        by_cases hq0 : q = 0
        · subst hq0
          go_wp2_with fail
          refine HSY.out.mono ?_
          clear HAP HSY
          rintro e w5 ⟨rfl, ha5, _⟩
          have H5 : Hid (∃ p, AtS w2 w5 gd p NoS ∧ On p) := ⟨_, ha5, sync_on HON.out _⟩
          clear ha5
          go_wp2_with fail
          go_roundw
          case rel => exact ⟨k + 1, by omega, by go_num, H5⟩
          case measure => simp [intOf]; omega
        · have g1 : ¬ ((q : Int) = 0) := by omega
          have g2 : ¬ ((q : Int) = 4) := by omega
          by_cases hq5 : 4 < q
          · have g3 : (4 : Int) < (q : Int) := by omega
            go_wp2_with fail
            refine HAP.out.mono ?_
            clear HAP HSY
            rintro e w5 ⟨rfl, ha5, _⟩
            have H5 : Hid (∃ p, AtS w2 w5 gd p NoS ∧ On p) := ⟨_, ha5, append_on HON.out _ _⟩
            clear ha5
            go_wp2_with fail
            go_roundw
            case rel => exact ⟨k + 1, by omega, by go_num, H5⟩
            case measure => simp [intOf]; omega
          · have g3 : ¬ (4 : Int) < (q : Int) := by omega
            go_wp2_with fail
            go_roundw
            case rel => exact ⟨k + 1, by omega, by go_num, H5N⟩
            case measure => simp [intOf]; omega
    · have HC := Lib.hid (crashS HA.out K1 ks1.length kc1 ks1 rfl (HK1.out.nofr HFR.out) HL1.out)
      go_wp2_with fail
      refine HC.out.mono ?_
      clear HC
      rintro e w5 ⟨gx, rfl, hx5, hf5⟩
      have HX5 := Lib.hid hx5
      have HF5 := Lib.hid hf5
      have HC := Lib.hid (crashS (HA.out.nofr hf5) K1 ks1.length kc1 ks1 rfl (HK1.out.nofr (HFR.out.trans hf5)) HL1.out)
      clear hx5 hf5
      go_wp2_with fail
      refine HC.out.mono ?_
      clear HC
      rintro e w6 ⟨gy, rfl, hx6, hf6⟩
      have HBE := Lib.hid (Beside.start HA.out HX5.out HF5.out hx6 hf6)
      have HFI := Lib.hid HA.out.fits
      have HNA := Lib.hid HA.out.names
      have HN := Lib.hid (namesN HBE.out.d)
      clear hx6 hf6 HX5 HF5 HA
      go_wp2_with fail
      refine HN.out.mono ?_
      clear HN
      obtain ⟨ns, hns⟩ : ∃ ns, ns = p.files.map (·.name) := ⟨_, rfl⟩
      have HLN : Hid (ns.length ≤ 32) := by show _ ≤ _; rw [hns, List.length_map]; exact HFI.out.2.2.1
      have HNM : Hid (∀ k ∈ ns, k.length ≤ maxLen) := by
        intro k hk
        rw [hns] at hk
        obtain ⟨f, hf, rfl⟩ := List.mem_map.1 hk
        have := HNA.out f hf
        unfold maxLen; omega
      have HRD : Hid (∀ k ∈ ns, ∃ d m, m ≤ d.length ∧ pRead p k = (d, 0) ∧ pRead (pCrash p ks1) k = (d.take m, 0)) := by
        rw [hns]; exact fun k hk => apart_read p HON.out HFI.out.2.2.2.2 ks1 k hk
      have HNX : Hid ((pCrash p ks1).files.map (·.name) = ns) := by rw [hns]; exact crashL_names p.files ks1
      rw [← hns]
      obtain ⟨py, hpy⟩ : ∃ py, py = pCrash p ks1 := ⟨_, rfl⟩
      rw [← hpy] at HRD HNX HBE
      clear hns hpy HFI HNA HON
      rintro e w7 ⟨A9, c9, rfl, ht⟩
      have HRN := Lib.hid ht.rd
      have HB7 : Hid (∃ px, px.files.map (·.name) = ns ∧ Beside w2 w7 gd gy gx p py px (ablk A9)) := ⟨py, HNX.out, HBE.out.more ht.fr fun k hk => .inr (ht.new k hk)⟩
      have HLT := Lib.hid ht.lt
      clear ht HBE
      have hn32 := HLN.out
      go_wp2_with fail
      go_loopw [88] (fun s wr => ∃ i : Nat, i ≤ ns.length ∧ s = .int .i64 i ∧ Hid (∃ px, px.files.map (·.name) = ns ∧ Beside w2 wr gd gy gx p py px (ablk A9)) ∧ Hid (Rd wr A9 (sts ns)) ∧ Hid (∀ k, ablk A9 k → k < wr.heap.size)) (fun s _ => ns.length - (intOf s).toNat)
      case atStart => exact ⟨0, Nat.zero_le _, rfl, HB7, HRN, HLT⟩
      case round =>
        clear HB7 HRN HLT
        obtain ⟨j, hj, rfl, HBX, HRR, HLT⟩ := hrel
        obtain ⟨px, hpx, hbx⟩ := HBX.out
        have HPX := Lib.hid hpx
        have HB := Lib.hid hbx
        clear HBX hpx hbx
        by_cases hlt2 : j < ns.length
        · obtain ⟨b, o, rfl, hcell⟩ := HRR.out.text (k := j) hlt2
          have HMEM : Hid (ns.getD j [] ∈ ns) := by
            show _ ∈ _
            rw [List.getD_eq_getElem?_getD, List.getElem?_eq_getElem hlt2]
            exact List.getElem_mem hlt2
          obtain ⟨d, m, hmd, hd1, hd2⟩ := HRD.out _ HMEM.out
          have HNL := Lib.hid (HNM.out _ HMEM.out)
          generalize ns.getD j [] = nm at *
          have HYR := Lib.hid fun W px E (h : Beside w2 W gd gy gx p py px E) => readS h.y nm HNL.out
          have HDR := Lib.hid fun W px E (h : Beside w2 W gd gy gx p py px E) => readS h.d nm HNL.out
          rw [hd2] at HYR
          rw [hd1] at HDR
          obtain ⟨dm, hdm⟩ : ∃ dm, dm = d.take m := ⟨_, rfl⟩
          have HDM := Lib.hid hdm
          have HML : Hid (dm.length = m) := by show _ = _; rw [hdm, List.length_take]; omega
          rw [← hdm] at HYR
          have HMD := Lib.hid hmd
          have HR1 := Lib.hid (HYR.out _ _ _ HB.out)
          clear hd1 hd2 hdm hmd
          go_wp2_with fail
          refine HR1.out.mono ?_
          clear HR1
          rintro e w8 ⟨B1, c1, rfl, hg1⟩
          have HG1 := Lib.hid hg1.got
          have HR2 := Lib.hid (HDR.out _ _ _ (HB.out.nofr hg1.got.fr))
          clear hg1
          go_wp2_with fail
          refine HR2.out.mono ?_
          clear HR2
          rintro e w9 ⟨B2, c2, rfl, hg2⟩
          have HG2 := Lib.hid hg2.got
          clear hg2
          obtain ⟨E2, hE2⟩ : ∃ E2 : Nat → Prop, E2 = fun k => ablk (some ⟨b, o, none⟩) k ∨ (0 < dm.length ∧ ablk B1 k) ∨ (0 < d.length ∧ ablk B2 k) := ⟨_, rfl⟩
          have HEA : Hid (∀ k, ablk (some ⟨b, o, none⟩) k → E2 k) := by rw [hE2]; exact fun k h => .inl h
          have HEB : Hid (0 < (cb dm).length → ∀ k, ablk B1 k → E2 k) := by rw [hE2]; exact fun h k hk => .inr (.inl ⟨by rwa [cb_length] at h, hk⟩)
          have HEC : Hid (0 < (cb d).length → ∀ k, ablk B2 k → E2 k) := by rw [hE2]; exact fun h k hk => .inr (.inr ⟨by rwa [cb_length] at h, hk⟩)
          have HB9 : Hid (Beside w2 w9 gd gy gx p py px E2) := HB.out.more (HG1.out.fr.trans HG2.out.fr) fun k hk => by
            rw [hE2] at hk
            rcases hk with h | ⟨h0, h⟩ | ⟨h0, h⟩
            · exact .inl h
            · exact .inr (HG1.out.blk (cb_length _).symm h0 k h).1
            · exact .inr (Nat.le_trans HG1.out.fr.size (HG2.out.blk (cb_length _).symm h0 k h).1)
          have HE9 : Hid (∀ k, E2 k → k < w9.heap.size) := fun k hk => by
            rw [hE2] at hk
            rcases hk with h | ⟨h0, h⟩ | ⟨h0, h⟩
            · exact Nat.lt_of_lt_of_le (HLT.out k h) (Nat.le_trans HG1.out.fr.size HG2.out.fr.size)
            · exact Nat.lt_of_lt_of_le (HG1.out.blk (cb_length _).symm h0 k h).2 HG2.out.fr.size
            · exact (HG2.out.blk (cb_length _).symm h0 k h).2
          have R1 := Lib.hid (HG1.out.rd.nofr HG2.out.fr)
          have R2 := Lib.hid HG2.out.rd
          have RA := Lib.hid ((HRR.out.nofr HG1.out.fr).nofr HG2.out.fr)
          have HDC := Lib.hid HG2.out.le
          have HD0 : Hid (0 < d.length → ∃ g, B2 = some ⟨g, 0, none⟩) := fun h => let ⟨g, e, _⟩ := HG2.out.new h; ⟨g, e⟩
          clear hE2 HG1 HG2 HRR HLT HB
          have kc := fun (C : Array Value) (n c : Nat) => Lib.run_convert_bytes_const (P := Try.prog) w9 31 5 C n c Try.underlying31 Try.underlying5
          have fa : Fr NoBlk w9 (w9.alloc (.cells #[.int .u8 109, .int .u8 111, .int .u8 114, .int .u8 101] 5 (4, 5))) := (Fr.refl NoBlk w9).alloc _
          have HFA := Lib.hid fa
          have HQ := Lib.hid (beside_append (HB9.out.nofr fa) (fun k hk => Nat.lt_of_lt_of_le (HE9.out k hk) fa.size) nm HNL.out (some ⟨w9.heap.size, 0, none⟩) 4 4 [109, 111, 114, 101] rfl (Rd.new_marked _ _ _ _) (fun h => by cases h) (by unfold maxLen; simp))
          have HNA := Lib.hid (append_names px nm [109, 111, 114, 101] (by rw [HPX.out]; exact HMEM.out))
          clear fa
          go_wp2_with fail
          refine HQ.out.mono ?_
          clear HQ kc
          rintro e w10 ⟨rfl, hb10, hf10⟩
          have HE10 : Hid (∀ k, E2 k → k < w10.heap.size) := fun k hk => Nat.lt_of_lt_of_le (HE9.out k hk) (Nat.le_trans HFA.out.size hf10.size)
          have R1' := Lib.hid ((R1.out.nofr HFA.out).past hf10 HEB.out)
          have R2' := Lib.hid ((R2.out.nofr HFA.out).past hf10 HEC.out)
          have RA' := Lib.hid ((RA.out.nofr HFA.out).past hf10 fun _ => HEA.out)
          have HB10 := Lib.hid hb10
          clear hb10 hf10 R1 R2 RA HB9 HE9 HFA
          generalize (pAppend px nm [109, 111, 114, 101]).1 = px2 at *
          have HQ := Lib.hid (beside_sync HB10.out HE10.out nm HNL.out)
          have HNS := Lib.hid (sync_names px2 nm)
          go_wp2_with fail
          refine HQ.out.mono ?_
          clear HQ
          rintro e w11 ⟨rfl, hb11, hf11⟩
          have HE11 : Hid (∀ k, E2 k → k < w11.heap.size) := fun k hk => Nat.lt_of_lt_of_le (HE10.out k hk) hf11.size
          have R1 := Lib.hid (R1'.out.past hf11 HEB.out)
          have R2 := Lib.hid (R2'.out.past hf11 HEC.out)
          have RA := Lib.hid (RA'.out.past hf11 fun _ => HEA.out)
          have HB11 := Lib.hid hb11
          clear hb11 hf11 R1' R2' RA' HB10 HE10 HEB HEC
          generalize (pSync px2 nm).1 = px3 at *
          have HR1 := Lib.hid (HYR.out _ _ _ HB11.out)
          clear HYR
          go_wp2_with fail
          refine HR1.out.mono ?_
          clear HR1
          rintro e w12 ⟨B3, c3, rfl, hg3⟩
          have HG3 := Lib.hid hg3.got
          have HR2 := Lib.hid (HDR.out _ _ _ (HB11.out.nofr hg3.got.fr))
          clear hg3 HDR
          go_wp2_with fail
          refine HR2.out.mono ?_
          clear HR2
          rintro e w13 ⟨B4, c4, rfl, hg4⟩
          have HG4 := Lib.hid hg4.got
          have F13 := Lib.hid (HG3.out.fr.trans HG4.out.fr)
          have HB13 := Lib.hid (HB11.out.nofr F13.out)
          have HA13 := Lib.hid (RA.out.nofr F13.out)
          have HE13 : Hid (∀ k, ablk (some ⟨b, o, none⟩) k → k < w13.heap.size) := fun k hk => Nat.lt_of_lt_of_le (HE11.out k (HEA.out k hk)) F13.out.size
          have s1 : ∀ q, (convert 31 9 (.slice B1 dm.length c1)).run Try.prog (w13.drewN q) = .ok (.string (bstr dm)) (w13.drewN q) := fun q => strBs _ B1 _ c1 dm rfl ((R1.out.nofr F13.out).nofr ((Fr.refl _ _).drewN q))
          have s2 : ∀ q, (convert 31 9 (.slice B2 d.length c2)).run Try.prog (w13.drewN q) = .ok (.string (bstr d)) (w13.drewN q) := fun q => strBs _ B2 _ c2 d rfl ((R2.out.nofr F13.out).nofr ((Fr.refl _ _).drewN q))
          have s3 : ∀ q, (convert 31 9 (.slice B3 dm.length c3)).run Try.prog (w13.drewN q) = .ok (.string (bstr dm)) (w13.drewN q) := fun q => strBs _ B3 _ c3 dm rfl ((HG3.out.rd.nofr HG4.out.fr).nofr ((Fr.refl _ _).drewN q))
          have s4 : ∀ q, (convert 31 9 (.slice B4 d.length c4)).run Try.prog (w13.drewN q) = .ok (.string (bstr d)) (w13.drewN q) := fun q => strBs _ B4 _ c4 d rfl (HG4.out.rd.nofr ((Fr.refl _ _).drewN q))
          have HRT := Lib.hid (R2.out.nofr F13.out)
          clear hg4 HG3 HG4 R1 R2 RA HB11 HE11 F13
          have HPZ : Hid (px3.files.map (·.name) = ns) := by show _ = _; rw [HNS.out, HNA.out, HPX.out]
          clear HNS HNA HPX
          have hdc := HDC.out
          have b0 : dm.length ≤ d.length := by
            have h1 := HML.out
            have h2 := HMD.out
            omega
          have b1 : (dm.length : Int) ≤ (d.length : Int) := by omega
          have b2 : (dm.length : Int) ≤ (c2 : Int) := by omega
          have s5 : ∀ q, (convert 31 9 (.slice B2 dm.length c2)).run Try.prog (w13.drewN q) = .ok (.string (bstr dm)) (w13.drewN q) := fun q => strBs _ B2 _ c2 dm rfl (by
            have h := HRT.out.take m
            rw [← cb_take, ← HDM.out] at h
            exact h.nofr ((Fr.refl _ _).drewN q))
          by_cases hd0 : d.length = 0
          · obtain rfl : d = [] := List.length_eq_zero_iff.1 hd0
            obtain rfl : dm = [] := List.length_eq_zero_iff.1 (by omega)
            have s6 : ∀ X c q, (convert 31 9 (.slice X 0 c)).run Try.prog (w13.drewN q) = .ok (.string (bstr [])) (w13.drewN q) := fun X c q => strBs _ X _ c [] rfl (Rd.none_ _ _)
            clear s1 s2 s3 s4 s5
            go_wp2_with fail
            go_quiet (fail)
            have HF14 := Lib.hid ((Fr.refl NoBlk w13).drewN nq)
            have HB14 : Hid (∃ px, px.files.map (·.name) = ns ∧ Beside w2 (w13.drewN nq) gd gy gx p py px (ablk (some ⟨b, o, none⟩))) := ⟨px3, HPZ.out, HB13.out.more HF14.out fun k h => .inl (HEA.out k h)⟩
            have HA14 := Lib.hid (HA13.out.nofr HF14.out)
            have HE14 : Hid (∀ k, ablk (some ⟨b, o, none⟩) k → k < (w13.drewN nq).heap.size) := fun k hk => Nat.lt_of_lt_of_le (HE13.out k hk) HF14.out.size
            go_wp2_with fail
            go_roundw
            case rel => exact ⟨j + 1, by omega, by go_num, HB14, HA14, HE14⟩
            case measure => simp [intOf]; omega
          · obtain ⟨g, rfl⟩ := HD0.out (by omega)
            generalize dm.length = dml at *
            generalize d.length = dl at *
            go_wp2_with fail
            go_quiet (fail)
            have HF14 := Lib.hid ((Fr.refl NoBlk w13).drewN nq)
            have HB14 : Hid (∃ px, px.files.map (·.name) = ns ∧ Beside w2 (w13.drewN nq) gd gy gx p py px (ablk (some ⟨b, o, none⟩))) := ⟨px3, HPZ.out, HB13.out.more HF14.out fun k h => .inl (HEA.out k h)⟩
            have HA14 := Lib.hid (HA13.out.nofr HF14.out)
            have HE14 : Hid (∀ k, ablk (some ⟨b, o, none⟩) k → k < (w13.drewN nq).heap.size) := fun k hk => Nat.lt_of_lt_of_le (HE13.out k hk) HF14.out.size
            go_wp2_with fail
            go_roundw
            case rel => exact ⟨j + 1, by omega, by go_num, HB14, HA14, HE14⟩
            case measure => simp [intOf]; omega
        · have HFZ := Lib.hid (HF2.out.trans HB.out.fr)
          have HN1 := Lib.hid (namesN HB.out.x)
          rw [HPX.out] at HN1
          have HN2 := Lib.hid fun W (hf : Fr NoBlk wr W) => namesN (HB.out.nofr hf).y
          rw [HNX.out] at HN2
          go_wp2_with fail
          refine HN1.out.mono ?_
          clear HN1
          rintro e w14 ⟨A14, c14, rfl, ht⟩
          have HN := Lib.hid (HN2.out _ ht.fr)
          have HFZ2 := Lib.hid (HFZ.out.trans ht.fr)
          clear ht HN2
          go_wp2_with fail
          refine HN.out.mono ?_
          clear HN
          rintro e w15 ⟨A15, c15, rfl, ht⟩
          have HFZ3 := Lib.hid (HFZ2.out.trans ht.fr)
          clear ht
          go_wp2_with fail
          go_ret
          exact ⟨by simp, HFZ3.out⟩

theorem paramsOk : ∀ t ∈ Try.f7.params.toList, Try.prog.readableRec t = true ∧ t < Try.prog.types.size := fun t ht => by
  have h := List.all_eq_true.1 (show (Try.f7.params.toList.all fun t => Try.prog.readableRec t && decide (t < Try.prog.types.size)) = true by kernel_rfl) t ht
  simpa using h

set_option maxRecDepth 100000 in
theorem lifted (os : Os) (started : os.Started) (H : Type) (enc : TypeId × Value → H) :
    ReturnsInHanded {} Try.checked os 7 .any (Rows.diskApartSpec.pre6 enc Try.prog Try.f7 Rows.diskApartRow.domain false) (Rows.diskApartSpec.post enc Try.prog Try.f7 false true false false) := by
  refine returnsInHanded_of_change (C := Try.checked) own started (by kernel_rfl) Try.func7
    (ChangeSpec.witness6 (enc := enc) (C := Try.checked) false ⟨#[], #[.slice none 0 0, .slice none 0 0], []⟩ 8 (by kernel_rfl) (by kernel_rfl) (by kernel_rfl) (by kernel_rfl)) ?_
  intro W base args ds gs before hval0 hW _ _
  have hval : ∀ (j : Nat) t v, Try.f7.params[j]? = some t → args[j]? = some v → Value.okWide Try.prog W .any base t v := hval0
  have hW' := hW
  obtain ⟨p, q, hA0, hV, rfl, _, _⟩ := hW
  have hA : DataW.TrodAll enc Try.prog W 0 (fun _ => true) true Try.f7.params.toList args.toList ds p := hA0
  rw [Try.params7] at hA hval
  obtain ⟨v0, vs0, d0, ds0, p0, q0, hargs, rfl, rfl, h0, r0⟩ := trodAll_cons hA
  obtain ⟨v1, vs1, d1, ds1, p1, q1, rfl, rfl, rfl, h1, r1⟩ := trodAll_cons r0
  obtain ⟨rfl, rfl, rfl⟩ := trodAll_nil r1
  obtain rfl : args = #[v0, v1] := by cases args; simp_all
  obtain ⟨rfl, rfl⟩ := trodVars_none hV
  obtain ⟨A, c, xs, rfl, hr, hx, hxc, hc⟩ := open_ops (hval 0 _ v0 rfl rfl) h0
  obtain ⟨K1, kc1, ks1, rfl, hk1, _, hkc1, hkm1⟩ := open_ints1 (hval 1 _ v1 rfl rfl) h1
  have walk := walk W A c xs K1 kc1 ks1 hr hx (Nat.le_trans hxc hc) hk1 (Nat.le_trans hkc1 hkm1)
  clear hA0 hval0
  refine walk.mono fun e W' ⟨he, hf⟩ => ?_
  subst he
  exact ⟨_, rfl, law_post laidOut paramsOk rfl rfl Try.underlying4 hW' rfl rfl rfl hf⟩

theorem said : Rows.DiskApartSaid :=
  OpenClaim.holds_of_wide 7 Try.f7 rfl rfl rfl rfl rfl rfl rfl ⟨rfl, rfl, rfl, rfl, rfl⟩ rfl rfl rfl rfl rfl (by kernel_rfl) Try.func7 (by kernel_rfl)
    (of_decide_eq_true (by kernel_rfl)) (by unfold Func.isWrapper; first | (rw [if_pos (by decide +kernel)]; kernel_rfl) | (rw [if_neg (by decide +kernel)]; exact ⟨rfl, rfl⟩))
    (fun os started H enc _ => lifted os started H enc)
end Go.Proofs.Ytddakbannfjfcaa.diskApart
