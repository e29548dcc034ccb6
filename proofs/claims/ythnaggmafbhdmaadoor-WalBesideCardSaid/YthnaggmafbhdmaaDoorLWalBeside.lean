/- WalBeside is true: two logs on one disk, and files of other names, don't disturb each other. No condition but what the card ties. -/
import Derived.Test.YthnaggmafbhdmaaDoorBesAll
namespace Go.Proofs.YthnaggmafbhdmaaDoor.walBeside
open Go.ChangeShapes Go.WideShapes Go.ChangeAt Go.RowKit

set_option maxRecDepth 100000 in
set_option maxHeartbeats 8000000 in
theorem walk (w : World) (ht : Tab w) (A : Option Addr) (c : Nat) (ps : List Prt) (B : Option Addr) (c' : Nat) (qs : List Prt)
    (hr : Rd w A (ps.map sl)) (hp : ∀ p ∈ ps, Part w p ∧ p.2.2.length ≤ p.2.1 ∧ p.2.1 ≤ maxLen) (hm : ps.length ≤ maxLen)
    (hr' : Rd w B (qs.map sl)) (hp' : ∀ p ∈ qs, Part w p ∧ p.2.2.length ≤ p.2.1 ∧ p.2.1 ≤ maxLen) (hm' : qs.length ≤ maxLen) :
    Calls Tryd.prog 6 #[.slice A ps.length c, .slice B qs.length c'] w fun e w' => e = .returned (.bool true) ∧ Fr NoBlk w w' := by
  have HT := Lib.hid ht
  have HR := Lib.hid hr
  have HP := Lib.hid hp
  have HR' := Lib.hid hr'
  have HP' := Lib.hid hp'
  clear ht hr hp hr' hp'
  unfold maxLen at hm hm'
  obtain ⟨na, hna⟩ : ∃ na, na = ps.length := ⟨_, rfl⟩
  obtain ⟨nb, hnb⟩ : ∃ nb, nb = qs.length := ⟨_, rfl⟩
  have HNA := Lib.hid hna
  have HNB := Lib.hid hnb
  rw [← hna] at hm ⊢
  rw [← hnb] at hm' ⊢
  clear hna hnb
  go_enter Tryd.func6, Tryd.ntmps6
  go_wp2_with fail
  refine (speaks_any w HT.out).mono ?_
  rintro e w1 ⟨rfl, hf1⟩
  have HF1 := Lib.hid hf1
  clear hf1
  by_cases hb1 : 20 < na
  · go_wp2_with fail
    go_ret
    exact ⟨rfl, HF1.out⟩
  by_cases hb2 : 20 < nb
  · go_wp2_with fail
    go_ret
    exact ⟨rfl, HF1.out⟩
  have HT1 := Lib.hid (HT.out.fr HF1.out fun h => h)
  go_wp2_with fail
  refine (new_at w1 w1 (Fr.refl _ _) 1048576 (by omega) (by omega)).mono ?_
  rintro e w2 ⟨gd, rfl, h2, hf2⟩
  have ha2 : AtS w1 w2 gd (pNew 1048576) NoS := h2.prot (Fr.refl NoBlk _) fun _ h => h.elim
  have ha3 : AtS w1 (w2.alloc (.cells #[.int .u8 102, .int .u8 105, .int .u8 108, .int .u8 101] 5 (4, 5))) gd (pNew 1048576) NoS := ha2.nofr ((Fr.refl _ _).alloc _)
  have hc := appendS ha3 (fun _ h => h.elim) othN (by unfold maxLen; simp [othN]) (some ⟨w2.heap.size, 0, none⟩) 4 4 othD rfl (Rd.new_marked w2 (cb othD) 5 (4, 5)) (fun h => by cases h) (by unfold maxLen; simp [othD])
  rw [oth_append] at hc
  have HC := Lib.hid hc
  have kc := fun (C : Array Value) (n c : Nat) => Lib.run_convert_bytes_const (P := Tryd.prog) w2 34 5 C n c Tryd.underlying34 Tryd.underlying5
  clear h2 hf2 ha2 ha3 hc
  go_wp2_with fail
  clear kc
  refine HC.out.mono ?_
  clear HC
  rintro e w3 ⟨rfl, h3, _⟩
  have hc := syncS h3 (fun _ h => h.elim) othN (by unfold maxLen; simp [othN])
  rw [oth_sync] at hc
  have HC := Lib.hid hc
  clear h3 hc
  go_wp2_with fail
  refine HC.out.mono ?_
  clear HC
  rintro e w4 ⟨rfl, h4, _⟩
  have hc := lopen_any w1 w4 gd pOth NoS h4 (fun _ h => h.elim) HT1.out ⟨rfl, rfl⟩ xN (by simp [xN]) (by simp [xN]) 65536 (by omega) (by omega)
  rw [show ((65536 : Nat) : Int) = 65536 from rfl] at hc
  have HC := Lib.hid hc
  clear h4 hc
  go_wp2_with fail
  refine HC.out.mono ?_
  clear HC
  rintro e w5 ⟨gx, rfl, hwx, _⟩
  obtain ⟨g, hgp, hlg, hag, hsg, htg⟩ := hwx
  have hc := lopen_any w1 w5 gd (lopen pOth xN 65536).1 (LBlks gx g) (hag.prot (Fr.refl NoBlk _) (fun _ _ h => h.elim) fun k hk => .inl (.inl hk)) (fun k hk => (hlg.blk hk).2) HT1.out oth_first.1 yN (by simp [yN]) (by simp [yN]) 65536 (by omega) (by omega)
  rw [show ((65536 : Nat) : Int) = 65536 from rfl] at hc
  have HC := Lib.hid hc
  have HLG := Lib.hid hlg
  have HGP := Lib.hid hgp
  clear hc hgp hlg hag hsg htg
  go_wp2_with fail
  refine HC.out.mono ?_
  clear HC
  rintro e w6 ⟨gy, rfl, hwy, hf6⟩
  have HK0 : Hid (BR w1 w6 gd gx gy 0) :=
    ⟨_, _, _, [], [], 4, Two.swap ⟨g, HGP.out, HLG.out.fr hf6 fun k hk hc => hc.1 hk, hwy⟩, oth_new, oth_first.2, lopen_name _ _ _, Nat.le_refl _, Nat.le_refl _, Nat.le_refl _⟩
  clear hwy hf6 HLG HGP
  go_wp2_with fail
  go_loopw [11] (fun z wr => ∃ i : Nat, i ≤ 20 ∧ z = .int .i64 i ∧ Hid (BR w1 wr gd gx gy i)) (fun z _ => 20 - (intOf z).toNat)
  case atStart => exact ⟨0, Nat.zero_le _, rfl, HK0⟩
  case round =>
    clear HK0
    obtain ⟨i, hi20, rfl, HX⟩ := hrel
    obtain ⟨p, X, Y, xs, ys, b, htwo, hbes, hnx, hny, hxs, hys, hbb⟩ := HX.out
    have HTWO := Lib.hid htwo
    have HBES := Lib.hid hbes
    have HNX := Lib.hid hnx
    have HNY := Lib.hid hny
    have HXS := Lib.hid hxs
    have HYS := Lib.hid hys
    have HBB := Lib.hid hbb
    have HFW := Lib.hid (HF1.out.trans htwo.fr)
    clear HX htwo hbes hnx hny hxs hys hbb
    by_cases ha : i < na
    · obtain ⟨qa, hqa⟩ : ∃ q, ps[i]? = some q := ⟨_, List.getElem?_eq_getElem (by rw [← HNA.out]; exact ha)⟩
      obtain ⟨ba, oa, rfl, hca⟩ := (HR.out.nofr HFW.out).at_ (k := i) (v := sl qa) (by rw [List.getElem?_map, hqa]; rfl)
      have HPQa := Lib.hid (HP.out qa (List.mem_of_getElem? hqa))
      have HCELLa : Hid (∀ W, Fr NoBlk w W → W.cell? ⟨ba, oa + i, none⟩ = some (sl qa)) := fun W hW => by
        obtain ⟨b', o', e, hcell⟩ := (HR.out.nofr hW).at_ (k := i) (v := sl qa) (by rw [List.getElem?_map, hqa]; rfl)
        injection e with e
        injection e with e1 e2
        subst e1 e2
        exact hcell
      obtain ⟨Aa, ka, la⟩ := qa
      unfold sl at hca HCELLa
      dsimp only at hca HPQa HCELLa
      have hma : la.length ≤ 9223372036854775807 := by
        have h1 := HPQa.out.2.1
        have h2 := HPQa.out.2.2
        unfold maxLen at h2
        omega
      clear hqa
      by_cases hla : 1000 < la.length
      · by_cases hb : i < nb
        · obtain ⟨qb, hqb⟩ : ∃ q, qs[i]? = some q := ⟨_, List.getElem?_eq_getElem (by rw [← HNB.out]; exact hb)⟩
          obtain ⟨bb, ob, rfl, hcb⟩ := (HR'.out.nofr HFW.out).at_ (k := i) (v := sl qb) (by rw [List.getElem?_map, hqb]; rfl)
          have HPQb := Lib.hid (HP'.out qb (List.mem_of_getElem? hqb))
          have HCELLb : Hid (∀ W, Fr NoBlk w W → W.cell? ⟨bb, ob + i, none⟩ = some (sl qb)) := fun W hW => by
            obtain ⟨b', o', e, hcell⟩ := (HR'.out.nofr hW).at_ (k := i) (v := sl qb) (by rw [List.getElem?_map, hqb]; rfl)
            injection e with e
            injection e with e1 e2
            subst e1 e2
            exact hcell
          obtain ⟨Ab, kb, lb⟩ := qb
          unfold sl at hcb HCELLb
          dsimp only at hcb HPQb HCELLb
          have hmb : lb.length ≤ 9223372036854775807 := by
            have h1 := HPQb.out.2.1
            have h2 := HPQb.out.2.2
            unfold maxLen at h2
            omega
          clear hqb
          by_cases hlb : 1000 < lb.length
          · have HXS2 : Hid ((frames xs).length ≤ 1006 * (i + 1)) := by show _ ≤ _; have := HXS.out; omega
            clear HXS
            have HXS := HXS2
            have HYS2 : Hid ((frames ys).length ≤ 1006 * (i + 1)) := by show _ ≤ _; have := HYS.out; omega
            clear HYS
            have HYS := HYS2
            have HK1 : Hid (BR w1 _ gd gx gy (i + 1)) := ⟨p, X, Y, _, _, _, HTWO.out, HBES.out, HNX.out, HNY.out, HXS.out, HYS.out, by have := HBB.out; omega⟩
            clear HTWO HBES HNX HNY HXS HYS HBB
            go_wp2_with fail
            go_roundw
            case rel => exact ⟨i + 1, by omega, by go_num, HK1⟩
            case measure => simp [intOf]; omega
          · have HTWO' := Lib.hid HTWO.out.swap
            have HBES' := Lib.hid HBES.out.swap
            clear HTWO HBES
            have HTWO := HTWO'
            have HBES := HBES'
            clear HTWO' HBES'
            obtain ⟨hh, hY, hl, hw⟩ := HTWO.out
            have hrecs := HBES.out.recs
            have hla := lappend_any w1 wr gd gy p Y (LBlks gx hh) hw HT1.out Ab kb lb (HPQb.out.1.1.nofr (HF1.out.trans HTWO.out.fr)) HPQb.out.1.2 (by omega) (fun hpos k hk => .inl ((HPQb.out.1.1.nofr HF1.out).lt (by rw [cb_length]; exact hpos) hk)) (by have := HYS.out; omega) (by have := HYS.out; omega)
            have HLA := Lib.hid hla
            have HL := Lib.hid hl
            have HYE := Lib.hid hY
            have HPUT := Lib.hid (HBES.out.put HTWO.out.fits lb (by omega) (by have := HYS.out; omega) (by have := HBB.out; omega))
            have HNM := Lib.hid (lappend_name p Y lb).1
            have HFRS : Hid ((frames (ys ++ [lb])).length ≤ 1006 * (i + 1)) := by
              show _ ≤ _
              rw [frames_snoc]
              have := HYS.out
              omega
            clear hla hrecs hl hw hY
            go_wp2_with fail
            refine HLA.out.mono ?_
            clear HLA
            rintro e wz ⟨rfl, hw2, hf2⟩
            rw [HPUT.out.1]
            have HTW2 : Hid (Two w1 wz gd gy gx (lappend p Y lb).1 (lappend p Y lb).2.1 X) := ⟨hh, HYE.out, HL.out.fr hf2 fun k hk hc => hc.1 hk, hw2⟩
            have HBE2 := Lib.hid HPUT.out.2
            have HNM2 : Hid ((lappend p Y lb).2.1.name = Y.name) := HNM.out
            have HNM3 : Hid ((lappend p Y lb).2.1.name = yN) := HNM.out.trans HNY.out
            clear hw2 hf2 HPUT HNM HNM2 HTWO HBES HNY HL HYE
            generalize (lappend p Y lb).1 = pb at *
            generalize (lappend p Y lb).2.1 = Yb at *
            have HTWO := Lib.hid HTW2.out.swap
            have HBES := Lib.hid HBE2.out.swap
            have HNY := HNM3
            clear HTW2 HBE2 HNM3
            obtain ⟨ys2, hys2⟩ : ∃ z, z = ys ++ [lb] := ⟨_, rfl⟩
            rw [← hys2] at HBES HFRS
            clear HYS hys2
            have HYS := HFRS
            clear HFRS
            have HXS2 : Hid ((frames xs).length ≤ 1006 * (i + 1)) := by show _ ≤ _; have := HXS.out; omega
            clear HXS
            have HXS := HXS2
            have HK1 : Hid (BR w1 _ gd gx gy (i + 1)) := ⟨pb, X, Yb, _, _, _, HTWO.out, HBES.out, HNX.out, HNY.out, HXS.out, HYS.out, by have := HBB.out; omega⟩
            clear HTWO HBES HNX HNY HXS HYS HBB
            go_wp2_with fail
            go_roundw
            case rel => exact ⟨i + 1, by omega, by go_num, HK1⟩
            case measure => simp [intOf]; omega
        · have HXS2 : Hid ((frames xs).length ≤ 1006 * (i + 1)) := by show _ ≤ _; have := HXS.out; omega
          clear HXS
          have HXS := HXS2
          have HYS2 : Hid ((frames ys).length ≤ 1006 * (i + 1)) := by show _ ≤ _; have := HYS.out; omega
          clear HYS
          have HYS := HYS2
          have HK1 : Hid (BR w1 _ gd gx gy (i + 1)) := ⟨p, X, Y, _, _, _, HTWO.out, HBES.out, HNX.out, HNY.out, HXS.out, HYS.out, by have := HBB.out; omega⟩
          clear HTWO HBES HNX HNY HXS HYS HBB
          go_wp2_with fail
          go_roundw
          case rel => exact ⟨i + 1, by omega, by go_num, HK1⟩
          case measure => simp [intOf]; omega
      · by_cases hb : i < nb
        · obtain ⟨qb, hqb⟩ : ∃ q, qs[i]? = some q := ⟨_, List.getElem?_eq_getElem (by rw [← HNB.out]; exact hb)⟩
          obtain ⟨bb, ob, rfl, hcb⟩ := (HR'.out.nofr HFW.out).at_ (k := i) (v := sl qb) (by rw [List.getElem?_map, hqb]; rfl)
          have HPQb := Lib.hid (HP'.out qb (List.mem_of_getElem? hqb))
          have HCELLb : Hid (∀ W, Fr NoBlk w W → W.cell? ⟨bb, ob + i, none⟩ = some (sl qb)) := fun W hW => by
            obtain ⟨b', o', e, hcell⟩ := (HR'.out.nofr hW).at_ (k := i) (v := sl qb) (by rw [List.getElem?_map, hqb]; rfl)
            injection e with e
            injection e with e1 e2
            subst e1 e2
            exact hcell
          obtain ⟨Ab, kb, lb⟩ := qb
          unfold sl at hcb HCELLb
          dsimp only at hcb HPQb HCELLb
          have hmb : lb.length ≤ 9223372036854775807 := by
            have h1 := HPQb.out.2.1
            have h2 := HPQb.out.2.2
            unfold maxLen at h2
            omega
          clear hqb
          by_cases hlb : 1000 < lb.length
          · obtain ⟨hh, hY, hl, hw⟩ := HTWO.out
            have hrecs := HBES.out.recs
            have hla := lappend_any w1 wr gd gx p X (LBlks gy hh) hw HT1.out Aa ka la (HPQa.out.1.1.nofr (HF1.out.trans HTWO.out.fr)) HPQa.out.1.2 (by omega) (fun hpos k hk => .inl ((HPQa.out.1.1.nofr HF1.out).lt (by rw [cb_length]; exact hpos) hk)) (by have := HXS.out; omega) (by have := HXS.out; omega)
            have HLA := Lib.hid hla
            have HL := Lib.hid hl
            have HYE := Lib.hid hY
            have HPUT := Lib.hid (HBES.out.put HTWO.out.fits la (by omega) (by have := HXS.out; omega) (by have := HBB.out; omega))
            have HNM := Lib.hid (lappend_name p X la).1
            have HFRS : Hid ((frames (xs ++ [la])).length ≤ 1006 * (i + 1)) := by
              show _ ≤ _
              rw [frames_snoc]
              have := HXS.out
              omega
            clear hla hrecs hl hw hY
            go_wp2_with fail
            refine HLA.out.mono ?_
            clear HLA
            rintro e wz ⟨rfl, hw2, hf2⟩
            rw [HPUT.out.1]
            have HTW2 : Hid (Two w1 wz gd gx gy (lappend p X la).1 (lappend p X la).2.1 Y) := ⟨hh, HYE.out, HL.out.fr hf2 fun k hk hc => hc.1 hk, hw2⟩
            have HBE2 := Lib.hid HPUT.out.2
            have HNM2 : Hid ((lappend p X la).2.1.name = X.name) := HNM.out
            have HNM3 : Hid ((lappend p X la).2.1.name = xN) := HNM.out.trans HNX.out
            clear hw2 hf2 HPUT HNM HNM2 HTWO HBES HNX HL HYE
            generalize (lappend p X la).1 = pa at *
            generalize (lappend p X la).2.1 = Xa at *
            have HTWO := Lib.hid HTW2.out
            have HBES := Lib.hid HBE2.out
            have HNX := HNM3
            clear HTW2 HBE2 HNM3
            obtain ⟨xs2, hxs2⟩ : ∃ z, z = xs ++ [la] := ⟨_, rfl⟩
            rw [← hxs2] at HBES HFRS
            clear HXS hxs2
            have HXS := HFRS
            clear HFRS
            have hcb2 := HCELLb.out wz (HF1.out.trans HTWO.out.fr)
            have HYS2 : Hid ((frames ys).length ≤ 1006 * (i + 1)) := by show _ ≤ _; have := HYS.out; omega
            clear HYS
            have HYS := HYS2
            have HK1 : Hid (BR w1 _ gd gx gy (i + 1)) := ⟨pa, Xa, Y, _, _, _, HTWO.out, HBES.out, HNX.out, HNY.out, HXS.out, HYS.out, by have := HBB.out; omega⟩
            clear HTWO HBES HNX HNY HXS HYS HBB
            go_wp2_with fail
            go_roundw
            case rel => exact ⟨i + 1, by omega, by go_num, HK1⟩
            case measure => simp [intOf]; omega
          · obtain ⟨hh, hY, hl, hw⟩ := HTWO.out
            have hrecs := HBES.out.recs
            have hla := lappend_any w1 wr gd gx p X (LBlks gy hh) hw HT1.out Aa ka la (HPQa.out.1.1.nofr (HF1.out.trans HTWO.out.fr)) HPQa.out.1.2 (by omega) (fun hpos k hk => .inl ((HPQa.out.1.1.nofr HF1.out).lt (by rw [cb_length]; exact hpos) hk)) (by have := HXS.out; omega) (by have := HXS.out; omega)
            have HLA := Lib.hid hla
            have HL := Lib.hid hl
            have HYE := Lib.hid hY
            have HPUT := Lib.hid (HBES.out.put HTWO.out.fits la (by omega) (by have := HXS.out; omega) (by have := HBB.out; omega))
            have HNM := Lib.hid (lappend_name p X la).1
            have HFRS : Hid ((frames (xs ++ [la])).length ≤ 1006 * (i + 1)) := by
              show _ ≤ _
              rw [frames_snoc]
              have := HXS.out
              omega
            clear hla hrecs hl hw hY
            go_wp2_with fail
            refine HLA.out.mono ?_
            clear HLA
            rintro e wz ⟨rfl, hw2, hf2⟩
            rw [HPUT.out.1]
            have HTW2 : Hid (Two w1 wz gd gx gy (lappend p X la).1 (lappend p X la).2.1 Y) := ⟨hh, HYE.out, HL.out.fr hf2 fun k hk hc => hc.1 hk, hw2⟩
            have HBE2 := Lib.hid HPUT.out.2
            have HNM2 : Hid ((lappend p X la).2.1.name = X.name) := HNM.out
            have HNM3 : Hid ((lappend p X la).2.1.name = xN) := HNM.out.trans HNX.out
            clear hw2 hf2 HPUT HNM HNM2 HTWO HBES HNX HL HYE
            generalize (lappend p X la).1 = pa at *
            generalize (lappend p X la).2.1 = Xa at *
            have HTWO := Lib.hid HTW2.out
            have HBES := Lib.hid HBE2.out
            have HNX := HNM3
            clear HTW2 HBE2 HNM3
            obtain ⟨xs2, hxs2⟩ : ∃ z, z = xs ++ [la] := ⟨_, rfl⟩
            rw [← hxs2] at HBES HFRS
            clear HXS hxs2
            have HXS := HFRS
            clear HFRS
            have hcb2 := HCELLb.out wz (HF1.out.trans HTWO.out.fr)
            have HTWO' := Lib.hid HTWO.out.swap
            have HBES' := Lib.hid HBES.out.swap
            clear HTWO HBES
            have HTWO := HTWO'
            have HBES := HBES'
            clear HTWO' HBES'
            obtain ⟨hh, hY, hl, hw⟩ := HTWO.out
            have hrecs := HBES.out.recs
            have hla := lappend_any w1 wz gd gy pa Y (LBlks gx hh) hw HT1.out Ab kb lb (HPQb.out.1.1.nofr (HF1.out.trans HTWO.out.fr)) HPQb.out.1.2 (by omega) (fun hpos k hk => .inl ((HPQb.out.1.1.nofr HF1.out).lt (by rw [cb_length]; exact hpos) hk)) (by have := HYS.out; omega) (by have := HYS.out; omega)
            have HLA := Lib.hid hla
            have HL := Lib.hid hl
            have HYE := Lib.hid hY
            have HPUT := Lib.hid (HBES.out.put HTWO.out.fits lb (by omega) (by have := HYS.out; omega) (by have := HBB.out; omega))
            have HNM := Lib.hid (lappend_name pa Y lb).1
            have HFRS : Hid ((frames (ys ++ [lb])).length ≤ 1006 * (i + 1)) := by
              show _ ≤ _
              rw [frames_snoc]
              have := HYS.out
              omega
            clear hla hrecs hl hw hY
            go_wp2_with fail
            refine HLA.out.mono ?_
            clear HLA
            rintro e wy ⟨rfl, hw2, hf2⟩
            rw [HPUT.out.1]
            have HTW2 : Hid (Two w1 wy gd gy gx (lappend pa Y lb).1 (lappend pa Y lb).2.1 Xa) := ⟨hh, HYE.out, HL.out.fr hf2 fun k hk hc => hc.1 hk, hw2⟩
            have HBE2 := Lib.hid HPUT.out.2
            have HNM2 : Hid ((lappend pa Y lb).2.1.name = Y.name) := HNM.out
            have HNM3 : Hid ((lappend pa Y lb).2.1.name = yN) := HNM.out.trans HNY.out
            clear hw2 hf2 HPUT HNM HNM2 HTWO HBES HNY HL HYE
            generalize (lappend pa Y lb).1 = pab at *
            generalize (lappend pa Y lb).2.1 = Yb at *
            have HTWO := Lib.hid HTW2.out.swap
            have HBES := Lib.hid HBE2.out.swap
            have HNY := HNM3
            clear HTW2 HBE2 HNM3
            obtain ⟨ys2, hys2⟩ : ∃ z, z = ys ++ [lb] := ⟨_, rfl⟩
            rw [← hys2] at HBES HFRS
            clear HYS hys2
            have HYS := HFRS
            clear HFRS
            have HK1 : Hid (BR w1 _ gd gx gy (i + 1)) := ⟨pab, Xa, Yb, _, _, _, HTWO.out, HBES.out, HNX.out, HNY.out, HXS.out, HYS.out, by have := HBB.out; omega⟩
            clear HTWO HBES HNX HNY HXS HYS HBB
            go_wp2_with fail
            go_roundw
            case rel => exact ⟨i + 1, by omega, by go_num, HK1⟩
            case measure => simp [intOf]; omega
        · obtain ⟨hh, hY, hl, hw⟩ := HTWO.out
          have hrecs := HBES.out.recs
          have hla := lappend_any w1 wr gd gx p X (LBlks gy hh) hw HT1.out Aa ka la (HPQa.out.1.1.nofr (HF1.out.trans HTWO.out.fr)) HPQa.out.1.2 (by omega) (fun hpos k hk => .inl ((HPQa.out.1.1.nofr HF1.out).lt (by rw [cb_length]; exact hpos) hk)) (by have := HXS.out; omega) (by have := HXS.out; omega)
          have HLA := Lib.hid hla
          have HL := Lib.hid hl
          have HYE := Lib.hid hY
          have HPUT := Lib.hid (HBES.out.put HTWO.out.fits la (by omega) (by have := HXS.out; omega) (by have := HBB.out; omega))
          have HNM := Lib.hid (lappend_name p X la).1
          have HFRS : Hid ((frames (xs ++ [la])).length ≤ 1006 * (i + 1)) := by
            show _ ≤ _
            rw [frames_snoc]
            have := HXS.out
            omega
          clear hla hrecs hl hw hY
          go_wp2_with fail
          refine HLA.out.mono ?_
          clear HLA
          rintro e wz ⟨rfl, hw2, hf2⟩
          rw [HPUT.out.1]
          have HTW2 : Hid (Two w1 wz gd gx gy (lappend p X la).1 (lappend p X la).2.1 Y) := ⟨hh, HYE.out, HL.out.fr hf2 fun k hk hc => hc.1 hk, hw2⟩
          have HBE2 := Lib.hid HPUT.out.2
          have HNM2 : Hid ((lappend p X la).2.1.name = X.name) := HNM.out
          have HNM3 : Hid ((lappend p X la).2.1.name = xN) := HNM.out.trans HNX.out
          clear hw2 hf2 HPUT HNM HNM2 HTWO HBES HNX HL HYE
          generalize (lappend p X la).1 = pa at *
          generalize (lappend p X la).2.1 = Xa at *
          have HTWO := Lib.hid HTW2.out
          have HBES := Lib.hid HBE2.out
          have HNX := HNM3
          clear HTW2 HBE2 HNM3
          obtain ⟨xs2, hxs2⟩ : ∃ z, z = xs ++ [la] := ⟨_, rfl⟩
          rw [← hxs2] at HBES HFRS
          clear HXS hxs2
          have HXS := HFRS
          clear HFRS
          have HYS2 : Hid ((frames ys).length ≤ 1006 * (i + 1)) := by show _ ≤ _; have := HYS.out; omega
          clear HYS
          have HYS := HYS2
          have HK1 : Hid (BR w1 _ gd gx gy (i + 1)) := ⟨pa, Xa, Y, _, _, _, HTWO.out, HBES.out, HNX.out, HNY.out, HXS.out, HYS.out, by have := HBB.out; omega⟩
          clear HTWO HBES HNX HNY HXS HYS HBB
          go_wp2_with fail
          go_roundw
          case rel => exact ⟨i + 1, by omega, by go_num, HK1⟩
          case measure => simp [intOf]; omega
    · by_cases hb : i < nb
      · obtain ⟨qb, hqb⟩ : ∃ q, qs[i]? = some q := ⟨_, List.getElem?_eq_getElem (by rw [← HNB.out]; exact hb)⟩
        obtain ⟨bb, ob, rfl, hcb⟩ := (HR'.out.nofr HFW.out).at_ (k := i) (v := sl qb) (by rw [List.getElem?_map, hqb]; rfl)
        have HPQb := Lib.hid (HP'.out qb (List.mem_of_getElem? hqb))
        have HCELLb : Hid (∀ W, Fr NoBlk w W → W.cell? ⟨bb, ob + i, none⟩ = some (sl qb)) := fun W hW => by
          obtain ⟨b', o', e, hcell⟩ := (HR'.out.nofr hW).at_ (k := i) (v := sl qb) (by rw [List.getElem?_map, hqb]; rfl)
          injection e with e
          injection e with e1 e2
          subst e1 e2
          exact hcell
        obtain ⟨Ab, kb, lb⟩ := qb
        unfold sl at hcb HCELLb
        dsimp only at hcb HPQb HCELLb
        have hmb : lb.length ≤ 9223372036854775807 := by
          have h1 := HPQb.out.2.1
          have h2 := HPQb.out.2.2
          unfold maxLen at h2
          omega
        clear hqb
        by_cases hlb : 1000 < lb.length
        · have HXS2 : Hid ((frames xs).length ≤ 1006 * (i + 1)) := by show _ ≤ _; have := HXS.out; omega
          clear HXS
          have HXS := HXS2
          have HYS2 : Hid ((frames ys).length ≤ 1006 * (i + 1)) := by show _ ≤ _; have := HYS.out; omega
          clear HYS
          have HYS := HYS2
          have HK1 : Hid (BR w1 _ gd gx gy (i + 1)) := ⟨p, X, Y, _, _, _, HTWO.out, HBES.out, HNX.out, HNY.out, HXS.out, HYS.out, by have := HBB.out; omega⟩
          clear HTWO HBES HNX HNY HXS HYS HBB
          go_wp2_with fail
          go_roundw
          case rel => exact ⟨i + 1, by omega, by go_num, HK1⟩
          case measure => simp [intOf]; omega
        · have HTWO' := Lib.hid HTWO.out.swap
          have HBES' := Lib.hid HBES.out.swap
          clear HTWO HBES
          have HTWO := HTWO'
          have HBES := HBES'
          clear HTWO' HBES'
          obtain ⟨hh, hY, hl, hw⟩ := HTWO.out
          have hrecs := HBES.out.recs
          have hla := lappend_any w1 wr gd gy p Y (LBlks gx hh) hw HT1.out Ab kb lb (HPQb.out.1.1.nofr (HF1.out.trans HTWO.out.fr)) HPQb.out.1.2 (by omega) (fun hpos k hk => .inl ((HPQb.out.1.1.nofr HF1.out).lt (by rw [cb_length]; exact hpos) hk)) (by have := HYS.out; omega) (by have := HYS.out; omega)
          have HLA := Lib.hid hla
          have HL := Lib.hid hl
          have HYE := Lib.hid hY
          have HPUT := Lib.hid (HBES.out.put HTWO.out.fits lb (by omega) (by have := HYS.out; omega) (by have := HBB.out; omega))
          have HNM := Lib.hid (lappend_name p Y lb).1
          have HFRS : Hid ((frames (ys ++ [lb])).length ≤ 1006 * (i + 1)) := by
            show _ ≤ _
            rw [frames_snoc]
            have := HYS.out
            omega
          clear hla hrecs hl hw hY
          go_wp2_with fail
          refine HLA.out.mono ?_
          clear HLA
          rintro e wz ⟨rfl, hw2, hf2⟩
          rw [HPUT.out.1]
          have HTW2 : Hid (Two w1 wz gd gy gx (lappend p Y lb).1 (lappend p Y lb).2.1 X) := ⟨hh, HYE.out, HL.out.fr hf2 fun k hk hc => hc.1 hk, hw2⟩
          have HBE2 := Lib.hid HPUT.out.2
          have HNM2 : Hid ((lappend p Y lb).2.1.name = Y.name) := HNM.out
          have HNM3 : Hid ((lappend p Y lb).2.1.name = yN) := HNM.out.trans HNY.out
          clear hw2 hf2 HPUT HNM HNM2 HTWO HBES HNY HL HYE
          generalize (lappend p Y lb).1 = pb at *
          generalize (lappend p Y lb).2.1 = Yb at *
          have HTWO := Lib.hid HTW2.out.swap
          have HBES := Lib.hid HBE2.out.swap
          have HNY := HNM3
          clear HTW2 HBE2 HNM3
          obtain ⟨ys2, hys2⟩ : ∃ z, z = ys ++ [lb] := ⟨_, rfl⟩
          rw [← hys2] at HBES HFRS
          clear HYS hys2
          have HYS := HFRS
          clear HFRS
          have HXS2 : Hid ((frames xs).length ≤ 1006 * (i + 1)) := by show _ ≤ _; have := HXS.out; omega
          clear HXS
          have HXS := HXS2
          have HK1 : Hid (BR w1 _ gd gx gy (i + 1)) := ⟨pb, X, Yb, _, _, _, HTWO.out, HBES.out, HNX.out, HNY.out, HXS.out, HYS.out, by have := HBB.out; omega⟩
          clear HTWO HBES HNX HNY HXS HYS HBB
          go_wp2_with fail
          go_roundw
          case rel => exact ⟨i + 1, by omega, by go_num, HK1⟩
          case measure => simp [intOf]; omega
      · clear HR HP HR' HP' HNA HNB HFW HBB
        obtain ⟨hh, hY, hl, hw⟩ := HTWO.out
        have HC := Lib.hid (lsync_any w1 wr gd gx p X (LBlks gy hh) hw)
        have HL := Lib.hid hl
        have HYE := Lib.hid hY
        have HSN := Lib.hid (lsync_name p X)
        have HS2 := Lib.hid HBES.out.sync
        clear hl hY hw
        go_wp2_with fail
        refine HC.out.mono ?_
        clear HC
        rintro e w7 ⟨rfl, hw7, hf7⟩
        have HTW7 : Hid (Two w1 w7 gd gx gy (lsync p X).1 (lsync p X).2.1 Y) := ⟨hh, HYE.out, HL.out.fr hf7 fun k hk hc => hc.1 hk, hw7⟩
        have HNX7 := Lib.hid (HSN.out.1.trans HNX.out)
        have HBE7 := Lib.hid HS2.out.2
        clear hw7 hf7 HTWO HBES HNX HL HYE HSN HS2
        generalize (lsync p X).1 = p7 at *
        generalize (lsync p X).2.1 = X7 at *
        have HTWS := Lib.hid HTW7.out.swap
        have HBES := Lib.hid HBE7.out.swap
        clear HTW7 HBE7
        obtain ⟨hh, hY, hl, hw⟩ := HTWS.out
        have HC := Lib.hid (lsync_any w1 w7 gd gy p7 Y (LBlks gx hh) hw)
        have HL := Lib.hid hl
        have HYE := Lib.hid hY
        have HSN := Lib.hid (lsync_name p7 Y)
        have HS2 := Lib.hid HBES.out.sync
        clear hl hY hw
        go_wp2_with fail
        refine HC.out.mono ?_
        clear HC
        rintro e w8 ⟨rfl, hw8, hf8⟩
        have HTW8 : Hid (Two w1 w8 gd gy gx (lsync p7 Y).1 (lsync p7 Y).2.1 X7) := ⟨hh, HYE.out, HL.out.fr hf8 fun k hk hc => hc.1 hk, hw8⟩
        have HNY8 := Lib.hid (HSN.out.1.trans HNY.out)
        have HBE8 := Lib.hid HS2.out.2
        clear hw8 hf8 HTWS HBES HNY HL HYE HSN HS2
        generalize (lsync p7 Y).1 = p8 at *
        generalize (lsync p7 Y).2.1 = Y8 at *
        have HTW := Lib.hid HTW8.out.swap
        have HB := Lib.hid HBE8.out.swap
        clear HTW8 HBE8
        have HAG := Lib.hid (HB.out.again [])
        have HFI := Lib.hid (HB.out.file [])
        rw [HNX7.out, HNY8.out] at HAG
        rw [HNX7.out, HNY8.out] at HFI
        obtain ⟨h, hY, hl, ⟨g, hX, hg, hat, hs, hlt⟩⟩ := HTW.out
        have HC := Lib.hid (crashS hat none 0 0 [] rfl (Rd.none_ _ _) (by unfold maxLen; simp))
        clear hY hl hX hg hat hs hlt
        go_wp2_with fail
        refine HC.out.mono ?_
        clear HC
        rintro e w9 ⟨gc, rfl, hx9, hf9⟩
        have ha9 := hx9 (OldS w8) fun _ h => h
        have HF9 : Hid (Fr NoBlk w8 w9) := hf9
        have HSZ8 : Hid (∀ k, OldS w8 k → k < w9.heap.size) := fun k hk => Nat.lt_of_lt_of_le hk hf9.size
        have hc := lopen_any w1 w9 gc (pCrash p8 []) (OldS w8) ha9 HSZ8.out HT1.out ⟨rfl, rfl⟩ xN (by simp [xN]) (by simp [xN]) 65536 (by omega) (by omega)
        rw [show ((65536 : Nat) : Int) = 65536 from rfl] at hc
        have HC := Lib.hid hc
        have HON : Hid (On' (lopen (pCrash p8 []) xN 65536).1) := by
          obtain ⟨j, _, _, hi, _⟩ := HB.out.x.again [] 65536
          rw [HNX7.out] at hi
          exact hi.on
        clear hx9 hf9 ha9 hc
        go_wp2_with fail
        refine HC.out.mono ?_
        clear HC
        rintro e w10 ⟨gp, rfl, hw10, hf10⟩
        have HF10 : Hid (Fr NoBlk w8 w10) := HF9.out.step hf10 fun k hk hc => hc.1 hk
        obtain ⟨gq, hgq, hlq, haq, hsq, hltq⟩ := hw10
        have hc := lopen_any w1 w10 gc (lopen (pCrash p8 []) xN 65536).1 (Mine gp gq (OldS w8)) haq (Mine.lt hlq hltq) HT1.out HON.out yN (by simp [yN]) (by simp [yN]) 65536 (by omega) (by omega)
        rw [show ((65536 : Nat) : Int) = 65536 from rfl] at hc
        have HC := Lib.hid hc
        have HLQ := Lib.hid hlq
        have HGQ := Lib.hid hgq
        clear hf10 hgq hlq haq hsq hltq hc HON
        go_wp2_with fail
        refine HC.out.mono ?_
        clear HC
        rintro e w11 ⟨gr, rfl, hw11, hf11⟩
        have HF11 : Hid (Fr NoBlk w8 w11) := HF10.out.step hf11 fun k hk hc => hc.1 (.inr hk)
        have HTN : Hid (Two w1 w11 gc gr gp (lopen (lopen (pCrash p8 []) xN 65536).1 yN 65536).1 (lopen (lopen (pCrash p8 []) xN 65536).1 yN 65536).2 (lopen (pCrash p8 []) xN 65536).2) := ⟨gq, HGQ.out, HLQ.out.fr hf11 fun k hk hc => hc.1 (.inl hk), hw11.less fun k hk => .inl hk⟩
        have HG1 : Hid ((lopen (pCrash p8 []) xN 65536).2.recs = X7.recs) := HAG.out.1
        have HG2 : Hid ((lopen (lopen (pCrash p8 []) xN 65536).1 yN 65536).2.recs = Y8.recs) := HAG.out.2
        have HRO : Hid (pRead (lopen (lopen (pCrash p8 []) xN 65536).1 yN 65536).1 othN = (othD, 0)) := HFI.out
        clear hw11 hf11 HLQ HGQ HAG HFI HF9 HF10 HSZ8
        generalize (lopen (lopen (pCrash p8 []) xN 65536).1 yN 65536).1 = p6 at *
        generalize (lopen (lopen (pCrash p8 []) xN 65536).1 yN 65536).2 = Q6 at *
        generalize (lopen (pCrash p8 []) xN 65536).2 = P6 at *
        obtain ⟨h, hY, hl, ⟨g, hX, hg, hat, hs, hlt⟩⟩ := HTN.out
        have hrd := readS hat othN (by unfold maxLen; simp [othN])
        rw [HRO.out] at hrd
        have HC := Lib.hid hrd
        clear hY hl hX hg hat hs hlt hrd
        go_wp2_with fail
        refine HC.out.mono ?_
        clear HC
        rintro e w12 ⟨As, cs, rfl, hgs⟩
        have HGS := Lib.hid hgs.got.rd
        have HF12 : Hid (Fr NoBlk w8 w12) := HF11.out.trans hgs.got.fr
        have HTN2 := Lib.hid (HTN.out.nofr hgs.got.fr)
        have HTO := Lib.hid (HTW.out.nofr HF12.out)
        have HFW12 := Lib.hid (HF1.out.trans HTO.out.fr)
        clear hgs HTN HTW HF11
        obtain ⟨_, _, _, hwp⟩ := HTN2.out.swap
        have hrc := lrecs_any w1 w12 gc gp p6 P6 _ hwp
        rw [HG1.out] at hrc
        have HC := Lib.hid hrc
        clear hwp hrc
        dsimp only
        go_wp2_with fail
        refine HC.out.mono ?_
        clear HC
        rintro e w13 ⟨Ap, cp, pq, rfl, h13⟩
        have H13 := Lib.hid h13
        have HTO13 := Lib.hid (HTO.out.nofr h13.fr)
        have HTN13 := Lib.hid (HTN2.out.nofr h13.fr)
        clear h13 HTN2 HTO
        obtain ⟨_, _, _, hwx⟩ := HTO13.out
        have HC := Lib.hid (lrecs_any w1 w13 gd gx p8 X7 _ hwx)
        clear hwx
        go_wp2_with fail
        refine HC.out.mono ?_
        clear HC
        rintro e w14 ⟨Ax, cx, xq, rfl, h14⟩
        have hsm := same_any w14 Ap cp pq Ax cx xq X7.recs.length (by rw [← H13.out.eq, List.length_map]) (by rw [← h14.eq, List.length_map]) (H13.out.rd.nofr h14.fr) h14.rd (fun q hq => ⟨(H13.out.part q hq).1.1.nofr h14.fr, (H13.out.part q hq).1.2⟩) (fun q hq => (h14.part q hq).1) (H13.out.eq.trans h14.eq.symm) (by have h1 := HB.out.recs; have h2 := HXS.out; omega)
        have HC := Lib.hid hsm
        have HTO14 := Lib.hid (HTO13.out.nofr h14.fr)
        have HTN14 := Lib.hid (HTN13.out.nofr h14.fr)
        have HF14 := Lib.hid (H13.out.fr.trans h14.fr)
        clear h14 hsm HTO13 HTN13 H13
        go_wp2_with fail
        refine HC.out.mono ?_
        clear HC
        rintro e w15 ⟨rfl, hf15⟩
        have HTO15 := Lib.hid (HTO14.out.nofr hf15)
        have HTN15 := Lib.hid (HTN14.out.nofr hf15)
        have HF15 := Lib.hid (HF14.out.trans hf15)
        clear hf15 HTO14 HTN14
        obtain ⟨_, _, _, hwq⟩ := HTN15.out
        have hrc := lrecs_any w1 w15 gc gr p6 Q6 _ hwq
        rw [HG2.out] at hrc
        have HC := Lib.hid hrc
        clear hwq hrc
        go_wp2_with fail
        refine HC.out.mono ?_
        clear HC
        rintro e w16 ⟨Aq, cq, qq, rfl, h16⟩
        have H16 := Lib.hid h16
        have HTO16 := Lib.hid (HTO15.out.nofr h16.fr)
        clear h16 HTO15 HTN15
        obtain ⟨_, _, _, hwy⟩ := HTO16.out.swap
        have HC := Lib.hid (lrecs_any w1 w16 gd gy p8 Y8 _ hwy)
        clear hwy
        go_wp2_with fail
        refine HC.out.mono ?_
        clear HC
        rintro e w17 ⟨Ay, cy, yq, rfl, h17⟩
        have hsm := same_any w17 Aq cq qq Ay cy yq Y8.recs.length (by rw [← H16.out.eq, List.length_map]) (by rw [← h17.eq, List.length_map]) (H16.out.rd.nofr h17.fr) h17.rd (fun q hq => ⟨(H16.out.part q hq).1.1.nofr h17.fr, (H16.out.part q hq).1.2⟩) (fun q hq => (h17.part q hq).1) (H16.out.eq.trans h17.eq.symm) (by have h1 := HB.out.swap.recs; have h2 := HYS.out; omega)
        have HC := Lib.hid hsm
        have HF17 := Lib.hid (HF15.out.trans (H16.out.fr.trans h17.fr))
        clear h17 hsm H16
        go_wp2_with fail
        refine HC.out.mono ?_
        clear HC
        rintro e w18 ⟨rfl, hf18⟩
        have HF18 := Lib.hid (HF17.out.trans hf18)
        have HFZ : Hid (Fr NoBlk w w18) := HFW12.out.trans HF18.out
        have s1 := strBs w18 As othD.length cs othD rfl (HGS.out.nofr HF18.out)
        have s2 : (bstr othD).toList = [102, 105, 108, 101] := bstr_toList othD
        clear hf18
        go_wp2_with fail
        go_ret
        exact ⟨by simp, HFZ.out⟩


theorem paramsOk : ∀ t ∈ Tryd.f6.params.toList, Tryd.prog.readableRec t = true ∧ t < Tryd.prog.types.size := fun t ht => by
  have h := List.all_eq_true.1 (show (Tryd.f6.params.toList.all fun t => Tryd.prog.readableRec t && decide (t < Tryd.prog.types.size)) = true by kernel_rfl) t ht
  simpa using h
theorem paramsPlain : ∀ (j : Nat) t, Tryd.f6.params[j]? = some t → Tryd.prog.wantsStandIn t = false := fun j t ht => by
  have h := List.all_eq_true.1 (show (Tryd.f6.params.toList.all fun t => !Tryd.prog.wantsStandIn t) = true by kernel_rfl) t (by simpa using Array.mem_of_getElem? ht)
  simpa using h

set_option maxRecDepth 100000 in
theorem contract (H : Type) (enc : TypeId × Value → H) (W : World) (args : Array Value) (ds gs : List (DataW H)) (before : List MemPlace)
    (base : Nat) (hval : ∀ (j : Nat) t v, Tryd.f6.params[j]? = some t → args[j]? = some v → Value.okWide Tryd.prog W .any base t v)
    (hW : DataW.Whole enc Tryd.prog Tryd.f6.params.toList Rows.walBesideSpec.vars false W args.toList ds gs before) (hL : laidMetH Tryd.prog Rows.walBesideRow.laid W) :
    Calls Tryd.prog 6 args W fun e W' => ∃ v, e = .returned v ∧ Rows.walBesideSpec.post enc Tryd.prog Tryd.f6 false true false false W args v W' := by
  have hW' := hW
  obtain ⟨p, q, hA, hV, rfl, _, _⟩ := hW
  rw [Tryd.params6] at hA hval
  obtain ⟨v0, vs0, d0, ds0, p0, q0, hargs, rfl, rfl, h0, r0⟩ := trodAll_cons hA
  obtain ⟨v1, vs1, d1, ds1, p1, q1, rfl, rfl, rfl, h1, r1⟩ := trodAll_cons r0
  obtain ⟨rfl, rfl, rfl⟩ := trodAll_nil r1
  obtain rfl : args = #[v0, v1] := by cases args; simp_all
  obtain ⟨rfl, rfl⟩ := trodVars_none hV
  obtain ⟨A, c, ps, rfl, hr, hp, hpc, hc⟩ := open_rows (hval 0 _ v0 rfl rfl) h0
  obtain ⟨B, c', qs, rfl, hr', hp', hpc', hc'⟩ := open_rows (hval 1 _ v1 rfl rfl) h1
  have walk := walk W (table hL) A c ps B c' qs hr hp (Nat.le_trans hpc hc) hr' hp' (Nat.le_trans hpc' hc')
  refine walk.mono fun e W' ⟨he, hf⟩ => ?_
  subst he
  exact ⟨_, rfl, law_post laidOut paramsOk rfl rfl Tryd.underlying4 hW' rfl rfl rfl hf⟩

theorem laid_met (os : Os) : laidMet Tryd.prog Rows.walBesideRow.laid ((laidWorld os).forCall (fun _ _ => 0) ⟨#[], #[.slice none 0 0, .slice none 0 0], []⟩).memory :=
  laidMet_of_run' 20 (by kernel_rfl) (by kernel_rfl)
theorem reads (os : Os) {H : Type} (enc : TypeId × Value → H) : ∃ places, DataW.whole enc Tryd.prog ((laidWorld os).forCall (fun _ _ => 0) ⟨#[], #[.slice none 0 0, .slice none 0 0], []⟩).memory Tryd.f6.params.toList Rows.walBesideSpec.vars false (#[.slice none 0 0, .slice none 0 0] : Array Value).toList 8 = some ([.nil, .nil], [], places) :=
  ⟨[], by kernel_rfl⟩

set_option maxRecDepth 100000 in
theorem lifted (os : Os) (started : os.Started) (H : Type) (enc : TypeId × Value → H) (F : Stop.Interp) :
    ReturnsInHanded {} Tryd.checked os 6 .any ((OpenSpec.ofChange Rows.walBesideSpec).preRow enc Tryd.prog Tryd.f6 Rows.walBesideRow.domain false Rows.walBesideRow.laid) (((OpenSpec.ofChange Rows.walBesideSpec).at F).post enc Tryd.prog Tryd.f6 false true false false) := by
  obtain ⟨places, hx⟩ := reads os enc
  refine returnsInHanded_of_row (C := Tryd.checked) (s := OpenSpec.ofChange Rows.walBesideSpec) own started (by kernel_rfl) Tryd.func6
    (witness_row_at (enc := enc) (C := Tryd.checked) false (laidWorld os) #[.slice none 0 0, .slice none 0 0] rfl (by kernel_rfl) (by kernel_rfl) (by kernel_rfl)
      (OpenSpec.preRow_of_cond 8 hx (by kernel_rfl) (fun k hk => by cases hk) (by kernel_rfl) (laid_met os))) ?_
  intro W base args ds gs before hval hW _ _ _ hL _ _
  exact contract H enc W args ds gs before base hval hW hL

theorem said : Rows.WalBesideSaid :=
  OpenClaim.holds_of_cond 6 Tryd.f6 rfl rfl rfl rfl rfl rfl rfl ⟨rfl, rfl, rfl, rfl, rfl⟩ rfl rfl rfl rfl rfl (by kernel_rfl) Tryd.func6 (by kernel_rfl)
    (of_decide_eq_true (by kernel_rfl)) (by unfold Func.isWrapper; first | (rw [if_pos (by decide +kernel)]; kernel_rfl) | (rw [if_neg (by decide +kernel)]; exact ⟨rfl, rfl⟩))
    (fun os started H enc _ F => by rw [OpenClaim.pre_eq_preRow]; exact lifted os started H enc F)

theorem plain (f : FuncId) (fn : Func) (hf : Tryd.pinned.checked.prog.funcNamed "argosy/argosylaw04.WalBeside" = some f) (hfn : Tryd.pinned.checked.prog.funcs[f]? = some fn) :
    false = Tryd.pinned.checked.prog.looks [] ∧ ∀ (j : Nat) t, fn.params[j]? = some t → Tryd.pinned.checked.prog.wantsStandIn t = false := by
  obtain rfl : f = 6 := Option.some.inj ((show Tryd.prog.funcNamed "argosy/argosylaw04.WalBeside" = some 6 by kernel_rfl).symm.trans hf) |>.symm
  obtain rfl : fn = Tryd.f6 := (Option.some.inj (Tryd.func6.symm.trans hfn)).symm
  exact ⟨by kernel_rfl, paramsPlain⟩

theorem card : Rows.WalBesideCardSaid :=
  Claim7.holds_tied_plain_at .later [] _ _ _ _ said (fun _ h => by cases h) (by kernel_rfl) (fun _ h => by cases h) walBeside_row_tie rfl ⟨rfl, rfl⟩ (by kernel_rfl) rfl plain (by kernel_rfl)
end Go.Proofs.YthnaggmafbhdmaaDoor.walBeside
