/- WalAny is true: any files are opened as a log; what is read are the frames that stand there from the beginning on, and opened again it is the same. No condition but what the card ties. -/
import Derived.Test.YthnaggmafbhdmaaDoorAnyAll
namespace Go.Proofs.YthnaggmafbhdmaaDoor.walAny
open Go.ChangeShapes Go.WideShapes Go.ChangeAt Go.RowKit

set_option maxRecDepth 100000 in
set_option maxHeartbeats 8000000 in
theorem walk (w : World) (ht : Tab w) (A : Option Addr) (c : Nat) (ps : List Prt)
    (hr : Rd w A (ps.map sl)) (hp : ∀ p ∈ ps, Part w p ∧ p.2.2.length ≤ p.2.1 ∧ p.2.1 ≤ maxLen) (hm : ps.length ≤ maxLen) :
    Calls Tryd.prog 4 #[.slice A ps.length c] w fun e w' => e = .returned (.bool true) ∧ Fr NoBlk w w' := by
  have HT := Lib.hid ht
  have HR := Lib.hid hr
  have HP := Lib.hid hp
  clear ht hr hp
  unfold maxLen at hm
  obtain ⟨i0, hi, hz0, hz1, hz2⟩ := info_parts bytesInfo
  obtain ⟨na, hna⟩ : ∃ na, na = ps.length := ⟨_, rfl⟩
  have HNA := Lib.hid hna
  rw [← hna] at hm ⊢
  clear hna
  go_enter Tryd.func4, Tryd.ntmps4
  go_wp2_with fail
  refine (speaks_any w HT.out).mono ?_
  rintro e w1 ⟨rfl, hf1⟩
  have HF1 := Lib.hid hf1
  clear hf1
  by_cases hb1 : 10 < na
  · go_wp2_with fail
    go_ret
    exact ⟨rfl, HF1.out⟩
  have HT1 := Lib.hid (HT.out.fr HF1.out fun h => h)
  go_wp2_with fail
  refine (new_at w1 w1 (Fr.refl _ _) 1048576 (by omega) (by omega)).mono ?_
  rintro e w2 ⟨gd, rfl, h2, _⟩
  have HB0 : Hid (AR w1 (w2.alloc (.cells #[] 34)) gd (.slice (some ⟨w2.heap.size, 0, none⟩) 0 0) []) := by
    have h3 : AtS w1 w2 gd (pNew 1048576) NoS := h2.prot (Fr.refl NoBlk _) fun _ h => h.elim
    refine ⟨pNew 1048576, [], ⟨h3.prot ((Fr.refl NoBlk _).alloc _) (fun _ _ h => h.elim) fun k hk => ?_, World.ownsRow_made (base := w1.heap.size) (e := 34) (size := 1) w2 #[] 0 h3.fr.size (by decide) rfl, fun x hx => by cases hx⟩, laid_new, rfl, Nat.zero_le _⟩
    rcases hk with hk | ⟨x, hx, _⟩
    · have : w2.heap.size = k := by simpa [Value.ownBlock] using hk
      exact .inr (by omega)
    · cases hx
  clear h2
  go_wp2_with fail
  go_loopw [5, 6, 31] (fun v wh z wr => ∃ (i : Nat) (bs : List Bs), i ≤ na ∧ z = .int .i64 i ∧ wh = .bool (allW bs) ∧ Hid (AR w1 wr gd v bs ∧ bs.length = i ∧ bs = (ps.map (·.2.2)).take i)) (fun _ _ z _ => na - (intOf z).toNat)
  case atStart => exact ⟨0, [], Nat.zero_le _, rfl, rfl, HB0, rfl, rfl⟩
  case round =>
    clear HB0
    obtain ⟨i, bs, hin, rfl, rfl, HX⟩ := hrel
    obtain ⟨⟨p, al, hall, hlaid, hal, hlen⟩, hbl, hbs⟩ := HX.out
    have HALL := Lib.hid hall
    have HLAID := Lib.hid hlaid
    have HAL := Lib.hid hal
    have HLEN := Lib.hid hlen
    have HBL := Lib.hid hbl
    have HBS := Lib.hid hbs
    obtain ⟨Av, cv, hv, _, _⟩ := own_form hall.row
    subst hv
    clear HX hall hlaid hal hlen hbl hbs
    by_cases hlt : i < na
    · obtain ⟨q, hq⟩ : ∃ q, ps[i]? = some q := ⟨_, List.getElem?_eq_getElem (by rw [← HNA.out]; exact hlt)⟩
      obtain ⟨b, o, rfl, hcell⟩ := (HR.out.nofr (HF1.out.trans HALL.out.dk.fr)).at_ (k := i) (v := sl q) (by rw [List.getElem?_map, hq]; rfl)
      have HPQ := Lib.hid (HP.out q (List.mem_of_getElem? hq))
      have HBN : Hid (bs ++ [q.2.2] = (ps.map (·.2.2)).take (i + 1)) := by
        show _ = _
        rw [List.take_add_one, ← HBS.out, List.getElem?_map, hq]
        rfl
      obtain ⟨Aq, cq, d⟩ := q
      unfold sl at hcell
      dsimp only at hcell HPQ HBN
      have hqm : d.length ≤ 9223372036854775807 := by
        have h1 := HPQ.out.2.1
        have h2 := HPQ.out.2.2
        unfold maxLen at h2
        omega
      clear hq
      obtain ⟨dl, hdl⟩ : ∃ dl, dl = d.length := ⟨_, rfl⟩
      have HDL := Lib.hid hdl
      rw [← hdl] at hcell hqm
      clear hdl
      obtain ⟨nl, hnl⟩ : ∃ nl, nl = al.length := ⟨_, rfl⟩
      have HNL := Lib.hid hnl
      rw [← hnl]
      clear hnl
      by_cases hlong : 5000 < dl
      · have HZ := Lib.hid (HF1.out.trans HALL.out.dk.fr)
        clear HALL
        go_wp2_with fail
        go_ret
        exact ⟨rfl, HZ.out⟩
      have e1 : IntKind.u8.wrap (48 + (i : Int)) = 48 + (i : Int) := by simp only [IntKind.wrap, IntKind.bits, IntKind.signed]; simp; omega
      have hdg : (UInt8.ofNat (48 + i)).toNat = 48 + i := by rw [UInt8.toNat_ofNat']; omega
      have hs := strBs (wr.alloc (.cells #[.int .u8 (48 + (i : Int))] 5)) (some ⟨wr.heap.size, 0, none⟩) 1 1 [UInt8.ofNat (48 + i)] rfl (by
        have h := Rd.new_marked wr [.int .u8 (48 + (i : Int))] 5 (0, 0)
        show Rd _ _ [.int .u8 (((UInt8.ofNat (48 + i)).toNat : Nat) : Int)]
        rw [hdg]
        exact h)
      have hcat : ({ data := #[108, 111, 103] } : ByteArray) ++ bstr [UInt8.ofNat (48 + i)] = bstr (lfile logN i) := bstr_append logN [UInt8.ofNat (48 + i)]
      have HAL2 := Lib.hid (HALL.out.nofr (((Fr.refl NoBlk wr)).alloc (.cells #[.int .u8 (48 + (i : Int))] 5)))
      have hap := appendS HAL2.out.dk (fun k hk => (HAL2.out.lt k hk).2) (lfile logN i) (by rw [lfile_len]; unfold maxLen; simp [logN]) Aq d.length cq d rfl (HPQ.out.1.1.nofr (HF1.out.trans HAL2.out.dk.fr)) HPQ.out.1.2 (by rw [← HDL.out]; unfold maxLen; omega)
      rw [← hcat, ← HDL.out] at hap
      have HAP := Lib.hid hap
      have z1 : (bstr [UInt8.ofNat (48 + i)]).size ≤ 1 := by rw [bstr_size]; simp
      have HLD := Lib.hid (laid_append HLAID.out HALL.out.dk.fits.2.2.2.1 (by rw [HBL.out]; omega) (d := d) (by rw [← HDL.out]; omega))
      rw [HBL.out] at HLD
      generalize bstr [UInt8.ofNat (48 + i)] = dg at *
      clear hap hcat hdg
      go_wp2_with fail
      refine HAP.out.mono ?_
      clear HAP
      rintro e w3 ⟨rfl, h3, hf3⟩
      have HAL3 := Lib.hid (HAL2.out.disk h3 hf3)
      clear h3 hf3 HAL2 HALL HLAID hs
      generalize (pAppend p (lfile logN i) d).1 = p3 at *
      generalize (pAppend p (lfile logN i) d).2 = e3 at *
      cases hw : allW bs
      · have HAR : Hid (AR w1 w3 gd (.slice Av nl cv) (bs ++ [d])) := AR.skip (p := p3) (wr := w3) (by rw [HNL.out]; exact HAL3.out) HLD.out HAL.out HLEN.out hw
        have HW2 : Hid (allW (bs ++ [d]) = false) := by show _ = _; rw [allW_snoc, hw]; rfl
        clear hw
        go_wp2_with fail
        go_loopw [5, 6, 9] (fun v wh z wr2 => v = .slice Av nl cv ∧ wh = .bool false ∧ z = .int .i64 0 ∧ Hid (AR w1 wr2 gd (.slice Av nl cv) (bs ++ [d]))) (fun _ _ _ _ => 0)
        case atStart => exact ⟨rfl, rfl, rfl, HAR⟩
        case round =>
          clear HAR HAL3
          obtain ⟨rfl, rfl, rfl, HR2⟩ := hrel
          by_cases hd0 : 0 < dl
          · go_wp2_with fail
            go_roundw
            case rel => exact ⟨i + 1, bs ++ [d], by omega, by go_num, by rw [HW2.out], HR2.out, by rw [List.length_append, HBL.out]; rfl, HBN.out⟩
            case measure => simp [intOf]; omega
          · go_wp2_with fail
            go_roundw
            case rel => exact ⟨i + 1, bs ++ [d], by omega, by go_num, by rw [HW2.out], HR2.out, by rw [List.length_append, HBL.out]; rfl, HBN.out⟩
            case measure => simp [intOf]; omega
      · have HWT := Lib.hid hw
        have HAI0 : Hid (AI w1 w3 gd (.slice Av nl cv) bs d 0) := ⟨p3, al, [], by rw [HNL.out]; exact HAL3.out, HLD.out, by rw [List.append_nil]; exact HAL.out, HLEN.out, by simp, Nat.zero_le _⟩
        clear hw HAL3 HLD HAL HLEN HNL
        go_wp2_with fail
        go_loopw [5, 6, 9] (fun v wh z wr2 => ∃ k : Nat, k ≤ dl ∧ wh = .bool true ∧ z = .int .i64 k ∧ Hid (AI w1 wr2 gd v bs d k)) (fun _ _ z _ => dl - (intOf z).toNat)
        case atStart => exact ⟨0, Nat.zero_le _, rfl, rfl, HAI0⟩
        case round =>
          clear HAI0
          obtain ⟨k, hk, rfl, rfl, HX⟩ := hrel
          obtain ⟨p4, al4, R4, hall, hlaid, hal, hlen, hprs, hkd⟩ := HX.out
          obtain ⟨Av4, cv4, hv, _, _⟩ := own_form hall.row
          subst hv
          have HALL := Lib.hid hall
          have HLA := Lib.hid hlaid
          have HAE := Lib.hid hal
          have HLE := Lib.hid hlen
          have HPR := Lib.hid hprs
          have HRW := Lib.hid hall.row
          clear hall hlaid hal hlen hprs hkd
          obtain ⟨nl4, hnl⟩ : ∃ nl4, nl4 = al4.length := ⟨_, rfl⟩
          have HNL := Lib.hid hnl
          have hnl5 : nl4 ≤ 100000 := by
            have h1 := HLE.out
            have h2 := HBL.out
            omega
          rw [← hnl] at HRW ⊢
          clear hnl
          by_cases hkl : k < dl
          · obtain ⟨b', o', rfl, _⟩ := HPQ.out.1.1 (by rw [cb_length]; show 0 < d.length; rw [← HDL.out]; omega)
            have f2 : (k : Int) ≤ (dl : Int) := by omega
            have f3 : (dl : Int) ≤ (cq : Int) := by have := HPQ.out.2.1; have := HDL.out; omega
            have hcq : dl ≤ cq := by omega
            have HRD : Hid (Rd wr (some ⟨b', o' + k, none⟩) (cb (d.drop k))) := by
              rw [cb_drop]
              intro hx
              rw [List.length_drop] at hx
              obtain ⟨b2, o2, e, hcell2⟩ := (HPQ.out.1.1.nofr (HF1.out.trans HALL.out.dk.fr)) (by show 0 < (cb d).length; omega)
              injection e with e
              injection e with ea eb
              subst ea eb
              refine ⟨b', o' + k, rfl, fun j v hv => ?_⟩
              rw [List.getElem?_drop] at hv
              rw [Nat.add_assoc]
              exact hcell2 _ _ hv
            have HU := Lib.hid (dunframe_any wr (some ⟨b', o' + k, none⟩) (dl - k) (cq - k) (d.drop k) (by rw [List.length_drop, ← HDL.out]) HRD.out (fun h => by cases h) (by rw [List.length_drop, ← HDL.out]; omega) (by omega))
            obtain ⟨u, hu⟩ : ∃ u, u = unfr (d.drop k) := ⟨_, rfl⟩
            rw [← hu] at HU
            have HUQ := Lib.hid hu
            obtain ⟨ub, us, ue⟩ := u
            clear hu
            go_wp2_with fail
            refine HU.out.mono ?_
            clear HU
            rintro e w5 hp5
            unfold UnPost at hp5
            dsimp only at hp5
            obtain ⟨v5, rfl, hn5⟩ := hp5
            obtain ⟨A5, c5, rfl, _, _⟩ := own_form hn5.own
            have HN5 := Lib.hid hn5
            clear hn5
            by_cases hue : ue = 0
            · subst hue
              have HOK : Hid (6 ≤ us ∧ us ≤ dl - k ∧ ub.length ≤ 4096) := by
                have h := unfr_ok (d.drop k) (by rw [← HUQ.out])
                rw [← HUQ.out, List.length_drop, ← HDL.out] at h
                exact h
              have hus := HOK.out.2.1
              have f6 : (k : Int) + (us : Int) ≤ (dl : Int) := by omega
              have HF5A : Hid (Fr NoBlk w5 (w5.alloc (.cells #[.slice A5 ub.length c5] 34))) := (Fr.refl _ _).alloc _
              have HOV : Hid ((w5.alloc (.cells #[.slice A5 ub.length c5] 34)).ownsRow w1.heap.size 34 1 (.slice Av4 nl4 cv4) nl4 (al4.map sl)) := own_fr HRW.out (HN5.out.fr.trans HF5A.out) fun _ _ h => h
              have HSZ : Hid (w1.heap.size ≤ w5.heap.size) := (HALL.out.dk.fr.trans HN5.out.fr).size
              go_wp2_with (at_builtin; refine wpList_app rfl _ _ 22 rfl w1.heap.size 34 i0 (.slice none 0 0) 24 Tryd.underlying22 hi hz0 hz1 hz2 rfl (.slice Av4 nl4 cv4) nl4 (al4.map sl) rfl HOV.out (some ⟨w5.heap.size, 0, none⟩) 1 1 [.slice A5 ub.length c5] rfl rfl ?c1 ?c2 ?c3 ?c4 ?c5 ?c6 ?_)
              case c1 => exact Rd.new_marked w5 [.slice A5 ub.length c5] 34 (0, 0)
              case c2 => intro u hu; rw [List.mem_singleton.1 hu]; rfl
              case c3 => intro h; cases h
              case c4 => unfold maxLen; omega
              case c5 => omega
              case c6 => have := HSZ.out; simp; omega
              intro v9 w9 ho9 hg9 _ hb9
              have HNX : Hid (AI w1 w9 gd v9 bs d (k + us)) :=
                AI.next (x := (A5, c5, ub)) (v := .slice Av4 nl4 cv4) (by rw [HNL.out]; exact HALL.out) HLA.out HAE.out HLE.out HPR.out (by rw [← HDL.out]; omega) HUQ.out.symm HN5.out.own HN5.out.fr HF5A.out (by rw [← HNL.out]; exact ho9) hg9 (by rw [World.size_alloc]; exact hb9)
              clear ho9 hg9 hb9
              go_wp2_with fail
              go_roundw
              case rel => exact ⟨k + us, by omega, rfl, by go_num, HNX⟩
              case measure => simp [intOf]; have := HOK.out.1; omega
            · have t1 : ((ue : Int) != 0) = true := by rw [bne_iff_ne]; omega
              have t2 : ¬ (ue : Int) = 0 := by omega
              have HAI : Hid (AI w1 w5 gd (.slice Av4 nl4 cv4) bs d k) := ⟨p4, al4, R4, by rw [HNL.out]; exact HALL.out.nofr HN5.out.fr, HLA.out, HAE.out, HLE.out, HPR.out, by rw [← HDL.out]; omega⟩
              have HFI := Lib.hid (HAI.out.fin HWT.out (parse_bad _ (by rw [← HUQ.out]; exact hue)) (by rw [← HDL.out]; omega))
              have HW2 : Hid (allW (bs ++ [d]) = false) := by
                show _ = _
                have h := congrArg Prod.snd HFI.out.2
                dsimp only at h
                rw [allW_snoc, h, HWT.out, decide_eq_true (by rw [← HDL.out]; exact hkl)]
                rfl
              clear HALL HAI
              go_wp2_with fail
              go_roundw
              case rel => exact ⟨i + 1, bs ++ [d], by omega, by go_num, by rw [HW2.out], HFI.out.1, by rw [List.length_append, HBL.out]; rfl, HBN.out⟩
              case measure => simp [intOf]; omega
          · have HAI : Hid (AI w1 wr gd (.slice Av4 nl4 cv4) bs d k) := ⟨p4, al4, R4, by rw [HNL.out]; exact HALL.out, HLA.out, HAE.out, HLE.out, HPR.out, by rw [← HDL.out]; omega⟩
            have HFI := Lib.hid (HAI.out.fin HWT.out (by rw [List.drop_of_length_le (by rw [← HDL.out]; omega)]; exact parse_nil) (by rw [← HDL.out]; omega))
            have HW2 : Hid (allW (bs ++ [d]) = true) := by
              show _ = _
              have h := congrArg Prod.snd HFI.out.2
              dsimp only at h
              rw [allW_snoc, h, HWT.out, decide_eq_false (by rw [← HDL.out]; omega)]
              rfl
            clear HALL HAI
            go_wp2_with fail
            go_roundw
            case rel => exact ⟨i + 1, bs ++ [d], by omega, by go_num, by rw [HW2.out], HFI.out.1, by rw [List.length_append, HBL.out]; rfl, HBN.out⟩
            case measure => simp [intOf]; omega
    · clear HR HP HNA HBS
      have hbl : bs.length ≤ 10 := by have := HBL.out; omega
      have hlo := lopen_anyL logN 100 bs HLAID.out.1 hbl HLAID.out.2.2
      have hc := lopen_any w1 wr gd p (AllS (.slice Av al.length cv) al) HALL.out.dk (fun k hk => (HALL.out.lt k hk).2) HT1.out HLAID.out.1 logN (by simp [logN]) (by simp [logN]) 100 (by omega) (by omega)
      rw [show ((100 : Nat) : Int) = 100 from rfl] at hc
      have HC := Lib.hid hc
      have HLO := Lib.hid hlo
      have hlo2 := lopen_anyL logN 100 (anyQ bs) hlo.2.1 (Nat.le_trans (anyQ_le bs) hbl) hlo.2.2
      rw [anyR_anyQ] at hlo2
      have HLO2 := Lib.hid hlo2
      have HNM1 := Lib.hid (lopen_nm p logN 100)
      have HNM2 := Lib.hid (lopen_nm (lopen p logN 100).1 logN 100)
      have HROW := Lib.hid HALL.out.row
      have HOWN := Lib.hid HALL.out.own
      clear hbl hlo hc hlo2
      obtain ⟨nl, hnl⟩ : ∃ nl, nl = al.length := ⟨_, rfl⟩
      have HNL := Lib.hid hnl
      rw [← hnl] at HROW HC ⊢
      have hnl8 : nl ≤ 100000 := by have := HLEN.out; have := HBL.out; omega
      clear hnl
      go_wp2_with fail
      refine HC.out.mono ?_
      clear HC
      rintro e w5 ⟨gl, rfl, hw5, hf5⟩
      have HROW5 := Lib.hid (own_fr HROW.out hf5 fun k hk hc => hc.1 (.inl hk))
      have HOWN5 : Hid (∀ x ∈ al, w5.ownsRow w1.heap.size 5 1 (sl x) x.2.2.length (cb x.2.2)) := fun x hx => own_fr (HOWN.out x hx) hf5 fun k hk hc => hc.1 (.inr ⟨x, hx, hk⟩)
      have hrc := lrecs_any w1 w5 gd gl _ _ _ hw5
      rw [HLO.out.1] at hrc
      have HC := Lib.hid hrc
      have HW5 := Lib.hid hw5
      clear hf5 hrc hw5 HROW HOWN HALL
      go_wp2_with fail
      refine HC.out.mono ?_
      clear HC
      rintro e w6 ⟨A6, c6, q6, rfl, h6⟩
      have hgl : (anyR bs).length = nl := by rw [← HAL.out, List.length_map]; exact HNL.out.symm
      rw [hgl]
      have HGL := Lib.hid hgl
      have hsm := same_any w6 A6 c6 q6 Av cv al nl (by rw [← hgl, ← h6.eq, List.length_map]) HNL.out h6.rd (Rd.of_own (own_fr HROW5.out h6.fr fun _ _ h => h)) (fun q hq => (h6.part q hq).1) (fun q hq => own_part (own_fr (HOWN5.out q hq) h6.fr fun _ _ h => h)) (h6.eq.trans HAL.out.symm) (by omega)
      have HC := Lib.hid hsm
      have HW6 := Lib.hid (HW5.out.nofr h6.fr)
      have HROW6 := Lib.hid (own_fr HROW5.out h6.fr fun _ _ h => h)
      have HOWN6 : Hid (∀ x ∈ al, w6.ownsRow w1.heap.size 5 1 (sl x) x.2.2.length (cb x.2.2)) := fun x hx => own_fr (HOWN5.out x hx) h6.fr fun _ _ h => h
      clear hsm h6 HW5 HROW5 HOWN5 hgl
      go_wp2_with fail
      refine HC.out.mono ?_
      clear HC
      rintro e w7 ⟨rfl, hf7⟩
      have HROW7 := Lib.hid (own_fr HROW6.out hf7 fun _ _ h => h)
      have HOWN7 : Hid (∀ x ∈ al, w7.ownsRow w1.heap.size 5 1 (sl x) x.2.2.length (cb x.2.2)) := fun x hx => own_fr (HOWN6.out x hx) hf7 fun _ _ h => h
      obtain ⟨g, hgp, hlg, hag, hsg, htg⟩ := HW6.out.nofr hf7
      have hc := lopen_any w1 w7 gd _ (Mine gl g (AllS (.slice Av nl cv) al)) hag (Mine.lt hlg htg) HT1.out HLO.out.2.1 logN (by simp [logN]) (by simp [logN]) 100 (by omega) (by omega)
      rw [show ((100 : Nat) : Int) = 100 from rfl] at hc
      have HC := Lib.hid hc
      have HLG := Lib.hid hlg
      have HGP := Lib.hid hgp
      clear hf7 HW6 HROW6 HOWN6 hgp hlg hag hsg htg hc
      go_wp2_with fail
      refine HC.out.mono ?_
      clear HC
      rintro e w8 ⟨gm, rfl, hw8, hf8⟩
      have HROW8 := Lib.hid (own_fr HROW7.out hf8 fun k hk hc => hc.1 (.inr (.inl hk)))
      have HOWN8 : Hid (∀ x ∈ al, w8.ownsRow w1.heap.size 5 1 (sl x) x.2.2.length (cb x.2.2)) := fun x hx => own_fr (HOWN7.out x hx) hf8 fun k hk hc => hc.1 (.inr (.inr ⟨x, hx, hk⟩))
      have HWM : Hid (WL w1 w8 gd (lopen (lopen p logN 100).1 logN 100).1 gm (lopen (lopen p logN 100).1 logN 100).2 NoS) := hw8.less fun _ h => h.elim
      have HWL8 : Hid (WL w1 w8 gd (lopen (lopen p logN 100).1 logN 100).1 gl (lopen p logN 100).2 NoS) := by
        obtain ⟨gM, hgM, hlM, haM, hsM, htM⟩ := hw8
        exact ⟨g, HGP.out, HLG.out.fr hf8 fun k hk hc => hc.1 (.inl hk), haM.prot (Fr.refl NoBlk _) (fun _ _ h => h.elim) fun k hk => .inl (hk.elim (fun h => .inr (.inl h)) fun h => h.elim), (fun _ h => h.elim), fun _ h => h.elim⟩
      have hrc := lrecs_any w1 w8 gd gm _ _ _ HWM.out
      rw [HLO2.out.1] at hrc
      have HC := Lib.hid hrc
      clear hw8 hf8 hrc HROW7 HOWN7 HLG HGP
      go_wp2_with fail
      refine HC.out.mono ?_
      clear HC
      rintro e w9 ⟨A9, c9, q9, rfl, h9⟩
      rw [HGL.out]
      have hsm := same_any w9 A9 c9 q9 Av cv al nl (by rw [← HGL.out, ← h9.eq, List.length_map]) HNL.out h9.rd (Rd.of_own (own_fr HROW8.out h9.fr fun _ _ h => h)) (fun q hq => (h9.part q hq).1) (fun q hq => own_part (own_fr (HOWN8.out q hq) h9.fr fun _ _ h => h)) (h9.eq.trans HAL.out.symm) (by omega)
      have HC := Lib.hid hsm
      have HWM9 := Lib.hid (HWM.out.nofr h9.fr)
      have HWL9 := Lib.hid (HWL8.out.nofr h9.fr)
      clear hsm h9 HWM HWL8 HROW8 HOWN8
      go_wp2_with fail
      refine HC.out.mono ?_
      clear HC
      rintro e w10 ⟨rfl, hf10⟩
      have HWL10 := Lib.hid (HWL9.out.nofr hf10)
      have hpa := lparts_any w1 w10 gd gm _ _ _ (HWM9.out.nofr hf10)
      rw [HNM2.out] at hpa
      have HPA := Lib.hid hpa
      clear hf10 hpa HWM9 HWL9
      go_wp2_with fail
      refine HPA.out.mono ?_
      clear HPA
      rintro e w11 ⟨rfl, hf11⟩
      have HWL11 := Lib.hid (HWL10.out.nofr hf11)
      have hpa := lparts_any w1 w11 gd gl _ _ _ HWL11.out
      rw [HNM1.out] at hpa
      have HPA := Lib.hid hpa
      clear hf11 hpa HWL10
      generalize pcount ((lopen (lopen p logN 100).1 logN 100).1.files.map (·.name)) logN 10 = pc at *
      go_wp2_with fail
      refine HPA.out.mono ?_
      clear HPA
      rintro e w12 ⟨rfl, hf12⟩
      have HFZ := Lib.hid (HF1.out.trans (HWL11.out.fr.trans hf12))
      clear hf12
      go_wp2_with fail
      go_ret
      exact ⟨by simp, HFZ.out⟩

theorem paramsOk : ∀ t ∈ Tryd.f4.params.toList, Tryd.prog.readableRec t = true ∧ t < Tryd.prog.types.size := fun t ht => by
  have h := List.all_eq_true.1 (show (Tryd.f4.params.toList.all fun t => Tryd.prog.readableRec t && decide (t < Tryd.prog.types.size)) = true by kernel_rfl) t ht
  simpa using h
theorem paramsPlain : ∀ (j : Nat) t, Tryd.f4.params[j]? = some t → Tryd.prog.wantsStandIn t = false := fun j t ht => by
  have h := List.all_eq_true.1 (show (Tryd.f4.params.toList.all fun t => !Tryd.prog.wantsStandIn t) = true by kernel_rfl) t (by simpa using Array.mem_of_getElem? ht)
  simpa using h

set_option maxRecDepth 100000 in
theorem contract (H : Type) (enc : TypeId × Value → H) (W : World) (args : Array Value) (ds gs : List (DataW H)) (before : List MemPlace)
    (base : Nat) (hval : ∀ (j : Nat) t v, Tryd.f4.params[j]? = some t → args[j]? = some v → Value.okWide Tryd.prog W .any base t v)
    (hW : DataW.Whole enc Tryd.prog Tryd.f4.params.toList Rows.walAnySpec.vars false W args.toList ds gs before) (hL : laidMetH Tryd.prog Rows.walAnyRow.laid W) :
    Calls Tryd.prog 4 args W fun e W' => ∃ v, e = .returned v ∧ Rows.walAnySpec.post enc Tryd.prog Tryd.f4 false true false false W args v W' := by
  have hW' := hW
  obtain ⟨p, q, hA, hV, rfl, _, _⟩ := hW
  rw [Tryd.params4] at hA hval
  obtain ⟨v0, vs0, d0, ds0, p0, q0, hargs, rfl, rfl, h0, r0⟩ := trodAll_cons hA
  obtain ⟨rfl, rfl, rfl⟩ := trodAll_nil r0
  obtain rfl : args = #[v0] := by cases args; simp_all
  obtain ⟨rfl, rfl⟩ := trodVars_none hV
  obtain ⟨A, c, ps, rfl, hr, hp, hpc, hc⟩ := open_rows (hval 0 _ v0 rfl rfl) h0
  have walk := walk W (table hL) A c ps hr hp (Nat.le_trans hpc hc)
  refine walk.mono fun e W' ⟨he, hf⟩ => ?_
  subst he
  exact ⟨_, rfl, law_post laidOut paramsOk rfl rfl Tryd.underlying4 hW' rfl rfl rfl hf⟩

theorem laid_met (os : Os) : laidMet Tryd.prog Rows.walAnyRow.laid ((laidWorld os).forCall (fun _ _ => 0) ⟨#[], #[.slice none 0 0], []⟩).memory :=
  laidMet_of_run' 20 (by kernel_rfl) (by kernel_rfl)
theorem reads (os : Os) {H : Type} (enc : TypeId × Value → H) : ∃ places, DataW.whole enc Tryd.prog ((laidWorld os).forCall (fun _ _ => 0) ⟨#[], #[.slice none 0 0], []⟩).memory Tryd.f4.params.toList Rows.walAnySpec.vars false (#[.slice none 0 0] : Array Value).toList 8 = some ([.nil], [], places) :=
  ⟨[], by kernel_rfl⟩

set_option maxRecDepth 100000 in
theorem lifted (os : Os) (started : os.Started) (H : Type) (enc : TypeId × Value → H) (F : Stop.Interp) :
    ReturnsInHanded {} Tryd.checked os 4 .any ((OpenSpec.ofChange Rows.walAnySpec).preRow enc Tryd.prog Tryd.f4 Rows.walAnyRow.domain false Rows.walAnyRow.laid) (((OpenSpec.ofChange Rows.walAnySpec).at F).post enc Tryd.prog Tryd.f4 false true false false) := by
  obtain ⟨places, hx⟩ := reads os enc
  refine returnsInHanded_of_row (C := Tryd.checked) (s := OpenSpec.ofChange Rows.walAnySpec) own started (by kernel_rfl) Tryd.func4
    (witness_row_at (enc := enc) (C := Tryd.checked) false (laidWorld os) #[.slice none 0 0] rfl (by kernel_rfl) (by kernel_rfl) (by kernel_rfl)
      (OpenSpec.preRow_of_cond 8 hx (by kernel_rfl) (fun k hk => by cases hk) (by kernel_rfl) (laid_met os))) ?_
  intro W base args ds gs before hval hW _ _ _ hL _ _
  exact contract H enc W args ds gs before base hval hW hL

theorem said : Rows.WalAnySaid :=
  OpenClaim.holds_of_cond 4 Tryd.f4 rfl rfl rfl rfl rfl rfl rfl ⟨rfl, rfl, rfl, rfl, rfl⟩ rfl rfl rfl rfl rfl (by kernel_rfl) Tryd.func4 (by kernel_rfl)
    (of_decide_eq_true (by kernel_rfl)) (by unfold Func.isWrapper; first | (rw [if_pos (by decide +kernel)]; kernel_rfl) | (rw [if_neg (by decide +kernel)]; exact ⟨rfl, rfl⟩))
    (fun os started H enc _ F => by rw [OpenClaim.pre_eq_preRow]; exact lifted os started H enc F)

theorem plain (f : FuncId) (fn : Func) (hf : Tryd.pinned.checked.prog.funcNamed "argosy/argosylaw04.WalAny" = some f) (hfn : Tryd.pinned.checked.prog.funcs[f]? = some fn) :
    false = Tryd.pinned.checked.prog.looks [] ∧ ∀ (j : Nat) t, fn.params[j]? = some t → Tryd.pinned.checked.prog.wantsStandIn t = false := by
  obtain rfl : f = 4 := Option.some.inj ((show Tryd.prog.funcNamed "argosy/argosylaw04.WalAny" = some 4 by kernel_rfl).symm.trans hf) |>.symm
  obtain rfl : fn = Tryd.f4 := (Option.some.inj (Tryd.func4.symm.trans hfn)).symm
  exact ⟨by kernel_rfl, paramsPlain⟩

theorem card : Rows.WalAnyCardSaid :=
  Claim7.holds_tied_plain_at .later [] _ _ _ _ said (fun _ h => by cases h) (by kernel_rfl) (fun _ h => by cases h) walAny_row_tie rfl ⟨rfl, rfl⟩ (by kernel_rfl) rfl plain (by kernel_rfl)
end Go.Proofs.YthnaggmafbhdmaaDoor.walAny
