/- DiskLasts is true: what was synced is there behind any crash, and of what came behind it a beginning. No condition. -/
import Derived.Test.YtddakbannfjfcaaLawp
import Derived.Test.YtddakbannfjfcaaOpen2
import Derived.Test.YtddakbannfjfcaaLastP
namespace Go.Proofs.Ytddakbannfjfcaa.diskLasts
open Go.ChangeShapes Go.WideShapes Go.ChangeAt Go.RowKit

theorem all_len (ps : List Prt) (h : ∀ p ∈ ps, p.2.2.length ≤ 2000) : (allOf ps).length ≤ 2000 * ps.length := by
  induction ps with
  | nil => simp [allOf]
  | cons p t ih =>
    have h1 := ih fun q hq => h q (List.mem_cons_of_mem _ hq)
    have h2 := h p (List.mem_cons_self ..)
    show (p.2.2 ++ allOf t).length ≤ _
    rw [List.length_append, List.length_cons]
    omega
def two (ps qs : List Prt) (j : Nat) : List UInt8 := allOf ps ++ allOf (qs.take j)
theorem two_len (ps qs : List Prt) (j : Nat) : (two ps qs j).length = (allOf ps).length + (allOf (qs.take j)).length := by unfold two; rw [List.length_append]
theorem two_zero (ps qs : List Prt) : two ps qs 0 = allOf ps := by simp [two, allOf]
theorem all_zero (ps : List Prt) : allOf (ps.take 0) = [] := by simp [allOf]
theorem pairs_step {ps : List Prt} {i : Nat} {p : Prt} (hp : ps[i]? = some p) (h : ∀ q ∈ ps.take i, q.2.2.length ≤ 2000) (hl : p.2.2.length ≤ 2000) : ∀ q ∈ ps.take (i + 1), q.2.2.length ≤ 2000 := by
  intro r hr
  obtain ⟨hk, e⟩ := List.getElem?_eq_some_iff.1 hp
  rw [List.take_succ_eq_append_getElem hk] at hr
  rcases List.mem_append.1 hr with h1 | h1
  · exact h r h1
  · rw [List.mem_singleton.1 h1, e]; exact hl

set_option maxRecDepth 100000 in
set_option maxHeartbeats 4000000 in
theorem walk (w : World) (A : Option Addr) (c : Nat) (ps : List Prt) (A' : Option Addr) (c' : Nat) (qs : List Prt) (K : Option Addr) (kc : Nat) (ks : List Int) (hr : Rd w A (ps.map sl)) (hp : ∀ p ∈ ps, Part w p ∧ p.2.2.length ≤ p.2.1 ∧ p.2.1 ≤ maxLen) (hm : ps.length ≤ maxLen)
    (hr' : Rd w A' (qs.map sl)) (hp' : ∀ p ∈ qs, Part w p ∧ p.2.2.length ≤ p.2.1 ∧ p.2.1 ≤ maxLen) (hm' : qs.length ≤ maxLen) (hk : Rd w K (ics ks)) (hkl : ks.length ≤ maxLen) :
    Calls Try.prog 4 #[.slice A ps.length c, .slice A' qs.length c', .slice K ks.length kc] w fun e w' => e = .returned (.bool true) ∧ Fr NoBlk w w' := by
  have HR := Lib.hid hr
  have HP := Lib.hid hp
  have HR' := Lib.hid hr'
  have HP' := Lib.hid hp'
  have HK := Lib.hid hk
  have HKL := Lib.hid hkl
  clear hr hp hr' hp' hk hkl
  unfold maxLen at hm hm'
  have h102 : ([102] : Bs).length ≤ maxLen := by unfold maxLen; simp
  have H102 := Lib.hid h102
  clear h102
  obtain ⟨i0, hi, hz0, hz1, hz2⟩ := info_parts byteInfo
  by_cases hbig : 50 < ps.length
  · go_enter Try.func4, Try.ntmps4
    go_wp2_with fail
    refine (speaks_any w).mono ?_
    rintro e w1 ⟨rfl, hf⟩
    have HF := Lib.hid hf
    clear hf
    go_wp2_with fail
    go_ret
    exact ⟨rfl, HF.out⟩
  by_cases hbig' : 50 < qs.length
  · go_enter Try.func4, Try.ntmps4
    go_wp2_with fail
    refine (speaks_any w).mono ?_
    rintro e w1 ⟨rfl, hf⟩
    have HF := Lib.hid hf
    clear hf
    go_wp2_with fail
    go_ret
    exact ⟨rfl, HF.out⟩
  go_enter Try.func4, Try.ntmps4
  go_wp2_with fail
  refine (speaks_any w).mono ?_
  rintro e w1 ⟨rfl, hf1⟩
  have HF1 := Lib.hid hf1
  clear hf1
  go_wp2_with fail
  refine (new_at w1 w1 (Fr.refl _ _) 1048576 (by omega) (by omega)).mono ?_
  rintro e w2 ⟨gd, rfl, h2, hf2⟩
  have HL0 : Hid (Las w1 ((w2.alloc (.cells #[] 5)).alloc (.cells #[] 5)) gd (pF 0 (allOf (ps.take 0)) 0) (.slice (some ⟨w2.heap.size, 0, none⟩) 0 0) (.slice (some ⟨w2.heap.size + 1, 0, none⟩) 0 0) (allOf (ps.take 0)) []) := Las.start h2
  clear h2 hf2
  go_wp2_with fail
  go_loopw [9, 38] (fun v s wr => ∃ i : Nat, i ≤ ps.length ∧ s = .int .i64 i ∧ Hid (∀ p ∈ ps.take i, p.2.2.length ≤ 2000) ∧ Hid (Las w1 wr gd (pF i (allOf (ps.take i)) 0) v (.slice (some ⟨w2.heap.size + 1, 0, none⟩) 0 0) (allOf (ps.take i)) [])) (fun _ s _ => ps.length - (intOf s).toNat)
  case atStart => exact ⟨0, Nat.zero_le _, rfl, (fun p h => by simp at h), HL0⟩
  case round =>
    clear HL0
    obtain ⟨i, hin, rfl, HS, HL⟩ := hrel
    obtain ⟨Av, cv, rfl, _, _⟩ := own_form HL.out.own1
    have HFR := Lib.hid (HF1.out.trans HL.out.at_.fr)
    by_cases hlt : i < ps.length
    · obtain ⟨p, hp⟩ : ∃ p, ps[i]? = some p := ⟨_, List.getElem?_eq_getElem hlt⟩
      obtain ⟨b, o, rfl, hcell⟩ := (HR.out.nofr HFR.out).at_ (k := i) (v := sl p) (by rw [List.getElem?_map, hp]; rfl)
      have HQ := Lib.hid (HP.out p (List.mem_of_getElem? hp))
      have HST := Lib.hid (allOf_step ps i p hp)
      have HS1 : Hid (p.2.2.length ≤ 2000 → ∀ q ∈ ps.take (i + 1), q.2.2.length ≤ 2000) := pairs_step hp HS.out
      have HLL := Lib.hid (all_len (ps.take i) HS.out)
      obtain ⟨Ap, cp, lp⟩ := p
      unfold sl at hcell
      dsimp only at hcell HQ HST HS1
      have hpm : lp.length ≤ 9223372036854775807 := by
        have h1 := HQ.out.2.1; have h2 := HQ.out.2.2
        unfold maxLen at h2
        omega
      clear hp
      by_cases hlong : 2000 < lp.length
      · go_wp2_with fail
        go_ret
        exact ⟨rfl, HFR.out⟩
      · have HS2 := Lib.hid (HS1.out (by omega))
        have HBND : Hid ((allOf (ps.take i)).length + lp.length ≤ 102000) := by
          show _ ≤ _
          have h1 := HLL.out
          have h2 : (ps.take i).length ≤ 50 := by rw [List.length_take]; omega
          omega
        have HRP := Lib.hid (HQ.out.1.1.nofr HFR.out)
        have HAP := Lib.hid HQ.out.1.2
        have hc := appendS HL.out.at_ HL.out.lt [102] H102.out Ap lp.length cp lp rfl HRP.out HAP.out (by unfold maxLen; omega)
        have hpa : (pAppend (pF i (allOf (ps.take i)) 0) [102] lp).1 = pF (i + 1) (allOf (ps.take (i + 1))) 0 := by
          rw [HST.out]
          exact pF_append i _ lp 0 (fun h => by subst h; exact ⟨all_zero ps, rfl⟩) (by have := HBND.out; omega)
        rw [hpa] at hc
        have HC := Lib.hid hc
        clear hpm hc hpa
        go_wp2_with fail
        refine HC.out.mono ?_
        clear HC
        rintro e w3 ⟨rfl, ha3, hf3⟩
        have HL3 := Lib.hid (HL.out.call ha3 hf3)
        have HR3 : Hid (Rd w3 Ap (cb lp)) := HQ.out.1.1.nofr (HF1.out.trans ha3.fr)
        clear ha3 hf3
        go_wp2_with (at_builtin; refine wpList_app rfl _ _ 31 rfl w1.heap.size 5 i0 (.int .u8 0) 1 Try.underlying31 hi hz0 hz1 hz2 rfl _ _ _ rfl HL3.out.own1 Ap cp lp.length (cb lp) rfl (cb_length lp) HR3.out (cb_one _) HAP.out ?c3 ?c4 ?c5 ?_)
        case c3 => have := HBND.out; unfold maxLen; omega
        case c4 => have := HBND.out; omega
        case c5 => exact HL3.out.at_.fr.size
        intro v4 w4 ho4 hgrow _ hblk
        have HX : Hid (Las w1 w4 gd (pF (i + 1) (allOf (ps.take (i + 1))) 0) v4 (.slice (some ⟨w2.heap.size + 1, 0, none⟩) 0 0) (allOf (ps.take (i + 1))) []) := HL3.out.grow1 (by rw [HST.out, List.length_append, cb_append]; exact ho4) hgrow hblk
        clear ho4 hgrow hblk
        go_wp2
        go_roundw
        case rel => exact ⟨i + 1, by omega, by go_num, HS2, HX⟩
        case measure => simp [intOf]; omega
    · have HTK : Hid (ps.take i = ps) := List.take_of_length_le (by omega)
      obtain rfl : i = ps.length := by omega
      rw [HTK.out] at HS HL ⊢
      have HLL := Lib.hid (all_len ps HS.out)
      clear HTK hlt hin
      have hc := syncS HL.out.at_ HL.out.lt [102] H102.out
      rw [pF_sync] at hc
      have HC := Lib.hid hc
      clear hc
      go_wp2_with fail
      refine HC.out.mono ?_
      clear HC
      rintro e w3 ⟨rfl, ha3, hf3⟩
      have HL3 := Lib.hid (HL.out.call ha3 hf3)
      have HB : Hid ((allOf ps).length ≤ 100000) := by show _ ≤ _; have := HLL.out; omega
      obtain ⟨_, _, e1, _, ha⟩ := own_form HL3.out.own1
      injection e1 with e1 _ e2
      subst e1 e2
      have HA := Lib.hid ha
      clear ha3 hf3 HL HFR ha
      go_wp2_with (at_builtin; refine wpList_app rfl _ _ 31 rfl w1.heap.size 5 i0 (.int .u8 0) 1 Try.underlying31 hi hz0 hz1 hz2 rfl _ _ _ rfl HL3.out.own2 Av cv (allOf ps).length (cb (allOf ps)) rfl (cb_length _) (Rd.of_own HL3.out.own1) (cb_one _) HA.out ?c3 ?c4 ?c5 ?_)
      case c3 => have := HB.out; unfold maxLen; simp; omega
      case c4 => have := HB.out; simp; omega
      case c5 => exact HL3.out.at_.fr.size
      intro v4 w4 ho4 hgrow _ hblk
      have HX : Hid (Las w1 w4 gd (pF ps.length (allOf ps) (allOf ps).length) (.slice Av (allOf ps).length cv) v4 (allOf ps) (allOf ps)) := HL3.out.grow2 (by first | exact ho4 | (have h := ho4; rw [Nat.zero_add] at h; exact h)) hgrow hblk
      have HX0 : Hid (Las w1 w4 gd (pF (ps.length + 0) (two ps qs 0) (allOf ps).length) (.slice Av (allOf ps).length cv) v4 (allOf ps) (two ps qs 0)) := by
        rw [two_zero]; exact HX
      clear ho4 hgrow hblk HX HL3
      go_wp2
      obtain ⟨wb, hwb⟩ : ∃ wb, wb = wr := ⟨_, rfl⟩
      subst hwb
      obtain ⟨ns, hns⟩ : ∃ ns, ns = (allOf ps).length := ⟨_, rfl⟩
      rw [← hns] at HX0 HB ⊢
      have HNS := Lib.hid hns
      clear hns HLL
      go_loopw [10, 59] (fun v s wr => ∃ j : Nat, j ≤ qs.length ∧ s = .int .i64 j ∧ Hid (∀ p ∈ qs.take j, p.2.2.length ≤ 2000) ∧ Hid (Las w1 wr gd (pF (ps.length + j) (two ps qs j) ns) (.slice Av ns cv) v (allOf ps) (two ps qs j))) (fun _ s _ => qs.length - (intOf s).toNat)
      case atStart => exact ⟨0, Nat.zero_le _, rfl, (fun p h => by simp at h), HX0⟩
      case round =>
        clear HX0
        obtain ⟨j, hjn, rfl, HS', HL⟩ := hrel
        obtain ⟨A2, c2, rfl, hc2, _⟩ := own_form HL.out.own2
        have HC2 := Lib.hid hc2
        clear hc2
        have HFR := Lib.hid (HF1.out.trans HL.out.at_.fr)
        by_cases hlt : j < qs.length
        · obtain ⟨p, hp⟩ : ∃ p, qs[j]? = some p := ⟨_, List.getElem?_eq_getElem hlt⟩
          obtain ⟨b, o, rfl, hcell⟩ := (HR'.out.nofr HFR.out).at_ (k := j) (v := sl p) (by rw [List.getElem?_map, hp]; rfl)
          have HQ := Lib.hid (HP'.out p (List.mem_of_getElem? hp))
          have HST := Lib.hid (allOf_step qs j p hp)
          have HS1 : Hid (p.2.2.length ≤ 2000 → ∀ q ∈ qs.take (j + 1), q.2.2.length ≤ 2000) := pairs_step hp HS'.out
          have HLL := Lib.hid (all_len (qs.take j) HS'.out)
          obtain ⟨Ap, cp, lp⟩ := p
          unfold sl at hcell
          dsimp only at hcell HQ HST HS1
          have hpm : lp.length ≤ 9223372036854775807 := by
            have h1 := HQ.out.2.1; have h2 := HQ.out.2.2
            unfold maxLen at h2
            omega
          clear hp
          by_cases hlong : 2000 < lp.length
          · go_wp2_with fail
            go_ret
            exact ⟨rfl, HFR.out⟩
          · have HS2 := Lib.hid (HS1.out (by omega))
            have HBND : Hid ((two ps qs j).length + lp.length ≤ 202000) := by
              show _ ≤ _
              have h1 := HLL.out
              have h2 : (qs.take j).length ≤ 50 := by rw [List.length_take]; omega
              have h3 := HB.out
              rw [two_len, ← HNS.out]
              omega
            have HRP := Lib.hid (HQ.out.1.1.nofr HFR.out)
            have HAP := Lib.hid HQ.out.1.2
            have HAL : Hid (two ps qs j ++ lp = two ps qs (j + 1)) := by show _ = _; unfold two; rw [HST.out, List.append_assoc]
            have hc := appendS HL.out.at_ HL.out.lt [102] H102.out Ap lp.length cp lp rfl HRP.out HAP.out (by unfold maxLen; omega)
            have hpa : (pAppend (pF (ps.length + j) (two ps qs j) ns) [102] lp).1 = pF (ps.length + (j + 1)) (two ps qs (j + 1)) ns := by
              rw [← HAL.out]
              exact pF_append (ps.length + j) _ lp ns (fun h => by
                obtain rfl : j = 0 := by omega
                obtain rfl : ps = [] := List.length_eq_zero_iff.1 (by omega)
                exact ⟨by simp [two, allOf], HNS.out⟩) (by have := HBND.out; omega)
            rw [hpa] at hc
            have HC := Lib.hid hc
            clear hpm hc hpa
            go_wp2_with fail
            refine HC.out.mono ?_
            clear HC
            rintro e w3 ⟨rfl, ha3, hf3⟩
            have HL3 := Lib.hid (HL.out.call ha3 hf3)
            have HR3 : Hid (Rd w3 Ap (cb lp)) := HQ.out.1.1.nofr (HF1.out.trans ha3.fr)
            clear ha3 hf3
            go_wp2_with (at_builtin; refine wpList_app rfl _ _ 31 rfl w1.heap.size 5 i0 (.int .u8 0) 1 Try.underlying31 hi hz0 hz1 hz2 rfl _ _ _ rfl HL3.out.own2 Ap cp lp.length (cb lp) rfl (cb_length lp) HR3.out (cb_one _) HAP.out ?c3 ?c4 ?c5 ?_)
            case c3 => have := HBND.out; unfold maxLen; omega
            case c4 => have := HBND.out; omega
            case c5 => exact HL3.out.at_.fr.size
            intro v4 w4 ho4 hgrow _ hblk
            have HX : Hid (Las w1 w4 gd (pF (ps.length + (j + 1)) (two ps qs (j + 1)) ns) (.slice Av ns cv) v4 (allOf ps) (two ps qs (j + 1))) := HL3.out.grow2 (by rw [← HAL.out, List.length_append, cb_append]; exact ho4) hgrow hblk
            clear ho4 hgrow hblk
            go_wp2
            go_roundw
            case rel => exact ⟨j + 1, by omega, by go_num, HS2, HX⟩
            case measure => simp [intOf]; omega
        · have HTK : Hid (qs.take j = qs) := List.take_of_length_le (by omega)
          obtain rfl : j = qs.length := by omega
          rw [HTK.out] at HS'
          have HLL := Lib.hid (all_len qs HS'.out)
          have HB2 : Hid ((two ps qs qs.length).length ≤ 202000 ∧ ns ≤ (two ps qs qs.length).length) := by
            have h1 := HLL.out
            have h3 := HB.out
            refine ⟨?_, ?_⟩ <;> rw [two_len, ← HNS.out, List.take_of_length_le (Nat.le_refl _)] <;> omega
          clear HTK hlt hjn
          have hc := crashS HL.out.at_ K ks.length kc ks rfl (HK.out.nofr HFR.out) HKL.out
          have HC := Lib.hid hc
          clear hc
          go_wp2_with fail
          refine HC.out.mono ?_
          clear HC
          rintro e w5 ⟨gx, rfl, hx5, hf5⟩
          have HX5 := Lib.hid (hx5 (fun _ => False) fun _ h => h.elim)
          have HF5 := Lib.hid hf5
          have hc := readS HX5.out [102] H102.out
          clear hx5 hf5
          by_cases h0 : ps.length + qs.length = 0
          · rw [h0, pF_none] at hc
            have HC := Lib.hid hc
            clear hc
            have hz : ((ps.length : Int) + (qs.length : Int)) = 0 := by omega
            have hz1 : ps.length = 0 := by omega
            have hz2 : qs.length = 0 := by omega
            go_wp2_with fail
            refine HC.out.mono ?_
            clear HC
            rintro e w6 ⟨A6, c6, rfl, hg⟩
            have HF6 := Lib.hid (HFR.out.trans (HF5.out.trans hg.got.fr))
            clear hg
            go_wp2_with fail
            go_ret
            exact ⟨rfl, HF6.out⟩
          · have HO := Lib.hid HL.out.own2
            have HO1 := HL.out.own1
            obtain ⟨k, hk1, hk2, hkr⟩ := pF_some (ps.length + qs.length) (two ps qs qs.length) ns ks (by omega) HB2.out.2
            rw [hkr] at hc
            have HC := Lib.hid hc
            obtain ⟨T, hT⟩ : ∃ T, T = (two ps qs qs.length).length := ⟨_, rfl⟩
            have hTl : ((two ps qs qs.length).take k).length = k := by rw [List.length_take]; omega
            have HTL := Lib.hid hTl
            have hT2 : T ≤ 202000 := by rw [hT]; exact HB2.out.1
            have hcc := HC2.out
            rw [← hT] at hk2 hcc HO ⊢
            have HT := Lib.hid hT
            have hz : ¬ ((ps.length : Int) + (qs.length : Int)) = 0 := by omega
            clear hc hkr hTl hT HO1
            go_wp2_with fail
            refine HC.out.mono ?_
            clear HC
            rintro e w6 ⟨A6, c6, rfl, hg⟩
            have HG := Lib.hid hg
            rw [HTL.out]
            have HF6 := Lib.hid (HFR.out.trans (HF5.out.trans hg.got.fr))
            have hf56 : Fr NoBlk _ w6 := HF5.out.trans hg.got.fr
            have s1 : ∀ q, (convert 31 9 (.slice A6 k c6)).run Try.prog (w6.drewN q) = .ok (.string (bstr ((two ps qs qs.length).take k))) (w6.drewN q) := fun q => strBs _ A6 _ c6 _ HTL.out.symm (HG.out.got.rd.nofr ((Fr.refl _ _).drewN q))
            have HR2 := Lib.hid ((Rd.of_own HO.out).nofr hf56)
            clear hg hf56
            have HRK := Lib.hid (HR2.out.take k)
            rw [← cb_take] at HRK
            have b1 : (k : Int) ≤ (T : Int) := by omega
            have b2 : (k : Int) ≤ (c2 : Int) := by omega
            have b3 : ((ns : Int) ≤ (k : Int)) := by omega
            have b4 : decide ((ns : Int) ≤ (k : Int)) = true := by simpa using b3
            have HD : Hid (A2 = none ∧ c2 = 0 ∧ T = 0 ∨ ∃ g, A2 = some ⟨g, 0, none⟩) := by
              rcases HO.out.2 with ⟨hv, _⟩ | ⟨g, cap, cur, hv, _⟩
              · injection hv with h1 h2 h3
                exact .inl ⟨h1, h3, h2⟩
              · injection hv with h1 h2 h3
                exact .inr ⟨g, h1⟩
            generalize (two ps qs qs.length).take k = X at *
            rcases HD.out with ⟨rfl, rfl, hT0⟩ | ⟨g, rfl⟩
            · subst hT0
              obtain rfl : k = 0 := by omega
              obtain rfl : ns = 0 := by omega
              have hX : X = [] := List.length_eq_zero_iff.1 HTL.out
              subst hX
              have s2 : ∀ q, (convert 31 9 (.slice none 0 0)).run Try.prog (w6.drewN q) = .ok (.string (bstr [])) (w6.drewN q) := fun q => strBs _ _ _ _ [] rfl (Rd.none_ _ _)
              by_cases hp0 : ps.length = 0
              · have g1 : ((ps.length : Int) = 0) := by omega
                go_wp2_with fail
                go_quiet (fail)
                go_wp2_with fail
                go_ret
                exact ⟨by simp, HF6.out.drewN _⟩
              · have g1 : ¬ ((ps.length : Int) = 0) := by omega
                go_wp2_with fail
                go_quiet (fail)
                go_wp2_with fail
                go_ret
                exact ⟨by simp, HF6.out.drewN _⟩
            · have s2 : ∀ q, (convert 31 9 (.slice (some ⟨g, 0, none⟩) k c2)).run Try.prog (w6.drewN q) = .ok (.string (bstr X)) (w6.drewN q) := fun q => strBs _ _ _ _ X HTL.out.symm (HRK.out.nofr ((Fr.refl _ _).drewN q))
              by_cases hp0 : ps.length = 0
              · have g1 : ((ps.length : Int) = 0) := by omega
                go_wp2_with fail
                go_quiet (fail)
                go_wp2_with fail
                go_ret
                exact ⟨by simp, HF6.out.drewN _⟩
              · have g1 : ¬ ((ps.length : Int) = 0) := by omega
                go_wp2_with fail
                go_quiet (fail)
                go_wp2_with fail
                go_ret
                exact ⟨by simp, HF6.out.drewN _⟩

theorem paramsOk : ∀ t ∈ Try.f4.params.toList, Try.prog.readableRec t = true ∧ t < Try.prog.types.size := fun t ht => by
  have h := List.all_eq_true.1 (show (Try.f4.params.toList.all fun t => Try.prog.readableRec t && decide (t < Try.prog.types.size)) = true by kernel_rfl) t ht
  simpa using h

set_option maxRecDepth 100000 in
theorem lifted (os : Os) (started : os.Started) (H : Type) (enc : TypeId × Value → H) :
    ReturnsInHanded {} Try.checked os 4 .any (Rows.diskLastsSpec.pre6 enc Try.prog Try.f4 Rows.diskLastsRow.domain false) (Rows.diskLastsSpec.post enc Try.prog Try.f4 false true false false) := by
  refine returnsInHanded_of_change (C := Try.checked) own started (by kernel_rfl) Try.func4
    (ChangeSpec.witness6 (enc := enc) (C := Try.checked) false ⟨#[], #[.slice none 0 0, .slice none 0 0, .slice none 0 0], []⟩ 8 (by kernel_rfl) (by kernel_rfl) (by kernel_rfl) (by kernel_rfl)) ?_
  intro W base args ds gs before hval0 hW _ _
  have hval : ∀ (j : Nat) t v, Try.f4.params[j]? = some t → args[j]? = some v → Value.okWide Try.prog W .any base t v := hval0
  have hW' := hW
  obtain ⟨p, q, hA0, hV, rfl, _, _⟩ := hW
  have hA : DataW.TrodAll enc Try.prog W 0 (fun _ => true) true Try.f4.params.toList args.toList ds p := hA0
  rw [Try.params4] at hA hval
  obtain ⟨v0, vs0, d0, ds0, p0, q0, hargs, rfl, rfl, h0, r0⟩ := trodAll_cons hA
  obtain ⟨v1, vs1, d1, ds1, p1, q1, rfl, rfl, rfl, h1, r1⟩ := trodAll_cons r0
  obtain ⟨v2, vs2, d2, ds2, p2, q2, rfl, rfl, rfl, h2, r2⟩ := trodAll_cons r1
  obtain ⟨rfl, rfl, rfl⟩ := trodAll_nil r2
  obtain rfl : args = #[v0, v1, v2] := by cases args; simp_all
  obtain ⟨rfl, rfl⟩ := trodVars_none hV
  obtain ⟨A, c, ps, rfl, hr, hp, hpc, hc⟩ := open_rows (hval 0 _ v0 rfl rfl) h0
  obtain ⟨A', c', qs, rfl, hr', hp', hpc', hc'⟩ := open_rows (hval 1 _ v1 rfl rfl) h1
  obtain ⟨K, kc, ks, rfl, hk, _, hkc, hkm⟩ := open_ints1 (hval 2 _ v2 rfl rfl) h2
  have walk := walk W A c ps A' c' qs K kc ks hr hp (Nat.le_trans hpc hc) hr' hp' (Nat.le_trans hpc' hc') hk (Nat.le_trans hkc hkm)
  clear hA0 hval0
  refine walk.mono fun e W' ⟨he, hf⟩ => ?_
  subst he
  exact ⟨_, rfl, law_post laidOut paramsOk rfl rfl Try.underlying4 hW' rfl rfl rfl hf⟩

theorem said : Rows.DiskLastsSaid :=
  OpenClaim.holds_of_wide 4 Try.f4 rfl rfl rfl rfl rfl rfl rfl ⟨rfl, rfl, rfl, rfl, rfl⟩ rfl rfl rfl rfl rfl (by kernel_rfl) Try.func4 (by kernel_rfl)
    (of_decide_eq_true (by kernel_rfl)) (by unfold Func.isWrapper; first | (rw [if_pos (by decide +kernel)]; kernel_rfl) | (rw [if_neg (by decide +kernel)]; exact ⟨rfl, rfl⟩))
    (fun os started H enc _ => lifted os started H enc)
end Go.Proofs.Ytddakbannfjfcaa.diskLasts
