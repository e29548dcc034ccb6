/- The document's Unpack. Conditions: lengths. -/
import Derived.Test.YtokonhcphhpogaaDoorDAll
import Derived.Test.YtokonhcphhpogaaDoorREyeQ
import Derived.Test.YtokonhcphhpogaaDoorRPack
import Derived.Test.YtokonhcphhpogaaDoorUnpack
namespace Go.Proofs.YtokonhcphhpogaaDoor
open Go.RowKit

/-- between two parts. -/
def RUn (w wr : World) (l : Bs) (n at_ : Nat) (v : Value) (cs : List Bs) : Prop := RAt l n at_ cs ∧ wr.ownsRow w.heap.size 5 1 v cs.flatten.length (cb cs.flatten) ∧ Fr NoBlk w wr
theorem un_fail {w wr : World} {l : Bs} (hf : Fr NoBlk w wr) (h : unpk l = ([], 61)) : UnpkPost w (wr.alloc (.cells #[] 5)) (.returned (.tuple #[.slice (some ⟨wr.heap.size, 0, none⟩) 0 0, .int .i64 61])) (unpk l) := by
  rw [h]
  exact ⟨_, rfl, World.ownsRow_made (e := 5) (size := 1) wr #[] 0 hf.size (by decide) rfl, hf.alloc _⟩
theorem u64_sub (n m : Nat) (h : m ≤ n) (hn : n < 2 ^ 64) : IntKind.u64.wrap ((n : Int) - (m : Int)) = ((n - m : Nat) : Int) := by
  simp only [IntKind.wrap, IntKind.bits, IntKind.signed]
  simp
  omega

set_option maxRecDepth 100000 in
set_option maxHeartbeats 4000000 in
theorem runpack_any (w : World) (A : Option Addr) (c : Nat) (l : Bs) (hr : Part w (A, c, l)) (hc : l.length ≤ c) (hl : l.length ≤ 10000000) :
    Calls Tryd.prog 11 #[.slice A l.length c] w fun e w' => UnpkPost w w' e (unpk l) := by
  obtain ⟨i0, hi, hz0, hz1, hz2⟩ := info_parts byteInfo
  have HR := Lib.hid hr
  have HUF := Lib.hid (dunframe_any w A l.length c l rfl hr.1 hr.2 (by omega) hc)
  have HSF := Lib.hid (start_fail l (by omega))
  obtain ⟨T, hT⟩ : ∃ T, T = l.length := ⟨_, rfl⟩
  have HTL := Lib.hid hT
  rw [← hT] at hc hl HUF ⊢
  clear hr hT
  obtain ⟨u, hu⟩ : ∃ u, u = unfr l := ⟨_, rfl⟩
  rw [← hu] at HUF HSF
  have HU := Lib.hid hu
  clear hu
  obtain ⟨h, s, ue⟩ := u
  go_enter Tryd.func11, Tryd.ntmps11
  go_wp2_with fail
  refine HUF.out.mono ?_
  clear HUF
  rintro e w1 hp1
  unfold UnPost at hp1
  dsimp only at hp1 HSF
  obtain ⟨v1, rfl, hn1⟩ := hp1
  obtain ⟨A1, c1, rfl, hc1, hA1⟩ := own_form hn1.own
  have HF1 := Lib.hid hn1.fr
  by_cases hue : ue = 0
  rotate_left 1
  · have t1 : ((ue : Int) != 0) = true := by rw [bne_iff_ne]; omega
    have t2 : ¬ (ue : Int) = 0 := by omega
    have HZ := Lib.hid (un_fail HF1.out (HSF.out (.inl hue)))
    clear hn1 hc1 hA1
    go_wp2_with fail
    go_ret2
    exact HZ.out
  subst hue
  have HHL : Hid (h.length ≤ 4096 ∧ s ≤ T) := by
    have h2 := unfr_ok l (by rw [← HU.out])
    rw [← HU.out, ← HTL.out] at h2
    exact ⟨h2.2.2, h2.2.1⟩
  have hey : REye (w1.alloc (.cells #[.slice A1 h.length c1, .int .i64 0] 74)) w1.heap.size A1 c1 h 0 :=
    ⟨Bk.new _ _ _, (Rd.of_own hn1.own).alloc _, hc1, Nat.zero_le _, fun hpos k hk e => by
      have := (Rd.of_own hn1.own).lt (by rw [cb_length]; exact hpos) hk
      omega⟩
  have HNM := Lib.hid (reyeNum_any _ w1.heap.size A1 c1 h 0 hey (by have := HHL.out.1; omega))
  have HFA : Hid (Fr NoBlk w (w1.alloc (.cells #[.slice A1 h.length c1, .int .i64 0] 74))) := HF1.out.alloc _
  have HGE : Hid (w.heap.size ≤ w1.heap.size) := HF1.out.size
  clear hn1 hc1 hA1 hey
  obtain ⟨nh, hnh⟩ : ∃ nh, nh = h.length := ⟨_, rfl⟩
  have HNH := Lib.hid hnh
  rw [← hnh] at HNM HFA ⊢
  clear hnh
  go_wp2_with fail
  refine HNM.out.mono ?_
  clear HNM
  rintro e w3 hp3
  unfold RNumPost at hp3
  rw [List.drop_zero] at hp3
  have hlt64 := rdNum_lt h
  have hsz := rdNum_size h
  have HRD : Hid (rdNum h = rdNum h) := rfl
  obtain ⟨r, hrr⟩ : ∃ r, r = rdNum h := ⟨_, rfl⟩
  rw [← hrr] at hp3 HSF hlt64 hsz
  have HRR := Lib.hid hrr
  clear hrr HRD
  obtain ⟨n, sz, er⟩ := r
  dsimp only at hp3 HSF hlt64 hsz
  obtain ⟨rfl, hy3⟩ := hp3
  have HF3 : Hid (Fr NoBlk w w3) := HFA.out.step hy3.fr fun i hi e => by have := HGE.out; omega
  by_cases her : er = 0
  rotate_left 1
  · have t1 : ((er : Int) != 0) = true := by rw [bne_iff_ne]; omega
    have t2 : ¬ (er : Int) = 0 := by omega
    have HZ := Lib.hid (un_fail HF3.out (HSF.out (.inr (.inl her))))
    clear hy3
    have HL64 := Lib.hid hlt64
    clear hlt64
    go_wp2_with fail
    go_ret2
    exact HZ.out
  subst her
  have HEN := Lib.hid (reyeEnd_any w3 w1.heap.size A1 c1 h (0 + sz) hy3.eye (by have := HHL.out.1; omega))
  clear hy3
  have HL64 := Lib.hid hlt64
  clear hlt64
  by_cases hend : sz = h.length
  rotate_left 1
  · have hd : ¬ h.drop (0 + sz) = [] := by rw [List.drop_eq_nil_iff]; omega
    rw [if_neg hd] at HEN
    have HSZ := Lib.hid hend
    clear hd hend
    go_wp2_with fail
    refine HEN.out.mono ?_
    clear HEN
    rintro e w4 ⟨rfl, hf4⟩
    have HZ := Lib.hid (un_fail (HF3.out.trans hf4) (HSF.out (.inr (.inr (.inl HSZ.out)))))
    clear hf4
    go_wp2_with fail
    go_ret2
    exact HZ.out
  have hd : h.drop (0 + sz) = [] := by rw [List.drop_eq_nil_iff]; omega
  rw [if_pos hd] at HEN
  have HCN : Hid (h = num n) := rdNum_canon (by rw [← HRR.out, hend])
  clear hd hend hsz
  go_wp2_with fail
  refine HEN.out.mono ?_
  clear HEN
  rintro e w4 ⟨rfl, hf4⟩
  have HF4 := Lib.hid (HF3.out.trans hf4)
  clear hf4
  by_cases hnT : T < n
  · have HZ := Lib.hid (un_fail HF4.out (HSF.out (.inr (.inr (.inr (by rw [← HTL.out]; exact hnT))))))
    go_wp2_with fail
    go_ret2
    exact HZ.out
  have hn7 : n ≤ 10000000 := by omega
  have HU0 : Hid (RUn w (w4.alloc (.cells #[] 5)) l n s (.slice (some ⟨w4.heap.size, 0, none⟩) 0 0) []) :=
    ⟨RAt.start (by rw [← HU.out, HCN.out]), World.ownsRow_made (e := 5) (size := 1) w4 #[] 0 HF4.out.size (by decide) rfl, HF4.out.alloc _⟩
  have hsT := HHL.out.2
  have hT6 : 0 < T := by
    have h2 := unfr_ok l (by rw [← HU.out])
    rw [← HTL.out] at h2
    omega
  obtain ⟨b, o, rfl, _⟩ := HR.out.1 (by rw [cb_length]; show 0 < l.length; rw [← HTL.out]; exact hT6)
  clear HSF HU HRR HCN HFA HF1 HF3 HGE HNH
  go_wp2_with fail
  go_loopw [5, 10] (fun z v wr => ∃ (k : Nat) (cs : List Bs), k ≤ T ∧ z = .int .i64 k ∧ Hid (RUn w wr l n k v cs)) (fun z _ _ => T - (intOf z).toNat)
  case atStart => exact ⟨s, [], hsT, rfl, HU0⟩
  case round =>
    clear HU0
    obtain ⟨k, cs, hk, rfl, HX⟩ := hrel
    obtain ⟨Av, cv, hv, _, _⟩ := own_form HX.out.2.1
    subst hv
    obtain ⟨m, hm⟩ : ∃ m, m = cs.flatten.length := ⟨_, rfl⟩
    have HM := Lib.hid hm
    have hmn : m ≤ n := by rw [hm]; exact HX.out.1.len
    have HRW : Hid (wr.ownsRow w.heap.size 5 1 (.slice Av m cv) m (cb cs.flatten)) := by
      rw [hm]; exact HX.out.2.1
    rw [← hm]
    clear hm
    have e1 := u64_sub n m hmn HL64.out
    obtain ⟨wt, hwt⟩ : ∃ wt, wt = n - m := ⟨_, rfl⟩
    rw [← hwt] at e1
    have HWT := Lib.hid hwt
    have e2 : (n : Int) - (m : Int) = (wt : Int) := by omega
    have hwt7 : wt ≤ 10000000 := by omega
    clear hwt
    by_cases hlt : m < n
    · have f2 : (k : Int) ≤ (T : Int) := by omega
      have f3 : (T : Int) ≤ (c : Int) := by omega
      by_cases hkT : k < T
      · have HRD : Hid (Rd wr (some ⟨b, o + k, none⟩) (cb (l.drop k))) := by
          intro hx
          obtain ⟨b', o', e, hcell⟩ := (HR.out.1.nofr HX.out.2.2) (by rw [cb_length]; show 0 < l.length; rw [← HTL.out]; omega)
          injection e with e
          injection e with ea eb
          subst ea eb
          refine ⟨b, o + k, rfl, fun j v hv => ?_⟩
          rw [cb_drop, List.getElem?_drop] at hv
          rw [Nat.add_assoc]
          exact hcell _ _ hv
        have HUN := Lib.hid (dunframe_any wr (some ⟨b, o + k, none⟩) (T - k) (c - k) (l.drop k) (by rw [List.length_drop, ← HTL.out]) HRD.out (fun h => by cases h) (by rw [List.length_drop, ← HTL.out]; omega) (by omega))
        obtain ⟨u, hu⟩ : ∃ u, u = unfr (l.drop k) := ⟨_, rfl⟩
        rw [← hu] at HUN
        have HUQ := Lib.hid hu
        obtain ⟨ub, us, ue⟩ := u
        clear hu
        go_wp2_with fail
        with_reducible refine HUN.out.mono ?_
        clear HUN
        rintro e w5 hp5
        unfold UnPost at hp5
        dsimp only at hp5
        obtain ⟨v5, rfl, hn5⟩ := hp5
        obtain ⟨A5, c5, rfl, hc5, hA5⟩ := own_form hn5.own
        have HF5 := Lib.hid (HX.out.2.2.trans hn5.fr)
        have HN5 := Lib.hid hn5
        have HA5 := Lib.hid hA5
        clear hn5 hc5 hA5
        have HUK : Hid (ue = 0 → 6 ≤ us ∧ us ≤ T - k ∧ ub.length ≤ 4096) := fun h0 => by
          have h := unfr_ok (l.drop k) (by rw [← HUQ.out]; exact h0)
          rw [← HUQ.out, List.length_drop, ← HTL.out] at h
          exact h
        have hubl : ub.length ≤ 4096 := by
          by_cases h0 : ue = 0
          · exact (HUK.out h0).2.2
          · have h := (show (unfr (l.drop k)).1 = [] from unfr_bad _ (by rw [← HUQ.out]; exact h0))
            rw [← HUQ.out] at h
            dsimp only at h
            rw [h]; exact Nat.zero_le _
        by_cases hbig : 1024 < wt
        · by_cases hue : ue = 0
          rotate_left 1
          · have t1 : ((ue : Int) != 0) = true := by rw [bne_iff_ne]; omega
            have t2 : ¬ (ue : Int) = 0 := by omega
            have HZ := Lib.hid (un_fail HF5.out (HX.out.1.fail (by rw [← HTL.out]; omega) (by rw [← HM.out]; exact hlt) (.inl (by rw [← HUQ.out]; exact hue))))
            go_wp2_with fail
            go_ret2
            exact HZ.out
          subst hue
          by_cases hub : ub.length = 1024
          rotate_left 1
          · have HZ := Lib.hid (un_fail HF5.out (HX.out.1.fail (by rw [← HTL.out]; omega) (by rw [← HM.out]; exact hlt) (.inr (by rw [← HUQ.out, ← HM.out, ← HWT.out]; dsimp only; omega))))
            have t1 : ((ub.length : Int) != (1024 : Int)) = true := by rw [bne_iff_ne]; omega
            have t2 : ¬ (ub.length : Int) = (1024 : Int) := by omega
            go_wp2_with fail
            go_ret2
            exact HZ.out
          have HUB := Lib.hid hub
          have HUK2 := Lib.hid (HUK.out rfl)
          have hus := HUK2.out.2.1
          have f6 : (k : Int) + (us : Int) ≤ (T : Int) := by omega
          have HOV : Hid (w5.ownsRow w.heap.size 5 1 (.slice Av m cv) m (cb cs.flatten)) := own_fr HRW.out HN5.out.fr fun _ _ h => h
          have HSZ : Hid (w.heap.size ≤ w5.heap.size) := HF5.out.size
          have HR5 := Lib.hid (Rd.of_own HN5.out.own)
          obtain ⟨ul, hul⟩ : ∃ ul, ul = ub.length := ⟨_, rfl⟩
          have HUL := Lib.hid hul
          rw [← hul] at hub hubl ⊢
          clear hul
          subst hub
          go_wp2_with (at_builtin; refine wpList_app rfl _ _ 22 rfl w.heap.size 5 i0 (.int .u8 0) 1 Tryd.underlying22 hi hz0 hz1 hz2 rfl (.slice Av m cv) m (cb cs.flatten) rfl HOV.out A5 c5 1024 (cb ub) rfl (by rw [cb_length]; exact HUL.out.symm) HR5.out (cb_one _) HA5.out (by unfold maxLen; omega) (by omega) HSZ.out ?_)
          intro v9 w9 ho9 hg9 _ _
          have HNX : Hid (RUn w w9 l n (k + us) v9 (cs ++ [ub])) := by
            refine ⟨HX.out.1.next HUQ.out.symm (by rw [← HM.out]; exact hlt) (by rw [← HUL.out, ← HM.out, ← HWT.out]; omega), ?_, HF5.out.grown hg9 fun q hq hlt => absurd (HOV.out.lt q hq).1 (by omega)⟩
            rw [show (cs ++ [ub]).flatten = cs.flatten ++ ub by simp, List.length_append, cb_append, ← HM.out, ← HUL.out]
            exact ho9
          clear ho9 hg9
          go_wp2_with fail
          go_roundw
          case rel => exact ⟨k + us, cs ++ [ub], by omega, by go_num, HNX⟩
          case measure => simp [intOf]; have := HUK2.out.1; omega
        · by_cases hue : ue = 0
          rotate_left 1
          · have t1 : ((ue : Int) != 0) = true := by rw [bne_iff_ne]; omega
            have t2 : ¬ (ue : Int) = 0 := by omega
            have HZ := Lib.hid (un_fail HF5.out (HX.out.1.fail (by rw [← HTL.out]; omega) (by rw [← HM.out]; exact hlt) (.inl (by rw [← HUQ.out]; exact hue))))
            go_wp2_with fail
            go_ret2
            exact HZ.out
          subst hue
          by_cases hub : ub.length = wt
          rotate_left 1
          · have HZ := Lib.hid (un_fail HF5.out (HX.out.1.fail (by rw [← HTL.out]; omega) (by rw [← HM.out]; exact hlt) (.inr (by rw [← HUQ.out, ← HM.out, ← HWT.out]; dsimp only; omega))))
            have t1 : ((ub.length : Int) != (wt : Int)) = true := by rw [bne_iff_ne]; omega
            have t2 : ¬ (ub.length : Int) = (wt : Int) := by omega
            go_wp2_with fail
            go_ret2
            exact HZ.out
          have HUB := Lib.hid hub
          have HUK2 := Lib.hid (HUK.out rfl)
          have hus := HUK2.out.2.1
          have f6 : (k : Int) + (us : Int) ≤ (T : Int) := by omega
          have HOV : Hid (w5.ownsRow w.heap.size 5 1 (.slice Av m cv) m (cb cs.flatten)) := own_fr HRW.out HN5.out.fr fun _ _ h => h
          have HSZ : Hid (w.heap.size ≤ w5.heap.size) := HF5.out.size
          have HR5 := Lib.hid (Rd.of_own HN5.out.own)
          obtain ⟨ul, hul⟩ : ∃ ul, ul = ub.length := ⟨_, rfl⟩
          have HUL := Lib.hid hul
          rw [← hul] at hub hubl ⊢
          clear hul
          subst hub
          go_wp2_with (at_builtin; refine wpList_app rfl _ _ 22 rfl w.heap.size 5 i0 (.int .u8 0) 1 Tryd.underlying22 hi hz0 hz1 hz2 rfl (.slice Av m cv) m (cb cs.flatten) rfl HOV.out A5 c5 ul (cb ub) rfl (by rw [cb_length]; exact HUL.out.symm) HR5.out (cb_one _) HA5.out (by unfold maxLen; omega) (by omega) HSZ.out ?_)
          intro v9 w9 ho9 hg9 _ _
          have HNX : Hid (RUn w w9 l n (k + us) v9 (cs ++ [ub])) := by
            refine ⟨HX.out.1.next HUQ.out.symm (by rw [← HM.out]; exact hlt) (by rw [← HUL.out, ← HM.out, ← HWT.out]; omega), ?_, HF5.out.grown hg9 fun q hq hlt => absurd (HOV.out.lt q hq).1 (by omega)⟩
            rw [show (cs ++ [ub]).flatten = cs.flatten ++ ub by simp, List.length_append, cb_append, ← HM.out, ← HUL.out]
            exact ho9
          clear ho9 hg9
          go_wp2_with fail
          go_roundw
          case rel => exact ⟨k + us, cs ++ [ub], by omega, by go_num, HNX⟩
          case measure => simp [intOf]; have := HUK2.out.1; omega
      · obtain rfl : k = T := by omega
        have HBAD : Hid (unpk l = ([], 61)) := HX.out.1.fail (by rw [← HTL.out]; omega) (by rw [← HM.out]; exact hlt) (.inl (by rw [HTL.out, List.drop_length]; decide))
        have HE5 : Hid (∀ W B c', W = wr → (B = none → c' = 0) → Calls Tryd.prog 31 #[.slice B 0 c'] W fun e w' => UnPost W w' e ([], 0, 30)) := fun W B c' hW hB => dunframe_any W B 0 c' [] rfl (Rd.none_ _ _) hB (by simp) (Nat.zero_le _)
        by_cases hcT : c = k
        · subst hcT
          go_wp2_with fail
          with_reducible refine (HE5.out _ _ _ rfl (fun h => by cases h)).mono ?_
          rintro e w5 hp5
          unfold UnPost at hp5
          dsimp only at hp5
          obtain ⟨v5, rfl, hn5⟩ := hp5
          have HZ := Lib.hid (un_fail (HX.out.2.2.trans hn5.fr) HBAD.out)
          obtain ⟨A5, c5, rfl, _, _⟩ := own_form hn5.own
          clear hn5
          dsimp only
          go_wp2_with fail
          all_goals
            go_ret2
            exact HZ.out
        · go_wp2_with fail
          with_reducible refine (HE5.out _ _ _ rfl (fun h => by cases h)).mono ?_
          rintro e w5 hp5
          unfold UnPost at hp5
          dsimp only at hp5
          obtain ⟨v5, rfl, hn5⟩ := hp5
          have HZ := Lib.hid (un_fail (HX.out.2.2.trans hn5.fr) HBAD.out)
          obtain ⟨A5, c5, rfl, _, _⟩ := own_form hn5.own
          clear hn5
          dsimp only
          go_wp2_with fail
          all_goals
            go_ret2
            exact HZ.out
    · by_cases hkT : k = T
      · subst hkT
        have HZ : Hid (UnpkPost w wr (.returned (.tuple #[.slice Av m cv, .int .i64 0])) (unpk l)) := by
          have h := HX.out.1
          rw [HTL.out] at h
          rw [h.done (by rw [← HTL.out]; omega) (by rw [← HM.out]; exact hlt)]
          exact ⟨_, rfl, by rw [← HM.out]; exact HRW.out, HX.out.2.2⟩
        go_wp2_with fail
        go_ret2
        exact HZ.out
      · have HZ := Lib.hid (un_fail HX.out.2.2 (HX.out.1.more (by rw [← HTL.out]; omega) (by rw [← HM.out]; exact hlt) (by rw [← HTL.out]; exact hkT)))
        have t1 : ((k : Int) != (T : Int)) = true := by rw [bne_iff_ne]; omega
        have t2 : ¬ (k : Int) = (T : Int) := by omega
        go_wp2_with fail
        go_ret2
        exact HZ.out
end Go.Proofs.YtokonhcphhpogaaDoor
