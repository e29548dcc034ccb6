/- The law's own renames: a file that was renamed over another is there whole, or the other one is. Condition: lengths. -/
import Derived.Test.YtbkcjaagdcijmaaLawp
import Derived.Test.YtbkcjaagdcijmaaStopP
import Derived.Test.YtbkcjaagdcijmaaAtS2
import Derived.Test.YtbkcjaagdcijmaaTwiceP
namespace Go.Proofs.Ytbkcjaagdcijmaa
open Go.ChangeShapes Go.WideShapes Go.ChangeAt Go.RowKit

set_option maxRecDepth 100000 in
set_option maxHeartbeats 4000000 in
theorem renames_any (w : World) (A : Option Addr) (c : Nat) (old : Bs) (A' : Option Addr) (c' : Nat) (next : Bs) (calls : Int) (K : Option Addr) (kc : Nat) (ks : List Int)
    (hr : Rd w A (cb old)) (hA : A = none → c = 0) (hl : old.length ≤ maxLen) (hr' : Rd w A' (cb next)) (hA' : A' = none → c' = 0) (hl' : next.length ≤ maxLen) (hk : Rd w K (ics ks)) (hkl : ks.length ≤ maxLen) :
    Calls Try.prog 23 #[.slice A old.length c, .slice A' next.length c', .int .i64 calls, .slice K ks.length kc] w fun e w' => e = .returned (.bool true) ∧ Fr NoBlk w w' := by
  have HR := Lib.hid hr
  have HA := Lib.hid hA
  have HR' := Lib.hid hr'
  have HA' := Lib.hid hA'
  have HK := Lib.hid hk
  have HKL := Lib.hid hkl
  have HL := Lib.hid hl
  have HL' := Lib.hid hl'
  have H120 : Hid (([120] : Bs).length ≤ maxLen) := by show _ ≤ _; unfold maxLen; simp
  have H121 : Hid (([121] : Bs).length ≤ maxLen) := by show _ ≤ _; unfold maxLen; simp
  clear hr hA hr' hA' hk hkl
  unfold maxLen at hl hl'
  by_cases hb1 : 2000 < old.length
  · go_enter Try.func23, Try.ntmps23
    go_wp2_with fail
    go_ret
    exact ⟨rfl, Fr.refl _ _⟩
  by_cases hb2 : 2000 < next.length
  · go_enter Try.func23, Try.ntmps23
    go_wp2_with fail
    go_ret
    exact ⟨rfl, Fr.refl _ _⟩
  obtain ⟨q, hq, hq7⟩ := low_bits calls 7 (by omega)
  rw [show ((7 : Nat) : Int) = 7 from rfl] at hq
  have HB1 : Hid (old.length ≤ 2000) := by show _ ≤ _; omega
  have HB2 : Hid (next.length ≤ 2000) := by show _ ≤ _; omega
  go_enter Try.func23, Try.ntmps23
  go_wp2_with fail
  refine (new_at w w (Fr.refl _ _) 1048576 (by omega) (by omega)).mono ?_
  rintro e w1 ⟨gd, rfl, h1, hf1⟩
  have H1 : Hid (AtS w w1 gd (pNew 1048576) NoS) := h1.prot (Fr.refl NoBlk _) fun _ h => h.elim
  have HC := Lib.hid (appendS H1.out (fun _ h => h.elim) [120] H120.out A old.length c old rfl (HR.out.nofr H1.out.fr) HA.out HL.out)
  clear h1 hf1
  go_wp2_with fail
  refine HC.out.mono ?_
  clear HC H1
  rintro e w2 ⟨rfl, h2, _⟩
  have HC := Lib.hid (syncS h2 (fun _ h => h.elim) [120] H120.out)
  clear h2
  go_wp2_with fail
  refine HC.out.mono ?_
  clear HC
  rintro e w3 ⟨rfl, h3, _⟩
  rw [pX_start old HB1.out] at h3
  have HC := Lib.hid (limitS h3 (q : Int) (by omega))
  clear h3
  go_wp2_with fail
  refine HC.out.mono ?_
  clear HC
  rintro e w4 ⟨rfl, h4, _⟩
  have H4 : Hid (AtS w w4 gd (pX old (q : Int)) NoS) := h4
  have hc := appendS H4.out (fun _ h => h.elim) [121] H121.out A' next.length c' next rfl (HR'.out.nofr H4.out.fr) HA'.out HL'.out
  clear h4 hq H4
  by_cases hq0 : q = 0
  · subst hq0
    rw [show (((0 : Nat) : Int)) = 0 from rfl, pX_append0 old next HB1.out HB2.out] at hc
    have HC := Lib.hid hc
    clear hc
    go_wp2_with fail
    refine HC.out.mono ?_
    clear HC
    rintro e w5 ⟨rfl, h5, _⟩
    have H5 := Lib.hid h5
    clear h5
    have HC := Lib.hid (crashS H5.out K ks.length kc ks rfl (HK.out.nofr H5.out.fr) HKL.out)
    have HF5 := Lib.hid H5.out.fr
    go_wp2_with fail
    refine HC.out.mono ?_
    clear HC H5
    rintro e w6 ⟨gx, rfl, hx6, hf6⟩
    have hq := readS (hx6 NoS fun _ h => h.elim) [120] H120.out
    rw [pXY_read] at hq
    have HQ := Lib.hid hq
    have HF6 := Lib.hid (HF5.out.trans hf6)
    clear hx6 hf6 hq HF5
    go_wp2_with fail
    refine HQ.out.mono ?_
    clear HQ
    rintro e w7 ⟨A7, c7, rfl, hg⟩
    have HF7 := Lib.hid (HF6.out.trans hg.got.fr)
    have s1 := strBs w7 A7 old.length c7 old rfl hg.got.rd
    have s2 := strBs w7 A' next.length c' next rfl (HR'.out.nofr HF7.out)
    have s3 := strBs w7 A old.length c old rfl (HR.out.nofr HF7.out)
    clear hg HF6
    dsimp only
    generalize old.length = no at *
    generalize next.length = nn at *
    go_wp2_with fail
    all_goals
      go_ret
      exact ⟨by simp, HF7.out⟩
  · rw [pX_append old next (q : Int) (by omega) HB1.out HB2.out] at hc
    have HC := Lib.hid hc
    clear hc
    go_wp2_with fail
    refine HC.out.mono ?_
    clear HC
    rintro e w5 ⟨rfl, h5, _⟩
    have hc := syncS h5 (fun _ h => h.elim) [121] H121.out
    clear h5
    by_cases hq1 : q = 1
    · rw [show ((q : Int) - 1) = 0 from by omega, pXY_sync0] at hc
      have HC := Lib.hid hc
      clear hc
      go_wp2_with fail
      refine HC.out.mono ?_
      clear HC
      rintro e w5 ⟨rfl, h5, _⟩
      have H5 := Lib.hid h5
      clear h5
      have HC := Lib.hid (crashS H5.out K ks.length kc ks rfl (HK.out.nofr H5.out.fr) HKL.out)
      have HF5 := Lib.hid H5.out.fr
      go_wp2_with fail
      refine HC.out.mono ?_
      clear HC H5
      rintro e w6 ⟨gx, rfl, hx6, hf6⟩
      have hq := readS (hx6 NoS fun _ h => h.elim) [120] H120.out
      rw [pXY_read] at hq
      have HQ := Lib.hid hq
      have HF6 := Lib.hid (HF5.out.trans hf6)
      clear hx6 hf6 hq HF5
      go_wp2_with fail
      refine HQ.out.mono ?_
      clear HQ
      rintro e w7 ⟨A7, c7, rfl, hg⟩
      have HF7 := Lib.hid (HF6.out.trans hg.got.fr)
      have s1 := strBs w7 A7 old.length c7 old rfl hg.got.rd
      have s2 := strBs w7 A' next.length c' next rfl (HR'.out.nofr HF7.out)
      have s3 := strBs w7 A old.length c old rfl (HR.out.nofr HF7.out)
      clear hg HF6
      dsimp only
      generalize old.length = no at *
      generalize next.length = nn at *
      go_wp2_with fail
      all_goals
        go_ret
        exact ⟨by simp, HF7.out⟩
    · rw [pXY_sync old next ((q : Int) - 1) (by omega)] at hc
      have HC := Lib.hid hc
      clear hc
      go_wp2_with fail
      refine HC.out.mono ?_
      clear HC
      rintro e w5 ⟨rfl, h5, _⟩
      have hc := renameS h5 (fun _ h => h.elim) [121] H121.out [120] H120.out
      clear h5
      by_cases hq2 : q = 2
      · rw [show ((q : Int) - 1 - 1) = 0 from by omega, pXY_rename0] at hc
        have HC := Lib.hid hc
        clear hc
        go_wp2_with fail
        refine HC.out.mono ?_
        clear HC
        rintro e w5 ⟨rfl, h5, _⟩
        have H5 := Lib.hid h5
        clear h5
        have HC := Lib.hid (crashS H5.out K ks.length kc ks rfl (HK.out.nofr H5.out.fr) HKL.out)
        have HF5 := Lib.hid H5.out.fr
        go_wp2_with fail
        refine HC.out.mono ?_
        clear HC H5
        rintro e w6 ⟨gx, rfl, hx6, hf6⟩
        have hq := readS (hx6 NoS fun _ h => h.elim) [120] H120.out
        rw [pXY_read] at hq
        have HQ := Lib.hid hq
        have HF6 := Lib.hid (HF5.out.trans hf6)
        clear hx6 hf6 hq HF5
        go_wp2_with fail
        refine HQ.out.mono ?_
        clear HQ
        rintro e w7 ⟨A7, c7, rfl, hg⟩
        have HF7 := Lib.hid (HF6.out.trans hg.got.fr)
        have s1 := strBs w7 A7 old.length c7 old rfl hg.got.rd
        have s2 := strBs w7 A' next.length c' next rfl (HR'.out.nofr HF7.out)
        have s3 := strBs w7 A old.length c old rfl (HR.out.nofr HF7.out)
        clear hg HF6
        dsimp only
        generalize old.length = no at *
        generalize next.length = nn at *
        go_wp2_with fail
        all_goals
          go_ret
          exact ⟨by simp, HF7.out⟩
      · rw [pXY_rename old next ((q : Int) - 1 - 1) (by omega)] at hc
        have HC := Lib.hid hc
        clear hc
        go_wp2_with fail
        refine HC.out.mono ?_
        clear HC
        rintro e w5 ⟨rfl, h5, _⟩
        have H5 := Lib.hid h5
        clear h5
        have HC := Lib.hid (crashS H5.out K ks.length kc ks rfl (HK.out.nofr H5.out.fr) HKL.out)
        have HF5 := Lib.hid H5.out.fr
        go_wp2_with fail
        refine HC.out.mono ?_
        clear HC H5
        rintro e w6 ⟨gx, rfl, hx6, hf6⟩
        have hq := readS (hx6 NoS fun _ h => h.elim) [120] H120.out
        rw [pX_read] at hq
        have HQ := Lib.hid hq
        have HF6 := Lib.hid (HF5.out.trans hf6)
        clear hx6 hf6 hq HF5
        go_wp2_with fail
        refine HQ.out.mono ?_
        clear HQ
        rintro e w7 ⟨A7, c7, rfl, hg⟩
        have HF7 := Lib.hid (HF6.out.trans hg.got.fr)
        have s1 := strBs w7 A7 next.length c7 next rfl hg.got.rd
        have s2 := strBs w7 A' next.length c' next rfl (HR'.out.nofr HF7.out)
        have s3 := strBs w7 A old.length c old rfl (HR.out.nofr HF7.out)
        clear hg HF6
        dsimp only
        generalize old.length = no at *
        generalize next.length = nn at *
        go_wp2_with fail
        all_goals
          go_ret
          exact ⟨by simp, HF7.out⟩
end Go.Proofs.Ytbkcjaagdcijmaa
