/- The document's Same of two lists of marks (layer 10). Conditions: the lists are short. -/
import Derived.Test.YtdgjjkmgdjiliaaOSame
namespace Go.Proofs.Ytdgjjkmgdjiliaa
open Go.RowKit

set_option maxRecDepth 100000 in
set_option maxHeartbeats 2000000 in
theorem msame_any (w : World) (A B : Option Addr) (ca cb : Nat) (xs ys : List Mk) (ha : Rd w A (mksc xs)) (hb : Rd w B (mksc ys)) (hs : xs.length ≤ 1000) (_hs2 : ys.length ≤ 1000) :
    Calls Try.prog 32 #[.slice A xs.length ca, .slice B ys.length cb] w fun e w' => e = .returned (.bool (marksSame xs ys)) ∧ Fr NoBlk w w' := by
  have HA := Lib.hid ha
  have HB := Lib.hid hb
  clear ha hb
  by_cases hl : xs.length = ys.length
  rotate_left
  · have hb : ((xs.length : Int) != (ys.length : Int)) = true := by rw [bne_iff_ne]; omega
    have HZ := Lib.hid (marksSame_len hl)
    clear hl
    go_enter Try.func32, Try.ntmps32
    go_wp2_with fail
    go_ret
    exact ⟨ret_bool HZ.out.symm, Fr.refl _ _⟩
  have HL := Lib.hid hl
  have hb : ((xs.length : Int) != (ys.length : Int)) = false := by rw [hl]; simp
  clear hl
  go_enter Try.func32, Try.ntmps32
  go_wp2_with fail
  go_loopw [5] (fun z wr => ∃ i : Nat, i ≤ xs.length ∧ z = .int .i64 i ∧ Hid (∀ (j : Nat) (x y : Mk), j < i → xs[j]? = some x → ys[j]? = some y → markSame x y = true) ∧ Hid (Fr NoBlk w wr)) (fun z _ => xs.length - (intOf z).toNat)
  case atStart => exact ⟨0, by omega, rfl, (fun j _ _ h1 => absurd h1 (by omega)), Fr.refl _ _⟩
  case round =>
    obtain ⟨i, hio, rfl, HE, HFW⟩ := hrel
    by_cases hlt : i < xs.length
    · obtain ⟨x, hx⟩ : ∃ x, xs[i]? = some x := ⟨_, List.getElem?_eq_getElem hlt⟩
      obtain ⟨y, hy⟩ : ∃ y, ys[i]? = some y := ⟨_, List.getElem?_eq_getElem (by rw [← HL.out]; exact hlt)⟩
      obtain ⟨p, o, hA, x0, x1, x2⟩ := (HA.out.nofr HFW.out).mark hx
      obtain ⟨p', o', hB, y0, y1, y2⟩ := (HB.out.nofr HFW.out).mark hy
      have HNX : Hid (markSame x y = true → ∀ (j : Nat) (x y : Mk), j < i + 1 → xs[j]? = some x → ys[j]? = some y → markSame x y = true) := by
        intro h j x' y' hj2 hx' hy'
        by_cases e : j = i
        · subst e
          rw [hx] at hx'
          rw [hy] at hy'
          injection hx' with hx'
          injection hy' with hy'
          subst hx' hy'
          exact h
        · exact HE.out j x' y' (by omega) hx' hy'
      have HNO : Hid (markSame x y = false → marksSame xs ys = false) := fun h => marksSame_no hx hy h
      have hqm := neqMark x y
      have hgm := (by kernel_rfl : Try.prog.eqGuardType Try.prog.depth 63 = false)
      unfold mkv st at hqm
      have i1 : (0 : Int) ≤ (i : Int) := by omega
      have i2 : (i : Int) < (xs.length : Int) := by omega
      have i3 : (i : Int) < (ys.length : Int) := by have := HL.out; omega
      subst hA hB
      clear hx hy hlt
      generalize markSame x y = bb at hqm HNX HNO
      cases bb
      · have HQ := Lib.hid (HNO.out rfl)
        go_wp2_with fail
        go_quiet (fail)
        go_wp2
        go_ret
        exact ⟨ret_bool HQ.out.symm, HFW.out.drewN _⟩
      · have HY := Lib.hid (HNX.out rfl)
        go_wp2_with fail
        go_quiet (fail)
        go_wp2
        go_roundw
        case rel => exact ⟨i + 1, by omega, by go_num, HY, HFW.out.drewN _⟩
        case measure => simp [intOf]; omega
    · have HZ : Hid (marksSame xs ys = true) := marksSame_yes HL.out fun j x y hx hy => HE.out j x y (by have := (List.getElem?_eq_some_iff.1 hx).1; omega) hx hy
      have i3 : (xs.length : Int) ≤ (i : Int) := by omega
      go_wp2_with fail
      go_ret
      exact ⟨ret_bool HZ.out.symm, HFW.out⟩
end Go.Proofs.Ytdgjjkmgdjiliaa
