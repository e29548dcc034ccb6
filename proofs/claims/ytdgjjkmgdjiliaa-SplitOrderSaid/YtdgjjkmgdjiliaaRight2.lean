/- The document's SameTexts. No condition but lengths. -/
import Derived.Test.YtdgjjkmgdjiliaaRef
namespace Go.Proofs.Ytdgjjkmgdjiliaa
open Go.RowKit

set_option maxRecDepth 100000 in
theorem sameTexts_any (w : World) (A B : Option Addr) (n m c d : Nat) (xs ys : List Bs) (hn : n = xs.length) (hm : m = ys.length) (hr : Rd w A (sts xs)) (hs : Rd w B (sts ys)) (hx : xs.length ≤ maxLen) (hy : ys.length ≤ maxLen) :
    Calls Try.prog 64 #[.slice A n c, .slice B m d] w fun e w' => e = .returned (.bool (xs == ys)) ∧ Fr NoBlk w w' := by
  subst hn hm
  have HR := Lib.hid hr
  have HS := Lib.hid hs
  clear hr hs
  unfold maxLen at hx hy
  by_cases hl : xs.length = ys.length
  rotate_left
  · have HZ : Hid ((xs == ys) = false) := by
      show _ = false
      rw [beq_eq_false_iff_ne]
      rintro rfl
      exact hl rfl
    have hb : ((xs.length : Int) != (ys.length : Int)) = true := by rw [bne_iff_ne]; omega
    have hd : (decide (xs.length = ys.length)) = false := by simpa using hl
    clear hl
    go_enter Try.func64, Try.ntmps64
    go_wp2_with fail
    go_ret
    exact ⟨by rw [HZ.out]; rfl, Fr.refl _ _⟩
  · have HL := Lib.hid hl
    rw [← hl]
    clear hl
    go_enter Try.func64, Try.ntmps64
    go_wp2_with fail
    go_loopw [5] (fun z wr => ∃ k : Nat, k ≤ xs.length ∧ z = .int .i64 k ∧ Hid (∀ j, j < k → xs.getD j [] = ys.getD j []) ∧ Hid (Fr NoBlk w wr)) (fun z _ => xs.length - (intOf z).toNat)
    case atStart => exact ⟨0, by omega, rfl, (fun j h1 => absurd h1 (by omega)), Fr.refl _ _⟩
    case round =>
      obtain ⟨k, hk, rfl, HE, HF⟩ := hrel
      by_cases hlt : k < xs.length
      · obtain ⟨b, o, rfl, hc1⟩ := (HR.out.nofr HF.out).text (k := k) hlt
        obtain ⟨b', o', rfl, hc2⟩ := (HS.out.nofr HF.out).text (k := k) (by rw [← HL.out]; exact hlt)
        have HX : Hid (xs.getD k [] = ys.getD k [] → ∀ j, j < k + 1 → xs.getD j [] = ys.getD j []) := by
          intro h j hj2
          by_cases e : j = k
          · subst e; exact h
          · exact HE.out j (by omega)
        have HN : Hid (xs.getD k [] ≠ ys.getD k [] → (xs == ys) = false) := by
          intro h
          rw [beq_eq_false_iff_ne]
          rintro rfl
          exact h rfl
        generalize xs.getD k [] = x at *
        generalize ys.getD k [] = y at *
        have i1 : (0 : Int) ≤ (k : Int) := by omega
        have i3 : (k : Int) < (xs.length : Int) := by omega
        have e3 := bstr_toList x
        have e4 := bstr_toList y
        cases hb : x == y
        · have hb2 : decide (x = y) = false := by simpa using hb
          have HQ := Lib.hid (HN.out (by simpa using hb))
          go_wp2_with fail
          go_quiet (fail)
          go_wp2
          go_ret
          exact ⟨by rw [HQ.out]; rfl, HF.out.drewN _⟩
        · have HY := Lib.hid (HX.out (by simpa using hb))
          have he : x = y := by simpa using hb
          subst he
          clear hb
          go_wp2_with fail
          go_quiet (fail)
          go_wp2
          go_roundw
          case rel => exact ⟨k + 1, by omega, by go_num, HY, HF.out.drewN _⟩
          case measure => simp [intOf]; omega
      · have HZ : Hid ((xs == ys) = true) := by
          show _ = true
          rw [beq_iff_eq]
          refine List.ext_getElem HL.out fun j h1 h2 => ?_
          have := HE.out j (by omega)
          simpa [List.getD_eq_getElem?_getD, h1, h2] using this
        go_wp2_with fail
        go_ret
        exact ⟨by rw [HZ.out]; rfl, HF.out⟩
end Go.Proofs.Ytdgjjkmgdjiliaa
