/- slices.Insert of one element at the end. Conditions: at most 1000 elements. -/
import Derived.Test.YtkdcacajacndmaaB7
namespace Go.Proofs.Ytkdcacajacndmaa
open Go.RowKit

/-- what slices.Insert leaves: a row of one element more, in its place or in a new block. -/
def InsPost (w : World) (base : Nat) (T : TypeId) (size : Nat) (v : Value) (n : Nat) (ys : List Value) (en : Ending) (w' : World) : Prop :=
  ∃ A' c', en = .returned (.slice A' (n + 1) c') ∧ RowW w' base T size (.slice A' (n + 1) c') (n + 1) ys ∧ Fr (fun k => v.ownBlock = some k) w w' ∧ ((Value.slice A' (n + 1) c').ownBlock = v.ownBlock ∨ (Value.slice A' (n + 1) c').ownBlock = some w.heap.size)
set_option maxRecDepth 100000 in
set_option maxHeartbeats 1000000 in
theorem insEndIR_any (w : World) (base : Nat) (A : Option Addr) (n c : Nat) (xs : List Value) (h : RowW w base 124 5 (.slice A n c) n xs) (hB : base ≤ w.heap.size) (hn : n ≤ 1000) (nb : Nat) (nw : List Value) (hw : nw.length = 1 * 5) (h1 : ∀ u ∈ nw, u.oneCell' = true) (hr : Rd w (some ⟨nb, 0, none⟩) nw) :
    Calls Try.prog 86 #[.slice A n c, .int .i64 n, .slice (some ⟨nb, 0, none⟩) 1 1] w (InsPost w base 124 5 (.slice A n c) n (xs ++ nw)) := by
  obtain ⟨i0, hi, hz0, hz1, hz2⟩ := info_parts infoIR
  have HH := Lib.hid h
  have HW := Lib.hid hw
  have H1 := Lib.hid h1
  have HR := Lib.hid hr
  clear h hw h1 hr
  by_cases hcn : c = n
  · have hcn2 := hcn.symm
    subst hcn2
    go_enter Try.func86, Try.ntmps86
    go_wp2_with (first | (at_builtin; go_loud (refine wpList_appRow rfl _ _ 99 rfl base 124 i0 _ 5 64 Try.underlying99 hi hz0 hz1 hz2 rfl (by decide) (.slice A n n) n xs rfl HH.out (some ⟨nb, 0, none⟩) 1 1 nw rfl HW.out HR.out H1.out (fun h => by cases h) (by unfold maxLen; omega) (by omega) hB ?_); intro v2 w2 ho2 hf2 hb2; obtain ⟨A2, c2, rfl, hc2, hA2⟩ := ho2.form; have HO2 := Lib.hid ho2; have HF2 := Lib.hid hf2; have HB2 := Lib.hid hb2; clear ho2 hf2 hb2 hA2) | fail)
    go_ret
    exact ⟨A2, c2, rfl, HO2.out, HF2.out, HB2.out⟩
  · go_enter Try.func86, Try.ntmps86
    go_wp2_with (first | (at_builtin; go_loud (refine wpList_appRow rfl _ _ 99 rfl base 124 i0 _ 5 64 Try.underlying99 hi hz0 hz1 hz2 rfl (by decide) (.slice A n c) n xs rfl HH.out (some ⟨nb, 0, none⟩) 1 1 nw rfl HW.out HR.out H1.out (fun h => by cases h) (by unfold maxLen; omega) (by omega) hB ?_); intro v2 w2 ho2 hf2 hb2; obtain ⟨A2, c2, rfl, hc2, hA2⟩ := ho2.form; have HO2 := Lib.hid ho2; have HF2 := Lib.hid hf2; have HB2 := Lib.hid hb2; clear ho2 hf2 hb2 hA2) | fail)
    go_ret
    exact ⟨A2, c2, rfl, HO2.out, HF2.out, HB2.out⟩
set_option maxRecDepth 100000 in
set_option maxHeartbeats 1000000 in
theorem insEndPR_any (w : World) (base : Nat) (A : Option Addr) (n c : Nat) (xs : List Value) (h : RowW w base 98 1 (.slice A n c) n xs) (hB : base ≤ w.heap.size) (hn : n ≤ 1000) (nb : Nat) (nw : List Value) (hw : nw.length = 1 * 1) (h1 : ∀ u ∈ nw, u.oneCell' = true) (hr : Rd w (some ⟨nb, 0, none⟩) nw) :
    Calls Try.prog 89 #[.slice A n c, .int .i64 n, .slice (some ⟨nb, 0, none⟩) 1 1] w (InsPost w base 98 1 (.slice A n c) n (xs ++ nw)) := by
  obtain ⟨i0, hi, hz0, hz1, hz2⟩ := info_parts infoPR
  have HH := Lib.hid h
  have HW := Lib.hid hw
  have H1 := Lib.hid h1
  have HR := Lib.hid hr
  clear h hw h1 hr
  by_cases hcn : c = n
  · have hcn2 := hcn.symm
    subst hcn2
    go_enter Try.func89, Try.ntmps89
    go_wp2_with (first | (at_builtin; go_loud (refine wpList_appRow rfl _ _ 100 rfl base 98 i0 _ 1 8 Try.underlying100 hi hz0 hz1 hz2 rfl (by decide) (.slice A n n) n xs rfl HH.out (some ⟨nb, 0, none⟩) 1 1 nw rfl HW.out HR.out H1.out (fun h => by cases h) (by unfold maxLen; omega) (by omega) hB ?_); intro v2 w2 ho2 hf2 hb2; obtain ⟨A2, c2, rfl, hc2, hA2⟩ := ho2.form; have HO2 := Lib.hid ho2; have HF2 := Lib.hid hf2; have HB2 := Lib.hid hb2; clear ho2 hf2 hb2 hA2) | fail)
    go_ret
    exact ⟨A2, c2, rfl, HO2.out, HF2.out, HB2.out⟩
  · go_enter Try.func89, Try.ntmps89
    go_wp2_with (first | (at_builtin; go_loud (refine wpList_appRow rfl _ _ 100 rfl base 98 i0 _ 1 8 Try.underlying100 hi hz0 hz1 hz2 rfl (by decide) (.slice A n c) n xs rfl HH.out (some ⟨nb, 0, none⟩) 1 1 nw rfl HW.out HR.out H1.out (fun h => by cases h) (by unfold maxLen; omega) (by omega) hB ?_); intro v2 w2 ho2 hf2 hb2; obtain ⟨A2, c2, rfl, hc2, hA2⟩ := ho2.form; have HO2 := Lib.hid ho2; have HF2 := Lib.hid hf2; have HB2 := Lib.hid hb2; clear ho2 hf2 hb2 hA2) | fail)
    go_ret
    exact ⟨A2, c2, rfl, HO2.out, HF2.out, HB2.out⟩
end Go.Proofs.Ytkdcacajacndmaa
