/- The law's great: where it answers false the script is small. No condition but lengths. -/
import Derived.Test.YtkdcacajacndmaaOps6
import Derived.BigQuiet
namespace Go.Proofs.Ytkdcacajacndmaa
open Go.RowKit

structure Small (xs : List Opn) : Prop where
  n : xs.length ≤ 100
  o : ∀ x ∈ xs, x.data.2.2.length ≤ 500 ∧ x.name.length ≤ 500
def GreatPost (xs : List Opn) (e : Ending) : Prop := ∃ b, e = .returned (.bool b) ∧ (b = false → Small xs)
def opa (x : Opn) : Array Value := #[.int .i64 x.kind, .int .i64 x.n, st x.name, sl x.data]

set_option maxRecDepth 100000 in
set_option maxHeartbeats 1000000 in
theorem great_any (w : World) (A : Option Addr) (c : Nat) (xs : List Opn) (hr : Rd w A (opsc xs)) (hx : ∀ x ∈ xs, OpIn w x) (hm : xs.length ≤ maxLen) :
    Calls Try.prog 11 #[.slice A xs.length c] w fun e w' => GreatPost xs e ∧ Fr NoBlk w w' := by
  have HR := Lib.hid hr
  have HX := Lib.hid hx
  clear hr hx
  unfold maxLen at hm
  by_cases h1 : 100 < xs.length
  · go_enter Try.func11, Try.ntmps11
    go_wp2_with fail
    go_ret
    exact ⟨⟨true, rfl, fun h => by cases h⟩, Fr.refl _ _⟩
  go_enter Try.func11, Try.ntmps11
  go_wp2_with fail
  go_loopw [10] (fun z wr => ∃ k : Nat, k ≤ xs.length ∧ z = .int .i64 k ∧ Hid (∀ j x, j < k → xs[j]? = some x → x.data.2.2.length ≤ 500 ∧ x.name.length ≤ 500) ∧ Hid (Fr NoBlk w wr)) (fun z _ => xs.length - (intOf z).toNat)
  case atStart => exact ⟨0, by omega, rfl, (fun j _ h1 => absurd h1 (by omega)), Fr.refl _ _⟩
  case round =>
    obtain ⟨k, hk, rfl, HL, HF⟩ := hrel
    by_cases hlt : k < xs.length
    · obtain ⟨x, hx⟩ : ∃ x, xs[k]? = some x := ⟨_, List.getElem?_eq_getElem hlt⟩
      obtain ⟨b, o, hA, c0, c1, c2, c4⟩ := (HR.out.nofr HF.out).opn hx
      have hv := HX.out x (List.mem_of_getElem? hx)
      have hm1 : x.data.2.2.length ≤ 9223372036854775807 := Nat.le_trans hv.1.2.1 hv.1.2.2
      have hm2 : x.name.length ≤ 9223372036854775807 := hv.2.1
      have HX2 : Hid (x.data.2.2.length ≤ 500 → x.name.length ≤ 500 → ∀ j y, j < k + 1 → xs[j]? = some y → y.data.2.2.length ≤ 500 ∧ y.name.length ≤ 500) := by
        intro h h' j y hj2 hy
        by_cases e : j = k
        · subst e; rw [hx] at hy; injection hy with hy; subst hy; exact ⟨h, h'⟩
        · exact HL.out j y (by omega) hy
      have HW : Hid (Fr NoBlk w (wr.alloc (.cells (opa x) 33))) := HF.out.trans ((Fr.refl _ _).alloc _)
      subst hA
      clear hx hv
      obtain ⟨kind, n, name, ⟨va, vc, vb⟩⟩ := x
      unfold opa at HW
      unfold st at c2 HW
      unfold sl at c4 HW
      dsimp only at c0 c1 c2 c4 hm1 hm2 HX2 HW
      have e4 := bstr_size name
      generalize vb.length = vl at *
      by_cases hb2 : 500 < name.length
      · go_wp2_with fail
        go_ret
        exact ⟨⟨true, rfl, fun h => by cases h⟩, HW.out⟩
      by_cases hb1 : 500 < vl
      · go_wp2_with fail
        go_ret
        exact ⟨⟨true, rfl, fun h => by cases h⟩, HW.out⟩
      have HY := Lib.hid (HX2.out (by omega) (by omega))
      go_wp2_with fail
      go_roundw
      case rel => exact ⟨k + 1, by omega, by go_num, HY, HW⟩
      case measure => simp [intOf]; omega
    · have HZ3 : Hid (∀ x ∈ xs, x.data.2.2.length ≤ 500 ∧ x.name.length ≤ 500) := by
        intro x hx
        obtain ⟨j, hj, rfl⟩ := List.getElem_of_mem hx
        exact HL.out j _ (by omega) (List.getElem?_eq_getElem hj)
      go_wp2_with fail
      go_ret
      exact ⟨⟨false, rfl, fun _ => ⟨by omega, HZ3.out⟩⟩, HF.out⟩
end Go.Proofs.Ytkdcacajacndmaa
