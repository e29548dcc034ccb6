/- The place of a key among items, at keys of string and values of int: cmp.Compare, find's closure, slices.BinarySearchFunc, find. Conditions: at most 1000 items. -/
import Derived.Test.YtcpgonioobgpoaaB1
import Derived.Test.YtcpgonioobgpoaaMem
import Derived.Test.YtcpgonioobgpoaaChecked
import Derived.Lib.Hide
import Derived.Lib.SmallJoins
import Derived.Deep.Light
import Derived.BigQuiet
import Derived.Deep.QuietTactic
import Derived.RegionTactic
import Derived.IntWalk
namespace Go.Proofs.Ytcpgonioobgpoaa
open Go.RowKit

def bstr (l : Bs) : ByteArray := ⟨l.toArray⟩
theorem bstr_toList (l : Bs) : (bstr l).toList = l := by
  rw [ByteArray.toList_eq]
  simp [bstr]
set_option maxRecDepth 100000 in
theorem compareS_any (w : World) (a b : Bs) : Calls Try.prog 61 #[.string (bstr a), .string (bstr b)] w fun e w' => e = .returned (.int .i64 (cmpv Op.bytesLess a b)) ∧ Fr NoBlk w w' := by
  have e3 := bstr_toList a
  have e4 := bstr_toList b
  have e5 := gt_less a b
  have nan : Hid (∀ (W : World) (s : ByteArray), Calls Try.prog 95 #[.string s] W fun e w' => e = .returned (.bool false) ∧ W = w') := fun W s => by
    go_enter Try.func95, Try.ntmps95
    go_wp2_with fail
    go_ret
    exact ⟨rfl, rfl⟩
  have HC : Hid (cmpv Op.bytesLess a b = if Op.bytesLess a b then -1 else if Op.bytesLess b a then 1 else 0) := rfl
  go_enter Try.func61, Try.ntmps61
  go_wp2_with fail
  refine (nan.out _ _).mono ?_
  rintro e w1 ⟨rfl, hw⟩
  subst hw
  go_wp2_with fail
  refine (nan.out _ _).mono ?_
  rintro e w1 ⟨rfl, hw⟩
  subst hw
  cases h1 : Op.bytesLess a b with
  | true =>
    go_wp2_with fail
    go_ret
    exact ⟨by rw [HC.out, h1]; rfl, Fr.refl _ _⟩
  | false =>
    cases h2 : Op.bytesLess b a with
    | true =>
      have e6 : (a == b) = false := beq_eq_false_iff_ne.2 (less_ne h2).symm
      clear e5
      go_wp2_with fail
      go_ret
      exact ⟨by rw [HC.out, h1, h2]; rfl, Fr.refl _ _⟩
    | false =>
      have e6 : (a == b) = true := beq_iff_eq.2 (less_total h1 h2)
      clear e5
      go_wp2_with fail
      go_ret
      exact ⟨by rw [HC.out, h1, h2]; rfl, Fr.refl _ _⟩

/-- an item: key and value. -/
abbrev ItS := Bs × Int
def itcS (x : ItS) : List Value := [.string (bstr x.1), .int .i64 x.2]
def itaS (x : ItS) : Array Value := #[.string (bstr x.1), .int .i64 x.2]
def itsS (xs : List ItS) : List Value := xs.flatMap itcS
theorem itsS_len (xs : List ItS) : (itsS xs).length = xs.length * 2 := by
  induction xs with
  | nil => rfl
  | cons x t ih =>
    show (itcS x ++ itsS t).length = _
    rw [List.length_append, ih, List.length_cons]
    show 2 + _ = _
    omega
theorem itsS_append (xs ys : List ItS) : itsS (xs ++ ys) = itsS xs ++ itsS ys := List.flatMap_append ..
theorem itsS_one (xs : List ItS) : ∀ u ∈ itsS xs, u.oneCell' = true := by
  intro u hu
  simp only [itsS, List.mem_flatMap, itcS, List.mem_cons, List.not_mem_nil, or_false] at hu
  obtain ⟨x, _, rfl | rfl⟩ := hu <;> rfl
theorem itsS_get (xs : List ItS) (k : Nat) (x : ItS) (h : xs[k]? = some x) (j : Nat) (hj : j < 2) : (itsS xs)[k * 2 + j]? = (itcS x)[j]? := by
  induction xs generalizing k with
  | nil => cases h
  | cons y t ih =>
    cases k with
    | zero =>
      injection h with h
      subst h
      show (itcS y ++ itsS t)[_]? = _
      rw [List.getElem?_append_left (by show _ < 2; omega), Nat.zero_mul, Nat.zero_add]
    | succ k =>
      show (itcS y ++ itsS t)[_]? = _
      rw [List.getElem?_append_right (by show 2 ≤ _; omega), show (k + 1) * 2 + j - (itcS y).length = k * 2 + j from by show _ - 2 = _; omega]
      exact ih k h
theorem Rd.itS {w : World} {A : Option Addr} {xs : List ItS} (h : Rd w A (itsS xs)) {k : Nat} {x : ItS} (hx : xs[k]? = some x) :
    ∃ b o, A = some ⟨b, o, none⟩ ∧ w.cell? ⟨b, o + k * 2, none⟩ = some (.string (bstr x.1)) ∧ w.cell? ⟨b, o + k * 2 + 1, none⟩ = some (.int .i64 x.2) := by
  have hk := (List.getElem?_eq_some_iff.1 hx).1
  obtain ⟨b, o, rfl, hc⟩ := h (by rw [itsS_len]; omega)
  exact ⟨b, o, rfl, hc _ _ ((itsS_get xs k x hx 0 (by omega)).trans rfl), hc _ _ ((itsS_get xs k x hx 1 (by omega)).trans rfl)⟩

set_option maxRecDepth 100000 in
theorem closeS_any (w : World) (x : ItS) (key : Bs) : Calls Try.prog 60 #[.agg (itaS x), .string (bstr key)] w fun e w' => e = .returned (.int .i64 (cmpv Op.bytesLess x.1 key)) ∧ Fr NoBlk w w' := by
  obtain ⟨w1, hw1⟩ : ∃ w1, w1 = w.alloc (.cells (itaS x) 72) := ⟨_, rfl⟩
  have HF : Hid (Fr NoBlk w w1) := by show Fr _ _ _; rw [hw1]; exact (Fr.refl _ _).alloc _
  obtain ⟨xk, xv⟩ := x
  have HC := Lib.hid (compareS_any w1 xk key)
  unfold itaS at hw1 ⊢
  dsimp only at hw1 ⊢
  go_enter Try.func60, Try.ntmps60
  go_wp2_with fail
  rw [← hw1]
  refine HC.out.mono ?_
  rintro e w2 ⟨rfl, hf⟩
  have HF2 := Lib.hid (HF.out.trans hf)
  clear hf HC
  go_wp2_with fail
  go_ret
  exact ⟨rfl, HF2.out⟩

def FindSPost (w : World) (xs : List ItS) (key : Bs) (e : Ending) (w' : World) : Prop :=
  ∃ (i : Nat) (fd : Bool), e = .returned (.tuple #[.int .i64 i, .bool fd]) ∧ IsAt Op.bytesLess xs key i ∧ (fd = true ↔ ∃ v, xs[i]? = some (key, v)) ∧ Fr NoBlk w w'
set_option maxRecDepth 100000 in
set_option maxHeartbeats 1000000 in
theorem searchS_any (w : World) (A : Option Addr) (c : Nat) (xs : List ItS) (key : Bs) (hr : Rd w A (itsS xs)) (hu : UpI Op.bytesLess xs) (hn : xs.length ≤ 1000) :
    Calls Try.prog 59 #[.slice A xs.length c, .string (bstr key), .func (.func 60) #[] #[]] w (FindSPost w xs key) := by
  have HR := Lib.hid hr
  have HU := Lib.hid hu
  clear hr hu
  go_enter Try.func59, Try.ntmps59
  go_wp2_with fail
  go_loopw [9, 10] (fun a b wr => ∃ i j : Nat, i ≤ j ∧ j ≤ xs.length ∧ a = .int .i64 i ∧ b = .int .i64 j ∧ Hid (Fr NoBlk w wr ∧ (∀ t y, t < i → xs[t]? = some y → Op.bytesLess y.1 key = true) ∧ ∀ t y, j ≤ t → xs[t]? = some y → Op.bytesLess y.1 key = false)) (fun a b _ => (intOf b).toNat - (intOf a).toNat)
  case atStart => exact ⟨0, xs.length, Nat.zero_le _, Nat.le_refl _, rfl, rfl, Fr.refl _ _, fun t y h => absurd h (by omega), fun t y h hy => by have := (List.getElem?_eq_some_iff.1 hy).1; omega⟩
  case round =>
    obtain ⟨i, j, hij, hj, rfl, rfl, HX⟩ := hrel
    by_cases hlt : i < j
    · have hlti : (i : Int) < (j : Int) := by omega
      obtain ⟨h, hh⟩ : ∃ h, h = (i + j) / 2 := ⟨_, rfl⟩
      have hmid : ((i : Int) + (j : Int)) / 2 = (h : Int) := by omega
      have hhn : h < xs.length := by omega
      have hhi : (h : Int) < (xs.length : Int) := by omega
      have HB : Hid (i ≤ h ∧ h < j) := ⟨by omega, by omega⟩
      obtain ⟨x, hx⟩ : ∃ x, xs[h]? = some x := ⟨_, List.getElem?_eq_getElem hhn⟩
      obtain ⟨b, o, rfl, d0, d1⟩ := (HR.out.nofr HX.out.1).itS hx
      have HXX := Lib.hid hx
      have HC := Lib.hid (closeS_any wr x key)
      clear hx hh hhn
      obtain ⟨xk, xv⟩ := x
      unfold itaS at HC
      dsimp only at d0 d1 HC
      cases hl : Op.bytesLess xk key with
      | true =>
        have HL := Lib.hid (below_more linS HU.out HXX.out hl)
        have hz : cmpv Op.bytesLess xk key = -1 := by unfold cmpv; rw [hl]; rfl
        rw [hz] at HC
        have hwr : IntKind.i64.wrap ((h : Int) + 1) = (h : Int) + 1 := IntWalk.i64_in _ (by omega)
        clear hl hz
        go_wp2_with fail
        refine HC.out.mono ?_
        clear HC
        rintro e w2 ⟨rfl, hf⟩
        have HF2 := Lib.hid (HX.out.1.trans hf)
        clear hf
        go_wp2_with fail
        go_roundw
        case rel => exact ⟨h + 1, j, by have := HB.out; omega, by omega, by go_num, rfl, HF2.out, HL.out, HX.out.2.2⟩
        case measure => have := HB.out; simp [intOf]; omega
      | false =>
        have HL := Lib.hid (above_more linS HU.out HXX.out hl)
        have hz : ¬ cmpv Op.bytesLess xk key < 0 := by
          have := cmpv_neg (lt := Op.bytesLess) xk key
          rw [hl] at this
          simpa using this
        generalize cmpv Op.bytesLess xk key = z at HC hz
        clear hl
        go_wp2_with fail
        refine HC.out.mono ?_
        clear HC
        rintro e w2 ⟨rfl, hf⟩
        have HF2 := Lib.hid (HX.out.1.trans hf)
        clear hf
        go_wp2_with fail
        go_roundw
        case rel => exact ⟨i, h, by have := HB.out; omega, by have := HB.out; omega, rfl, rfl, HF2.out, HX.out.2.1, HL.out⟩
        case measure => have := HB.out; simp [intOf]; omega
    · obtain rfl : i = j := by omega
      have HI : Hid (IsAt Op.bytesLess xs key i) := ⟨hj, HX.out.2.1, HX.out.2.2⟩
      have HFX := Lib.hid HX.out.1
      clear HX hij hlt
      by_cases hlt : i < xs.length
      · have hlti : (i : Int) < (xs.length : Int) := by omega
        obtain ⟨x, hx⟩ : ∃ x, xs[i]? = some x := ⟨_, List.getElem?_eq_getElem hlt⟩
        obtain ⟨b, o, rfl, d0, d1⟩ := (HR.out.nofr HFX.out).itS hx
        have HXX := Lib.hid hx
        have HC := Lib.hid (closeS_any wr x key)
        clear hx
        obtain ⟨xk, xv⟩ := x
        unfold itaS at HC
        dsimp only at d0 d1 HC
        by_cases he : xk = key
        · subst he
          rw [(cmpv_zero linS xk xk).2 rfl] at HC
          go_wp2_with fail
          refine HC.out.mono ?_
          clear HC
          rintro e w2 ⟨rfl, hf⟩
          have HF2 := Lib.hid (HFX.out.trans hf)
          clear hf
          go_wp2_with fail
          go_ret2
          exact ⟨i, true, rfl, HI.out, ⟨fun _ => ⟨xv, HXX.out⟩, fun _ => rfl⟩, HF2.out⟩
        · have hz : cmpv Op.bytesLess xk key ≠ 0 := fun h => he ((cmpv_zero linS xk key).1 h)
          have HNE : Hid (false = true ↔ ∃ v, xs[i]? = some (key, v)) := by
            constructor
            · intro h; cases h
            · rintro ⟨v, hv⟩
              rw [HXX.out] at hv
              injection hv with hv
              exact absurd (congrArg Prod.fst hv) he
          generalize cmpv Op.bytesLess xk key = z at HC hz
          have hz2 : (z == 0) = false := beq_eq_false_iff_ne.2 hz
          clear he
          go_wp2_with fail
          refine HC.out.mono ?_
          clear HC
          rintro e w2 ⟨rfl, hf⟩
          have HF2 := Lib.hid (HFX.out.trans hf)
          clear hf
          go_wp2_with fail
          go_ret2
          exact ⟨i, false, rfl, HI.out, HNE.out, HF2.out⟩
      · have HE : Hid (false = true ↔ ∃ v, xs[i]? = some (key, v)) := by
          constructor
          · intro h; cases h
          · rintro ⟨v, hv⟩
            rw [List.getElem?_eq_none (by omega)] at hv
            cases hv
        have hlti : ¬ (i : Int) < (xs.length : Int) := by omega
        go_wp2_with fail
        go_ret2
        exact ⟨i, false, rfl, HI.out, HE.out, HFX.out⟩
set_option maxRecDepth 100000 in
theorem findS_any (w : World) (A : Option Addr) (c : Nat) (xs : List ItS) (key : Bs) (hr : Rd w A (itsS xs)) (hu : UpI Op.bytesLess xs) (hn : xs.length ≤ 1000) :
    Calls Try.prog 39 #[.slice A xs.length c, .string (bstr key)] w (FindSPost w xs key) := by
  have HC := Lib.hid (searchS_any w A c xs key hr hu hn)
  clear hr hu
  go_enter Try.func39, Try.ntmps39
  go_wp2_with fail
  refine HC.out.mono ?_
  rintro e w2 ⟨i, fd, rfl, h1, h2, h3⟩
  have H1 := Lib.hid h1
  have H2 := Lib.hid h2
  have H3 := Lib.hid h3
  clear h1 h2 h3 HC
  go_wp2_with fail
  go_ret2
  exact ⟨i, fd, rfl, H1.out, H2.out, H3.out⟩
end Go.Proofs.Ytcpgonioobgpoaa
