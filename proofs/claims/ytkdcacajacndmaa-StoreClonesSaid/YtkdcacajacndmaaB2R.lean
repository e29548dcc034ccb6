/- The place of a key among items, at keys of string and values of argosy/api.Record: cmp.Compare, find's closure, slices.BinarySearchFunc, find. Conditions: at most 1000 items. -/
import Derived.Test.YtkdcacajacndmaaB1
import Derived.Test.YtkdcacajacndmaaMem
import Derived.Test.YtkdcacajacndmaaChecked
import Derived.Lib.Hide
import Derived.Lib.SmallJoins
import Derived.Deep.Light
import Derived.BigQuiet
import Derived.Deep.QuietTactic
import Derived.RegionTactic
import Derived.IntWalk
namespace Go.Proofs.Ytkdcacajacndmaa
open Go.RowKit

def bstr (l : Bs) : ByteArray := ⟨l.toArray⟩
theorem bstr_toList (l : Bs) : (bstr l).toList = l := by
  rw [ByteArray.toList_eq]
  simp [bstr]
set_option maxRecDepth 100000 in
theorem compareS_any (w : World) (a b : Bs) : Calls Try.prog 85 #[.string (bstr a), .string (bstr b)] w fun e w' => e = .returned (.int .i64 (cmpv Op.bytesLess a b)) ∧ Fr NoBlk w w' := by
  have e3 := bstr_toList a
  have e4 := bstr_toList b
  have e5 := gt_less a b
  have nan : Hid (∀ (W : World) (s : ByteArray), Calls Try.prog 93 #[.string s] W fun e w' => e = .returned (.bool false) ∧ W = w') := fun W s => by
    go_enter Try.func93, Try.ntmps93
    go_wp2_with fail
    go_ret
    exact ⟨rfl, rfl⟩
  have HC : Hid (cmpv Op.bytesLess a b = if Op.bytesLess a b then -1 else if Op.bytesLess b a then 1 else 0) := rfl
  go_enter Try.func85, Try.ntmps85
  go_wp2_with fail
  refine (nan.out _ _).mono ?_
  rintro e w1 ⟨rfl, hw⟩
  subst hw
  go_wp2_with fail
  refine (nan.out _ _).mono ?_
  rintro e w1 ⟨rfl, hw⟩
  subst hw
  cases h1 : Op.bytesLess a b with
  | true =>
    go_wp2_with fail
    go_ret
    exact ⟨by rw [HC.out, h1]; rfl, Fr.refl _ _⟩
  | false =>
    cases h2 : Op.bytesLess b a with
    | true =>
      have e6 : (a == b) = false := beq_eq_false_iff_ne.2 (less_ne h2).symm
      clear e5
      go_wp2_with fail
      go_ret
      exact ⟨by rw [HC.out, h1, h2]; rfl, Fr.refl _ _⟩
    | false =>
      have e6 : (a == b) = true := beq_iff_eq.2 (less_total h1 h2)
      clear e5
      go_wp2_with fail
      go_ret
      exact ⟨by rw [HC.out, h1, h2]; rfl, Fr.refl _ _⟩

/-- a value. -/
structure VaR where
  has : Bool
  va : Option Addr
  vn : Nat
  vc : Nat
  home : Int
  count : Nat
/-- an item: key and value. -/
abbrev ItR := Bs × VaR
def itcR (x : ItR) : List Value := [.string (bstr x.1), .bool x.2.has, .slice x.2.va x.2.vn x.2.vc, .int .i64 x.2.home, .int .u64 (x.2.count : Int)]
def itaR (x : ItR) : Array Value := #[.string (bstr x.1), .bool x.2.has, .slice x.2.va x.2.vn x.2.vc, .int .i64 x.2.home, .int .u64 (x.2.count : Int)]
def itsR (xs : List ItR) : List Value := xs.flatMap itcR
theorem itsR_len (xs : List ItR) : (itsR xs).length = xs.length * 5 := by
  induction xs with
  | nil => rfl
  | cons x t ih =>
    show (itcR x ++ itsR t).length = _
    rw [List.length_append, ih, List.length_cons]
    show 5 + _ = _
    omega
theorem itsR_append (xs ys : List ItR) : itsR (xs ++ ys) = itsR xs ++ itsR ys := List.flatMap_append ..
theorem itsR_one (xs : List ItR) : ∀ u ∈ itsR xs, u.oneCell' = true := by
  intro u hu
  simp only [itsR, List.mem_flatMap, itcR, List.mem_cons, List.not_mem_nil, or_false] at hu
  obtain ⟨x, _, rfl | rfl | rfl | rfl | rfl⟩ := hu <;> rfl
theorem itsR_get (xs : List ItR) (k : Nat) (x : ItR) (h : xs[k]? = some x) (j : Nat) (hj : j < 5) : (itsR xs)[k * 5 + j]? = (itcR x)[j]? := by
  induction xs generalizing k with
  | nil => cases h
  | cons y t ih =>
    cases k with
    | zero =>
      injection h with h
      subst h
      show (itcR y ++ itsR t)[_]? = _
      rw [List.getElem?_append_left (by show _ < 5; omega), Nat.zero_mul, Nat.zero_add]
    | succ k =>
      show (itcR y ++ itsR t)[_]? = _
      rw [List.getElem?_append_right (by show 5 ≤ _; omega), show (k + 1) * 5 + j - (itcR y).length = k * 5 + j from by show _ - 5 = _; omega]
      exact ih k h
theorem Rd.itR {w : World} {A : Option Addr} {xs : List ItR} (h : Rd w A (itsR xs)) {k : Nat} {x : ItR} (hx : xs[k]? = some x) :
    ∃ b o, A = some ⟨b, o, none⟩ ∧ w.cell? ⟨b, o + k * 5, none⟩ = some (.string (bstr x.1)) ∧ w.cell? ⟨b, o + k * 5 + 1, none⟩ = some (.bool x.2.has) ∧ w.cell? ⟨b, o + k * 5 + 2, none⟩ = some (.slice x.2.va x.2.vn x.2.vc) ∧ w.cell? ⟨b, o + k * 5 + 3, none⟩ = some (.int .i64 x.2.home) ∧ w.cell? ⟨b, o + k * 5 + 4, none⟩ = some (.int .u64 (x.2.count : Int)) := by
  have hk := (List.getElem?_eq_some_iff.1 hx).1
  obtain ⟨b, o, rfl, hc⟩ := h (by rw [itsR_len]; omega)
  exact ⟨b, o, rfl, hc _ _ ((itsR_get xs k x hx 0 (by omega)).trans rfl), hc _ _ ((itsR_get xs k x hx 1 (by omega)).trans rfl), hc _ _ ((itsR_get xs k x hx 2 (by omega)).trans rfl), hc _ _ ((itsR_get xs k x hx 3 (by omega)).trans rfl), hc _ _ ((itsR_get xs k x hx 4 (by omega)).trans rfl)⟩

set_option maxRecDepth 100000 in
theorem closeR_any (w : World) (x : ItR) (key : Bs) : Calls Try.prog 84 #[.agg (itaR x), .string (bstr key)] w fun e w' => e = .returned (.int .i64 (cmpv Op.bytesLess x.1 key)) ∧ Fr NoBlk w w' := by
  obtain ⟨w1, hw1⟩ : ∃ w1, w1 = w.alloc (.cells (itaR x) 124) := ⟨_, rfl⟩
  have HF : Hid (Fr NoBlk w w1) := by show Fr _ _ _; rw [hw1]; exact (Fr.refl _ _).alloc _
  obtain ⟨xk, xv⟩ := x
  have HC := Lib.hid (compareS_any w1 xk key)
  unfold itaR at hw1 ⊢
  dsimp only at hw1 ⊢
  go_enter Try.func84, Try.ntmps84
  go_wp2_with fail
  rw [← hw1]
  refine HC.out.mono ?_
  rintro e w2 ⟨rfl, hf⟩
  have HF2 := Lib.hid (HF.out.trans hf)
  clear hf HC
  go_wp2_with fail
  go_ret
  exact ⟨rfl, HF2.out⟩

def FindRPost (w : World) (xs : List ItR) (key : Bs) (e : Ending) (w' : World) : Prop :=
  ∃ (i : Nat) (fd : Bool), e = .returned (.tuple #[.int .i64 i, .bool fd]) ∧ IsAt Op.bytesLess xs key i ∧ (fd = true ↔ ∃ v, xs[i]? = some (key, v)) ∧ Fr NoBlk w w'
set_option maxRecDepth 100000 in
set_option maxHeartbeats 1000000 in
theorem searchR_any (w : World) (A : Option Addr) (c : Nat) (xs : List ItR) (key : Bs) (hr : Rd w A (itsR xs)) (hu : UpI Op.bytesLess xs) (hn : xs.length ≤ 1000) :
    Calls Try.prog 83 #[.slice A xs.length c, .string (bstr key), .func (.func 84) #[] #[]] w (FindRPost w xs key) := by
  have HR := Lib.hid hr
  have HU := Lib.hid hu
  clear hr hu
  go_enter Try.func83, Try.ntmps83
  go_wp2_with fail
  go_loopw [9, 10] (fun a b wr => ∃ i j : Nat, i ≤ j ∧ j ≤ xs.length ∧ a = .int .i64 i ∧ b = .int .i64 j ∧ Hid (Fr NoBlk w wr ∧ (∀ t y, t < i → xs[t]? = some y → Op.bytesLess y.1 key = true) ∧ ∀ t y, j ≤ t → xs[t]? = some y → Op.bytesLess y.1 key = false)) (fun a b _ => (intOf b).toNat - (intOf a).toNat)
  case atStart => exact ⟨0, xs.length, Nat.zero_le _, Nat.le_refl _, rfl, rfl, Fr.refl _ _, fun t y h => absurd h (by omega), fun t y h hy => by have := (List.getElem?_eq_some_iff.1 hy).1; omega⟩
  case round =>
    obtain ⟨i, j, hij, hj, rfl, rfl, HX⟩ := hrel
    by_cases hlt : i < j
    · have hlti : (i : Int) < (j : Int) := by omega
      obtain ⟨h, hh⟩ : ∃ h, h = (i + j) / 2 := ⟨_, rfl⟩
      have hmid : ((i : Int) + (j : Int)) / 2 = (h : Int) := by omega
      have hhn : h < xs.length := by omega
      have hhi : (h : Int) < (xs.length : Int) := by omega
      have HB : Hid (i ≤ h ∧ h < j) := ⟨by omega, by omega⟩
      obtain ⟨x, hx⟩ : ∃ x, xs[h]? = some x := ⟨_, List.getElem?_eq_getElem hhn⟩
      obtain ⟨b, o, rfl, d0, d1, d2, d3, d4⟩ := (HR.out.nofr HX.out.1).itR hx
      have HXX := Lib.hid hx
      have HC := Lib.hid (closeR_any wr x key)
      clear hx hh hhn
      obtain ⟨xk, xv⟩ := x
      unfold itaR at HC
      dsimp only at d0 d1 d2 d3 d4 HC
      cases hl : Op.bytesLess xk key with
      | true =>
        have HL := Lib.hid (below_more linS HU.out HXX.out hl)
        have hz : cmpv Op.bytesLess xk key = -1 := by unfold cmpv; rw [hl]; rfl
        rw [hz] at HC
        have hwr : IntKind.i64.wrap ((h : Int) + 1) = (h : Int) + 1 := IntWalk.i64_in _ (by omega)
        clear hl hz
        go_wp2_with fail
        refine HC.out.mono ?_
        clear HC
        rintro e w2 ⟨rfl, hf⟩
        have HF2 := Lib.hid (HX.out.1.trans hf)
        clear hf
        go_wp2_with fail
        go_roundw
        case rel => exact ⟨h + 1, j, by have := HB.out; omega, by omega, by go_num, rfl, HF2.out, HL.out, HX.out.2.2⟩
        case measure => have := HB.out; simp [intOf]; omega
      | false =>
        have HL := Lib.hid (above_more linS HU.out HXX.out hl)
        have hz : ¬ cmpv Op.bytesLess xk key < 0 := by
          have := cmpv_neg (lt := Op.bytesLess) xk key
          rw [hl] at this
          simpa using this
        generalize cmpv Op.bytesLess xk key = z at HC hz
        clear hl
        go_wp2_with fail
        refine HC.out.mono ?_
        clear HC
        rintro e w2 ⟨rfl, hf⟩
        have HF2 := Lib.hid (HX.out.1.trans hf)
        clear hf
        go_wp2_with fail
        go_roundw
        case rel => exact ⟨i, h, by have := HB.out; omega, by have := HB.out; omega, rfl, rfl, HF2.out, HX.out.2.1, HL.out⟩
        case measure => have := HB.out; simp [intOf]; omega
    · obtain rfl : i = j := by omega
      have HI : Hid (IsAt Op.bytesLess xs key i) := ⟨hj, HX.out.2.1, HX.out.2.2⟩
      have HFX := Lib.hid HX.out.1
      clear HX hij hlt
      by_cases hlt : i < xs.length
      · have hlti : (i : Int) < (xs.length : Int) := by omega
        obtain ⟨x, hx⟩ : ∃ x, xs[i]? = some x := ⟨_, List.getElem?_eq_getElem hlt⟩
        obtain ⟨b, o, rfl, d0, d1, d2, d3, d4⟩ := (HR.out.nofr HFX.out).itR hx
        have HXX := Lib.hid hx
        have HC := Lib.hid (closeR_any wr x key)
        clear hx
        obtain ⟨xk, xv⟩ := x
        unfold itaR at HC
        dsimp only at d0 d1 d2 d3 d4 HC
        by_cases he : xk = key
        · subst he
          rw [(cmpv_zero linS xk xk).2 rfl] at HC
          go_wp2_with fail
          refine HC.out.mono ?_
          clear HC
          rintro e w2 ⟨rfl, hf⟩
          have HF2 := Lib.hid (HFX.out.trans hf)
          clear hf
          go_wp2_with fail
          go_ret2
          exact ⟨i, true, rfl, HI.out, ⟨fun _ => ⟨xv, HXX.out⟩, fun _ => rfl⟩, HF2.out⟩
        · have hz : cmpv Op.bytesLess xk key ≠ 0 := fun h => he ((cmpv_zero linS xk key).1 h)
          have HNE : Hid (false = true ↔ ∃ v, xs[i]? = some (key, v)) := by
            constructor
            · intro h; cases h
            · rintro ⟨v, hv⟩
              rw [HXX.out] at hv
              injection hv with hv
              exact absurd (congrArg Prod.fst hv) he
          generalize cmpv Op.bytesLess xk key = z at HC hz
          have hz2 : (z == 0) = false := beq_eq_false_iff_ne.2 hz
          clear he
          go_wp2_with fail
          refine HC.out.mono ?_
          clear HC
          rintro e w2 ⟨rfl, hf⟩
          have HF2 := Lib.hid (HFX.out.trans hf)
          clear hf
          go_wp2_with fail
          go_ret2
          exact ⟨i, false, rfl, HI.out, HNE.out, HF2.out⟩
      · have HE : Hid (false = true ↔ ∃ v, xs[i]? = some (key, v)) := by
          constructor
          · intro h; cases h
          · rintro ⟨v, hv⟩
            rw [List.getElem?_eq_none (by omega)] at hv
            cases hv
        have hlti : ¬ (i : Int) < (xs.length : Int) := by omega
        go_wp2_with fail
        go_ret2
        exact ⟨i, false, rfl, HI.out, HE.out, HFX.out⟩
set_option maxRecDepth 100000 in
theorem findR_any (w : World) (A : Option Addr) (c : Nat) (xs : List ItR) (key : Bs) (hr : Rd w A (itsR xs)) (hu : UpI Op.bytesLess xs) (hn : xs.length ≤ 1000) :
    Calls Try.prog 71 #[.slice A xs.length c, .string (bstr key)] w (FindRPost w xs key) := by
  have HC := Lib.hid (searchR_any w A c xs key hr hu hn)
  clear hr hu
  go_enter Try.func71, Try.ntmps71
  go_wp2_with fail
  refine HC.out.mono ?_
  rintro e w2 ⟨i, fd, rfl, h1, h2, h3⟩
  have H1 := Lib.hid h1
  have H2 := Lib.hid h2
  have H3 := Lib.hid h3
  clear h1 h2 h3 HC
  go_wp2_with fail
  go_ret2
  exact ⟨i, fd, rfl, H1.out, H2.out, H3.out⟩
end Go.Proofs.Ytkdcacajacndmaa
