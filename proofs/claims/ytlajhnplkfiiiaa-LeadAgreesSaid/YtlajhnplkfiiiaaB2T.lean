/- The place of a key among items, at keys of int and values of argosy/api.Vote[string]: cmp.Compare, find's closure, slices.BinarySearchFunc, find. Conditions: at most 1000 items. -/
import Derived.Test.YtlajhnplkfiiiaaB1
import Derived.Test.YtlajhnplkfiiiaaMem
import Derived.Test.YtlajhnplkfiiiaaChecked
import Derived.Lib.Hide
import Derived.Lib.SmallJoins
import Derived.Deep.Light
import Derived.BigQuiet
import Derived.Deep.QuietTactic
import Derived.RegionTactic
import Derived.IntWalk
namespace Go.Proofs.Ytlajhnplkfiiiaa
open Go.RowKit
def bstr (l : Bs) : ByteArray := ⟨l.toArray⟩
theorem bstr_toList (l : Bs) : (bstr l).toList = l := by
  rw [ByteArray.toList_eq]
  simp [bstr]

set_option maxRecDepth 100000 in
theorem compareI_any (w : World) (a b : Int) : Calls Try.prog 61 #[.int .i64 a, .int .i64 b] w fun e w' => e = .returned (.int .i64 (cmpv ltI a b)) ∧ Fr NoBlk w w' := by
  have nan : Hid (∀ (W : World) (s : Int), Calls Try.prog 74 #[.int .i64 s] W fun e w' => e = .returned (.bool false) ∧ W = w') := fun W s => by
    go_enter Try.func74, Try.ntmps74
    go_wp2_with fail
    go_ret
    exact ⟨rfl, rfl⟩
  have HC : Hid (cmpv ltI a b = if ltI a b then -1 else if ltI b a then 1 else 0) := rfl
  go_enter Try.func61, Try.ntmps61
  go_wp2_with fail
  refine (nan.out _ _).mono ?_
  rintro e w1 ⟨rfl, hw⟩
  subst hw
  go_wp2_with fail
  refine (nan.out _ _).mono ?_
  rintro e w1 ⟨rfl, hw⟩
  subst hw
  by_cases h1 : a < b
  · go_wp2_with fail
    go_ret
    exact ⟨by rw [HC.out, show ltI a b = true from decide_eq_true h1]; rfl, Fr.refl _ _⟩
  · by_cases h2 : b < a
    · go_wp2_with fail
      go_ret
      exact ⟨by rw [HC.out, show ltI a b = false from decide_eq_false (by omega), show ltI b a = true from decide_eq_true h2]; rfl, Fr.refl _ _⟩
    · go_wp2_with fail
      go_ret
      exact ⟨by rw [HC.out, show ltI a b = false from decide_eq_false (by omega), show ltI b a = false from decide_eq_false (by omega)]; rfl, Fr.refl _ _⟩

/-- a value. -/
structure VaT where
  slot : Int
  bal : Nat
  val : Bs
/-- an item: key and value. -/
abbrev ItT := Int × VaT
def itcT (x : ItT) : List Value := [.int .i64 x.1, .int .i64 x.2.slot, .int .u64 (x.2.bal : Int), .string (bstr x.2.val)]
def itaT (x : ItT) : Array Value := #[.int .i64 x.1, .int .i64 x.2.slot, .int .u64 (x.2.bal : Int), .string (bstr x.2.val)]
def itsT (xs : List ItT) : List Value := xs.flatMap itcT
theorem itsT_len (xs : List ItT) : (itsT xs).length = xs.length * 4 := by
  induction xs with
  | nil => rfl
  | cons x t ih =>
    show (itcT x ++ itsT t).length = _
    rw [List.length_append, ih, List.length_cons]
    show 4 + _ = _
    omega
theorem itsT_append (xs ys : List ItT) : itsT (xs ++ ys) = itsT xs ++ itsT ys := List.flatMap_append ..
theorem itsT_one (xs : List ItT) : ∀ u ∈ itsT xs, u.oneCell' = true := by
  intro u hu
  simp only [itsT, List.mem_flatMap, itcT, List.mem_cons, List.not_mem_nil, or_false] at hu
  obtain ⟨x, _, rfl | rfl | rfl | rfl⟩ := hu <;> rfl
theorem itsT_get (xs : List ItT) (k : Nat) (x : ItT) (h : xs[k]? = some x) (j : Nat) (hj : j < 4) : (itsT xs)[k * 4 + j]? = (itcT x)[j]? := by
  induction xs generalizing k with
  | nil => cases h
  | cons y t ih =>
    cases k with
    | zero =>
      injection h with h
      subst h
      show (itcT y ++ itsT t)[_]? = _
      rw [List.getElem?_append_left (by show _ < 4; omega), Nat.zero_mul, Nat.zero_add]
    | succ k =>
      show (itcT y ++ itsT t)[_]? = _
      rw [List.getElem?_append_right (by show 4 ≤ _; omega), show (k + 1) * 4 + j - (itcT y).length = k * 4 + j from by show _ - 4 = _; omega]
      exact ih k h
theorem Rd.itT {w : World} {A : Option Addr} {xs : List ItT} (h : Rd w A (itsT xs)) {k : Nat} {x : ItT} (hx : xs[k]? = some x) :
    ∃ b o, A = some ⟨b, o, none⟩ ∧ w.cell? ⟨b, o + k * 4, none⟩ = some (.int .i64 x.1) ∧ w.cell? ⟨b, o + k * 4 + 1, none⟩ = some (.int .i64 x.2.slot) ∧ w.cell? ⟨b, o + k * 4 + 2, none⟩ = some (.int .u64 (x.2.bal : Int)) ∧ w.cell? ⟨b, o + k * 4 + 3, none⟩ = some (.string (bstr x.2.val)) := by
  have hk := (List.getElem?_eq_some_iff.1 hx).1
  obtain ⟨b, o, rfl, hc⟩ := h (by rw [itsT_len]; omega)
  exact ⟨b, o, rfl, hc _ _ ((itsT_get xs k x hx 0 (by omega)).trans rfl), hc _ _ ((itsT_get xs k x hx 1 (by omega)).trans rfl), hc _ _ ((itsT_get xs k x hx 2 (by omega)).trans rfl), hc _ _ ((itsT_get xs k x hx 3 (by omega)).trans rfl)⟩

set_option maxRecDepth 100000 in
theorem closeT_any (w : World) (x : ItT) (key : Int) : Calls Try.prog 68 #[.agg (itaT x), .int .i64 key] w fun e w' => e = .returned (.int .i64 (cmpv ltI x.1 key)) ∧ Fr NoBlk w w' := by
  obtain ⟨w1, hw1⟩ : ∃ w1, w1 = w.alloc (.cells (itaT x) 131) := ⟨_, rfl⟩
  have HF : Hid (Fr NoBlk w w1) := by show Fr _ _ _; rw [hw1]; exact (Fr.refl _ _).alloc _
  obtain ⟨xk, xv⟩ := x
  have HC := Lib.hid (compareI_any w1 xk key)
  unfold itaT at hw1 ⊢
  dsimp only at hw1 ⊢
  go_enter Try.func68, Try.ntmps68
  go_wp2_with fail
  rw [← hw1]
  refine HC.out.mono ?_
  rintro e w2 ⟨rfl, hf⟩
  have HF2 := Lib.hid (HF.out.trans hf)
  clear hf HC
  go_wp2_with fail
  go_ret
  exact ⟨rfl, HF2.out⟩

def FindTPost (w : World) (xs : List ItT) (key : Int) (e : Ending) (w' : World) : Prop :=
  ∃ (i : Nat) (fd : Bool), e = .returned (.tuple #[.int .i64 i, .bool fd]) ∧ IsAt ltI xs key i ∧ (fd = true ↔ ∃ v, xs[i]? = some (key, v)) ∧ Fr NoBlk w w'
set_option maxRecDepth 100000 in
set_option maxHeartbeats 1000000 in
theorem searchT_any (w : World) (A : Option Addr) (c : Nat) (xs : List ItT) (key : Int) (hr : Rd w A (itsT xs)) (hu : UpI ltI xs) (hn : xs.length ≤ 1000) :
    Calls Try.prog 67 #[.slice A xs.length c, .int .i64 key, .func (.func 68) #[] #[]] w (FindTPost w xs key) := by
  have HR := Lib.hid hr
  have HU := Lib.hid hu
  clear hr hu
  go_enter Try.func67, Try.ntmps67
  go_wp2_with fail
  go_loopw [9, 10] (fun a b wr => ∃ i j : Nat, i ≤ j ∧ j ≤ xs.length ∧ a = .int .i64 i ∧ b = .int .i64 j ∧ Hid (Fr NoBlk w wr ∧ (∀ t y, t < i → xs[t]? = some y → ltI y.1 key = true) ∧ ∀ t y, j ≤ t → xs[t]? = some y → ltI y.1 key = false)) (fun a b _ => (intOf b).toNat - (intOf a).toNat)
  case atStart => exact ⟨0, xs.length, Nat.zero_le _, Nat.le_refl _, rfl, rfl, Fr.refl _ _, fun t y h => absurd h (by omega), fun t y h hy => by have := (List.getElem?_eq_some_iff.1 hy).1; omega⟩
  case round =>
    obtain ⟨i, j, hij, hj, rfl, rfl, HX⟩ := hrel
    by_cases hlt : i < j
    · have hlti : (i : Int) < (j : Int) := by omega
      obtain ⟨h, hh⟩ : ∃ h, h = (i + j) / 2 := ⟨_, rfl⟩
      have hmid : ((i : Int) + (j : Int)) / 2 = (h : Int) := by omega
      have hhn : h < xs.length := by omega
      have hhi : (h : Int) < (xs.length : Int) := by omega
      have HB : Hid (i ≤ h ∧ h < j) := ⟨by omega, by omega⟩
      obtain ⟨x, hx⟩ : ∃ x, xs[h]? = some x := ⟨_, List.getElem?_eq_getElem hhn⟩
      obtain ⟨b, o, rfl, d0, d1, d2, d3⟩ := (HR.out.nofr HX.out.1).itT hx
      have HXX := Lib.hid hx
      have HC := Lib.hid (closeT_any wr x key)
      clear hx hh hhn
      obtain ⟨xk, xv⟩ := x
      unfold itaT at HC
      dsimp only at d0 d1 d2 d3 HC
      cases hl : ltI xk key with
      | true =>
        have HL := Lib.hid (below_more linI HU.out HXX.out hl)
        have hz : cmpv ltI xk key = -1 := by unfold cmpv; rw [hl]; rfl
        rw [hz] at HC
        have hwr : IntKind.i64.wrap ((h : Int) + 1) = (h : Int) + 1 := IntWalk.i64_in _ (by omega)
        clear hl hz
        go_wp2_with fail
        refine HC.out.mono ?_
        clear HC
        rintro e w2 ⟨rfl, hf⟩
        have HF2 := Lib.hid (HX.out.1.trans hf)
        clear hf
        go_wp2_with fail
        go_roundw
        case rel => exact ⟨h + 1, j, by have := HB.out; omega, by omega, by go_num, rfl, HF2.out, HL.out, HX.out.2.2⟩
        case measure => have := HB.out; simp [intOf]; omega
      | false =>
        have HL := Lib.hid (above_more linI HU.out HXX.out hl)
        have hz : ¬ cmpv ltI xk key < 0 := by
          have := cmpv_neg (lt := ltI) xk key
          rw [hl] at this
          simpa using this
        generalize cmpv ltI xk key = z at HC hz
        clear hl
        go_wp2_with fail
        refine HC.out.mono ?_
        clear HC
        rintro e w2 ⟨rfl, hf⟩
        have HF2 := Lib.hid (HX.out.1.trans hf)
        clear hf
        go_wp2_with fail
        go_roundw
        case rel => exact ⟨i, h, by have := HB.out; omega, by have := HB.out; omega, rfl, rfl, HF2.out, HX.out.2.1, HL.out⟩
        case measure => have := HB.out; simp [intOf]; omega
    · obtain rfl : i = j := by omega
      have HI : Hid (IsAt ltI xs key i) := ⟨hj, HX.out.2.1, HX.out.2.2⟩
      have HFX := Lib.hid HX.out.1
      clear HX hij hlt
      by_cases hlt : i < xs.length
      · have hlti : (i : Int) < (xs.length : Int) := by omega
        obtain ⟨x, hx⟩ : ∃ x, xs[i]? = some x := ⟨_, List.getElem?_eq_getElem hlt⟩
        obtain ⟨b, o, rfl, d0, d1, d2, d3⟩ := (HR.out.nofr HFX.out).itT hx
        have HXX := Lib.hid hx
        have HC := Lib.hid (closeT_any wr x key)
        clear hx
        obtain ⟨xk, xv⟩ := x
        unfold itaT at HC
        dsimp only at d0 d1 d2 d3 HC
        by_cases he : xk = key
        · subst he
          rw [(cmpv_zero linI xk xk).2 rfl] at HC
          go_wp2_with fail
          refine HC.out.mono ?_
          clear HC
          rintro e w2 ⟨rfl, hf⟩
          have HF2 := Lib.hid (HFX.out.trans hf)
          clear hf
          go_wp2_with fail
          go_ret2
          exact ⟨i, true, rfl, HI.out, ⟨fun _ => ⟨xv, HXX.out⟩, fun _ => rfl⟩, HF2.out⟩
        · have hz : cmpv ltI xk key ≠ 0 := fun h => he ((cmpv_zero linI xk key).1 h)
          have HNE : Hid (false = true ↔ ∃ v, xs[i]? = some (key, v)) := by
            constructor
            · intro h; cases h
            · rintro ⟨v, hv⟩
              rw [HXX.out] at hv
              injection hv with hv
              exact absurd (congrArg Prod.fst hv) he
          generalize cmpv ltI xk key = z at HC hz
          have hz2 : (z == 0) = false := beq_eq_false_iff_ne.2 hz
          clear he
          go_wp2_with fail
          refine HC.out.mono ?_
          clear HC
          rintro e w2 ⟨rfl, hf⟩
          have HF2 := Lib.hid (HFX.out.trans hf)
          clear hf
          go_wp2_with fail
          go_ret2
          exact ⟨i, false, rfl, HI.out, HNE.out, HF2.out⟩
      · have HE : Hid (false = true ↔ ∃ v, xs[i]? = some (key, v)) := by
          constructor
          · intro h; cases h
          · rintro ⟨v, hv⟩
            rw [List.getElem?_eq_none (by omega)] at hv
            cases hv
        have hlti : ¬ (i : Int) < (xs.length : Int) := by omega
        go_wp2_with fail
        go_ret2
        exact ⟨i, false, rfl, HI.out, HE.out, HFX.out⟩
set_option maxRecDepth 100000 in
theorem findT_any (w : World) (A : Option Addr) (c : Nat) (xs : List ItT) (key : Int) (hr : Rd w A (itsT xs)) (hu : UpI ltI xs) (hn : xs.length ≤ 1000) :
    Calls Try.prog 52 #[.slice A xs.length c, .int .i64 key] w (FindTPost w xs key) := by
  have HC := Lib.hid (searchT_any w A c xs key hr hu hn)
  clear hr hu
  go_enter Try.func52, Try.ntmps52
  go_wp2_with fail
  refine HC.out.mono ?_
  rintro e w2 ⟨i, fd, rfl, h1, h2, h3⟩
  have H1 := Lib.hid h1
  have H2 := Lib.hid h2
  have H3 := Lib.hid h3
  clear h1 h2 h3 HC
  go_wp2_with fail
  go_ret2
  exact ⟨i, fd, rfl, H1.out, H2.out, H3.out⟩
end Go.Proofs.Ytlajhnplkfiiiaa
