/- slices.ContainsFunc and IndexFunc at texts and at operations, whatever is asked of each. No condition but lengths. -/
import Derived.Test.YtakbjjohfcgaoaaTxn
namespace Go.Proofs.Ytakbjjohfcgaoaa
open Go.RowKit

def FuncPost (b : Bool) (e : Ending) : Prop := ∃ z : Int, e = .returned (.int .i64 z) ∧ decide (0 ≤ z) = b

set_option maxRecDepth 100000 in
theorem indexFunc_any (w : World) (A : Option Addr) (n c : Nat) (xs : List Bs) (g : Nat) (lb : Array Value) (p : Bs → Bool)
    (eg : ∀ args w, (callFunc g args).run Try.prog w = .ok (.enter g args) w)
    (hp : ∀ x ∈ xs, ∀ W : World, Fr NoBlk w W → Calls Try.prog g (#[.string (bstr x)] ++ lb) W fun e w' => e = .returned (.bool (p x)) ∧ Fr NoBlk W w')
    (hn : n = xs.length) (hr : Rd w A (sts xs)) (hm : xs.length ≤ maxLen) :
    Calls Try.prog 97 #[.slice A n c, .func (.func g) #[] lb] w fun e w' => FuncPost (xs.any p) e ∧ Fr NoBlk w w' := by
  subst hn
  have HR := Lib.hid hr
  have HP := Lib.hid hp
  clear hr hp
  unfold maxLen at hm
  go_enter Try.func97, Try.ntmps97
  go_wp2_with fail
  go_loopw [5, 8] (fun _ z wr => ∃ k : Nat, k ≤ xs.length ∧ z = .int .i64 k ∧ Hid (∀ j, j < k → p (xs.getD j []) = false) ∧ Hid (Fr NoBlk w wr)) (fun _ z _ => xs.length - (intOf z).toNat)
  case atStart => exact ⟨0, by omega, rfl, (fun j h1 => absurd h1 (by omega)), Fr.refl _ _⟩
  case round =>
    obtain ⟨k, hk, rfl, HL, HF⟩ := hrel
    by_cases hlt : k < xs.length
    · obtain ⟨b, o, rfl, hc1⟩ := (HR.out.nofr HF.out).text (k := k) hlt
      have HM : Hid (xs.getD k [] ∈ xs) := by
        show xs.getD k [] ∈ xs
        rw [List.getD_eq_getElem?_getD, List.getElem?_eq_getElem hlt]
        exact List.getElem_mem hlt
      have HC := Lib.hid (HP.out _ HM.out wr HF.out)
      have HX : Hid (p (xs.getD k []) = false → ∀ j, j < k + 1 → p (xs.getD j []) = false) := by
        intro h j hj2
        by_cases e : j = k
        · subst e; exact h
        · exact HL.out j (by omega)
      have HN : Hid (p (xs.getD k []) = true → xs.any p = true) := fun h => List.any_eq_true.2 ⟨_, HM.out, h⟩
      clear HM
      generalize xs.getD k [] = y at *
      go_wp2_with fail
      refine HC.out.mono ?_
      rintro e w1 ⟨rfl, hf⟩
      have HG := Lib.hid (HF.out.trans hf)
      clear hf HC
      cases hb : p y
      · have HY := Lib.hid (HX.out hb)
        go_wp2_with fail
        go_roundw
        case rel => exact ⟨k + 1, by omega, by go_num, HY, HG⟩
        case measure => simp [intOf]; omega
      · go_wp2_with fail
        go_ret
        exact ⟨⟨k, rfl, by rw [HN.out hb]; simp⟩, HG.out⟩
    · have HZ : Hid (xs.any p = false) := by
        show xs.any p = false
        rw [List.any_eq_false]
        intro x hx
        obtain ⟨j, hj, rfl⟩ := List.getElem_of_mem hx
        have := HL.out j (by omega)
        rw [List.getD_eq_getElem?_getD, List.getElem?_eq_getElem hj] at this
        simpa using this
      go_wp2_with fail
      go_ret
      exact ⟨⟨-1, rfl, by rw [HZ.out]; rfl⟩, HF.out⟩

set_option maxRecDepth 100000 in
theorem containsFunc_any (w : World) (A : Option Addr) (n c : Nat) (xs : List Bs) (g : Nat) (lb : Array Value) (p : Bs → Bool)
    (eg : ∀ args w, (callFunc g args).run Try.prog w = .ok (.enter g args) w)
    (hp : ∀ x ∈ xs, ∀ W : World, Fr NoBlk w W → Calls Try.prog g (#[.string (bstr x)] ++ lb) W fun e w' => e = .returned (.bool (p x)) ∧ Fr NoBlk W w')
    (hn : n = xs.length) (hr : Rd w A (sts xs)) (hm : xs.length ≤ maxLen) :
    Calls Try.prog 74 #[.slice A n c, .func (.func g) #[] lb] w fun e w' => e = .returned (.bool (xs.any p)) ∧ Fr NoBlk w w' := by
  have HK := Lib.hid (indexFunc_any w A n c xs g lb p eg hp hn hr hm)
  clear hr hn hp
  go_enter Try.func74, Try.ntmps74
  go_wp2_with fail
  refine HK.out.mono ?_
  rintro e w1 ⟨⟨z, rfl, hz⟩, hf⟩
  have HZ := Lib.hid hz
  have HF := Lib.hid hf
  clear HK hz hf
  go_wp2
  go_ret
  exact ⟨ret_bool HZ.out, HF.out⟩

/-- an operation, as four cells. -/
structure Opn where
  kind : Int
  key : Bs
  val : Prt
  n : Int
def opc (x : Opn) : List Value := [.int .i64 x.kind, st x.key, sl x.val, .int .i64 x.n]
def opsc (xs : List Opn) : List Value := xs.flatMap opc
def opv (x : Opn) : Value := .agg #[.int .i64 x.kind, st x.key, sl x.val, .int .i64 x.n]
theorem opsc_len (xs : List Opn) : (opsc xs).length = xs.length * 4 := by
  induction xs with
  | nil => rfl
  | cons x t ih =>
    show (opc x ++ opsc t).length = _
    rw [List.length_append, ih, List.length_cons]
    show 4 + _ = _
    omega
theorem opsc_append (xs ys : List Opn) : opsc (xs ++ ys) = opsc xs ++ opsc ys := List.flatMap_append ..
theorem opsc_get (xs : List Opn) (k : Nat) (x : Opn) (h : xs[k]? = some x) (j : Nat) (hj : j < 4) : (opsc xs)[k * 4 + j]? = (opc x)[j]? := by
  induction xs generalizing k with
  | nil => cases h
  | cons y t ih =>
    cases k with
    | zero =>
      injection h with h
      subst h
      show (opc y ++ opsc t)[_]? = _
      rw [List.getElem?_append_left (by show _ < 4; omega), Nat.zero_mul, Nat.zero_add]
    | succ k =>
      show (opc y ++ opsc t)[_]? = _
      rw [List.getElem?_append_right (by show 4 ≤ _; omega), show (k + 1) * 4 + j - (opc y).length = k * 4 + j from by show _ - 4 = _; omega]
      exact ih k h
theorem Rd.opn {w : World} {A : Option Addr} {xs : List Opn} (h : Rd w A (opsc xs)) {k : Nat} {x : Opn} (hx : xs[k]? = some x) :
    ∃ b o, A = some ⟨b, o, none⟩ ∧ w.cell? ⟨b, o + k * 4, none⟩ = some (.int .i64 x.kind) ∧ w.cell? ⟨b, o + k * 4 + 1, none⟩ = some (st x.key) ∧
      w.cell? ⟨b, o + k * 4 + 2, none⟩ = some (sl x.val) ∧ w.cell? ⟨b, o + k * 4 + 3, none⟩ = some (.int .i64 x.n) := by
  have hk := (List.getElem?_eq_some_iff.1 hx).1
  obtain ⟨b, o, rfl, hc⟩ := h (by rw [opsc_len]; omega)
  refine ⟨b, o, rfl, ?_, ?_, ?_, ?_⟩
  · exact hc _ _ ((opsc_get xs k x hx 0 (by omega)).trans rfl)
  · exact hc _ _ ((opsc_get xs k x hx 1 (by omega)).trans rfl)
  · exact hc _ _ ((opsc_get xs k x hx 2 (by omega)).trans rfl)
  · exact hc _ _ ((opsc_get xs k x hx 3 (by omega)).trans rfl)

set_option maxRecDepth 100000 in
theorem indexFuncO_any (w : World) (A : Option Addr) (n c : Nat) (xs : List Opn) (g : Nat) (lb : Array Value) (p : Opn → Bool)
    (eg : ∀ args w, (callFunc g args).run Try.prog w = .ok (.enter g args) w)
    (hp : ∀ x ∈ xs, ∀ W : World, Fr NoBlk w W → Calls Try.prog g (#[opv x] ++ lb) W fun e w' => e = .returned (.bool (p x)) ∧ Fr NoBlk W w')
    (hn : n = xs.length) (hr : Rd w A (opsc xs)) (hm : xs.length ≤ maxLen) :
    Calls Try.prog 98 #[.slice A n c, .func (.func g) #[] lb] w fun e w' => FuncPost (xs.any p) e ∧ Fr NoBlk w w' := by
  subst hn
  have HR := Lib.hid hr
  have HP := Lib.hid hp
  clear hr hp
  unfold maxLen at hm
  go_enter Try.func98, Try.ntmps98
  go_wp2_with fail
  go_loopw [5, 8] (fun _ z wr => ∃ k : Nat, k ≤ xs.length ∧ z = .int .i64 k ∧ Hid (∀ j y, j < k → xs[j]? = some y → p y = false) ∧ Hid (Fr NoBlk w wr)) (fun _ z _ => xs.length - (intOf z).toNat)
  case atStart => exact ⟨0, by omega, rfl, (fun j _ h1 => absurd h1 (by omega)), Fr.refl _ _⟩
  case round =>
    obtain ⟨k, hk, rfl, HL, HF⟩ := hrel
    by_cases hlt : k < xs.length
    · obtain ⟨x, hx⟩ : ∃ x, xs[k]? = some x := ⟨_, List.getElem?_eq_getElem hlt⟩
      obtain ⟨b, o, rfl, c0, c1, c2, c3⟩ := (HR.out.nofr HF.out).opn hx
      have HM : Hid (x ∈ xs) := List.mem_of_getElem? hx
      have HC := Lib.hid (HP.out _ HM.out wr HF.out)
      have HX : Hid (p x = false → ∀ j y, j < k + 1 → xs[j]? = some y → p y = false) := by
        intro h j y hj2 hy
        by_cases e : j = k
        · subst e; rw [hx] at hy; injection hy with hy; subst hy; exact h
        · exact HL.out j y (by omega) hy
      have HN : Hid (p x = true → xs.any p = true) := fun h => List.any_eq_true.2 ⟨_, HM.out, h⟩
      clear HM hx
      obtain ⟨kind, key, val, nn⟩ := x
      dsimp only at c0 c1 c2 c3
      unfold opv at HC
      unfold st at c1 HC
      unfold sl at c2 HC
      dsimp only at HC
      generalize val.1 = va at *
      generalize val.2.1 = vc at *
      generalize val.2.2.length = vl at *
      go_wp2_with fail
      refine HC.out.mono ?_
      rintro e w1 ⟨rfl, hf⟩
      have HG := Lib.hid (HF.out.trans hf)
      clear hf HC
      cases hb : p ⟨kind, key, val, nn⟩
      · have HY := Lib.hid (HX.out hb)
        go_wp2_with fail
        go_roundw
        case rel => exact ⟨k + 1, by omega, by go_num, HY, HG⟩
        case measure => simp [intOf]; omega
      · go_wp2_with fail
        go_ret
        exact ⟨⟨k, rfl, by rw [HN.out hb]; simp⟩, HG.out⟩
    · have HZ : Hid (xs.any p = false) := by
        show xs.any p = false
        rw [List.any_eq_false]
        intro x hx
        obtain ⟨j, hj, rfl⟩ := List.getElem_of_mem hx
        have := HL.out j _ (by omega) (List.getElem?_eq_getElem hj)
        simpa using this
      go_wp2_with fail
      go_ret
      exact ⟨⟨-1, rfl, by rw [HZ.out]; rfl⟩, HF.out⟩

set_option maxRecDepth 100000 in
theorem containsFuncO_any (w : World) (A : Option Addr) (n c : Nat) (xs : List Opn) (g : Nat) (lb : Array Value) (p : Opn → Bool)
    (eg : ∀ args w, (callFunc g args).run Try.prog w = .ok (.enter g args) w)
    (hp : ∀ x ∈ xs, ∀ W : World, Fr NoBlk w W → Calls Try.prog g (#[opv x] ++ lb) W fun e w' => e = .returned (.bool (p x)) ∧ Fr NoBlk W w')
    (hn : n = xs.length) (hr : Rd w A (opsc xs)) (hm : xs.length ≤ maxLen) :
    Calls Try.prog 78 #[.slice A n c, .func (.func g) #[] lb] w fun e w' => e = .returned (.bool (xs.any p)) ∧ Fr NoBlk w w' := by
  have HK := Lib.hid (indexFuncO_any w A n c xs g lb p eg hp hn hr hm)
  clear hr hn hp
  go_enter Try.func78, Try.ntmps78
  go_wp2_with fail
  refine HK.out.mono ?_
  rintro e w1 ⟨⟨z, rfl, hz⟩, hf⟩
  have HZ := Lib.hid hz
  have HF := Lib.hid hf
  clear HK hz hf
  go_wp2
  go_ret
  exact ⟨ret_bool HZ.out, HF.out⟩
end Go.Proofs.Ytakbjjohfcgaoaa
