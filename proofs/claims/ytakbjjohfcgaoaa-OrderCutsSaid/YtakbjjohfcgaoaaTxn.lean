/- Transactions as the world holds them: texts, operations, transactions by value; lists of texts that are asked. No condition but lengths. -/
import Derived.Test.YtakbjjohfcgaoaaMem
import Derived.Test.YtakbjjohfcgaoaaPure
import Derived.Test.YtakbjjohfcgaoaaChecked
import Derived.BigQuiet
import Derived.Deep.QuietTactic
import Derived.RegionTactic
import Derived.Lib.SmallJoins
namespace Go.Proofs.Ytakbjjohfcgaoaa
open Go.RowKit

def bstr (l : Bs) : ByteArray := ⟨l.toArray⟩
def st (l : Bs) : Value := .string (bstr l)
theorem bstr_toList (l : Bs) : (bstr l).toList = l := by
  rw [ByteArray.toList_eq]
  simp [bstr]
theorem bstr_size (l : Bs) : (bstr l).size = l.length := by simp [bstr, ByteArray.size]

/-- a part that is put to others: where it lies, its room, its bytes. -/
abbrev Prt := Option Addr × Nat × List UInt8
def sl (p : Prt) : Value := .slice p.1 p.2.2.length p.2.1
def Part (w : World) (p : Prt) : Prop := Rd w p.1 (cb p.2.2) ∧ (p.1 = none → p.2.1 = 0)

def sts (xs : List Bs) : List Value := xs.map st
theorem sts_get (xs : List Bs) (k : Nat) (h : k < xs.length) : (sts xs)[k]? = some (st (xs.getD k [])) := by
  simp [sts, h, List.getD_eq_getElem?_getD]
theorem Rd.text {w : World} {A : Option Addr} {xs : List Bs} (h : Rd w A (sts xs)) {k : Nat} (hk : k < xs.length) :
    ∃ b o, A = some ⟨b, o, none⟩ ∧ w.cell? ⟨b, o + k, none⟩ = some (.string (bstr (xs.getD k []))) := h.at_ (sts_get xs k hk)

set_option maxRecDepth 100000 in
theorem rise_any (w : World) (A : Option Addr) (n c : Nat) (xs : List Bs) (hn : n = xs.length) (hr : Rd w A (sts xs)) (hm : xs.length ≤ maxLen) :
    Calls Try.prog 71 #[.slice A n c] w fun e w' => e = .returned (.bool (riseB xs)) ∧ Fr NoBlk w w' := by
  subst hn
  have HR := Lib.hid hr
  clear hr
  unfold maxLen at hm
  go_enter Try.func71, Try.ntmps71
  go_wp2_with fail
  go_loopw [3] (fun z wr => ∃ k : Nat, 1 ≤ k ∧ (k ≤ xs.length ∨ k = 1) ∧ z = .int .i64 k ∧ Hid (∀ j, 1 ≤ j → j < k → Op.bytesLess (xs.getD (j - 1) []) (xs.getD j []) = true) ∧ Hid (Fr NoBlk w wr)) (fun z _ => xs.length - (intOf z).toNat)
  case atStart => exact ⟨1, by omega, by omega, rfl, (fun j h1 h2 => absurd h1 (by omega)), Fr.refl _ _⟩
  case round =>
    obtain ⟨k, h1, hk, rfl, HL, HF⟩ := hrel
    by_cases hlt : k < xs.length
    · obtain ⟨b, o, rfl, hc1⟩ := (HR.out.nofr HF.out).text (k := k) hlt
      obtain ⟨b', o', e, hc0⟩ := (HR.out.nofr HF.out).text (k := k - 1) (by omega)
      injection e with e
      injection e with e1 e2 _
      subst e1 e2
      have HX : Hid (Op.bytesLess (xs.getD (k - 1) []) (xs.getD k []) = true → ∀ j, 1 ≤ j → j < k + 1 → Op.bytesLess (xs.getD (j - 1) []) (xs.getD j []) = true) := by
        intro h j hj1 hj2
        by_cases e : j = k
        · subst e; exact h
        · exact HL.out j hj1 (by omega)
      have HN := Lib.hid (riseB_no xs k h1 hlt)
      generalize xs.getD (k - 1) [] = x at *
      generalize xs.getD k [] = y at *
      have i1 : (0 : Int) ≤ (k : Int) - 1 := by omega
      have i2 : (k : Int) - 1 < (xs.length : Int) := by omega
      have i3 : (k : Int) < (xs.length : Int) := by omega
      have e1 : IntKind.i64.wrap ((k : Int) - 1) = (k : Int) - 1 := IntWalk.i64_in _ (by omega)
      have e2 : ((k : Int) - 1).toNat = k - 1 := by omega
      have e3 := bstr_toList x
      have e4 := bstr_toList y
      cases hb : Op.bytesLess x y
      · go_wp2_with fail
        go_quiet (fail)
        go_wp2
        go_ret
        exact ⟨by rw [HN.out hb]; rfl, HF.out.drewN _⟩
      · have HY := Lib.hid (HX.out hb)
        go_wp2_with fail
        go_quiet (fail)
        go_wp2
        go_roundw
        case rel => exact ⟨k + 1, by omega, by omega, by go_num, HY, HF.out.drewN _⟩
        case measure => simp [intOf]; omega
    · have HZ : Hid (riseB xs = true) := riseB_of xs fun j a b => HL.out j a (by omega)
      have i3 : (xs.length : Int) ≤ (k : Int) := by omega
      go_wp2_with fail
      go_ret
      exact ⟨by rw [HZ.out]; rfl, HF.out⟩

theorem ret_bool {a b : Bool} (h : a = b) : Ending.returned (.bool a) = .returned (.bool b) := by rw [h]

/-- is a text among others. -/
def inB (xs : List Bs) (k : Bs) : Bool := xs.any fun x => k == x
theorem inB_at (xs : List Bs) (k : Bs) (j : Nat) (hj : j < xs.length) (h : (k == xs.getD j []) = true) : inB xs k = true := by
  rw [inB, List.any_eq_true]
  refine ⟨xs.getD j [], ?_, h⟩
  rw [List.getD_eq_getElem?_getD, List.getElem?_eq_getElem hj]
  exact List.getElem_mem hj
theorem inB_no (xs : List Bs) (k : Bs) (h : ∀ j, j < xs.length → (k == xs.getD j []) = false) : inB xs k = false := by
  rw [inB, List.any_eq_false]
  intro x hx
  obtain ⟨j, hj, rfl⟩ := List.getElem_of_mem hx
  have := h j hj
  rw [List.getD_eq_getElem?_getD, List.getElem?_eq_getElem hj] at this
  simpa using this
theorem inB_iff (xs : List Bs) (k : Bs) : inB xs k = true ↔ k ∈ xs := by
  rw [inB, List.any_eq_true]
  constructor
  · rintro ⟨x, hx, e⟩
    rw [beq_iff_eq.1 e]; exact hx
  · intro h
    exact ⟨k, h, by simp⟩

def IndexPost (xs : List Bs) (k : Bs) (e : Ending) : Prop := ∃ z : Int, e = .returned (.int .i64 z) ∧ decide (0 ≤ z) = inB xs k

set_option maxRecDepth 100000 in
theorem index_any (w : World) (A : Option Addr) (n c : Nat) (xs : List Bs) (key : Bs) (hn : n = xs.length) (hr : Rd w A (sts xs)) (hm : xs.length ≤ maxLen) :
    Calls Try.prog 104 #[.slice A n c, .string (bstr key)] w fun e w' => IndexPost xs key e ∧ w = w' := by
  subst hn
  have HR := Lib.hid hr
  clear hr
  unfold maxLen at hm
  go_enter Try.func104, Try.ntmps104
  go_wp2_with fail
  go_loop [5, 8] (fun _ z => ∃ k : Nat, k ≤ xs.length ∧ z = .int .i64 k ∧ Hid (∀ j, j < k → (key == xs.getD j []) = false)) (fun _ z => xs.length - (intOf z).toNat)
  case atStart => exact ⟨0, by omega, rfl, (fun j h1 => absurd h1 (by omega))⟩
  case round =>
    obtain ⟨k, hk, rfl, HL⟩ := hrel
    by_cases hlt : k < xs.length
    · obtain ⟨b, o, rfl, hc1⟩ := HR.out.text (k := k) hlt
      have HX : Hid ((key == xs.getD k []) = false → ∀ j, j < k + 1 → (key == xs.getD j []) = false) := by
        intro h j hj2
        by_cases e : j = k
        · subst e; exact h
        · exact HL.out j (by omega)
      have HN := Lib.hid (inB_at xs key k hlt)
      generalize xs.getD k [] = y at *
      have e3 := bstr_toList key
      have e4 := bstr_toList y
      cases hb : key == y
      · have HY := Lib.hid (HX.out hb)
        go_wp2_with fail
        go_round
        case rel => exact ⟨k + 1, by omega, by go_num, HY⟩
        case measure => simp [intOf]; omega
      · go_wp2_with fail
        go_ret
        exact ⟨⟨k, rfl, by rw [HN.out hb]; simp⟩, rfl⟩
    · have HZ : Hid (inB xs key = false) := inB_no xs key fun j a => HL.out j (by omega)
      go_wp2_with fail
      go_ret
      exact ⟨⟨-1, rfl, by rw [HZ.out]; rfl⟩, rfl⟩

set_option maxRecDepth 100000 in
theorem contains_any (w : World) (A : Option Addr) (n c : Nat) (xs : List Bs) (key : Bs) (hn : n = xs.length) (hr : Rd w A (sts xs)) (hm : xs.length ≤ maxLen) :
    Calls Try.prog 96 #[.slice A n c, .string (bstr key)] w fun e w' => e = .returned (.bool (inB xs key)) ∧ w = w' := by
  have HK := Lib.hid (index_any w A n c xs key hn hr hm)
  clear hr hn
  go_enter Try.func96, Try.ntmps96
  go_wp2_with fail
  refine HK.out.mono ?_
  rintro e w1 ⟨⟨z, rfl, hz⟩, rfl⟩
  have HZ := Lib.hid hz
  clear HK hz
  go_wp2
  go_ret
  exact ⟨ret_bool HZ.out, rfl⟩

def noKey (k : Bs) : Bool := k.isEmpty || decide (16 < k.length)
theorem noKey_cons (x : UInt8) (t : Bs) : decide (16 < ((t.length + 1 : Nat) : Int)) = noKey (x :: t) := by
  rw [noKey, List.isEmpty_cons, Bool.false_or, List.length_cons]
  simp only [decide_eq_decide]
  omega
set_option maxRecDepth 100000 in
theorem isNoKey_any (w : World) (key : Bs) (hk : key.length ≤ maxLen) :
    Calls Try.prog 75 #[.string (bstr key)] w fun e w' => e = .returned (.bool (noKey key)) ∧ w = w' := by
  cases key with
  | nil =>
    have e3 := bstr_toList []
    go_enter Try.func75, Try.ntmps75
    go_wp2
    go_ret
    exact ⟨rfl, rfl⟩
  | cons x t =>
    rw [List.length_cons] at hk
    unfold maxLen at hk
    have e3 := bstr_toList (x :: t)
    have e4 : (bstr (x :: t)).size = t.length + 1 := bstr_size (x :: t)
    have HD := Lib.hid (noKey_cons x t)
    have e5 : (x :: t).isEmpty = false := rfl
    generalize x :: t = key at *
    go_enter Try.func75, Try.ntmps75
    go_wp2
    go_ret
    exact ⟨ret_bool HD.out, rfl⟩
end Go.Proofs.Ytakbjjohfcgaoaa
