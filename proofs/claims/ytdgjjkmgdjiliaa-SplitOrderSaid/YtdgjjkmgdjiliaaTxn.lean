/- Transactions as the world holds them: texts, operations, transactions by value; lists of texts that are asked. No condition but lengths. -/
import Derived.Test.YtdgjjkmgdjiliaaMem
import Derived.Test.YtdgjjkmgdjiliaaPure
import Derived.Test.YtdgjjkmgdjiliaaChecked
import Derived.BigQuiet
import Derived.Deep.QuietTactic
import Derived.RegionTactic
import Derived.Lib.SmallJoins
namespace Go.Proofs.Ytdgjjkmgdjiliaa
open Go.RowKit

def bstr (l : Bs) : ByteArray := ⟨l.toArray⟩
def st (l : Bs) : Value := .string (bstr l)
theorem bstr_toList (l : Bs) : (bstr l).toList = l := by
  rw [ByteArray.toList_eq]
  simp [bstr]
theorem bstr_size (l : Bs) : (bstr l).size = l.length := by simp [bstr, ByteArray.size]

/-- a part that is put to others: where it lies, its room, its bytes. -/
abbrev Prt := Option Addr × Nat × List UInt8
def sl (p : Prt) : Value := .slice p.1 p.2.2.length p.2.1
def Part (w : World) (p : Prt) : Prop := Rd w p.1 (cb p.2.2) ∧ (p.1 = none → p.2.1 = 0)

def sts (xs : List Bs) : List Value := xs.map st
theorem sts_get (xs : List Bs) (k : Nat) (h : k < xs.length) : (sts xs)[k]? = some (st (xs.getD k [])) := by
  simp [sts, h, List.getD_eq_getElem?_getD]
theorem Rd.text {w : World} {A : Option Addr} {xs : List Bs} (h : Rd w A (sts xs)) {k : Nat} (hk : k < xs.length) :
    ∃ b o, A = some ⟨b, o, none⟩ ∧ w.cell? ⟨b, o + k, none⟩ = some (.string (bstr (xs.getD k []))) := h.at_ (sts_get xs k hk)

theorem ret_bool {a b : Bool} (h : a = b) : Ending.returned (.bool a) = .returned (.bool b) := by rw [h]

/-- is a text among others. -/
def inB (xs : List Bs) (k : Bs) : Bool := xs.any fun x => k == x
theorem inB_at (xs : List Bs) (k : Bs) (j : Nat) (hj : j < xs.length) (h : (k == xs.getD j []) = true) : inB xs k = true := by
  rw [inB, List.any_eq_true]
  refine ⟨xs.getD j [], ?_, h⟩
  rw [List.getD_eq_getElem?_getD, List.getElem?_eq_getElem hj]
  exact List.getElem_mem hj
theorem inB_no (xs : List Bs) (k : Bs) (h : ∀ j, j < xs.length → (k == xs.getD j []) = false) : inB xs k = false := by
  rw [inB, List.any_eq_false]
  intro x hx
  obtain ⟨j, hj, rfl⟩ := List.getElem_of_mem hx
  have := h j hj
  rw [List.getD_eq_getElem?_getD, List.getElem?_eq_getElem hj] at this
  simpa using this
theorem inB_iff (xs : List Bs) (k : Bs) : inB xs k = true ↔ k ∈ xs := by
  rw [inB, List.any_eq_true]
  constructor
  · rintro ⟨x, hx, e⟩
    rw [beq_iff_eq.1 e]; exact hx
  · intro h
    exact ⟨k, h, by simp⟩

def IndexPost (xs : List Bs) (k : Bs) (e : Ending) : Prop := ∃ z : Int, e = .returned (.int .i64 z) ∧ decide (0 ≤ z) = inB xs k

def noKey (k : Bs) : Bool := k.isEmpty || decide (16 < k.length)
theorem noKey_cons (x : UInt8) (t : Bs) : decide (16 < ((t.length + 1 : Nat) : Int)) = noKey (x :: t) := by
  rw [noKey, List.isEmpty_cons, Bool.false_or, List.length_cons]
  simp only [decide_eq_decide]
  omega
end Go.Proofs.Ytdgjjkmgdjiliaa
