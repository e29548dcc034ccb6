/- Texts as the world holds them. No condition but lengths. -/
import Derived.Test.YtafiokabnlmgpaaGreatDoorMem
import Derived.Test.YtafiokabnlmgpaaGreatDoorPure
import Derived.Test.YtafiokabnlmgpaaGreatDoorChecked
import Derived.BigQuiet
import Derived.Deep.QuietTactic
import Derived.RegionTactic
namespace Go.Proofs.YtafiokabnlmgpaaGreatDoor
open Go.RowKit

def bstr (l : Bs) : ByteArray := ⟨l.toArray⟩
def st (l : Bs) : Value := .string (bstr l)
theorem bstr_toList (l : Bs) : (bstr l).toList = l := by
  rw [ByteArray.toList_eq]
  simp [bstr]
theorem bstr_data (l : Bs) : (bstr l).data.toList = l := by simp [bstr]
theorem bstr_size (l : Bs) : (bstr l).size = l.length := by simp [bstr, ByteArray.size]
theorem bstr_eta (s : ByteArray) : bstr s.data.toList = s := by cases s; simp [bstr]
theorem bstr_inj {a b : Bs} (h : bstr a = bstr b) : a = b := by rw [← bstr_toList a, h, bstr_toList]
def sts (xs : List Bs) : List Value := xs.map st
theorem sts_len (xs : List Bs) : (sts xs).length = xs.length := by simp [sts]
theorem sts_get (xs : List Bs) (k : Nat) (h : k < xs.length) : (sts xs)[k]? = some (st (xs.getD k [])) := by
  simp [sts, h, List.getD_eq_getElem?_getD]
theorem Rd.text {w : World} {A : Option Addr} {xs : List Bs} (h : Rd w A (sts xs)) {k : Nat} (hk : k < xs.length) :
    ∃ b o, A = some ⟨b, o, none⟩ ∧ w.cell? ⟨b, o + k, none⟩ = some (.string (bstr (xs.getD k []))) := h.at_ (sts_get xs k hk)
theorem ret_bool {a b : Bool} (h : a = b) : Ending.returned (.bool a) = .returned (.bool b) := by rw [h]
theorem ret_int {q : IntKind} {a b : Int} (h : a = b) : Ending.returned (.int q a) = .returned (.int q b) := by rw [h]
end Go.Proofs.YtafiokabnlmgpaaGreatDoor
