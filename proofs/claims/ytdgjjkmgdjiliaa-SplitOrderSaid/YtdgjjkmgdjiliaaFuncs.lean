/- slices.ContainsFunc and IndexFunc at texts and at operations, whatever is asked of each. No condition but lengths. -/
import Derived.Test.YtdgjjkmgdjiliaaTxn
namespace Go.Proofs.Ytdgjjkmgdjiliaa
open Go.RowKit

def FuncPost (b : Bool) (e : Ending) : Prop := ∃ z : Int, e = .returned (.int .i64 z) ∧ decide (0 ≤ z) = b

/-- an operation, as four cells. -/
structure Opn where
  kind : Int
  key : Bs
  val : Prt
  n : Int
def opc (x : Opn) : List Value := [.int .i64 x.kind, st x.key, sl x.val, .int .i64 x.n]
def opsc (xs : List Opn) : List Value := xs.flatMap opc
def opv (x : Opn) : Value := .agg #[.int .i64 x.kind, st x.key, sl x.val, .int .i64 x.n]
theorem opsc_len (xs : List Opn) : (opsc xs).length = xs.length * 4 := by
  induction xs with
  | nil => rfl
  | cons x t ih =>
    show (opc x ++ opsc t).length = _
    rw [List.length_append, ih, List.length_cons]
    show 4 + _ = _
    omega
theorem opsc_append (xs ys : List Opn) : opsc (xs ++ ys) = opsc xs ++ opsc ys := List.flatMap_append ..
theorem opsc_get (xs : List Opn) (k : Nat) (x : Opn) (h : xs[k]? = some x) (j : Nat) (hj : j < 4) : (opsc xs)[k * 4 + j]? = (opc x)[j]? := by
  induction xs generalizing k with
  | nil => cases h
  | cons y t ih =>
    cases k with
    | zero =>
      injection h with h
      subst h
      show (opc y ++ opsc t)[_]? = _
      rw [List.getElem?_append_left (by show _ < 4; omega), Nat.zero_mul, Nat.zero_add]
    | succ k =>
      show (opc y ++ opsc t)[_]? = _
      rw [List.getElem?_append_right (by show 4 ≤ _; omega), show (k + 1) * 4 + j - (opc y).length = k * 4 + j from by show _ - 4 = _; omega]
      exact ih k h
theorem Rd.opn {w : World} {A : Option Addr} {xs : List Opn} (h : Rd w A (opsc xs)) {k : Nat} {x : Opn} (hx : xs[k]? = some x) :
    ∃ b o, A = some ⟨b, o, none⟩ ∧ w.cell? ⟨b, o + k * 4, none⟩ = some (.int .i64 x.kind) ∧ w.cell? ⟨b, o + k * 4 + 1, none⟩ = some (st x.key) ∧
      w.cell? ⟨b, o + k * 4 + 2, none⟩ = some (sl x.val) ∧ w.cell? ⟨b, o + k * 4 + 3, none⟩ = some (.int .i64 x.n) := by
  have hk := (List.getElem?_eq_some_iff.1 hx).1
  obtain ⟨b, o, rfl, hc⟩ := h (by rw [opsc_len]; omega)
  refine ⟨b, o, rfl, ?_, ?_, ?_, ?_⟩
  · exact hc _ _ ((opsc_get xs k x hx 0 (by omega)).trans rfl)
  · exact hc _ _ ((opsc_get xs k x hx 1 (by omega)).trans rfl)
  · exact hc _ _ ((opsc_get xs k x hx 2 (by omega)).trans rfl)
  · exact hc _ _ ((opsc_get xs k x hx 3 (by omega)).trans rfl)

end Go.Proofs.Ytdgjjkmgdjiliaa
