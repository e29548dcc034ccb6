/- slices.Concat at texts. Conditions: lengths are short. -/
import Derived.Test.YtdgjjkmgdjiliaaCopyL
import Derived.Test.YtdgjjkmgdjiliaaRight4
import Derived.Lib.AppendZeros
namespace Go.Proofs.Ytdgjjkmgdjiliaa
open Go.RowKit

/-- a new row of texts. -/
structure NewS (w w' : World) (v : Value) (xs : List Bs) : Prop where
  own : w'.ownsRow w.heap.size 9 1 v xs.length (sts xs)
  fr : Fr NoBlk w w'

/-- a part that is put to others: where it lies, its room, its bytes. -/
abbrev PrS := Option Addr × Nat × List Bs
def slS (p : PrS) : Value := .slice p.1 p.2.2.length p.2.1
def allOf (ps : List PrS) : List Bs := ps.flatMap fun p => p.2.2
def PartS (w : World) (p : PrS) : Prop := Rd w p.1 (sts p.2.2) ∧ (p.1 = none → p.2.1 = 0)
theorem allOf_step (ps : List PrS) (k : Nat) (p : PrS) (h : ps[k]? = some p) : allOf (ps.take (k + 1)) = allOf (ps.take k) ++ p.2.2 := by
  unfold allOf
  obtain ⟨hk, rfl⟩ := List.getElem?_eq_some_iff.1 h
  rw [List.take_succ_eq_append_getElem hk, List.flatMap_append]
  simp
theorem allOf_le (ps : List PrS) (k : Nat) : (allOf (ps.take k)).length ≤ (allOf ps).length := by
  conv => rhs; rw [← List.take_append_drop k ps]
  unfold allOf
  rw [List.flatMap_append, List.length_append]
  omega

end Go.Proofs.Ytdgjjkmgdjiliaa
