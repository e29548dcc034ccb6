/- bytes.Equal; when two lists of operations are one. No condition but lengths. -/
import Derived.Test.YtdgjjkmgdjiliaaSame
namespace Go.Proofs.Ytdgjjkmgdjiliaa
open Go.RowKit

def opSame (x y : Opn) : Bool := decide (x.kind = y.kind) && (x.key == y.key) && decide (x.n = y.n) && (x.val.2.2 == y.val.2.2)

/-- two lists of operations are one. -/
def opsSame (xs ys : List Opn) : Bool := decide (xs.length = ys.length) && (List.range xs.length).all fun j => match xs[j]?, ys[j]? with
  | some x, some y => opSame x y
  | _, _ => true
theorem opsSame_no {xs ys : List Opn} {j : Nat} {x y : Opn} (hx : xs[j]? = some x) (hy : ys[j]? = some y) (h : opSame x y = false) : opsSame xs ys = false := by
  unfold opsSame
  rw [Bool.and_eq_false_iff]
  right
  rw [List.all_eq_false]
  refine ⟨j, List.mem_range.2 (List.getElem?_eq_some_iff.1 hx).1, ?_⟩
  rw [hx, hy]
  simp [h]
theorem opsSame_yes {xs ys : List Opn} (hl : xs.length = ys.length) (h : ∀ (j : Nat) (x y : Opn), xs[j]? = some x → ys[j]? = some y → opSame x y = true) : opsSame xs ys = true := by
  unfold opsSame
  rw [Bool.and_eq_true, decide_eq_true_eq, List.all_eq_true]
  refine ⟨hl, fun j hj => ?_⟩
  have hj := List.mem_range.1 hj
  rw [List.getElem?_eq_getElem hj, List.getElem?_eq_getElem (hl ▸ hj)]
  exact h j _ _ (List.getElem?_eq_getElem hj) (List.getElem?_eq_getElem (hl ▸ hj))
end Go.Proofs.Ytdgjjkmgdjiliaa
