/- The values of a tree, of several cells each, as a list of their own; what is gathered in a box by a loop over a function. Conditions: at most 100000 keys. -/
import Derived.RangeFuncNested
import Derived.Test.YtlajhnplkfiiiaaN5U
import Derived.Test.YtlajhnplkfiiiaaN7T
namespace Go.Proofs.Ytlajhnplkfiiiaa
open Go.RowKit Go.Shelf
attribute [local go_sem] Oper.semAt_some
/-- a value's cells. -/
def valcU (x : ItU) : List Value := [.int .i64 x.2.slot, .int .u64 (x.2.bal : Int), .int .i64 x.2.val]
def valsU (xs : List ItU) : List Value := xs.flatMap valcU
theorem valsU_snoc (xs : List ItU) (x : ItU) : valsU (xs ++ [x]) = valsU xs ++ [.int .i64 x.2.slot, .int .u64 (x.2.bal : Int), .int .i64 x.2.val] := by
  unfold valsU
  rw [List.flatMap_append]
  simp [valcU]
theorem vinfoU : (Try.prog.info? 46).map (fun i => (i.zero, i.size, i.bytes)) = some (some (.agg #[.int .i64 0, .int .u64 0, .int .i64 0] : Value), 3, 24) := by kernel_rfl
end Go.Proofs.Ytlajhnplkfiiiaa
