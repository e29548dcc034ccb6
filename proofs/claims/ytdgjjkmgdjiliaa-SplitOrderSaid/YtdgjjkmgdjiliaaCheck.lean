/- The program's Check: rightKeys, rightKind, Check. No condition but lengths. -/
import Derived.Test.YtdgjjkmgdjiliaaRight
import Derived.Shelf.Abstract
namespace Go.Proofs.Ytdgjjkmgdjiliaa
open Go.RowKit

def keysR (t : Tx) : Bool := decide (t.reads.length + t.writes.length ≤ 8) && riseB t.reads && riseB t.writes && !(t.reads.any (inB t.writes)) && !(t.reads.any noKey) && !(t.writes.any noKey)

def kindR (t : Tx) (r : Int) : Bool :=
  if t.kind = 1 then decide (t.to = 0) && decide (t.ops.length ≤ 16) && !(t.ops.any fun x => !opR t x)
  else if t.kind = 2 then decide (t.reads.length = 0) && decide (t.ops.length = 0) && decide (t.writes.length = 1) && decide (0 ≤ t.to) && decide (t.to < r)
  else false

def rightR (t : Tx) (r : Int) : Bool := decide (1 ≤ r) && decide (r ≤ 3) && keysR t && kindR t r
def codeR (b : Bool) : Int := if b then 0 else 1

end Go.Proofs.Ytdgjjkmgdjiliaa
