/- The document's Right: the walk. Conditions: the transaction is small. -/
import Derived.Test.YtdgjjkmgdjiliaaRight3
import Derived.Test.YtdgjjkmgdjiliaaApp2
import Derived.Test.YtdgjjkmgdjiliaaCopyL
namespace Go.Proofs.Ytdgjjkmgdjiliaa
open Go.RowKit
theorem sts_append (xs ys : List Bs) : sts (xs ++ ys) = sts xs ++ sts ys := by simp [sts]

end Go.Proofs.Ytdgjjkmgdjiliaa
