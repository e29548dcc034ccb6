/- The document's Right: the walk. Conditions: the transaction is small. -/
import Derived.Test.YthdbpbcllhgeoaaRight3
import Derived.Test.YthdbpbcllhgeoaaApp2
import Derived.Test.YthdbpbcllhgeoaaCopyL
namespace Go.Proofs.Ythdbpbcllhgeoaa
open Go.RowKit
theorem sts_append (xs ys : List Bs) : sts (xs ++ ys) = sts xs ++ sts ys := by simp [sts]

end Go.Proofs.Ythdbpbcllhgeoaa
