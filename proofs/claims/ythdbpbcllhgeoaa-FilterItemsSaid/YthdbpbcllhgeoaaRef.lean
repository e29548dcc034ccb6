/- The document's In, Rising, op. No condition but lengths. -/
import Derived.Test.YthdbpbcllhgeoaaRight
namespace Go.Proofs.Ythdbpbcllhgeoaa
open Go.RowKit

end Go.Proofs.Ythdbpbcllhgeoaa
