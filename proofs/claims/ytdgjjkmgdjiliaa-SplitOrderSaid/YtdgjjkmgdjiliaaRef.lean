/- The document's In, Rising, op. No condition but lengths. -/
import Derived.Test.YtdgjjkmgdjiliaaRight
namespace Go.Proofs.Ytdgjjkmgdjiliaa
open Go.RowKit

end Go.Proofs.Ytdgjjkmgdjiliaa
