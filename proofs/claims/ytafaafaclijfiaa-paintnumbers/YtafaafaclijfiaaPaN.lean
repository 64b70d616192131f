/- A paint's cells. No program is named here but for the types. -/
import Derived.Test.YtafaafaclijfiaaPMath
import Derived.Test.YtafaafaclijfiaaHM
namespace Go.Proofs.Ytafaafaclijfiaa
open Go Go.RowKit
open M

/-- The cells of a paint. -/
abbrev paC (k : Int) (a b : Cr) (p q : Pt) (r : Int) : Array Value := #[.int .i64 k, .int .u8 a.r, .int .u8 a.g, .int .u8 a.b, .int .u8 a.q, .int .u8 b.r, .int .u8 b.g, .int .u8 b.b, .int .u8 b.q, .int .i64 p.x, .int .i64 p.y, .int .i64 q.x, .int .i64 q.y, .int .i64 r]

end Go.Proofs.Ytafaafaclijfiaa
