/- A paint as plain data in memory. No program is named here but for the types. -/
import Derived.Test.YtafaafaclijfiaaPaMath
import Derived.Test.YtafaafaclijfiaaPaN
namespace Go.Proofs.Ytafaafaclijfiaa
open Go Go.RowKit
open M

/-- A paint's cells. -/
abbrev paCells (c : Pa) : Array Value := paC c.k c.a c.b c.p c.q c.r
/-- Its colours are bytes. -/
def PaOk (c : Pa) : Prop := c.a.Ok ∧ c.b.Ok
theorem paOk_map {a b c d e f : Int} {p : Pa} (h : PaOk p) : PaOk (mapF a b c d e f p) := h
def rightP (c : Pa) : Bool := decide (c.k = 0 ∨ c.k = 1 ∨ c.k = 2) && (nearN c.p.x && nearN c.p.y && nearN c.q.x && nearN c.q.y && nearN c.r)

end Go.Proofs.Ytafaafaclijfiaa
