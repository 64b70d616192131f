/- Contracts of package mutoscoperef2 (Turn, Sin, Cos): for all numbers what the plain arithmetic says; the memory stays as it was. -/
import Derived.Test.YtafaafaclijfiaaT
namespace Go.Proofs.Ytafaafaclijfiaa
open Go.RowKit
open M

theorem tdiv_p {x : Int} (h0 : 0 ≤ x) (h1 : x ≤ 11796480) : (x * (11796480 - x)).tdiv 65536 = hpP x := Int.tdiv_eq_ediv_of_nonneg (prod_lo h0 h1)
theorem tdiv_v {p : Int} (h0 : 0 ≤ p) : (4 * p * 65536).tdiv (2654208000 - p) = hpV p := Int.tdiv_eq_ediv_of_nonneg (by omega)

end Go.Proofs.Ytafaafaclijfiaa
