/- Contract of q.Mid: for all numbers what the plain arithmetic says; the memory stays as it was. -/
import Derived.Test.YtibgilaeepmheaaC
namespace Go.Proofs.Ytibgilaeepmheaa
open Go.RowKit
open M

theorem mid_eq (a b t : Int) : add (hold a) (mul (add b (-(hold a))) t) = mid a b t := by
  unfold mid; conv => lhs; unfold add
  rw [hold_hold]; rfl

end Go.Proofs.Ytibgilaeepmheaa
