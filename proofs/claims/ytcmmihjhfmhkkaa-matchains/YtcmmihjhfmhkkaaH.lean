/- Small facts that the walks of several statements share: what a remainder by Near is at most, that draws leave the memory as it was. -/
import Derived.Test.YtcmmihjhfmhkkaaG
import Derived.WalkLawsBesides
namespace Go.Proofs.Ytcmmihjhfmhkkaa
open Go.RowKit
open M

theorem near_bd (a : Int) : -67108863 ≤ a.tmod 67108864 ∧ a.tmod 67108864 ≤ 67108863 := by
  have := tmod_lt a 67108864 (by decide); omega
theorem grown_drewN (w : World) (n : Nat) : Grown w (w.drewN n) := Grown.refl w

end Go.Proofs.Ytcmmihjhfmhkkaa
