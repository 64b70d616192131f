/- Contracts of mutoscoperef3 (two, Same, Width, Apply): for all numbers what the plain arithmetic says; of the memory nothing that was there turns. -/
import Derived.Test.YtglbfpjjnboeaaaGreatC
import Derived.Test.YtglbfpjjnboeaaaGreatTail
import Derived.Test.YtglbfpjjnboeaaaGreatQt
import Derived.Test.YtglbfpjjnboeaaaGreatJ
import Derived.Test.YtglbfpjjnboeaaaGreatR2
namespace Go.Proofs.YtglbfpjjnboeaaaGreat
open Go.RowKit
open M

theorem add_none (p q : Int) : add (add p q) 0 = add p q := by
  have l := hold_lo (hold p + hold q); have g := hold_hi (hold p + hold q)
  show hold (hold (add p q) + hold 0) = add p q
  rw [show hold (add p q) = add p q from hold_hold _, show hold 0 = 0 by decide, Int.add_zero]
  exact hold_hold _
end Go.Proofs.YtglbfpjjnboeaaaGreat
