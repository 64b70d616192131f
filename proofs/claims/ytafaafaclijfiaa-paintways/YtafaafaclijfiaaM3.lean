/- Contracts of package mat (Same, pair, Apply, After, Made, Width): for all numbers what the plain arithmetic says; of the memory nothing that was there turns (structs by value are laid in new blocks). -/
import Derived.Test.YtafaafaclijfiaaG
import Derived.Test.YtafaafaclijfiaaT
import Derived.WalkLawsBesides
import Derived.Deep.QuietTactic
import Derived.BigQuiet
import Derived.Test.YtafaafaclijfiaaTail
import Derived.Test.YtafaafaclijfiaaQt
import Derived.Test.YtafaafaclijfiaaMP
import Derived.Below
namespace Go.Proofs.Ytafaafaclijfiaa
open Go.RowKit
open M

theorem m_width (a b c d e f : Int) (w : World) :
    Calls Try.prog 32 #[.agg #[.int .i64 a, .int .i64 b, .int .i64 c, .int .i64 d, .int .i64 e, .int .i64 f]] w fun x w' => x = .returned (.int .i64 (hyp a b)) ∧ Below w.heap.size w w' := by
  go_enter Try.func32, Try.ntmps32
  go_wp2_with (first | (go_at_call 47; refine (q_hyp _ _ _).mono ?_; rintro e w' ⟨rfl, rfl⟩))
  go_ret
  exact ⟨rfl, (Below.refl _ _).alloc (Nat.le_refl _) _⟩


end Go.Proofs.Ytafaafaclijfiaa
