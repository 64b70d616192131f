/- Contract of mutoscoperef1.Mid: for all numbers; nothing in memory turns. -/
import Derived.Test.YtglbfpjjnboeaaaGreatJ
namespace Go.Proofs.YtglbfpjjnboeaaaGreat
open Go.RowKit
open M

theorem r_mid (a b t : Int) (w : World) :
    Calls Tryz.prog 79 #[.int .i64 a, .int .i64 b, .int .i64 t] w (Drawn (.int .i64 (mid a b t)) w) := by
  have a1 := hold_lo a; have a2 := hold_hi a
  go_enter Tryz.func79, Tryz.ntmps79
  go_wp2_with (first | (go_at_call 66; refine (r_hold _ _).mono ?_; rintro e w' ⟨rfl, rfl⟩) | (go_at_call 101; refine (r_add _ _ _).mono ?_; rintro e w' ⟨rfl, rfl⟩) | (go_at_call 41; refine (r_mul _ _ _).mono ?_; rintro e w' ⟨rfl, n, rfl⟩))
  go_ret
  exact ⟨rfl, n, rfl⟩

end Go.Proofs.YtglbfpjjnboeaaaGreat
