/- Contract of mutoscoperef1.Mid: for all numbers; nothing in memory turns. -/
import Derived.Test.YtgnmiilmmbblmaaJ
namespace Go.Proofs.Ytgnmiilmmbblmaa
open Go.RowKit
open M

theorem r_mid (a b t : Int) (w : World) :
    Calls Try.prog 43 #[.int .i64 a, .int .i64 b, .int .i64 t] w (Drawn (.int .i64 (mid a b t)) w) := by
  have a1 := hold_lo a; have a2 := hold_hi a
  go_enter Try.func43, Try.ntmps43
  go_wp2_with (first | (go_at_call 30; refine (r_hold _ _).mono ?_; rintro e w' ⟨rfl, rfl⟩) | (go_at_call 27; refine (r_add _ _ _).mono ?_; rintro e w' ⟨rfl, rfl⟩) | (go_at_call 54; refine (r_mul _ _ _).mono ?_; rintro e w' ⟨rfl, n, rfl⟩))
  go_ret
  exact ⟨rfl, n, rfl⟩

end Go.Proofs.Ytgnmiilmmbblmaa
