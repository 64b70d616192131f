/- Contracts of mutoscopelaw2's own calls (same, known): for all numbers each returns true; nothing in memory turns (orders are drawn). -/
import Derived.Test.YthdabgobnpdekaaR2
import Derived.Test.YthdabgobnpdekaaK2
namespace Go.Proofs.Ythdabgobnpdekaa
open Go.RowKit
open M

theorem same2 (a : Int) (w : World) : Calls Try.prog 7 #[.int .i64 a] w (Drawn (.bool true) w) := by
  go_enter Try.func7, Try.ntmps7
  go_wp2_with (first | (go_at_call 11; refine (t_turn _ _).mono ?_; rintro e w' ⟨rfl, rfl⟩) | (go_at_call 9; refine (t_sin _ _).mono ?_; rintro e w' ⟨rfl, n, rfl⟩) | (go_at_call 10; refine (t_cos _ _).mono ?_; rintro e w' ⟨rfl, n, rfl⟩) | (go_at_call 12; refine (r2_turn _ _).mono ?_; rintro e w' ⟨rfl, rfl⟩) | (go_at_call 13; refine (r2_sin _ _).mono ?_; rintro e w' ⟨rfl, rfl⟩) | (go_at_call 14; refine (r2_cos _ _).mono ?_; rintro e w' ⟨rfl, rfl⟩))
  go_ret
  exact ⟨rfl, _, rfl⟩

end Go.Proofs.Ythdabgobnpdekaa
