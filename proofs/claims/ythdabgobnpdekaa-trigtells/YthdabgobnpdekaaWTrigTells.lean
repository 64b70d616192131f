/- The walk of mutoscopelaw2.TrigTells: for every number it returns true; the memory stays as it was but for draws. -/
import Derived.Test.YthdabgobnpdekaaS2
namespace Go.Proofs.Ythdabgobnpdekaa
open Go.RowKit
open M

theorem trigTells_walk (a : Int) (_ : (Lit.int .i64 a).wf = true) (w : World) :
    Calls Try.prog 4 #[.int .i64 a] w fun e w' => e = .returned (.bool true) ∧ Grown w w' := by
  go_enter Try.func4, Try.ntmps4
  go_wp2_with (first | (go_at_call 7; refine (same2 _ _).mono ?_; rintro e w' ⟨rfl, n, rfl⟩) | (go_at_call 8; refine (known2 _).mono ?_; rintro e w' ⟨rfl, n, rfl⟩))
  go_ret
  exact ⟨rfl, grown_drewN _ _⟩

end Go.Proofs.Ythdabgobnpdekaa
