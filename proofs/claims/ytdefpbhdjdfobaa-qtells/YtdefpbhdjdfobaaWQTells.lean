/- The walk of mutoscopelaw1.QTells: for all three numbers it returns true; the memory stays as it was but for draws. -/
import Derived.Test.YtdefpbhdjdfobaaN
import Derived.Test.YtdefpbhdjdfobaaH
namespace Go.Proofs.Ytdefpbhdjdfobaa
open Go.RowKit
open M

theorem qTells_walk (a b t : Int) (_ : (Lit.int .i64 a).wf = true) (_ : (Lit.int .i64 b).wf = true) (_ : (Lit.int .i64 t).wf = true) (w : World) :
    Calls Try.prog 4 #[.int .i64 a, .int .i64 b, .int .i64 t] w fun e w' => e = .returned (.bool true) ∧ Grown w w' := by
  go_enter Try.func4, Try.ntmps4
  go_wp2_with (first | (go_at_call 10; refine (same _ _ _ _).mono ?_; rintro e w' ⟨rfl, n, rfl⟩) | (go_at_call 11; refine (known _).mono ?_; rintro e w' ⟨rfl, n, rfl⟩))
  go_ret
  exact ⟨rfl, grown_drewN _ _⟩

end Go.Proofs.Ytdefpbhdjdfobaa
