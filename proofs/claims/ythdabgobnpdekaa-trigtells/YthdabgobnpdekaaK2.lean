/- Contract of mutoscopelaw2.known: it returns true; nothing in memory turns (orders are drawn). Small facts that the walks of the statements share. -/
import Derived.Test.YthdabgobnpdekaaT
import Derived.WalkLawsBesides
namespace Go.Proofs.Ythdabgobnpdekaa
open Go.RowKit
open M

theorem k2_sin1 : (sin 5898240 == 65536) = true := by decide
theorem k2_sin2 : (sin 0 == 0) = true := by decide
theorem k2_cos : (cos 11796480 == -65536) = true := by decide
theorem k2_turn : (turn (-1) == 23592959) = true := by decide
theorem known2 (w : World) : Calls Try.prog 8 #[] w (Drawn (.bool true) w) := by
  have k1 := k2_sin1; have k2 := k2_sin2; have k3 := k2_cos; have k4 := k2_turn
  go_enter Try.func8, Try.ntmps8
  go_wp2_with (first | (go_at_call 11; refine (t_turn _ _).mono ?_; rintro e w' ⟨rfl, rfl⟩) | (go_at_call 9; refine (t_sin _ _).mono ?_; rintro e w' ⟨rfl, n, rfl⟩) | (go_at_call 10; refine (t_cos _ _).mono ?_; rintro e w' ⟨rfl, n, rfl⟩))
  go_ret
  exact ⟨rfl, _, rfl⟩

theorem grown_drewN (w : World) (n : Nat) : Grown w (w.drewN n) := Grown.refl w

end Go.Proofs.Ythdabgobnpdekaa
