/- Contracts of the smallest calls of packages q and mutoscoperef1 (Clamp, Hold, Place, Add): for all numbers each returns what the plain arithmetic says and leaves the memory as it was; Add asks nothing of its numbers. -/
import Derived.Test.YtglbfpjjnboeaaaGreatRows
import Derived.Test.YtglbfpjjnboeaaaGreatMath
import Derived.WalkKit
import Derived.WalkSpells
import Derived.IntWalk
namespace Go.Proofs.YtglbfpjjnboeaaaGreat
open Go.RowKit
open M

theorem clamp_cases (a lo hi : Int) : (a < lo ∧ clamp a lo hi = lo) ∨ (¬ a < lo ∧ hi < a ∧ clamp a lo hi = hi) ∨ (¬ a < lo ∧ ¬ hi < a ∧ clamp a lo hi = a) := by
  unfold clamp
  by_cases h1 : a < lo
  · left; exact ⟨h1, if_pos h1⟩
  · by_cases h2 : hi < a
    · right; left; exact ⟨h1, h2, by rw [if_neg h1, if_pos h2]⟩
    · right; right; exact ⟨h1, h2, by rw [if_neg h1, if_neg h2]⟩

theorem q_clamp (a lo hi : Int) (w : World) :
    Calls Tryz.prog 42 #[.int .i64 a, .int .i64 lo, .int .i64 hi] w fun e w' => e = .returned (.int .i64 (clamp a lo hi)) ∧ w = w' := by
  rcases clamp_cases a lo hi with ⟨h1, h⟩ | ⟨h1, h2, h⟩ | ⟨h1, h2, h⟩
  all_goals
    rw [h]; clear h
    go_enter Tryz.func42, Tryz.ntmps42
    go_wp2
    go_ret
    exact ⟨rfl, rfl⟩
theorem r_clamp (a lo hi : Int) (w : World) :
    Calls Tryz.prog 92 #[.int .i64 a, .int .i64 lo, .int .i64 hi] w fun e w' => e = .returned (.int .i64 (clamp a lo hi)) ∧ w = w' := by
  rcases clamp_cases a lo hi with ⟨h1, h⟩ | ⟨h1, h2, h⟩ | ⟨h1, h2, h⟩
  all_goals
    rw [h]; clear h
    go_enter Tryz.func92, Tryz.ntmps92
    go_wp2
    go_ret
    exact ⟨rfl, rfl⟩
theorem q_hold (a : Int) (w : World) :
    Calls Tryz.prog 64 #[.int .i64 a] w fun e w' => e = .returned (.int .i64 (hold a)) ∧ w = w' := by
  go_enter Tryz.func64, Tryz.ntmps64
  go_wp2_with fail
  refine (q_clamp _ _ _ _).mono ?_
  rintro e w' ⟨rfl, rfl⟩
  go_wp2
  go_ret
  exact ⟨rfl, rfl⟩
theorem r_hold (a : Int) (w : World) :
    Calls Tryz.prog 66 #[.int .i64 a] w fun e w' => e = .returned (.int .i64 (hold a)) ∧ w = w' := by
  go_enter Tryz.func66, Tryz.ntmps66
  go_wp2_with fail
  refine (r_clamp _ _ _ _).mono ?_
  rintro e w' ⟨rfl, rfl⟩
  go_wp2
  go_ret
  exact ⟨rfl, rfl⟩
theorem q_add (a b : Int) (w : World) :
    Calls Tryz.prog 109 #[.int .i64 a, .int .i64 b] w fun e w' => e = .returned (.int .i64 (add a b)) ∧ w = w' := by
  have a1 := hold_lo a; have a2 := hold_hi a; have b1 := hold_lo b; have b2 := hold_hi b
  go_enter Tryz.func109, Tryz.ntmps109
  go_wp2_with (go_at_call 64; refine (q_hold _ _).mono ?_; rintro e w' ⟨rfl, rfl⟩)
  go_ret
  exact ⟨rfl, rfl⟩
theorem r_add (a b : Int) (w : World) :
    Calls Tryz.prog 101 #[.int .i64 a, .int .i64 b] w fun e w' => e = .returned (.int .i64 (add a b)) ∧ w = w' := by
  have a1 := hold_lo a; have a2 := hold_hi a; have b1 := hold_lo b; have b2 := hold_hi b
  go_enter Tryz.func101, Tryz.ntmps101
  go_wp2_with (go_at_call 66; refine (r_hold _ _).mono ?_; rintro e w' ⟨rfl, rfl⟩)
  go_ret
  exact ⟨rfl, rfl⟩

end Go.Proofs.YtglbfpjjnboeaaaGreat
