/- Contracts of the smallest calls of packages q and mutoscoperef1 (Clamp, Hold, Place, Add): for all numbers each returns what the plain arithmetic says and leaves the memory as it was; Add asks nothing of its numbers. -/
import Derived.Test.YtafaafaclijfiaaRows
import Derived.Test.YtafaafaclijfiaaMath
import Derived.WalkKit
import Derived.WalkSpells
import Derived.IntWalk
namespace Go.Proofs.Ytafaafaclijfiaa
open Go.RowKit
open M

theorem clamp_cases (a lo hi : Int) : (a < lo ∧ clamp a lo hi = lo) ∨ (¬ a < lo ∧ hi < a ∧ clamp a lo hi = hi) ∨ (¬ a < lo ∧ ¬ hi < a ∧ clamp a lo hi = a) := by
  unfold clamp
  by_cases h1 : a < lo
  · left; exact ⟨h1, if_pos h1⟩
  · by_cases h2 : hi < a
    · right; left; exact ⟨h1, h2, by rw [if_neg h1, if_pos h2]⟩
    · right; right; exact ⟨h1, h2, by rw [if_neg h1, if_neg h2]⟩

theorem q_clamp (a lo hi : Int) (w : World) :
    Calls Try.prog 44 #[.int .i64 a, .int .i64 lo, .int .i64 hi] w fun e w' => e = .returned (.int .i64 (clamp a lo hi)) ∧ w = w' := by
  rcases clamp_cases a lo hi with ⟨h1, h⟩ | ⟨h1, h2, h⟩ | ⟨h1, h2, h⟩
  all_goals
    rw [h]; clear h
    go_enter Try.func44, Try.ntmps44
    go_wp2
    go_ret
    exact ⟨rfl, rfl⟩
theorem r_clamp (a lo hi : Int) (w : World) :
    Calls Try.prog 40 #[.int .i64 a, .int .i64 lo, .int .i64 hi] w fun e w' => e = .returned (.int .i64 (clamp a lo hi)) ∧ w = w' := by
  rcases clamp_cases a lo hi with ⟨h1, h⟩ | ⟨h1, h2, h⟩ | ⟨h1, h2, h⟩
  all_goals
    rw [h]; clear h
    go_enter Try.func40, Try.ntmps40
    go_wp2
    go_ret
    exact ⟨rfl, rfl⟩
theorem q_hold (a : Int) (w : World) :
    Calls Try.prog 53 #[.int .i64 a] w fun e w' => e = .returned (.int .i64 (hold a)) ∧ w = w' := by
  go_enter Try.func53, Try.ntmps53
  go_wp2_with fail
  refine (q_clamp _ _ _ _).mono ?_
  rintro e w' ⟨rfl, rfl⟩
  go_wp2
  go_ret
  exact ⟨rfl, rfl⟩
theorem r_hold (a : Int) (w : World) :
    Calls Try.prog 56 #[.int .i64 a] w fun e w' => e = .returned (.int .i64 (hold a)) ∧ w = w' := by
  go_enter Try.func56, Try.ntmps56
  go_wp2_with fail
  refine (r_clamp _ _ _ _).mono ?_
  rintro e w' ⟨rfl, rfl⟩
  go_wp2
  go_ret
  exact ⟨rfl, rfl⟩
theorem q_place (a : Int) (w : World) :
    Calls Try.prog 43 #[.int .i64 a] w fun e w' => e = .returned (.int .i64 (place a)) ∧ w = w' := by
  go_enter Try.func43, Try.ntmps43
  go_wp2_with fail
  refine (q_clamp _ _ _ _).mono ?_
  rintro e w' ⟨rfl, rfl⟩
  go_wp2
  go_ret
  exact ⟨rfl, rfl⟩
theorem r_place (a : Int) (w : World) :
    Calls Try.prog 36 #[.int .i64 a] w fun e w' => e = .returned (.int .i64 (place a)) ∧ w = w' := by
  go_enter Try.func36, Try.ntmps36
  go_wp2_with fail
  refine (r_clamp _ _ _ _).mono ?_
  rintro e w' ⟨rfl, rfl⟩
  go_wp2
  go_ret
  exact ⟨rfl, rfl⟩
theorem q_add (a b : Int) (w : World) :
    Calls Try.prog 50 #[.int .i64 a, .int .i64 b] w fun e w' => e = .returned (.int .i64 (add a b)) ∧ w = w' := by
  have a1 := hold_lo a; have a2 := hold_hi a; have b1 := hold_lo b; have b2 := hold_hi b
  go_enter Try.func50, Try.ntmps50
  go_wp2_with (go_at_call 53; refine (q_hold _ _).mono ?_; rintro e w' ⟨rfl, rfl⟩)
  go_ret
  exact ⟨rfl, rfl⟩
theorem r_add (a b : Int) (w : World) :
    Calls Try.prog 62 #[.int .i64 a, .int .i64 b] w fun e w' => e = .returned (.int .i64 (add a b)) ∧ w = w' := by
  have a1 := hold_lo a; have a2 := hold_hi a; have b1 := hold_lo b; have b2 := hold_hi b
  go_enter Try.func62, Try.ntmps62
  go_wp2_with (go_at_call 56; refine (r_hold _ _).mono ?_; rintro e w' ⟨rfl, rfl⟩)
  go_ret
  exact ⟨rfl, rfl⟩

end Go.Proofs.Ytafaafaclijfiaa
