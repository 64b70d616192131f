/- Contract of q.Mid: for all numbers what the plain arithmetic says; the memory stays as it was. -/
import Derived.Test.YtglbfpjjnboeaaaC
namespace Go.Proofs.Ytglbfpjjnboeaaa
open Go.RowKit
open M

theorem mid_eq (a b t : Int) : add (hold a) (mul (add b (-(hold a))) t) = mid a b t := by
  unfold mid; conv => lhs; unfold add
  rw [hold_hold]; rfl
theorem q_mid (a b t : Int) (w : World) :
    Calls Try.prog 53 #[.int .i64 a, .int .i64 b, .int .i64 t] w fun e w' => e = .returned (.int .i64 (mid a b t)) ∧ w = w' := by
  have a1 := hold_lo a; have a2 := hold_hi a
  go_enter Try.func53, Try.ntmps53
  go_wp2_with (first | (go_at_call 50; refine (q_hold _ _).mono ?_; rintro e w' ⟨rfl, rfl⟩) | (go_at_call 68; refine (q_add _ _ _).mono ?_; rintro e w' ⟨rfl, rfl⟩) | (go_at_call 31; refine (q_mul _ _ _).mono ?_; rintro e w' ⟨rfl, rfl⟩))
  go_ret
  exact ⟨ret_int (mid_eq a b t), rfl⟩

end Go.Proofs.Ytglbfpjjnboeaaa
