/- Contract of q.Mid: for all numbers what the plain arithmetic says; the memory stays as it was. -/
import Derived.Test.YtglbfpjjnboeaaaGreatC
namespace Go.Proofs.YtglbfpjjnboeaaaGreat
open Go.RowKit
open M

theorem mid_eq (a b t : Int) : add (hold a) (mul (add b (-(hold a))) t) = mid a b t := by
  unfold mid; conv => lhs; unfold add
  rw [hold_hold]; rfl
theorem q_mid (a b t : Int) (w : World) :
    Calls Tryz.prog 96 #[.int .i64 a, .int .i64 b, .int .i64 t] w fun e w' => e = .returned (.int .i64 (mid a b t)) ∧ w = w' := by
  have a1 := hold_lo a; have a2 := hold_hi a
  go_enter Tryz.func96, Tryz.ntmps96
  go_wp2_with (first | (go_at_call 64; refine (q_hold _ _).mono ?_; rintro e w' ⟨rfl, rfl⟩) | (go_at_call 109; refine (q_add _ _ _).mono ?_; rintro e w' ⟨rfl, rfl⟩) | (go_at_call 40; refine (q_mul _ _ _).mono ?_; rintro e w' ⟨rfl, rfl⟩))
  go_ret
  exact ⟨ret_int (mid_eq a b t), rfl⟩

end Go.Proofs.YtglbfpjjnboeaaaGreat
