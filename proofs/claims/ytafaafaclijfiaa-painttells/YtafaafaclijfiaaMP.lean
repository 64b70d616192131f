/- Contracts of mat.pair, .Apply: for all numbers what the plain arithmetic says; of the memory nothing that was there turns. -/
import Derived.Test.YtafaafaclijfiaaC
import Derived.Test.YtafaafaclijfiaaTail
import Derived.Test.YtafaafaclijfiaaQt
namespace Go.Proofs.Ytafaafaclijfiaa
open Go.RowKit
open M

theorem m_pair (a b c d : Int) (w : World) :
    Calls Try.prog 51 #[.int .i64 a, .int .i64 b, .int .i64 c, .int .i64 d] w fun e w' => e = .returned (.int .i64 (add (mul a b) (mul c d))) ∧ w = w' := by
  go_enter Try.func51, Try.ntmps51
  go_wp2_with (first | (go_at_call 50; refine (q_add _ _ _).mono ?_; rintro e w' ⟨rfl, rfl⟩) | (go_at_call 31; refine (q_mul _ _ _).mono ?_; rintro e w' ⟨rfl, rfl⟩))
  go_ret
  exact ⟨rfl, rfl⟩

set_option maxHeartbeats 1000000 in
theorem m_apply (a b c d e f x y : Int) (w : World) :
    Calls Try.prog 30 #[.agg #[.int .i64 a, .int .i64 b, .int .i64 c, .int .i64 d, .int .i64 e, .int .i64 f], .agg #[.int .i64 x, .int .i64 y]] w fun r w' => r = .returned (.agg #[.int .i64 (place (add (add (mul a x) (mul c y)) e)), .int .i64 (place (add (add (mul b x) (mul d y)) f))]) ∧ Below w.heap.size w w' := by
  go_enter Try.func30, Try.ntmps30
  go_wp2
  refine wp_region_draws_tail 27 (by kernel_rfl) (by kernel_rfl) (by kernel_rfl) (by kernel_rfl) ?_
  simp only [List.take_succ_cons, List.take_zero, List.drop_succ_cons, List.drop_zero]
  repeat (go_big_quiet_step (first | (go_at_call 51; exact quiet1 (m_pair _ _ _ _ _)) | (go_at_call 50; exact quiet1 (q_add _ _ _)) | (go_at_call 43; exact quiet1 (q_place _ _))))
  refine wpQuiet_nil ?_
  rintro _ ⟨nq, rfl⟩
  obtain ⟨w1, hw1⟩ : ∃ w1, w.drewN nq = w1 := ⟨_, rfl⟩
  have hs : w.heap.size = w1.heap.size := by rw [← hw1]; rfl
  have hb : Below w.heap.size w w1 := by rw [← hw1]; exact below_drewN (Below.refl _ _) _
  change wpList _ _ _ _ _ ((((w.drewN nq).alloc _).alloc _).alloc _)
  rw [hw1]
  have HB := Lib.hid hb
  clear hb hw1
  go_wp2
  refine bodyPost_ret (v := .agg #[.int .i64 (place (add (add (mul a x) (mul c y)) e)), .int .i64 (place (add (add (mul b x) (mul d y)) f))]) (by simp [results, Try.results30, go_sem, hs]) rfl ⟨rfl, ?_⟩
  repeat (first | exact HB.out | refine Below.alloc ?_ (by first | (simp [hs]; done) | (simp [hs]; omega)) _)

end Go.Proofs.Ytafaafaclijfiaa
