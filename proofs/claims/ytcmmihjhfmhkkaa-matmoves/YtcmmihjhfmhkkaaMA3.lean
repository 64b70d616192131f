/- Contract of mat.After: for all numbers what the plain arithmetic says; of the memory nothing that was there turns. -/
import Derived.Test.YtcmmihjhfmhkkaaM3
namespace Go.Proofs.Ytcmmihjhfmhkkaa
open Go.RowKit
open M

set_option maxHeartbeats 2000000 in
theorem m_after (a b c d e f a2 b2 c2 d2 e2 f2 : Int) (w : World) :
    Calls Try.prog 13 #[.agg #[.int .i64 a, .int .i64 b, .int .i64 c, .int .i64 d, .int .i64 e, .int .i64 f], .agg #[.int .i64 a2, .int .i64 b2, .int .i64 c2, .int .i64 d2, .int .i64 e2, .int .i64 f2]] w fun r w' => r = .returned (.agg #[.int .i64 (add (mul a a2) (mul c b2)), .int .i64 (add (mul b a2) (mul d b2)), .int .i64 (add (mul a c2) (mul c d2)), .int .i64 (add (mul b c2) (mul d d2)), .int .i64 (add (add (mul a e2) (mul c f2)) e), .int .i64 (add (add (mul b e2) (mul d f2)) f)]) ∧ Below w.heap.size w w' := by
  go_enter Try.func13, Try.ntmps13
  go_wp2
  refine wp_region_draws_tail 61 (by kernel_rfl) (by kernel_rfl) (by kernel_rfl) (by kernel_rfl) ?_
  simp only [List.take_succ_cons, List.take_zero, List.drop_succ_cons, List.drop_zero]
  repeat (go_big_quiet_step (first | (go_at_call 19; exact quiet1 (m_pair _ _ _ _ _)) | (go_at_call 18; exact quiet1 (q_add _ _ _)) | (go_at_call 30; exact quiet1 (q_place _ _))))
  refine wpQuiet_nil ?_
  rintro _ ⟨nq, rfl⟩
  obtain ⟨w1, hw1⟩ : ∃ w1, w.drewN nq = w1 := ⟨_, rfl⟩
  have hs : w.heap.size = w1.heap.size := by rw [← hw1]; rfl
  have hb : Below w.heap.size w w1 := by rw [← hw1]; exact below_drewN (Below.refl _ _) _
  change wpList _ _ _ _ _ ((((w.drewN nq).alloc _).alloc _).alloc _)
  rw [hw1]
  have HB := Lib.hid hb
  clear hb hw1
  go_wp2
  refine bodyPost_ret (v := .agg #[.int .i64 (add (mul a a2) (mul c b2)), .int .i64 (add (mul b a2) (mul d b2)), .int .i64 (add (mul a c2) (mul c d2)), .int .i64 (add (mul b c2) (mul d d2)), .int .i64 (add (add (mul a e2) (mul c f2)) e), .int .i64 (add (add (mul b e2) (mul d f2)) f)]) (by simp [results, Try.results13, go_sem, hs]) rfl ⟨rfl, ?_⟩
  repeat (first | exact HB.out | refine Below.alloc ?_ (by first | (simp [hs]; done) | (simp [hs]; omega)) _)

end Go.Proofs.Ytcmmihjhfmhkkaa
