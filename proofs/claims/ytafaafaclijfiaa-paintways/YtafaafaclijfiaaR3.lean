/- Contracts of mutoscoperef3 (two, Same, Width, Apply): for all numbers what the plain arithmetic says; of the memory nothing that was there turns. -/
import Derived.Test.YtafaafaclijfiaaMP
import Derived.Test.YtafaafaclijfiaaJ
import Derived.Test.YtafaafaclijfiaaR2
import Derived.Test.YtafaafaclijfiaaN
namespace Go.Proofs.Ytafaafaclijfiaa
open Go.RowKit
open M

theorem r3_two (a x b y c : Int) (w : World) :
    Calls Try.prog 54 #[.int .i64 a, .int .i64 x, .int .i64 b, .int .i64 y, .int .i64 c] w (Drawn (.int .i64 (add (add (mul a x) (mul b y)) c)) w) := by
  go_enter Try.func54, Try.ntmps54
  go_wp2_with (first | (go_at_call 62; refine (r_add _ _ _).mono ?_; rintro e w' ⟨rfl, rfl⟩) | (go_at_call 34; refine (r_mul _ _ _).mono ?_; rintro e w' ⟨rfl, n, rfl⟩))
  go_ret
  exact ⟨rfl, _, rfl⟩
theorem add_none (p q : Int) : add (add p q) 0 = add p q := by
  have l := hold_lo (hold p + hold q); have g := hold_hi (hold p + hold q)
  show hold (hold (add p q) + hold 0) = add p q
  rw [show hold (add p q) = add p q from hold_hold _, show hold 0 = 0 by decide, Int.add_zero]
  exact hold_hold _
theorem r3_two0 (a x b y : Int) (w : World) :
    Calls Try.prog 54 #[.int .i64 a, .int .i64 x, .int .i64 b, .int .i64 y, .int .i64 0] w (Drawn (.int .i64 (add (mul a x) (mul b y))) w) := by
  have h := r3_two a x b y 0 w
  rw [add_none] at h
  exact h

theorem r3_width (a b c d e f : Int) (w : World) :
    Calls Try.prog 35 #[.agg #[.int .i64 a, .int .i64 b, .int .i64 c, .int .i64 d, .int .i64 e, .int .i64 f]] w fun x w' => x = .returned (.int .i64 (hyp a b)) ∧ Below w.heap.size w w' := by
  go_enter Try.func35, Try.ntmps35
  go_wp2_with (first | (go_at_call 39; refine (r_hyp _ _ _).mono ?_; rintro e w' ⟨rfl, rfl⟩))
  go_ret
  exact ⟨rfl, (Below.refl _ _).alloc (Nat.le_refl _) _⟩

set_option maxHeartbeats 1000000 in
theorem r3_apply (a b c d e f x y : Int) (w : World) :
    Calls Try.prog 33 #[.agg #[.int .i64 a, .int .i64 b, .int .i64 c, .int .i64 d, .int .i64 e, .int .i64 f], .agg #[.int .i64 x, .int .i64 y]] w fun r w' => r = .returned (.agg #[.int .i64 (place (add (add (mul a x) (mul c y)) e)), .int .i64 (place (add (add (mul b x) (mul d y)) f))]) ∧ Below w.heap.size w w' := by
  go_enter Try.func33, Try.ntmps33
  go_wp2
  refine wp_region_draws_tail 25 (by kernel_rfl) (by kernel_rfl) (by kernel_rfl) (by kernel_rfl) ?_
  simp only [List.take_succ_cons, List.take_zero, List.drop_succ_cons, List.drop_zero]
  repeat (go_big_quiet_step (first | (go_at_call 54; exact quietly (r3_two _ _ _ _ _ _)) | (go_at_call 36; exact quiet1 (r_place _ _))))
  refine wpQuiet_nil ?_
  rintro _ ⟨nq, rfl⟩
  obtain ⟨w1, hw1⟩ : ∃ w1, w.drewN nq = w1 := ⟨_, rfl⟩
  have hs : w.heap.size = w1.heap.size := by rw [← hw1]; rfl
  have hb : Below w.heap.size w w1 := by rw [← hw1]; exact below_drewN (Below.refl _ _) _
  change wpList _ _ _ _ _ ((((w.drewN nq).alloc _).alloc _).alloc _)
  rw [hw1]
  have HB := Lib.hid hb
  clear hb hw1
  go_wp2
  refine bodyPost_ret (v := .agg #[.int .i64 (place (add (add (mul a x) (mul c y)) e)), .int .i64 (place (add (add (mul b x) (mul d y)) f))]) (by simp [results, Try.results33, go_sem, hs]) rfl ⟨rfl, ?_⟩
  repeat (first | exact HB.out | refine Below.alloc ?_ (by first | (simp [hs]; done) | (simp [hs]; omega)) _)

end Go.Proofs.Ytafaafaclijfiaa
