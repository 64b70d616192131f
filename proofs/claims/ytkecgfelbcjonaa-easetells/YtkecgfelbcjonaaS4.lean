/- Contracts of mutoscopelaw4's own calls (same, right): for all numbers; of the memory nothing that was there turns. -/
import Derived.Test.YtkecgfelbcjonaaK4
import Derived.Test.YtkecgfelbcjonaaR5
namespace Go.Proofs.Ytkecgfelbcjonaa
open Go.RowKit
open M

set_option maxHeartbeats 1000000 in
theorem l4_same (x1 y1 x2 y2 x : Int) (w : World) :
    Calls Try.prog 8 #[.agg #[.int .i64 x1, .int .i64 y1, .int .i64 x2, .int .i64 y2], .int .i64 x] w fun r w' => r = .returned (.bool true) ∧ Below w.heap.size w w' := by
  go_enter Try.func8, Try.ntmps8
  go_wp2_with fail
  obtain ⟨W, hW⟩ : ∃ W, w.alloc (.cells #[.int .i64 x1, .int .i64 y1, .int .i64 x2, .int .i64 y2] 24) = W := ⟨_, rfl⟩
  have H0 : Has W w.heap.size #[.int .i64 x1, .int .i64 y1, .int .i64 x2, .int .i64 y2] 24 := by rw [← hW]; exact has_new rfl
  have HB : Below w.heap.size w W := by rw [← hW]; exact (Below.refl _ _).alloc (Nat.le_refl _) _
  rw [hW]
  have r0 := Later.read H0 0 _ rfl
  have r1 := Later.read H0 1 _ rfl
  have r2 := Later.read H0 2 _ rfl
  have r3 := Later.read H0 3 _ rfl
  have HC := Lib.hid HB
  clear H0 HB hW
  refine wp_region_class (C := fun w' => ∃ z : Later W, w' = z.to) (by kernel_rfl) (by kernel_rfl) ⟨⟨_, below_drew (Below.refl _ _)⟩, rfl⟩ ?_
  repeat (go_big_quiet_step (first | (go_at_call 14; exact Later.calls (e_right _ _ _ _ _)) | (go_at_call 15; exact Later.calls (r5_ease _ _ _ _ _)) | (go_at_call 13; exact Later.calls (e_at _ _ _ _ _ _)) | (go_at_call 16; exact Later.calls (r5_curve _ _ _ _ _ _)) | (go_at_call 17; exact Later.calls (below_of (e_bend _ _ _ _))) | (go_at_call 18; exact Later.calls (below_drawn (r5_bend _ _ _ _)))))
  refine wpQuiet_nil ?_
  rintro _ ⟨z, rfl⟩
  go_wp2
  go_ret
  exact ⟨rfl, HC.out.trans (z.below.mono HC.out.size)⟩

theorem l4_right (x1 y1 x2 y2 : Int) : ∃ a b c d : Int, ∀ w : World,
    Calls Try.prog 12 #[.agg #[.int .i64 x1, .int .i64 y1, .int .i64 x2, .int .i64 y2]] w fun r w' => r = .returned (.agg #[.int .i64 a, .int .i64 b, .int .i64 c, .int .i64 d]) ∧ Below w.heap.size w w' := by
  refine ⟨bits .and .i64 x1 65535, y1.tmod 131072, bits .and .i64 x2 65535, y2.tmod 131072, fun w => ?_⟩
  have t1 : (y1.tmod 131072).natAbs < 131072 := tmod_lt y1 131072 (by decide)
  have t2 : (y2.tmod 131072).natAbs < 131072 := tmod_lt y2 131072 (by decide)
  go_enter Try.func12, Try.ntmps12
  go_wp2
  refine bodyPost_ret (v := .agg #[.int .i64 (bits .and .i64 x1 65535), .int .i64 (y1.tmod 131072), .int .i64 (bits .and .i64 x2 65535), .int .i64 (y2.tmod 131072)]) (by simp [results, Try.results12, go_sem]) rfl ⟨rfl, ?_⟩
  repeat (first | exact Below.refl _ _ | refine Below.alloc ?_ (by first | (simp; done) | (simp; omega)) _)

end Go.Proofs.Ytkecgfelbcjonaa
