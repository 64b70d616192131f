/- Contracts of mutoscopelaw3's own calls (small, same): for all numbers; of the memory nothing that was there turns. -/
import Derived.Test.YtcmmihjhfmhkkaaMA3
import Derived.Test.YtcmmihjhfmhkkaaMD3
import Derived.Test.YtcmmihjhfmhkkaaRA3
import Derived.Test.YtcmmihjhfmhkkaaRD3
namespace Go.Proofs.Ytcmmihjhfmhkkaa
open Go.RowKit
open M

theorem l3_small (a b c d e f : Int) (w : World) :
    Calls Try.prog 11 #[.agg #[.int .i64 a, .int .i64 b, .int .i64 c, .int .i64 d, .int .i64 e, .int .i64 f]] w fun r w' => r = .returned (.agg #[.int .i64 (a / 17592186044416), .int .i64 (b / 35184372088832), .int .i64 (c / 70368744177664), .int .i64 (d / 17592186044416), .int .i64 (e / 274877906944), .int .i64 (f / 549755813888)]) ∧ Below w.heap.size w w' := by
  go_enter Try.func11, Try.ntmps11
  go_wp2
  refine bodyPost_ret (v := .agg #[.int .i64 (a / 17592186044416), .int .i64 (b / 35184372088832), .int .i64 (c / 70368744177664), .int .i64 (d / 17592186044416), .int .i64 (e / 274877906944), .int .i64 (f / 549755813888)]) (by simp [results, Try.results11, go_sem]) rfl ⟨rfl, ?_⟩
  repeat (first | exact Below.refl _ _ | refine Below.alloc ?_ (by first | (simp; done) | (simp; omega)) _)

set_option maxHeartbeats 1000000 in
theorem l3_same (a b c d e f a2 b2 c2 d2 e2 f2 x y : Int) (w : World) :
    Calls Try.prog 9 #[.agg #[.int .i64 a, .int .i64 b, .int .i64 c, .int .i64 d, .int .i64 e, .int .i64 f], .agg #[.int .i64 a2, .int .i64 b2, .int .i64 c2, .int .i64 d2, .int .i64 e2, .int .i64 f2], .agg #[.int .i64 x, .int .i64 y]] w fun r w' => r = .returned (.bool true) ∧ Below w.heap.size w w' := by
  go_enter Try.func9, Try.ntmps9
  go_wp2_with fail
  obtain ⟨W, hW⟩ : ∃ W, ((w.alloc (.cells #[.int .i64 a, .int .i64 b, .int .i64 c, .int .i64 d, .int .i64 e, .int .i64 f] 24)).alloc (.cells #[.int .i64 a2, .int .i64 b2, .int .i64 c2, .int .i64 d2, .int .i64 e2, .int .i64 f2] 24)).alloc (.cells #[.int .i64 x, .int .i64 y] 28) = W := ⟨_, rfl⟩
  have H0 : Has W w.heap.size (#[.int .i64 a, .int .i64 b, .int .i64 c, .int .i64 d, .int .i64 e, .int .i64 f]) 24 := by rw [← hW]; exact ((has_new rfl).alloc _).alloc _
  have H1 : Has W (w.heap.size + 1) (#[.int .i64 a2, .int .i64 b2, .int .i64 c2, .int .i64 d2, .int .i64 e2, .int .i64 f2]) 24 := by rw [← hW]; exact (has_new (by simp)).alloc _
  have H2 : Has W (w.heap.size + 1 + 1) (#[.int .i64 x, .int .i64 y]) 28 := by rw [← hW]; exact has_new (by simp)
  have HB : Below w.heap.size w W := by
    rw [← hW]
    repeat (first | exact Below.refl _ _ | refine Below.alloc ?_ (by first | (simp; done) | (simp; omega)) _)
  rw [hW]
  have r00 := Later.read H0 0 _ rfl
  have r01 := Later.read H0 1 _ rfl
  have r02 := Later.read H0 2 _ rfl
  have r03 := Later.read H0 3 _ rfl
  have r04 := Later.read H0 4 _ rfl
  have r05 := Later.read H0 5 _ rfl
  have r10 := Later.read H1 0 _ rfl
  have r11 := Later.read H1 1 _ rfl
  have r12 := Later.read H1 2 _ rfl
  have r13 := Later.read H1 3 _ rfl
  have r14 := Later.read H1 4 _ rfl
  have r15 := Later.read H1 5 _ rfl
  have r20 := Later.read H2 0 _ rfl
  have r21 := Later.read H2 1 _ rfl
  have HBe := Lib.hid HB
  clear H0 H1 H2 HB hW
  refine wp_region_class (C := fun w' => ∃ z : Later W, w' = z.to) (by kernel_rfl) (by kernel_rfl) ⟨⟨_, below_drew (Below.refl _ _)⟩, rfl⟩ ?_
  repeat (go_big_quiet_step (first | (go_at_call 12; exact Later.calls (m_apply _ _ _ _ _ _ _ _ _)) | (go_at_call 25; exact Later.calls (r3_apply _ _ _ _ _ _ _ _ _)) | (go_at_call 13; exact Later.calls (m_after _ _ _ _ _ _ _ _ _ _ _ _ _)) | (go_at_call 26; exact Later.calls (r3_after _ _ _ _ _ _ _ _ _ _ _ _ _)) | (go_at_call 27; exact Later.calls (m_width _ _ _ _ _ _ _)) | (go_at_call 28; exact Later.calls (r3_width _ _ _ _ _ _ _)) | (go_at_call 14; exact Later.calls (m_same _)) | (go_at_call 29; exact Later.calls (r3_same _))))
  refine wpQuiet_nil ?_
  rintro _ ⟨z, rfl⟩
  go_wp2
  go_ret
  exact ⟨rfl, HBe.out.trans (z.below.mono HBe.out.size)⟩

end Go.Proofs.Ytcmmihjhfmhkkaa
