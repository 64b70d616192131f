/- The walk of mutoscopelaw3.MatTells: for all numbers it returns true; of the memory nothing that was there turns. -/
import Derived.Test.YtcmmihjhfmhkkaaS3
import Derived.Test.YtcmmihjhfmhkkaaK3
namespace Go.Proofs.Ytcmmihjhfmhkkaa
open Go.RowKit
open M

set_option maxHeartbeats 2000000 in
theorem matTells_walk (a b c d e f a2 b2 c2 d2 e2 f2 px py x y ax ay sx sy t : Int) (_ : (Lit.int .i64 a).wf = true) (_ : (Lit.int .i64 b).wf = true) (_ : (Lit.int .i64 c).wf = true) (_ : (Lit.int .i64 d).wf = true) (_ : (Lit.int .i64 e).wf = true) (_ : (Lit.int .i64 f).wf = true) (_ : (Lit.int .i64 a2).wf = true) (_ : (Lit.int .i64 b2).wf = true) (_ : (Lit.int .i64 c2).wf = true) (_ : (Lit.int .i64 d2).wf = true) (_ : (Lit.int .i64 e2).wf = true) (_ : (Lit.int .i64 f2).wf = true) (_ : (Lit.int .i64 px).wf = true) (_ : (Lit.int .i64 py).wf = true) (_ : (Lit.int .i64 x).wf = true) (_ : (Lit.int .i64 y).wf = true) (_ : (Lit.int .i64 ax).wf = true) (_ : (Lit.int .i64 ay).wf = true) (_ : (Lit.int .i64 sx).wf = true) (_ : (Lit.int .i64 sy).wf = true) (_ : (Lit.int .i64 t).wf = true) (w : World) :
    Calls Try.prog 4 #[.agg #[.int .i64 a, .int .i64 b, .int .i64 c, .int .i64 d, .int .i64 e, .int .i64 f], .agg #[.int .i64 a2, .int .i64 b2, .int .i64 c2, .int .i64 d2, .int .i64 e2, .int .i64 f2], .agg #[.int .i64 px, .int .i64 py], .int .i64 x, .int .i64 y, .int .i64 ax, .int .i64 ay, .int .i64 sx, .int .i64 sy, .int .i64 t] w fun r w' => r = .returned (.bool true) ∧ Below w.heap.size w w' := by
  go_enter Try.func4, Try.ntmps4
  go_wp2_with fail
  obtain ⟨W, hW⟩ : ∃ W, ((w.alloc (.cells #[.int .i64 a, .int .i64 b, .int .i64 c, .int .i64 d, .int .i64 e, .int .i64 f] 24)).alloc (.cells #[.int .i64 a2, .int .i64 b2, .int .i64 c2, .int .i64 d2, .int .i64 e2, .int .i64 f2] 24)).alloc (.cells #[.int .i64 px, .int .i64 py] 28) = W := ⟨_, rfl⟩
  have H0 : Has W w.heap.size (#[.int .i64 a, .int .i64 b, .int .i64 c, .int .i64 d, .int .i64 e, .int .i64 f]) 24 := by rw [← hW]; exact ((has_new rfl).alloc _).alloc _
  have H1 : Has W (w.heap.size + 1) (#[.int .i64 a2, .int .i64 b2, .int .i64 c2, .int .i64 d2, .int .i64 e2, .int .i64 f2]) 24 := by rw [← hW]; exact (has_new (by simp)).alloc _
  have H2 : Has W (w.heap.size + 1 + 1) (#[.int .i64 px, .int .i64 py]) 28 := by rw [← hW]; exact has_new (by simp)
  have HB : Below w.heap.size w W := by
    rw [← hW]
    repeat (first | exact Below.refl _ _ | refine Below.alloc ?_ (by first | (simp; done) | (simp; omega)) _)
  rw [hW]
  have r00 := Later.read H0 0 _ rfl
  have r01 := Later.read H0 1 _ rfl
  have r02 := Later.read H0 2 _ rfl
  have r03 := Later.read H0 3 _ rfl
  have r04 := Later.read H0 4 _ rfl
  have r05 := Later.read H0 5 _ rfl
  have r10 := Later.read H1 0 _ rfl
  have r11 := Later.read H1 1 _ rfl
  have r12 := Later.read H1 2 _ rfl
  have r13 := Later.read H1 3 _ rfl
  have r14 := Later.read H1 4 _ rfl
  have r15 := Later.read H1 5 _ rfl
  have r20 := Later.read H2 0 _ rfl
  have r21 := Later.read H2 1 _ rfl
  have HBe := Lib.hid HB
  clear H0 H1 H2 HB hW
  refine wp_region_class (C := fun w' => ∃ z : Later W, w' = z.to) (by kernel_rfl) (by kernel_rfl) ⟨⟨_, below_drew (Below.refl _ _)⟩, rfl⟩ ?_
  simp only [List.append_eq, List.cons_append, List.nil_append]
  repeat (go_big_quiet_step (first | (go_at_call 9; exact Later.calls (l3_same _ _ _ _ _ _ _ _ _ _ _ _ _ _ _)) | (go_at_call 11; exact Later.calls (l3_small _ _ _ _ _ _ _)) | (go_at_call 7; exact Later.calls (m_made _ _ _ _ _ _ _ _)) | (go_at_call 8; exact Later.calls (r3_made _ _ _ _ _ _ _ _)) | (go_at_call 10; exact Later.calls (known3 _))))
  refine wpQuiet_nil ?_
  rintro _ ⟨z, rfl⟩
  go_wp2
  go_ret
  exact ⟨rfl, HBe.out.trans (z.below.mono HBe.out.size)⟩

end Go.Proofs.Ytcmmihjhfmhkkaa
