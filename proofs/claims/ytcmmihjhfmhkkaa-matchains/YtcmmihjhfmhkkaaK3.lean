/- Contract of mutoscopelaw3.known: it returns true; of the memory nothing that was there turns. -/
import Derived.Test.YtcmmihjhfmhkkaaMA3
import Derived.Test.YtcmmihjhfmhkkaaMD3
namespace Go.Proofs.Ytcmmihjhfmhkkaa
open Go.RowKit
open M

theorem k3_made (w : World) :
    Calls Try.prog 7 #[.int .i64 327680, .int .i64 0, .int .i64 0, .int .i64 0, .int .i64 131072, .int .i64 65536, .int .i64 0] w fun r w' => r = .returned (.agg #[.int .i64 131072, .int .i64 0, .int .i64 0, .int .i64 65536, .int .i64 327680, .int .i64 0]) ∧ Below w.heap.size w w' := by
  have h := m_made 327680 0 0 0 131072 65536 0 w
  rw [show mul (cos 0) 131072 = 131072 by decide, show mul (sin 0) 131072 = 0 by decide, show mul (-sin 0) 65536 = 0 by decide, show mul (cos 0) 65536 = 65536 by decide, show add 327680 (-add (mul 131072 0) (mul 0 0)) = 327680 by decide, show add 0 (-add (mul 0 0) (mul 65536 0)) = 0 by decide] at h
  exact h

theorem k3_width : hyp 65536 0 = 65536 := by
  unfold hyp; rw [wide_in (by decide) (by decide), wide_in (by decide) (by decide), isq_eq (r := 65536) (by decide) (by decide)]; rfl

set_option maxHeartbeats 1000000 in
theorem known3 (w : World) :
    Calls Try.prog 10 #[] w fun r w' => r = .returned (.bool true) ∧ Below w.heap.size w w' := by
  have a1 : place (add (add (mul 65536 3) (mul 0 (-4))) 0) = 3 := by decide
  have a2 : place (add (add (mul 0 3) (mul 65536 (-4))) 0) = -4 := by decide
  have a3 : place (add (add (mul 131072 65536) (mul 0 0)) 327680) = 458752 := by decide
  have a4 : place (add (add (mul 0 65536) (mul 65536 0)) 0) = 0 := by decide
  have b0 := k3_width
  have b1 : add (mul 65536 131072) (mul 0 0) = 131072 := by decide
  have b2 : add (mul 0 131072) (mul 65536 0) = 0 := by decide
  have b3 : add (mul 65536 0) (mul 0 65536) = 0 := by decide
  have b4 : add (mul 0 0) (mul 65536 65536) = 65536 := by decide
  have b5 : add (add (mul 65536 327680) (mul 0 0)) 0 = 327680 := by decide
  have b6 : add (add (mul 0 327680) (mul 65536 0)) 0 = 0 := by decide
  go_enter Try.func10, Try.ntmps10
  go_wp2_with fail
  refine (k3_made _).mono ?_
  rintro e w' ⟨rfl, hb⟩
  have HBe := Lib.hid hb
  clear hb
  go_wp2_with fail
  obtain ⟨W, hW⟩ : ∃ W, w'.alloc (.cells #[.int .i64 131072, .int .i64 0, .int .i64 0, .int .i64 65536, .int .i64 327680, .int .i64 0] 24) = W := ⟨_, rfl⟩
  have H0 : Has W w'.heap.size #[.int .i64 131072, .int .i64 0, .int .i64 0, .int .i64 65536, .int .i64 327680, .int .i64 0] 24 := by rw [← hW]; exact has_new rfl
  have HB : Below w.heap.size w W := by rw [← hW]; exact HBe.out.alloc HBe.out.size _
  rw [hW]
  have r0 := Later.read H0 0 _ rfl
  have r1 := Later.read H0 1 _ rfl
  have r2 := Later.read H0 2 _ rfl
  have r3 := Later.read H0 3 _ rfl
  have r4 := Later.read H0 4 _ rfl
  have r5 := Later.read H0 5 _ rfl
  have HC := Lib.hid HB
  clear H0 HB hW
  refine wp_region_class (C := fun w' => ∃ z : Later W, w' = z.to) (by kernel_rfl) (by kernel_rfl) ⟨⟨_, below_drew (Below.refl _ _)⟩, rfl⟩ ?_
  repeat (go_big_quiet_step (first | (go_at_call 12; exact Later.calls (m_apply _ _ _ _ _ _ _ _ _)) | (go_at_call 13; exact Later.calls (m_after _ _ _ _ _ _ _ _ _ _ _ _ _)) | (go_at_call 27; exact Later.calls (m_width _ _ _ _ _ _ _)) | (go_at_call 14; exact Later.calls (m_same _))))
  refine wpQuiet_nil ?_
  rintro _ ⟨z, rfl⟩
  go_wp2
  go_ret
  exact ⟨rfl, HC.out.trans (z.below.mono HC.out.size)⟩

end Go.Proofs.Ytcmmihjhfmhkkaa
