/- Contract of mutoscopelaw16.known: true; of the memory nothing that was there turns. -/
import Derived.Test.YtafaafaclijfiaaCpW
import Derived.Test.YtafaafaclijfiaaEqP
namespace Go.Proofs.Ytafaafaclijfiaa
open Go Go.RowKit
open M

def kn16a : Cr := ⟨1, 2, 3, 4⟩
def kn16b : Cr := ⟨9, 9, 9, 9⟩
theorem kn16_0 : colF ⟨0, ⟨1, 2, 3, 4⟩, ⟨9, 9, 9, 9⟩, ⟨0, 0⟩, ⟨0, 0⟩, 0⟩ 5 5 = ⟨1, 2, 3, 4⟩ := by decide +kernel
theorem kn16_2 : colF ⟨2, ⟨1, 2, 3, 4⟩, ⟨9, 9, 9, 9⟩, ⟨0, 0⟩, ⟨0, 0⟩, 0⟩ 5 5 = ⟨9, 9, 9, 9⟩ := by decide +kernel
theorem kn16_1 : colF ⟨1, ⟨1, 2, 3, 4⟩, ⟨9, 9, 9, 9⟩, ⟨0, 0⟩, ⟨0, 0⟩, 0⟩ 5 5 = ⟨1, 2, 3, 4⟩ := by decide +kernel
theorem kn16_r : rightP ⟨0, ⟨0, 0, 0, 0⟩, ⟨0, 0, 0, 0⟩, ⟨0, 0⟩, ⟨0, 0⟩, 0⟩ = true := by decide +kernel
theorem kn16_n : rightP ⟨3, ⟨0, 0, 0, 0⟩, ⟨0, 0, 0, 0⟩, ⟨0, 0⟩, ⟨0, 0⟩, 0⟩ = false := by decide +kernel
theorem kn16a_ok : kn16a.Ok := by constructor <;> decide
theorem kn16b_ok : kn16b.Ok := by constructor <;> decide
theorem kn16_ok (k : Int) : PaOk ⟨k, ⟨1, 2, 3, 4⟩, ⟨9, 9, 9, 9⟩, ⟨0, 0⟩, ⟨0, 0⟩, 0⟩ := ⟨kn16a_ok, kn16b_ok⟩

attribute [local go_sem] eq_color
set_option maxRecDepth 100000 in
set_option maxHeartbeats 4000000 in
theorem known16 (w : World) : Calls Try.prog 8 #[] w fun e w' => e = .returned (.bool true) ∧ Below w.heap.size w w' := by
  have C0 := Lib.hid (fun w => p_atP _ 5 5 (kn16_ok 0) w)
  have C1 := Lib.hid (fun w => p_atP _ 5 5 (kn16_ok 1) w)
  have C2 := Lib.hid (fun w => p_atP _ 5 5 (kn16_ok 2) w)
  have R0 := Lib.hid (fun w => p_rightP ⟨0, ⟨0, 0, 0, 0⟩, ⟨0, 0, 0, 0⟩, ⟨0, 0⟩, ⟨0, 0⟩, 0⟩ w)
  have R3 := Lib.hid (fun w => p_rightP ⟨3, ⟨0, 0, 0, 0⟩, ⟨0, 0, 0, 0⟩, ⟨0, 0⟩, ⟨0, 0⟩, 0⟩ w)
  rw [kn16_0] at C0
  rw [kn16_1] at C1
  rw [kn16_2] at C2
  rw [kn16_r] at R0
  rw [kn16_n] at R3
  obtain ⟨B, hB⟩ : ∃ B, w.heap.size = B := ⟨_, rfl⟩
  obtain ⟨W, hW⟩ : ∃ W, (w.alloc (.cells #[.int .u8 1, .int .u8 2, .int .u8 3, .int .u8 4] 23)).alloc (.cells #[.int .u8 9, .int .u8 9, .int .u8 9, .int .u8 9] 23) = W := ⟨_, rfl⟩
  have ha : Has W B #[.int .u8 1, .int .u8 2, .int .u8 3, .int .u8 4] 23 := by rw [← hW]; exact (has_new hB).alloc _
  have hm : Has W (B + 1) #[.int .u8 9, .int .u8 9, .int .u8 9, .int .u8 9] 23 := by rw [← hW]; exact has_new (by simp [hB])
  have hb : Below w.heap.size w W := by rw [← hW]; exact ((Below.refl _ _).alloc (Nat.le_refl _) _).alloc (by simp) _
  have HW := Lib.hid hW
  have HA := Lib.hid ha
  have HM := Lib.hid hm
  have HB := Lib.hid hb
  clear hW ha hm hb
  go_enter Try.func8, Try.ntmps8
  go_upto_region 2 with fail
  rw [HW.out]
  clear hB
  have e0 := Later.read HA.out 0 _ rfl
  have e1 := Later.read HA.out 1 _ rfl
  have e2 := Later.read HA.out 2 _ rfl
  have e3 := Later.read HA.out 3 _ rfl
  have d0 := Later.read HM.out 0 _ rfl
  have d1 := Later.read HM.out 1 _ rfl
  have d2 := Later.read HM.out 2 _ rfl
  have d3 := Later.read HM.out 3 _ rfl
  refine wp_region_class (C := fun w' => ∃ z : Later W, w' = z.to) (by kernel_rfl) (by kernel_rfl) ⟨⟨_, below_drew (Below.refl _ _)⟩, rfl⟩ ?_
  repeat (go_big_quiet_step (first | (go_at_call_of 11 (Value.int .i64 2); exact Later.calls (C2.out _)) | (go_at_call_of 11 (Value.int .i64 1); exact Later.calls (C1.out _)) | (go_at_call 11; exact Later.calls (C0.out _)) | (go_at_call_of 12 (Value.int .i64 3); exact Later.calls (R3.out _)) | (go_at_call 12; exact Later.calls (R0.out _))))
  refine wpQuiet_nil ?_
  rintro _ ⟨z, rfl⟩
  go_wp2
  go_ret
  exact ⟨rfl, HB.out.trans (z.below.mono HB.out.size)⟩

end Go.Proofs.Ytafaafaclijfiaa
