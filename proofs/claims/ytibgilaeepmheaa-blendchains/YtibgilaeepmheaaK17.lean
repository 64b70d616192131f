/- Contract of mutoscopelaw17.known: true; of the memory nothing that was there turns. -/
import Derived.Test.YtibgilaeepmheaaBlM
import Derived.Test.YtibgilaeepmheaaBlO
import Derived.Test.YtibgilaeepmheaaEqX
namespace Go.Proofs.Ytibgilaeepmheaa
open Go Go.RowKit
open M

def kn17p : Cr := ⟨1, 2, 3, 4⟩
def kn17c : Cr := ⟨255, 0, 0, 255⟩
theorem kn17p_ok : kn17p.Ok := by constructor <;> decide
theorem kn17c_ok : kn17c.Ok := by constructor <;> decide
theorem kn17z_ok : zCr.Ok := by constructor <;> decide
theorem kn17_o : overB ⟨1, 2, 3, 4⟩ ⟨0, 0, 0, 0⟩ = ⟨1, 2, 3, 4⟩ := by decide +kernel
theorem kn17_c : ofB ⟨255, 0, 0, 255⟩ 255 16 = ⟨255, 0, 0, 255⟩ := by decide +kernel
theorem kn17_f : fadeB ⟨1, 2, 3, 4⟩ 0 = ⟨0, 0, 0, 0⟩ := by decide +kernel
theorem kn17_m : matteB ⟨1, 2, 3, 4⟩ ⟨0, 0, 0, 0⟩ 1 = ⟨0, 0, 0, 0⟩ := by decide +kernel
theorem same_below {P : Program} {f : FuncId} {args : Array Value} {w : World} {v : Value} (h : Calls P f args w fun e w' => e = .returned v ∧ w = w') : Calls P f args w fun e w' => e = .returned v ∧ Below w.heap.size w w' :=
  h.mono fun _ _ ⟨a, b⟩ => ⟨a, by rw [← b]; exact Below.refl _ _⟩

attribute [local go_sem] eq_pixel
set_option maxRecDepth 100000 in
set_option maxHeartbeats 4000000 in
theorem known17 (w : World) : Calls Try.prog 19 #[] w fun e w' => e = .returned (.bool true) ∧ Below w.heap.size w w' := by
  have C0 := Lib.hid (fun w => same_below (bl_strength 16 w))
  have C1 := Lib.hid (fun w => same_below (bl_by 255 255 w))
  have C2 := Lib.hid (fun w => bl_over kn17p zCr kn17p_ok kn17z_ok w)
  have C3 := Lib.hid (fun w => bl_of kn17c 255 16 kn17c_ok w)
  have C4 := Lib.hid (fun w => bl_fade kn17p 0 kn17p_ok w)
  have C5 := Lib.hid (fun w => bl_matte kn17p zCr 1 kn17p_ok kn17z_ok w)
  rw [show strB 16 = 255 from rfl] at C0
  rw [show byB 255 255 = 255 from rfl] at C1
  rw [show overB kn17p zCr = ⟨1, 2, 3, 4⟩ from kn17_o] at C2
  rw [show ofB kn17c 255 16 = ⟨255, 0, 0, 255⟩ from kn17_c] at C3
  rw [show fadeB kn17p 0 = ⟨0, 0, 0, 0⟩ from kn17_f] at C4
  rw [show matteB kn17p zCr 1 = ⟨0, 0, 0, 0⟩ from kn17_m] at C5
  obtain ⟨B, hB⟩ : ∃ B, w.heap.size = B := ⟨_, rfl⟩
  obtain ⟨W, hW⟩ : ∃ W, w.alloc (.cells #[.int .u8 1, .int .u8 2, .int .u8 3, .int .u8 4] 25) = W := ⟨_, rfl⟩
  have HA : Hid (Has W B #[.int .u8 1, .int .u8 2, .int .u8 3, .int .u8 4] 25) := Lib.hid (by rw [← hW]; exact has_new hB)
  have HB : Hid (Below w.heap.size w W) := Lib.hid (by rw [← hW]; exact (Below.refl _ _).alloc (Nat.le_refl _) _)
  have HW := Lib.hid hW
  clear hW
  go_enter Try.func19, Try.ntmps19
  go_upto_region 2 with fail
  rw [HW.out]
  clear hB
  have e0 := Later.read HA.out 0 _ rfl
  have e1 := Later.read HA.out 1 _ rfl
  have e2 := Later.read HA.out 2 _ rfl
  have e3 := Later.read HA.out 3 _ rfl
  refine wp_region_class (C := fun w' => ∃ z : Later W, w' = z.to) (by kernel_rfl) (by kernel_rfl) ⟨⟨_, below_drew (Below.refl _ _)⟩, rfl⟩ ?_
  repeat (go_big_quiet_step (first | (go_at_call 9; exact Later.calls (C0.out _)) | (go_at_call 7; exact Later.calls (C1.out _)) | (go_at_call 11; exact Later.calls (C2.out _)) | (go_at_call 15; exact Later.calls (C3.out _)) | (go_at_call 13; exact Later.calls (C4.out _)) | (go_at_call 17; exact Later.calls (C5.out _))))
  refine wpQuiet_nil ?_
  rintro _ ⟨z, rfl⟩
  go_wp2
  go_ret
  exact ⟨rfl, HB.out.trans (z.below.mono HB.out.size)⟩

end Go.Proofs.Ytibgilaeepmheaa
