/- Contracts of blend.Fade and of mutoscoperef15.Fade: for all pixels and shares what the plain arithmetic says; two new blocks. Condition: the pixel's parts are bytes. -/
import Derived.Test.YtibgilaeepmheaaBlA
import Derived.Test.YtibgilaeepmheaaQt
namespace Go.Proofs.Ytibgilaeepmheaa
open Go Go.RowKit
open M

attribute [local go_sem] alloc_drewN setCell_drewN shape_drewN

/-- Of c the first n parts, of x the rest. -/
def parts (x c : Cr) : Nat → Array Value
  | 0 => cCells x
  | 1 => #[.int .u8 c.r, .int .u8 x.g, .int .u8 x.b, .int .u8 x.q]
  | 2 => #[.int .u8 c.r, .int .u8 c.g, .int .u8 x.b, .int .u8 x.q]
  | 3 => #[.int .u8 c.r, .int .u8 c.g, .int .u8 c.b, .int .u8 x.q]
  | _ => cCells c
def zCr : Cr := ⟨0, 0, 0, 0⟩
def fading (w : World) (x c : Cr) (n : Nat) : World := (w.alloc (.cells (parts x c n) 25)).alloc (.cells (cCells zCr) 25)
theorem fading_at (w : World) (x c : Cr) (n : Nat) : fading w x c n = (w.alloc (.cells (parts x c n) 25)).alloc (.cells (cCells zCr) 25) := rfl
theorem faded_below (w : World) (o1 o2 : Obj) : Below w.heap.size w ((w.alloc o1).alloc o2) := ((Below.refl _ _).alloc (Nat.le_refl _) _).alloc (by simp) _

set_option maxHeartbeats 1000000 in
theorem bl_fade (x : Cr) (k : Int) (hx : x.Ok) (w : World) :
    Calls Try.prog 13 #[.agg (cCells x), .int .i64 k] w fun e w' => e = .returned (.agg (cCells (fadeB x k))) ∧ Below w.heap.size w w' := by
  have hc := fadeB_ok x k
  have B0 := Lib.hid (fun w => bl_by x.r k w)
  have B1 := Lib.hid (fun w => bl_by x.g k w)
  have B2 := Lib.hid (fun w => bl_by x.b k w)
  have B3 := Lib.hid (fun w => bl_by x.q k w)
  obtain ⟨c, h⟩ : ∃ c, fadeB x k = c := ⟨_, rfl⟩
  rw [show byB x.r k = c.r by rw [← h]; rfl] at B0
  rw [show byB x.g k = c.g by rw [← h]; rfl] at B1
  rw [show byB x.b k = c.b by rw [← h]; rfl] at B2
  rw [show byB x.q k = c.q by rw [← h]; rfl] at B3
  rw [h] at hc ⊢
  clear h
  obtain ⟨xr, xg, xb, xq⟩ := x
  obtain ⟨cr, cg, cb, cq⟩ := c
  obtain ⟨r0, r1, g0, g1, b0, b1, q0, q1⟩ := hx
  obtain ⟨s0, s1, t0, t1, u0, u1, v0, v1⟩ := hc
  simp only at r0 r1 g0 g1 b0 b1 q0 q1 s0 s1 t0 t1 u0 u1 v0 v1 B0 B1 B2 B3
  have i0 : ∀ w : World, (Instr.index 25 (.agg #[.int .u8 xr, .int .u8 xg, .int .u8 xb, .int .u8 xq]) (.int .i64 0)).run Try.prog w = .ok (.int .u8 xr) w := fun _ => by kernel_rfl
  have i1 : ∀ w : World, (Instr.index 25 (.agg #[.int .u8 xr, .int .u8 xg, .int .u8 xb, .int .u8 xq]) (.int .i64 1)).run Try.prog w = .ok (.int .u8 xg) w := fun _ => by kernel_rfl
  have i2 : ∀ w : World, (Instr.index 25 (.agg #[.int .u8 xr, .int .u8 xg, .int .u8 xb, .int .u8 xq]) (.int .i64 2)).run Try.prog w = .ok (.int .u8 xb) w := fun _ => by kernel_rfl
  have i3 : ∀ w : World, (Instr.index 25 (.agg #[.int .u8 xr, .int .u8 xg, .int .u8 xb, .int .u8 xq]) (.int .i64 3)).run Try.prog w = .ok (.int .u8 xq) w := fun _ => by kernel_rfl
  go_enter Try.func13, Try.ntmps13
  go_wp2
  go_loopw [8] (fun i wr => ∃ n : Nat, n ≤ 4 ∧ i = .int .i64 n ∧ wr = fading w ⟨xr, xg, xb, xq⟩ ⟨cr, cg, cb, cq⟩ n) (fun i _ => 4 - (intOf i).toNat)
  case atStart => exact ⟨0, by omega, rfl, rfl⟩
  case round =>
    obtain ⟨n, hn, rfl, rfl⟩ := hrel
    rcases (show n = 0 ∨ n = 1 ∨ n = 2 ∨ n = 3 ∨ n = 4 by omega) with rfl | rfl | rfl | rfl | rfl
    · rw [fading_at]
      simp only [parts]
      go_wp2_with (go_at_call 7; refine (B0.out _).mono ?_; rintro e w' ⟨rfl, rfl⟩)
      go_roundw
      case rel => exact ⟨1, by omega, rfl, rfl⟩
      case measure => simp [intOf]
    · rw [fading_at]
      simp only [parts]
      go_wp2_with (go_at_call 7; refine (B1.out _).mono ?_; rintro e w' ⟨rfl, rfl⟩)
      go_roundw
      case rel => exact ⟨2, by omega, rfl, rfl⟩
      case measure => simp [intOf]
    · rw [fading_at]
      simp only [parts]
      go_wp2_with (go_at_call 7; refine (B2.out _).mono ?_; rintro e w' ⟨rfl, rfl⟩)
      go_roundw
      case rel => exact ⟨3, by omega, rfl, rfl⟩
      case measure => simp [intOf]
    · rw [fading_at]
      simp only [parts]
      go_wp2_with (go_at_call 7; refine (B3.out _).mono ?_; rintro e w' ⟨rfl, rfl⟩)
      go_roundw
      case rel => exact ⟨4, by omega, rfl, rfl⟩
      case measure => simp [intOf]
    · rw [fading_at]
      simp only [parts]
      go_wp2
      refine bodyPost_ret (v := .agg (cCells ⟨cr, cg, cb, cq⟩)) (by simp [results, Try.results13, go_sem]) rfl ⟨rfl, ?_⟩
      exact faded_below _ _ _

set_option maxHeartbeats 1000000 in
theorem rb_fade (x : Cr) (k : Int) (hx : x.Ok) (w : World) :
    Calls Try.prog 14 #[.agg (cCells x), .int .i64 k] w fun e w' => e = .returned (.agg (cCells (fadeB x k))) ∧ Below w.heap.size w w' := by
  have hc := fadeB_ok x k
  have B0 := Lib.hid (fun w => rb_by x.r k w)
  have B1 := Lib.hid (fun w => rb_by x.g k w)
  have B2 := Lib.hid (fun w => rb_by x.b k w)
  have B3 := Lib.hid (fun w => rb_by x.q k w)
  obtain ⟨c, h⟩ : ∃ c, fadeB x k = c := ⟨_, rfl⟩
  rw [show byB x.r k = c.r by rw [← h]; rfl] at B0
  rw [show byB x.g k = c.g by rw [← h]; rfl] at B1
  rw [show byB x.b k = c.b by rw [← h]; rfl] at B2
  rw [show byB x.q k = c.q by rw [← h]; rfl] at B3
  rw [h] at hc ⊢
  clear h
  obtain ⟨xr, xg, xb, xq⟩ := x
  obtain ⟨cr, cg, cb, cq⟩ := c
  obtain ⟨r0, r1, g0, g1, b0, b1, q0, q1⟩ := hx
  obtain ⟨s0, s1, t0, t1, u0, u1, v0, v1⟩ := hc
  simp only at r0 r1 g0 g1 b0 b1 q0 q1 s0 s1 t0 t1 u0 u1 v0 v1 B0 B1 B2 B3
  go_enter Try.func14, Try.ntmps14
  go_wp2
  go_loopw [5] (fun i wr => ∃ n : Nat, n ≤ 4 ∧ i = .int .i64 n ∧ wr = fading w ⟨xr, xg, xb, xq⟩ ⟨cr, cg, cb, cq⟩ n) (fun i _ => 4 - (intOf i).toNat)
  case atStart => exact ⟨0, by omega, rfl, rfl⟩
  case round =>
    obtain ⟨n, hn, rfl, rfl⟩ := hrel
    rcases (show n = 0 ∨ n = 1 ∨ n = 2 ∨ n = 3 ∨ n = 4 by omega) with rfl | rfl | rfl | rfl | rfl
    · rw [fading_at]
      simp only [parts]
      go_wp2_with (go_at_call 8; refine (B0.out _).mono ?_; rintro e w' ⟨rfl, rfl⟩)
      go_roundw
      case rel => exact ⟨1, by omega, rfl, rfl⟩
      case measure => simp [intOf]
    · rw [fading_at]
      simp only [parts]
      go_wp2_with (go_at_call 8; refine (B1.out _).mono ?_; rintro e w' ⟨rfl, rfl⟩)
      go_roundw
      case rel => exact ⟨2, by omega, rfl, rfl⟩
      case measure => simp [intOf]
    · rw [fading_at]
      simp only [parts]
      go_wp2_with (go_at_call 8; refine (B2.out _).mono ?_; rintro e w' ⟨rfl, rfl⟩)
      go_roundw
      case rel => exact ⟨3, by omega, rfl, rfl⟩
      case measure => simp [intOf]
    · rw [fading_at]
      simp only [parts]
      go_wp2_with (go_at_call 8; refine (B3.out _).mono ?_; rintro e w' ⟨rfl, rfl⟩)
      go_roundw
      case rel => exact ⟨4, by omega, rfl, rfl⟩
      case measure => simp [intOf]
    · rw [fading_at]
      simp only [parts]
      go_wp2
      refine bodyPost_ret (v := .agg (cCells ⟨cr, cg, cb, cq⟩)) (by simp [results, Try.results14, go_sem]) rfl ⟨rfl, ?_⟩
      exact faded_below _ _ _

end Go.Proofs.Ytibgilaeepmheaa
