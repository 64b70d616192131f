/- Contracts of hue.held, .mixPart, .Mix, .Luma: for all colours and shares what the plain arithmetic says; of the memory nothing that was there turns. Condition: the colours' parts are bytes. -/
import Derived.Test.YtafaafaclijfiaaHMath
import Derived.Test.YtafaafaclijfiaaK4
import Derived.Test.YtafaafaclijfiaaQt
namespace Go.Proofs.Ytafaafaclijfiaa
open Go.RowKit
open M

attribute [local go_sem] alloc_drewN setCell_drewN shape_drewN

/-- A colour's cells. -/
abbrev cCells (c : Cr) : Array Value := #[.int .u8 c.r, .int .u8 c.g, .int .u8 c.b, .int .u8 c.q]

theorem h_held (a lo hi : Int) (w : World) :
    Calls Try.prog 48 #[.int .i64 a, .int .i64 lo, .int .i64 hi] w fun e w' => e = .returned (.int .i64 (clamp a lo hi)) ∧ w = w' := by
  rcases clamp_cases a lo hi with ⟨h1, h⟩ | ⟨h1, h2, h⟩ | ⟨h1, h2, h⟩
  all_goals
    rw [h]; clear h
    go_enter Try.func48, Try.ntmps48
    go_wp2
    go_ret
    exact ⟨rfl, rfl⟩

theorem h_mixPart (a b p : Int) (w : World) (a0 : 0 ≤ a) (a1 : a ≤ 255) (b0 : 0 ≤ b) (b1 : b ≤ 255) (p0 : -1099511627776 ≤ p) (p1 : p ≤ 1099511627776) :
    Calls Try.prog 49 #[.int .u8 a, .int .u8 b, .int .i64 p] w fun e w' => e = .returned (.int .u8 (mixh a b p)) ∧ w = w' := by
  obtain ⟨q0, q1⟩ := prod_bound (x := b - a) (y := p) (b := 255) (c := 1099511627776) (by omega) (by omega) (by omega) (by omega)
  obtain ⟨c0, c1⟩ := mixh_bd a b p
  unfold mixh at c0 c1 ⊢
  obtain ⟨Q, hQ⟩ : ∃ Q, (b - a) * p = Q := ⟨_, rfl⟩
  rw [hQ] at q0 q1 c0 c1 ⊢
  obtain ⟨C, hC⟩ : ∃ C, clamp (a + Q / 65536) 0 255 = C := ⟨_, rfl⟩
  rw [hC] at c0 c1 ⊢
  have HC := Lib.hid hC
  clear hC
  go_enter Try.func49, Try.ntmps49
  go_wp2_with (first | (go_at_call 48; refine (h_held _ _ _ _).mono ?_; rintro e w' ⟨rfl, rfl⟩; rw [HC.out]))
  go_ret
  exact ⟨rfl, rfl⟩

theorem quiet2 {P : Program} {f : FuncId} {args : Array Value} {w : World} {m n : Nat} {v : Value} (h : Calls P f args (w.drewN (m + n)) fun e w' => e = .returned v ∧ w.drewN (m + n) = w') :
    Calls P f args (w.drewN (m + n)) fun e w'' => e = .returned v ∧ ∃ k, w'' = w.drewN (m + k) := h.mono fun _ _ ⟨a, b⟩ => ⟨a, n, b.symm⟩
/-- The first n parts mixed. -/
def upto (c : Cr) : Nat → Array Value
  | 0 => #[.int .u8 0, .int .u8 0, .int .u8 0, .int .u8 0]
  | 1 => #[.int .u8 c.r, .int .u8 0, .int .u8 0, .int .u8 0]
  | 2 => #[.int .u8 c.r, .int .u8 c.g, .int .u8 0, .int .u8 0]
  | 3 => #[.int .u8 c.r, .int .u8 c.g, .int .u8 c.b, .int .u8 0]
  | _ => #[.int .u8 c.r, .int .u8 c.g, .int .u8 c.b, .int .u8 c.q]
/-- Mix's world behind n rounds. -/
def mixing (w : World) (x y c : Cr) (n : Nat) : World :=
  (((w.alloc (.cells (cCells x) 23)).alloc (.cells (cCells y) 23)).alloc (.cells #[.int .u8 0, .int .u8 0, .int .u8 0, .int .u8 0] 23)).alloc (.cells (upto c n) 23)
theorem mixing_at (w : World) (x y c : Cr) (n : Nat) : mixing w x y c n = (((w.alloc (.cells (cCells x) 23)).alloc (.cells (cCells y) 23)).alloc (.cells #[.int .u8 0, .int .u8 0, .int .u8 0, .int .u8 0] 23)).alloc (.cells (upto c n) 23) := rfl
theorem mixed_below (w : World) (o1 o2 o3 o4 : Obj) (m : Nat) : Below w.heap.size w (((((w.alloc o1).alloc o2).alloc o3).alloc o4).drewN m) :=
  below_drewN (((((Below.refl _ _).alloc (Nat.le_refl _) _).alloc (by simp) _).alloc (by simp; omega) _).alloc (by simp; omega) _) _

set_option maxHeartbeats 1000000 in
theorem h_mix (x y : Cr) (p : Int) (w : World) (hx : x.Ok) (hy : y.Ok) :
    Calls Try.prog 26 #[.agg (cCells x), .agg (cCells y), .int .i64 p] w fun e w' => e = .returned (.agg (cCells (mix x y p))) ∧ Below w.heap.size w w' := by
  obtain ⟨c, hc⟩ : ∃ c, mix x y p = c := ⟨_, rfl⟩
  rw [hc]
  have p0 := hold_lo p
  have p1 := hold_hi p
  have hr : mixh x.r y.r (hold p) = c.r := by rw [← hc]; rfl
  have hg : mixh x.g y.g (hold p) = c.g := by rw [← hc]; rfl
  have hb : mixh x.b y.b (hold p) = c.b := by rw [← hc]; rfl
  have hq : mixh x.q y.q (hold p) = c.q := by rw [← hc]; rfl
  obtain ⟨P, hP⟩ : ∃ P, hold p = P := ⟨_, rfl⟩
  rw [hP] at hr hg hb hq p0 p1
  have HP : Hid (clamp p (-1099511627776) 1099511627776 = P) := Lib.hid hP
  have M0 := Lib.hid (fun w => hr ▸ h_mixPart x.r y.r P w hx.r0 hx.r1 hy.r0 hy.r1 p0 p1)
  have M1 := Lib.hid (fun w => hg ▸ h_mixPart x.g y.g P w hx.g0 hx.g1 hy.g0 hy.g1 p0 p1)
  have M2 := Lib.hid (fun w => hb ▸ h_mixPart x.b y.b P w hx.b0 hx.b1 hy.b0 hy.b1 p0 p1)
  have M3 := Lib.hid (fun w => hq ▸ h_mixPart x.q y.q P w hx.q0 hx.q1 hy.q0 hy.q1 p0 p1)
  clear hr hg hb hq hP hc hx hy p0 p1
  obtain ⟨xr, xg, xb, xq⟩ := x
  obtain ⟨yr, yg, yb, yq⟩ := y
  obtain ⟨cr, cg, cb, cq⟩ := c
  go_enter Try.func26, Try.ntmps26
  go_wp2_with (first | (go_at_call 48; refine (h_held _ _ _ _).mono ?_; rintro e w' ⟨rfl, rfl⟩; rw [HP.out]))
  go_loopw [8, 11] (fun _ i wr => ∃ n : Nat, n ≤ 4 ∧ i = .int .i64 n ∧ ∃ m, wr = (mixing w ⟨xr, xg, xb, xq⟩ ⟨yr, yg, yb, yq⟩ ⟨cr, cg, cb, cq⟩ n).drewN m) (fun _ i _ => 4 - (intOf i).toNat)
  case atStart => exact ⟨0, by omega, rfl, 0, rfl⟩
  case round =>
    obtain ⟨n, hn, rfl, m, rfl⟩ := hrel
    rcases (show n = 0 ∨ n = 1 ∨ n = 2 ∨ n = 3 ∨ n = 4 by omega) with rfl | rfl | rfl | rfl | rfl
    · rw [mixing_at]
      simp only [upto]
      go_wp2
      refine wp_region_draws_tail 10 (by kernel_rfl) (by kernel_rfl) (by kernel_rfl) (by kernel_rfl) ?_
      simp only [List.take_succ_cons, List.take_zero, List.drop_succ_cons, List.drop_zero]
      repeat (go_big_quiet_step (first | (go_at_call 49; exact quiet2 (M0.out _))))
      refine wpQuiet_nil ?_
      rintro _ ⟨nq, rfl⟩
      go_wp2
      go_roundw
      case rel => exact ⟨1, by omega, rfl, _, rfl⟩
      case measure => simp [intOf]
    · rw [mixing_at]
      simp only [upto]
      go_wp2
      refine wp_region_draws_tail 10 (by kernel_rfl) (by kernel_rfl) (by kernel_rfl) (by kernel_rfl) ?_
      simp only [List.take_succ_cons, List.take_zero, List.drop_succ_cons, List.drop_zero]
      repeat (go_big_quiet_step (first | (go_at_call 49; exact quiet2 (M1.out _))))
      refine wpQuiet_nil ?_
      rintro _ ⟨nq, rfl⟩
      go_wp2
      go_roundw
      case rel => exact ⟨2, by omega, rfl, _, rfl⟩
      case measure => simp [intOf]
    · rw [mixing_at]
      simp only [upto]
      go_wp2
      refine wp_region_draws_tail 10 (by kernel_rfl) (by kernel_rfl) (by kernel_rfl) (by kernel_rfl) ?_
      simp only [List.take_succ_cons, List.take_zero, List.drop_succ_cons, List.drop_zero]
      repeat (go_big_quiet_step (first | (go_at_call 49; exact quiet2 (M2.out _))))
      refine wpQuiet_nil ?_
      rintro _ ⟨nq, rfl⟩
      go_wp2
      go_roundw
      case rel => exact ⟨3, by omega, rfl, _, rfl⟩
      case measure => simp [intOf]
    · rw [mixing_at]
      simp only [upto]
      go_wp2
      refine wp_region_draws_tail 10 (by kernel_rfl) (by kernel_rfl) (by kernel_rfl) (by kernel_rfl) ?_
      simp only [List.take_succ_cons, List.take_zero, List.drop_succ_cons, List.drop_zero]
      repeat (go_big_quiet_step (first | (go_at_call 49; exact quiet2 (M3.out _))))
      refine wpQuiet_nil ?_
      rintro _ ⟨nq, rfl⟩
      go_wp2
      go_roundw
      case rel => exact ⟨4, by omega, rfl, _, rfl⟩
      case measure => simp [intOf]
    · rw [mixing_at]
      simp only [upto]
      go_wp2
      refine bodyPost_ret (v := .agg (cCells ⟨cr, cg, cb, cq⟩)) (by simp [results, Try.results26, go_sem]) rfl ⟨rfl, ?_⟩
      exact mixed_below _ _ _ _ _ _

end Go.Proofs.Ytafaafaclijfiaa
