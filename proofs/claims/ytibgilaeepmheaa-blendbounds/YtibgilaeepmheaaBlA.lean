/- Contracts of blend.held, .By, .Strength and of mutoscoperef15.By, .Strength: for all numbers what the plain arithmetic says; the world stays. -/
import Derived.Test.YtibgilaeepmheaaBlMath
import Derived.Test.YtibgilaeepmheaaA
import Derived.Test.YtibgilaeepmheaaHM
namespace Go.Proofs.Ytibgilaeepmheaa
open Go Go.RowKit
open M

theorem bl_held (a m : Int) (h : 0 ≤ m) (w : World) : Calls Try.prog 21 #[.int .i64 a, .int .i64 m] w fun e w' => e = .returned (.int .i64 (clamp a 0 m)) ∧ w = w' := by
  rcases clamp_cases a 0 m with ⟨h1, h⟩ | ⟨h1, h2, h⟩ | ⟨h1, h2, h⟩
  all_goals
    rw [h]; clear h
    go_enter Try.func21, Try.ntmps21
    go_wp2
    all_goals
      go_ret
      exact ⟨ret_int (by omega), rfl⟩
theorem bl_by (a b : Int) (w : World) : Calls Try.prog 7 #[.int .i64 a, .int .i64 b] w fun e w' => e = .returned (.int .i64 (byB a b)) ∧ w = w' := by
  have h1 := clamp_byte a
  have h2 := clamp_byte b
  have CA := Lib.hid (fun w => bl_held a 255 (by decide) w)
  have CB := Lib.hid (fun w => bl_held b 255 (by decide) w)
  unfold byB
  obtain ⟨x, hx⟩ : ∃ x, clamp a 0 255 = x := ⟨_, rfl⟩
  obtain ⟨y, hy⟩ : ∃ x, clamp b 0 255 = x := ⟨_, rfl⟩
  rw [hx] at h1 CA ⊢
  rw [hy] at h2 CB ⊢
  clear hx hy
  obtain ⟨p0, p1, p2⟩ := bytes_mul h1.1 h1.2 h2.1 h2.2
  obtain ⟨p, hp⟩ : ∃ p, x * y = p := ⟨_, rfl⟩
  rw [hp] at p0 p1 p2 ⊢
  go_enter Try.func7, Try.ntmps7
  go_wp2_with fail
  refine (CA.out _).mono ?_
  rintro e w' ⟨rfl, rfl⟩
  go_wp2_with fail
  refine (CB.out _).mono ?_
  rintro e w' ⟨rfl, rfl⟩
  go_wp2
  go_ret
  exact ⟨rfl, rfl⟩
theorem bl_strength (c : Int) (w : World) : Calls Try.prog 9 #[.int .i64 c] w fun e w' => e = .returned (.int .i64 (strB c)) ∧ w = w' := by
  obtain ⟨h0, h1⟩ := clamp_inB (a := c) (show (0 : Int) ≤ 16 by decide)
  have CA := Lib.hid (fun w => bl_held c 16 (by decide) w)
  unfold strB
  obtain ⟨x, hx⟩ : ∃ x, clamp c 0 16 = x := ⟨_, rfl⟩
  rw [hx] at h0 h1 CA ⊢
  clear hx
  go_enter Try.func9, Try.ntmps9
  go_wp2_with fail
  refine (CA.out _).mono ?_
  rintro e w' ⟨rfl, rfl⟩
  go_wp2
  go_ret
  exact ⟨rfl, rfl⟩
theorem rb_by (a b : Int) (w : World) : Calls Try.prog 8 #[.int .i64 a, .int .i64 b] w fun e w' => e = .returned (.int .i64 (byB a b)) ∧ w = w' := by
  have h1 := clamp_byte a
  have h2 := clamp_byte b
  unfold byB
  obtain ⟨p0, p1, p2⟩ := bytes_mul h1.1 h1.2 h2.1 h2.2
  obtain ⟨p, hp⟩ : ∃ p, clamp a 0 255 * clamp b 0 255 = p := ⟨_, rfl⟩
  rw [hp]
  rw [hp] at p0 p1 p2
  rcases clamp_cases a 0 255 with ⟨a1, h⟩ | ⟨a1, a2, h⟩ | ⟨a1, a2, h⟩ <;> rcases clamp_cases b 0 255 with ⟨b1, g⟩ | ⟨b1, b2, g⟩ | ⟨b1, b2, g⟩
  all_goals
    rw [h] at h1 p2 hp
    rw [g] at h2 p1 hp
    clear h g
    go_enter Try.func8, Try.ntmps8
    go_wp2
    all_goals
      go_ret
      first | exact ⟨ret_int (by omega), rfl⟩ | (rw [show p = 0 by omega]; exact ⟨rfl, rfl⟩) | (rw [show p = 65025 by omega]; exact ⟨rfl, rfl⟩)
theorem rb_strength (c : Int) (w : World) : Calls Try.prog 10 #[.int .i64 c] w fun e w' => e = .returned (.int .i64 (strB c)) ∧ w = w' := by
  unfold strB
  rcases clamp_cases c 0 16 with ⟨h1, h⟩ | ⟨h1, h2, h⟩ | ⟨h1, h2, h⟩
  all_goals
    rw [h]; clear h
    go_enter Try.func10, Try.ntmps10
    go_wp2
    all_goals
      go_ret
      first | exact ⟨rfl, rfl⟩ | exact ⟨ret_int (by omega), rfl⟩

end Go.Proofs.Ytibgilaeepmheaa
