/- Contracts of package trig (Turn, hump, Sin, Cos): for all numbers what the plain arithmetic says; nothing in memory turns (the order that Go leaves open is drawn). hump alone has a condition: 0 to half a turn. -/
import Derived.Test.YtglbfpjjnboeaaaD
import Derived.Test.YtglbfpjjnboeaaaTMath
namespace Go.Proofs.Ytglbfpjjnboeaaa
open Go.RowKit
open M

theorem t_turn (a : Int) (w : World) :
    Calls Try.prog 66 #[.int .i64 a] w fun e w' => e = .returned (.int .i64 (turn a)) ∧ w = w' := by
  obtain ⟨b1, b2⟩ := tmod_bd a
  rcases turn_tmod a with ⟨h, e⟩ | ⟨h, e⟩
  all_goals
    rw [e]; clear e
    go_enter Try.func66, Try.ntmps66
    go_wp2
    go_ret
    exact ⟨rfl, rfl⟩

theorem hump_q {x : Int} (h0 : 0 ≤ x) (h1 : x ≤ 11796480) : mul x (11796480 - x) = hpP x := by
  have a := hpP_lo h0 h1; have b := hpP_hi x
  unfold mul; rw [hold_in (a := x) (by omega) (by omega), hold_in (a := 11796480 - x) (by omega) (by omega)]
  unfold hpP at *
  exact hold_in (by omega) (by omega)
theorem hump_dv {p : Int} (h0 : 0 ≤ p) (h1 : p ≤ 530841600) : dv (4 * p) (2654208000 - p) = hpV p := by
  have m := hpV_mono h0 h1 (by decide)
  have d : hpV 530841600 = 65536 := by decide
  have l : 0 ≤ hpV p := by unfold hpV; exact Int.ediv_nonneg (by omega) (by omega)
  unfold dv
  rw [hold_in (a := 4 * p) (by omega) (by omega), hold_in (a := 2654208000 - p) (by omega) (by omega), if_neg (by omega)]
  unfold flo
  rw [if_pos (by omega)]
  exact hold_in (by unfold hpV at l; omega) (by unfold hpV at m d; omega)

theorem t_hump (x : Int) (h0 : 0 ≤ x) (h1 : x ≤ 11796480) (w : World) :
    Calls Try.prog 67 #[.int .i64 x] w (Drawn (.int .i64 (hump x)) w) := by
  have p0 := hpP_lo h0 h1
  have p1 := hpP_hi x
  have hq := hump_q h0 h1
  have hd := hump_dv p0 p1
  show Calls Try.prog 67 #[.int .i64 x] w (Drawn (.int .i64 (hpV (hpP x))) w)
  generalize hpP x = p at *
  have HQ := Lib.hid hq
  have HD := Lib.hid hd
  clear hq hd
  go_enter Try.func67, Try.ntmps67
  go_wp2_with (first | (go_at_call 31; refine (q_mul _ _ _).mono ?_; rintro e w' ⟨rfl, rfl⟩; rw [HQ.out]) | (go_at_call 74; refine (q_div _ _ _).mono ?_; rintro e w' ⟨rfl, n, rfl⟩; rw [HD.out]))
  go_ret
  exact ⟨rfl, n, rfl⟩

theorem t_sin (a : Int) (w : World) :
    Calls Try.prog 52 #[.int .i64 a] w (Drawn (.int .i64 (sin a)) w) := by
  have l := turn_lo a; have g := turn_hi a
  by_cases h : turn a < 11796480
  · rw [sin_up h]
    go_enter Try.func52, Try.ntmps52
    go_wp2_with (first | (go_at_call 66; refine (t_turn _ _).mono ?_; rintro e w' ⟨rfl, rfl⟩) | (go_at_call 67; refine (t_hump _ (by omega) (by omega) _).mono ?_; rintro e w' ⟨rfl, n, rfl⟩))
    go_ret
    exact ⟨rfl, n, rfl⟩
  · rw [sin_down h]
    have c1 := hump_lo (x := turn a - 11796480) (by omega) (by omega)
    have c2 := hump_hi (x := turn a - 11796480) (by omega) (by omega)
    go_enter Try.func52, Try.ntmps52
    go_wp2_with (first | (go_at_call 66; refine (t_turn _ _).mono ?_; rintro e w' ⟨rfl, rfl⟩) | (go_at_call 67; refine (t_hump _ (by omega) (by omega) _).mono ?_; rintro e w' ⟨rfl, n, rfl⟩))
    go_ret
    exact ⟨rfl, n, rfl⟩

theorem t_cos (a : Int) (w : World) :
    Calls Try.prog 51 #[.int .i64 a] w (Drawn (.int .i64 (cos a)) w) := by
  have l := turn_lo a; have g := turn_hi a
  unfold cos
  go_enter Try.func51, Try.ntmps51
  go_wp2_with (first | (go_at_call 66; refine (t_turn _ _).mono ?_; rintro e w' ⟨rfl, rfl⟩) | (go_at_call 52; refine (t_sin _ _).mono ?_; rintro e w' ⟨rfl, n, rfl⟩))
  go_ret
  exact ⟨rfl, n, rfl⟩


end Go.Proofs.Ytglbfpjjnboeaaa
