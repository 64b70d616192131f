/- Contracts of package trig (Turn, hump, Sin, Cos): for all numbers what the plain arithmetic says; nothing in memory turns (the order that Go leaves open is drawn). hump alone has a condition: 0 to half a turn. -/
import Derived.Test.YtglbfpjjnboeaaaGreatD
import Derived.Test.YtglbfpjjnboeaaaGreatTMath
namespace Go.Proofs.YtglbfpjjnboeaaaGreat
open Go.RowKit
open M

theorem t_turn (a : Int) (w : World) :
    Calls Tryz.prog 94 #[.int .i64 a] w fun e w' => e = .returned (.int .i64 (turn a)) ∧ w = w' := by
  obtain ⟨b1, b2⟩ := tmod_bd a
  rcases turn_tmod a with ⟨h, e⟩ | ⟨h, e⟩
  all_goals
    rw [e]; clear e
    go_enter Tryz.func94, Tryz.ntmps94
    go_wp2
    go_ret
    exact ⟨rfl, rfl⟩

theorem hump_q {x : Int} (h0 : 0 ≤ x) (h1 : x ≤ 11796480) : mul x (11796480 - x) = hpP x := by
  have a := hpP_lo h0 h1; have b := hpP_hi x
  unfold mul; rw [hold_in (a := x) (by omega) (by omega), hold_in (a := 11796480 - x) (by omega) (by omega)]
  unfold hpP at *
  exact hold_in (by omega) (by omega)
theorem hump_dv {p : Int} (h0 : 0 ≤ p) (h1 : p ≤ 530841600) : dv (4 * p) (2654208000 - p) = hpV p := by
  have m := hpV_mono h0 h1 (by decide)
  have d : hpV 530841600 = 65536 := by decide
  have l : 0 ≤ hpV p := by unfold hpV; exact Int.ediv_nonneg (by omega) (by omega)
  unfold dv
  rw [hold_in (a := 4 * p) (by omega) (by omega), hold_in (a := 2654208000 - p) (by omega) (by omega), if_neg (by omega)]
  unfold flo
  rw [if_pos (by omega)]
  exact hold_in (by unfold hpV at l; omega) (by unfold hpV at m d; omega)

theorem t_hump (x : Int) (h0 : 0 ≤ x) (h1 : x ≤ 11796480) (w : World) :
    Calls Tryz.prog 95 #[.int .i64 x] w (Drawn (.int .i64 (hump x)) w) := by
  have p0 := hpP_lo h0 h1
  have p1 := hpP_hi x
  have hq := hump_q h0 h1
  have hd := hump_dv p0 p1
  show Calls Tryz.prog 95 #[.int .i64 x] w (Drawn (.int .i64 (hpV (hpP x))) w)
  generalize hpP x = p at *
  have HQ := Lib.hid hq
  have HD := Lib.hid hd
  clear hq hd
  go_enter Tryz.func95, Tryz.ntmps95
  go_wp2_with (first | (go_at_call 40; refine (q_mul _ _ _).mono ?_; rintro e w' ⟨rfl, rfl⟩; rw [HQ.out]) | (go_at_call 108; refine (q_div _ _ _).mono ?_; rintro e w' ⟨rfl, n, rfl⟩; rw [HD.out]))
  go_ret
  exact ⟨rfl, n, rfl⟩

theorem t_sin (a : Int) (w : World) :
    Calls Tryz.prog 70 #[.int .i64 a] w (Drawn (.int .i64 (sin a)) w) := by
  have l := turn_lo a; have g := turn_hi a
  by_cases h : turn a < 11796480
  · rw [sin_up h]
    go_enter Tryz.func70, Tryz.ntmps70
    go_wp2_with (first | (go_at_call 94; refine (t_turn _ _).mono ?_; rintro e w' ⟨rfl, rfl⟩) | (go_at_call 95; refine (t_hump _ (by omega) (by omega) _).mono ?_; rintro e w' ⟨rfl, n, rfl⟩))
    go_ret
    exact ⟨rfl, n, rfl⟩
  · rw [sin_down h]
    have c1 := hump_lo (x := turn a - 11796480) (by omega) (by omega)
    have c2 := hump_hi (x := turn a - 11796480) (by omega) (by omega)
    go_enter Tryz.func70, Tryz.ntmps70
    go_wp2_with (first | (go_at_call 94; refine (t_turn _ _).mono ?_; rintro e w' ⟨rfl, rfl⟩) | (go_at_call 95; refine (t_hump _ (by omega) (by omega) _).mono ?_; rintro e w' ⟨rfl, n, rfl⟩))
    go_ret
    exact ⟨rfl, n, rfl⟩

theorem t_cos (a : Int) (w : World) :
    Calls Tryz.prog 69 #[.int .i64 a] w (Drawn (.int .i64 (cos a)) w) := by
  have l := turn_lo a; have g := turn_hi a
  unfold cos
  go_enter Tryz.func69, Tryz.ntmps69
  go_wp2_with (first | (go_at_call 94; refine (t_turn _ _).mono ?_; rintro e w' ⟨rfl, rfl⟩) | (go_at_call 70; refine (t_sin _ _).mono ?_; rintro e w' ⟨rfl, n, rfl⟩))
  go_ret
  exact ⟨rfl, n, rfl⟩


end Go.Proofs.YtglbfpjjnboeaaaGreat
