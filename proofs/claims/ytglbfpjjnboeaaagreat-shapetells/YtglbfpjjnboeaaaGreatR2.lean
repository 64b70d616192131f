/- Contracts of package mutoscoperef2 (Turn, Sin, Cos): for all numbers what the plain arithmetic says; the memory stays as it was. -/
import Derived.Test.YtglbfpjjnboeaaaGreatT
namespace Go.Proofs.YtglbfpjjnboeaaaGreat
open Go.RowKit
open M

theorem r2_turn (a : Int) (w : World) :
    Calls Tryz.prog 71 #[.int .i64 a] w fun e w' => e = .returned (.int .i64 (turn a)) ∧ w = w' := by
  obtain ⟨b1, b2⟩ := tmod_bd a
  rw [← turn_twice]
  go_enter Tryz.func71, Tryz.ntmps71
  go_wp2
  go_ret
  exact ⟨rfl, rfl⟩

theorem tdiv_p {x : Int} (h0 : 0 ≤ x) (h1 : x ≤ 11796480) : (x * (11796480 - x)).tdiv 65536 = hpP x := Int.tdiv_eq_ediv_of_nonneg (prod_lo h0 h1)
theorem tdiv_v {p : Int} (h0 : 0 ≤ p) : (4 * p * 65536).tdiv (2654208000 - p) = hpV p := Int.tdiv_eq_ediv_of_nonneg (by omega)

theorem r2_sin (a : Int) (w : World) :
    Calls Tryz.prog 45 #[.int .i64 a] w fun e w' => e = .returned (.int .i64 (sin a)) ∧ w = w' := by
  have l := turn_lo a; have g := turn_hi a
  by_cases h : turn a < 11796480
  · rw [sin_up h]
    obtain ⟨x, hx⟩ : ∃ x, turn a = x := ⟨_, rfl⟩
    rw [hx] at l g h ⊢
    have m0 := prod_lo l (by omega)
    have m1 := prod_hi x
    have e1 := tdiv_p l (by omega)
    have p0 := hpP_lo l (by omega)
    have p1 := hpP_hi x
    have v0 := hump_lo l (by omega)
    have v1 := hump_hi l (by omega)
    unfold hump at *
    generalize hpP x = p at *
    have e2 := tdiv_v p0
    generalize hpV p = v at *
    have HX := Lib.hid hx
    clear hx
    go_enter Tryz.func45, Tryz.ntmps45
    go_wp2_with (first | (go_at_call 71; refine (r2_turn _ _).mono ?_; rintro e w' ⟨rfl, rfl⟩; rw [HX.out]))
    go_ret
    exact ⟨rfl, rfl⟩
  · rw [sin_down h]
    obtain ⟨x, hx⟩ : ∃ x, turn a = x := ⟨_, rfl⟩
    rw [hx] at l g h ⊢
    have m0 := prod_lo (x := x - 11796480) (by omega) (by omega)
    have m1 := prod_hi (x - 11796480)
    have e1 := tdiv_p (x := x - 11796480) (by omega) (by omega)
    have p0 := hpP_lo (x := x - 11796480) (by omega) (by omega)
    have p1 := hpP_hi (x - 11796480)
    have v0 := hump_lo (x := x - 11796480) (by omega) (by omega)
    have v1 := hump_hi (x := x - 11796480) (by omega) (by omega)
    unfold hump at *
    generalize hpP (x - 11796480) = p at *
    have e2 := tdiv_v p0
    generalize hpV p = v at *
    have HX := Lib.hid hx
    clear hx
    go_enter Tryz.func45, Tryz.ntmps45
    go_wp2_with (first | (go_at_call 71; refine (r2_turn _ _).mono ?_; rintro e w' ⟨rfl, rfl⟩; rw [HX.out]))
    go_ret
    exact ⟨rfl, rfl⟩

theorem r2_cos (a : Int) (w : World) :
    Calls Tryz.prog 44 #[.int .i64 a] w fun e w' => e = .returned (.int .i64 (cos a)) ∧ w = w' := by
  have l := turn_lo a; have g := turn_hi a
  unfold cos
  go_enter Tryz.func44, Tryz.ntmps44
  go_wp2_with (first | (go_at_call 71; refine (r2_turn _ _).mono ?_; rintro e w' ⟨rfl, rfl⟩) | (go_at_call 45; refine (r2_sin _ _).mono ?_; rintro e w' ⟨rfl, rfl⟩))
  go_ret
  exact ⟨rfl, rfl⟩

end Go.Proofs.YtglbfpjjnboeaaaGreat
