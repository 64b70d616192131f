/- The walk of mutoscopelaw1.QBack: for both numbers it returns true; the memory stays as it was but for draws. -/
import Derived.Test.YtdefpbhdjdfobaaH
namespace Go.Proofs.Ytdefpbhdjdfobaa
open Go.RowKit
open M

theorem isq_int {n : Nat} {m : Int} (h : m = n) : (isq n : Int) * isq n ≤ m ∧ m < ((isq n : Int) + 1) * (isq n + 1) ∧ 0 ≤ (isq n : Int) * isq n := by
  have s := isq_spec n
  subst h
  refine ⟨?_, ?_, ?_⟩
  · rw [← Int.natCast_mul]; exact Int.ofNat_le.mpr s.1
  · have : ((isq n : Int) + 1) * (isq n + 1) = (((isq n + 1) * (isq n + 1) : Nat) : Int) := by simp
    rw [this]; exact Int.ofNat_lt.mpr s.2
  · rw [← Int.natCast_mul]; exact Int.natCast_nonneg _
theorem next_sq {r : Int} (h0 : 0 ≤ r) (h1 : r ≤ 1518500249) : (r + 1) * (r + 1) ≤ 4611686018427387904 ∧ 0 ≤ (r + 1) * (r + 1) := by
  have := sq_bound (x := r + 1) (b := 1518500250) (by omega) (by omega)
  omega
theorem near_sq {x : Int} (x1 : -67108863 ≤ x) (x2 : x ≤ 67108863) : 0 ≤ x * x ∧ x * x ≤ 4503599627370496 := by
  have := sq_bound (x := x) (b := 67108863) (by omega) (by omega)
  omega
theorem root_facts {x : Int} (h0 : 0 ≤ x) (h1 : x ≤ 67108863) : root x * root x ≤ x * 65536 ∧ x * 65536 < (root x + 1) * (root x + 1) ∧ 0 ≤ root x * root x := by
  have e := hold_in (a := x) (by omega) (by omega)
  have r : root x = ((isq (x.toNat * 65536) : Nat) : Int) := by unfold root; rw [e, if_neg (by omega)]
  rw [r]
  exact isq_int (by omega)
theorem hyp_facts {x y : Int} (x1 : -67108863 ≤ x) (x2 : x ≤ 67108863) (y1 : -67108863 ≤ y) (y2 : y ≤ 67108863) : hyp x y * hyp x y ≤ x * x + y * y ∧ x * x + y * y < (hyp x y + 1) * (hyp x y + 1) ∧ 0 ≤ hyp x y * hyp x y := by
  have a := sq_bound (x := x) (b := 67108863) (by omega) (by omega)
  have b := sq_bound (x := y) (b := 67108863) (by omega) (by omega)
  unfold hyp; rw [wide_in (a := x) (by omega) (by omega), wide_in (a := y) (by omega) (by omega)]
  exact isq_int (by omega)
theorem mul_facts {x y : Int} (x1 : -67108863 ≤ x) (x2 : x ≤ 67108863) (y1 : -67108863 ≤ y) (y2 : y ≤ 67108863) : mul x y * 65536 ≤ x * y ∧ x * y < (mul x y + 1) * 65536 ∧ -4503599627370496 ≤ x * y ∧ x * y ≤ 4503599627370496 := by
  have a := prod_bound (x := x) (y := y) (b := 67108863) (c := 67108863) (by omega) (by omega) (by omega) (by omega)
  unfold mul; rw [hold_in (a := x) (by omega) (by omega), hold_in (a := y) (by omega) (by omega)]
  generalize x * y = p at *
  rw [hold_in (by omega) (by omega)]
  omega
theorem mul_one' (a : Int) : mul (add a 0) 65536 = hold a := by
  have h0 : hold 0 = 0 := by decide
  have h1 : hold 65536 = 65536 := by decide
  unfold mul add; rw [h0, h1, Int.add_zero, hold_hold, hold_hold, Int.mul_ediv_cancel _ (by decide), hold_hold]
theorem dv_one (a : Int) : dv (hold a) 65536 = hold a := by
  have h1 : hold 65536 = 65536 := by decide
  unfold dv flo; rw [h1, if_neg (by decide), if_pos (by decide), hold_hold, Int.mul_ediv_cancel _ (by decide), hold_hold]

set_option maxHeartbeats 1000000 in
set_option maxRecDepth 100000 in
theorem qBack_walk (a b : Int) (_ : (Lit.int .i64 a).wf = true) (_ : (Lit.int .i64 b).wf = true) (w : World) :
    Calls Try.prog 5 #[.int .i64 a, .int .i64 b] w fun e w' => e = .returned (.bool true) ∧ Grown w w' := by
  obtain ⟨x1, x2⟩ := near_bd a
  obtain ⟨y1, y2⟩ := near_bd b
  have f1 : (mul (add a 0) 65536 == hold a) = true := by rw [mul_one']; exact beq_self_eq_true _
  have f2 : (dv (hold a) 65536 == hold a) = true := by rw [dv_one]; exact beq_self_eq_true _
  obtain ⟨X, hX⟩ : ∃ X, a.tmod 67108864 = X := ⟨_, rfl⟩
  obtain ⟨Y, hY⟩ : ∃ Y, b.tmod 67108864 = Y := ⟨_, rfl⟩
  rw [hX] at x1 x2
  rw [hY] at y1 y2
  by_cases hx : X < 0
  · obtain ⟨r1, r2, r3⟩ := root_facts (x := -X) (by omega) (by omega)
    obtain ⟨r4, r5⟩ := next_sq (root_lo (-X)) (by have := root_hi (-X); omega)
    have r6 := root_lo (-X)
    have r7 := root_hi (-X)
    obtain ⟨h1, h2, h3⟩ := hyp_facts (x := -X) (by omega) (by omega) y1 y2
    obtain ⟨h4, h5⟩ := next_sq (hyp_lo (-X) Y) (hyp_hi _ _)
    have h6 := hyp_lo (-X) Y
    have h7 := hyp_hi (-X) Y
    obtain ⟨s1, s3⟩ := near_sq x1 x2
    obtain ⟨s2, s4⟩ := near_sq y1 y2
    obtain ⟨p1, p2, p3, p4⟩ := mul_facts x1 x2 y1 y2
    obtain ⟨R, hR⟩ : ∃ R, root (-X) = R := ⟨_, rfl⟩
    obtain ⟨H, hH⟩ : ∃ H, hyp (-X) Y = H := ⟨_, rfl⟩
    obtain ⟨P, hP⟩ : ∃ P, mul X Y = P := ⟨_, rfl⟩
    rw [hR] at r1 r2 r3 r4 r5 r6 r7
    rw [hH] at h1 h2 h3 h4 h5 h6 h7
    rw [hP] at p1 p2
    go_enter Try.func5, Try.ntmps5
    go_wp2_with (first | (go_at_call 12; refine (q_mul _ _ _).mono ?_; rintro e w' ⟨rfl, rfl⟩) | (go_at_call 17; refine (q_div _ _ _).mono ?_; rintro e w' ⟨rfl, n, rfl⟩) | (go_at_call 13; refine (q_root _ _).mono ?_; rintro e w' ⟨rfl, rfl⟩) | (go_at_call 14; refine (q_hyp _ _ _).mono ?_; rintro e w' ⟨rfl, rfl⟩) | (go_at_call 15; refine (q_add _ _ _).mono ?_; rintro e w' ⟨rfl, rfl⟩) | (go_at_call 16; refine (q_hold _ _).mono ?_; rintro e w' ⟨rfl, rfl⟩) | (go_at_call 11; refine (known _).mono ?_; rintro e w' ⟨rfl, n, rfl⟩))
    go_ret
    exact ⟨rfl, grown_drewN _ _⟩
  · obtain ⟨r1, r2, r3⟩ := root_facts (x := X) (by omega) (by omega)
    obtain ⟨r4, r5⟩ := next_sq (root_lo (X)) (by have := root_hi (X); omega)
    have r6 := root_lo (X)
    have r7 := root_hi (X)
    obtain ⟨h1, h2, h3⟩ := hyp_facts (x := X) (by omega) (by omega) y1 y2
    obtain ⟨h4, h5⟩ := next_sq (hyp_lo (X) Y) (hyp_hi _ _)
    have h6 := hyp_lo (X) Y
    have h7 := hyp_hi (X) Y
    obtain ⟨s1, s3⟩ := near_sq x1 x2
    obtain ⟨s2, s4⟩ := near_sq y1 y2
    obtain ⟨p1, p2, p3, p4⟩ := mul_facts x1 x2 y1 y2
    obtain ⟨R, hR⟩ : ∃ R, root (X) = R := ⟨_, rfl⟩
    obtain ⟨H, hH⟩ : ∃ H, hyp (X) Y = H := ⟨_, rfl⟩
    obtain ⟨P, hP⟩ : ∃ P, mul X Y = P := ⟨_, rfl⟩
    rw [hR] at r1 r2 r3 r4 r5 r6 r7
    rw [hH] at h1 h2 h3 h4 h5 h6 h7
    rw [hP] at p1 p2
    go_enter Try.func5, Try.ntmps5
    go_wp2_with (first | (go_at_call 12; refine (q_mul _ _ _).mono ?_; rintro e w' ⟨rfl, rfl⟩) | (go_at_call 17; refine (q_div _ _ _).mono ?_; rintro e w' ⟨rfl, n, rfl⟩) | (go_at_call 13; refine (q_root _ _).mono ?_; rintro e w' ⟨rfl, rfl⟩) | (go_at_call 14; refine (q_hyp _ _ _).mono ?_; rintro e w' ⟨rfl, rfl⟩) | (go_at_call 15; refine (q_add _ _ _).mono ?_; rintro e w' ⟨rfl, rfl⟩) | (go_at_call 16; refine (q_hold _ _).mono ?_; rintro e w' ⟨rfl, rfl⟩) | (go_at_call 11; refine (known _).mono ?_; rintro e w' ⟨rfl, n, rfl⟩))
    go_ret
    exact ⟨rfl, grown_drewN _ _⟩

end Go.Proofs.Ytdefpbhdjdfobaa
