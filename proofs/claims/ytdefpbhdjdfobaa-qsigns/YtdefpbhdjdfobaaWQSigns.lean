/- The walk of mutoscopelaw1.QSigns: for all three numbers it returns true; the memory stays as it was but for draws. -/
import Derived.Test.YtdefpbhdjdfobaaH
namespace Go.Proofs.Ytdefpbhdjdfobaa
open Go.RowKit
open M

theorem mul_swap (a b : Int) : mul a b = mul b a := by unfold mul; rw [Int.mul_comm]
theorem add_swap (a b : Int) : add a b = add b a := by unfold add; rw [Int.add_comm]
theorem wide_neg {y : Int} (y1 : -67108863 ≤ y) (y2 : y ≤ 67108863) : wide (-y) = -(wide y) := by
  rw [wide_in (by omega) (by omega), wide_in (by omega) (by omega)]
theorem hyp_turn {x y : Int} (y1 : -67108863 ≤ y) (y2 : y ≤ 67108863) : hyp x y = hyp (-y) x := by
  unfold hyp; rw [wide_neg y1 y2, Int.neg_mul_neg, Int.add_comm]
theorem add_back {x y : Int} (x1 : -67108863 ≤ x) (x2 : x ≤ 67108863) (y1 : -67108863 ≤ y) (y2 : y ≤ 67108863) : add (add x y) (-y) = x := by
  have e : add x y = x + y := by
    unfold add; rw [hold_in (a := x) (by omega) (by omega), hold_in (a := y) (by omega) (by omega), hold_in (by omega) (by omega)]
  rw [e]; unfold add
  rw [hold_in (a := x + y) (by omega) (by omega), hold_in (a := -y) (by omega) (by omega), hold_in (by omega) (by omega)]; omega
theorem mul_zero (a : Int) : mul a 0 = 0 := by
  unfold mul; rw [show hold 0 = 0 from by decide, Int.mul_zero]; decide
theorem dv_zero (c : Int) : dv 0 c = 0 := by
  have h : hold 0 = 0 := by decide
  unfold dv; split
  · rfl
  · rw [h, Int.zero_mul]
    have : flo 0 (hold c) = 0 := by unfold flo; split <;> simp
    rw [this, h]
theorem root_sq {x : Int} (x1 : -67108863 ≤ x) (x2 : x ≤ 67108863) : root (mul x x) ≤ max x (-x) + 1 := by
  have b := sq_bound (x := x) (b := 67108863) (by omega) (by omega)
  have e : mul x x = x * x / 65536 := by
    unfold mul; rw [hold_in (a := x) (by omega) (by omega)]
    generalize x * x = p at *
    exact hold_in (by omega) (by omega)
  have s : x * x = ((x.natAbs * x.natAbs : Nat) : Int) := by rw [Int.natAbs_mul_self]
  have h : hold (x * x / 65536) = x * x / 65536 := by
    generalize x * x = p at *
    exact hold_in (by omega) (by omega)
  have g : (x.natAbs + 1) * (x.natAbs + 1) = x.natAbs * x.natAbs + 2 * x.natAbs + 1 := by
    simp only [Nat.add_mul, Nat.mul_add]; omega
  have l := isq_lt (n := (x * x / 65536).toNat * 65536) (r := x.natAbs + 1) (by rw [g, s]; generalize x.natAbs * x.natAbs = p; omega)
  rw [e]; unfold root; rw [h]
  split <;> omega

set_option maxHeartbeats 400000 in
theorem qSigns_walk (a b c : Int) (_ : (Lit.int .i64 a).wf = true) (_ : (Lit.int .i64 b).wf = true) (_ : (Lit.int .i64 c).wf = true) (w : World) :
    Calls Try.prog 7 #[.int .i64 a, .int .i64 b, .int .i64 c] w fun e w' => e = .returned (.bool true) ∧ Grown w w' := by
  obtain ⟨x1, x2⟩ := near_bd a
  obtain ⟨y1, y2⟩ := near_bd b
  have f1 : (mul (a.tmod 67108864) (b.tmod 67108864) == mul (b.tmod 67108864) (a.tmod 67108864)) = true := by rw [mul_swap]; exact beq_self_eq_true _
  have f2 : (add a b == add b a) = true := by rw [add_swap]; exact beq_self_eq_true _
  have f3 : (hyp (a.tmod 67108864) (b.tmod 67108864) == hyp (-b.tmod 67108864) (a.tmod 67108864)) = true := by rw [hyp_turn y1 y2]; exact beq_self_eq_true _
  have f4 : (add (add (a.tmod 67108864) (b.tmod 67108864)) (-b.tmod 67108864) == a.tmod 67108864) = true := by rw [add_back x1 x2 y1 y2]; exact beq_self_eq_true _
  have f5 : (mul a 0 == 0) = true := by rw [mul_zero]; exact beq_self_eq_true _
  have f6 : (dv 0 c == 0) = true := by rw [dv_zero]; exact beq_self_eq_true _
  have f7 : (hold (hold a) == hold a) = true := by rw [hold_hold]; exact beq_self_eq_true _
  have f8 : (place (place b) == place b) = true := by rw [place_place]; exact beq_self_eq_true _
  have f9 := root_sq x1 x2
  go_enter Try.func7, Try.ntmps7
  go_wp2_with (first | (go_at_call 12; refine (q_mul _ _ _).mono ?_; rintro e w' ⟨rfl, rfl⟩) | (go_at_call 17; refine (q_div _ _ _).mono ?_; rintro e w' ⟨rfl, n, rfl⟩) | (go_at_call 13; refine (q_root _ _).mono ?_; rintro e w' ⟨rfl, rfl⟩) | (go_at_call 14; refine (q_hyp _ _ _).mono ?_; rintro e w' ⟨rfl, rfl⟩) | (go_at_call 15; refine (q_add _ _ _).mono ?_; rintro e w' ⟨rfl, rfl⟩) | (go_at_call 18; refine (q_mid _ _ _ _).mono ?_; rintro e w' ⟨rfl, rfl⟩) | (go_at_call 16; refine (q_hold _ _).mono ?_; rintro e w' ⟨rfl, rfl⟩) | (go_at_call 20; refine (q_place _ _).mono ?_; rintro e w' ⟨rfl, rfl⟩) | (go_at_call 19; refine (q_clamp _ _ _ _).mono ?_; rintro e w' ⟨rfl, rfl⟩) | (go_at_call 11; refine (known _).mono ?_; rintro e w' ⟨rfl, n, rfl⟩))
  go_ret
  exact ⟨rfl, grown_drewN _ _⟩

end Go.Proofs.Ytdefpbhdjdfobaa
