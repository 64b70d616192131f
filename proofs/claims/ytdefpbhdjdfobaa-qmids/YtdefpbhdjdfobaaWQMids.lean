/- The walk of mutoscopelaw1.QMids: for all three numbers it returns true; the memory stays as it was but for draws. -/
import Derived.Test.YtdefpbhdjdfobaaH
namespace Go.Proofs.Ytdefpbhdjdfobaa
open Go.RowKit
open M

theorem one_bd (a : Int) : -65536 ≤ a.tmod 65537 ∧ a.tmod 65537 ≤ 65536 := by
  have := tmod_lt a 65537 (by decide); omega
theorem mid_small {x y k : Int} (x1 : -67108863 ≤ x) (x2 : x ≤ 67108863) (y1 : -67108863 ≤ y) (y2 : y ≤ 67108863) (k1 : 0 ≤ k) (k2 : k ≤ 65536) :
    mid x y k = x + (y - x) * k / 65536 := by
  have b := prod_bound (x := y - x) (y := k) (b := 134217726) (c := 65536) (by omega) (by omega) (by omega) (by omega)
  have e1 : add y (-(hold x)) = y - x := by
    unfold add; rw [hold_in (a := x) (by omega) (by omega), hold_in (a := y) (by omega) (by omega), hold_in (a := -x) (by omega) (by omega), hold_in (by omega) (by omega)]; omega
  have e2 : mul (y - x) k = (y - x) * k / 65536 := by
    unfold mul; rw [hold_in (a := y - x) (by omega) (by omega), hold_in (a := k) (by omega) (by omega)]
    generalize (y - x) * k = p at *
    exact hold_in (by omega) (by omega)
  unfold mid; rw [e1, e2]
  generalize (y - x) * k = p at *
  unfold add; rw [hold_in (a := x) (by omega) (by omega), hold_in (a := p / 65536) (by omega) (by omega), hold_in (by omega) (by omega)]
theorem mid_ends {x y : Int} (x1 : -67108863 ≤ x) (x2 : x ≤ 67108863) (y1 : -67108863 ≤ y) (y2 : y ≤ 67108863) : mid x y 0 = x ∧ mid x y 65536 = y := by
  rw [mid_small x1 x2 y1 y2 (by omega) (by omega), mid_small x1 x2 y1 y2 (by omega) (by omega)]
  omega
theorem mid_up {x y k : Int} (x1 : -67108863 ≤ x) (x2 : x ≤ 67108863) (y1 : -67108863 ≤ y) (y2 : y ≤ 67108863) (k1 : 0 ≤ k) (k2 : k ≤ 65536) (h : x ≤ y) : x ≤ mid x y k ∧ mid x y k ≤ y := by
  rw [mid_small x1 x2 y1 y2 k1 k2]
  have a := Int.mul_le_mul_of_nonneg_left k2 (by omega : 0 ≤ y - x)
  have b := Int.mul_nonneg (by omega : 0 ≤ y - x) k1
  generalize (y - x) * k = p at *
  omega
theorem mid_down {x y k : Int} (x1 : -67108863 ≤ x) (x2 : x ≤ 67108863) (y1 : -67108863 ≤ y) (y2 : y ≤ 67108863) (k1 : 0 ≤ k) (k2 : k ≤ 65536) (h : y ≤ x) : y ≤ mid x y k ∧ mid x y k ≤ x := by
  rw [mid_small x1 x2 y1 y2 k1 k2]
  have a := Int.mul_le_mul_of_nonneg_left k2 (by omega : 0 ≤ x - y)
  have b := Int.mul_nonneg (by omega : 0 ≤ x - y) k1
  have e : (y - x) * k = -((x - y) * k) := by rw [← Int.neg_mul]; congr 1; omega
  rw [e]
  generalize (x - y) * k = p at *
  omega
theorem mid_in {x y k : Int} (x1 : -67108863 ≤ x) (x2 : x ≤ 67108863) (y1 : -67108863 ≤ y) (y2 : y ≤ 67108863) (k1 : 0 ≤ k) (k2 : k ≤ 65536) : min x y ≤ mid x y k ∧ mid x y k ≤ max x y := by
  by_cases h : x ≤ y
  · have := mid_up x1 x2 y1 y2 k1 k2 h; omega
  · have := mid_down x1 x2 y1 y2 k1 k2 (by omega); omega
theorem clamp_self (a x : Int) : clamp a x x = x := by unfold clamp; split <;> (try split) <;> omega
set_option maxHeartbeats 400000 in
theorem qMids_walk (a b t : Int) (_ : (Lit.int .i64 a).wf = true) (_ : (Lit.int .i64 b).wf = true) (_ : (Lit.int .i64 t).wf = true) (w : World) :
    Calls Try.prog 6 #[.int .i64 a, .int .i64 b, .int .i64 t] w fun e w' => e = .returned (.bool true) ∧ Grown w w' := by
  obtain ⟨x1, x2⟩ := near_bd a
  obtain ⟨y1, y2⟩ := near_bd b
  obtain ⟨t1, t2⟩ := one_bd t
  obtain ⟨m0, m1⟩ := mid_ends x1 x2 y1 y2
  have n0 : (mid (a.tmod 67108864) (b.tmod 67108864) 0 == a.tmod 67108864) = true := by simp [m0]
  have n1 : (mid (a.tmod 67108864) (b.tmod 67108864) 65536 == b.tmod 67108864) = true := by simp [m1]
  have n2 : (clamp a (a.tmod 67108864) (a.tmod 67108864) == a.tmod 67108864) = true := by simp [clamp_self]
  clear m0 m1
  by_cases ht : t.tmod 65537 < 0
  · obtain ⟨u1, u2⟩ := mid_in x1 x2 y1 y2 (k := -t.tmod 65537) (by omega) (by omega)
    go_enter Try.func6, Try.ntmps6
    go_wp2_with (first | (go_at_call 18; refine (q_mid _ _ _ _).mono ?_; rintro e w' ⟨rfl, rfl⟩) | (go_at_call 19; refine (q_clamp _ _ _ _).mono ?_; rintro e w' ⟨rfl, rfl⟩) | (go_at_call 11; refine (known _).mono ?_; rintro e w' ⟨rfl, n, rfl⟩))
    go_ret
    exact ⟨rfl, grown_drewN _ _⟩
  · obtain ⟨u1, u2⟩ := mid_in x1 x2 y1 y2 (k := t.tmod 65537) (by omega) (by omega)
    go_enter Try.func6, Try.ntmps6
    go_wp2_with (first | (go_at_call 18; refine (q_mid _ _ _ _).mono ?_; rintro e w' ⟨rfl, rfl⟩) | (go_at_call 19; refine (q_clamp _ _ _ _).mono ?_; rintro e w' ⟨rfl, rfl⟩) | (go_at_call 11; refine (known _).mono ?_; rintro e w' ⟨rfl, n, rfl⟩))
    go_ret
    exact ⟨rfl, grown_drewN _ _⟩

end Go.Proofs.Ytdefpbhdjdfobaa
