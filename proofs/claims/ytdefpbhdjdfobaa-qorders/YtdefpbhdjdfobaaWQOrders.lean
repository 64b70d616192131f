/- The walk of mutoscopelaw1.QOrders: for all three numbers it returns true; the memory stays as it was but for draws. -/
import Derived.Test.YtdefpbhdjdfobaaH
namespace Go.Proofs.Ytdefpbhdjdfobaa
open Go.RowKit
open M

theorem add_up {x y : Int} (c : Int) (h : x ≤ y) : add x c ≤ add y c := by
  have := hold_mono h
  unfold add; exact hold_mono (by omega)
theorem mul_up {x y k : Int} (h : x ≤ y) (k1 : 0 ≤ k) (k2 : k ≤ 67108863) : mul x k ≤ mul y k := by
  have a := hold_mono h
  have e := hold_in (a := k) (by omega) (by omega)
  unfold mul; rw [e]
  have := Int.mul_le_mul_of_nonneg_right a k1
  exact hold_mono (Int.ediv_le_ediv (by decide) this)
theorem dv_up {x y k : Int} (h : x ≤ y) (k1 : 0 ≤ k) (k2 : k ≤ 67108863) : dv x k ≤ dv y k := by
  have a := hold_mono h
  have e := hold_in (a := k) (by omega) (by omega)
  unfold dv; rw [e]
  by_cases k0 : k = 0
  · rw [if_pos k0, if_pos k0]; omega
  · rw [if_neg k0, if_neg k0]
    have p : 0 < k := by omega
    unfold flo; rw [if_pos p, if_pos p]
    exact hold_mono (Int.ediv_le_ediv p (by omega))
theorem root_up {x y : Int} (h : x ≤ y) : root x ≤ root y := by
  have a := hold_mono h
  have r := root_lo y
  by_cases n : hold x < 0
  · have : root x = 0 := if_pos n
    omega
  · unfold root
    rw [if_neg n, if_neg (by omega)]
    exact Int.ofNat_le.mpr (isq_mono (by omega))
theorem and_near (c : Int) : bits .and .i64 c 67108863 = c % 67108864 := by
  show IntKind.i64.wrap ((BitVec.ofInt 64 c &&& BitVec.ofInt 64 (67108863 : Int)).toNat : Int) = _
  have e0 : (BitVec.ofInt 64 (67108863 : Int)).toNat = 67108863 := by decide
  have e1 : (BitVec.ofInt 64 c).toNat = (c % 18446744073709551616).toNat := by rw [BitVec.toNat_ofInt]; rfl
  have e2 : ∀ n : Nat, n &&& 67108863 = n % 67108864 := fun n => Nat.and_two_pow_sub_one_eq_mod n 26
  rw [BitVec.toNat_and, e0, e1, e2, IntKind.wrap_i64]
  omega

set_option maxHeartbeats 400000 in
theorem qOrders_walk (a b c : Int) (_ : (Lit.int .i64 a).wf = true) (_ : (Lit.int .i64 b).wf = true) (_ : (Lit.int .i64 c).wf = true) (w : World) :
    Calls Try.prog 8 #[.int .i64 a, .int .i64 b, .int .i64 c] w fun e w' => e = .returned (.bool true) ∧ Grown w w' := by
  have h : min a b ≤ max a b := by omega
  have hk := and_near c
  have k1 : 0 ≤ c % 67108864 := by omega
  have k2 : c % 67108864 ≤ 67108863 := by omega
  have f1 := add_up c h
  have f2 := mul_up h k1 k2
  have f3 := dv_up h k1 k2
  have f4 := root_up h
  have f5 : clamp (min a b) (-(c % 67108864)) (c % 67108864) ≤ clamp (max a b) (-(c % 67108864)) (c % 67108864) := clamp_mono h (by omega)
  clear h
  go_enter Try.func8, Try.ntmps8
  go_wp2_with (first | (go_at_call 12; refine (q_mul _ _ _).mono ?_; rintro e w' ⟨rfl, rfl⟩) | (go_at_call 17; refine (q_div _ _ _).mono ?_; rintro e w' ⟨rfl, n, rfl⟩) | (go_at_call 13; refine (q_root _ _).mono ?_; rintro e w' ⟨rfl, rfl⟩) | (go_at_call 14; refine (q_hyp _ _ _).mono ?_; rintro e w' ⟨rfl, rfl⟩) | (go_at_call 15; refine (q_add _ _ _).mono ?_; rintro e w' ⟨rfl, rfl⟩) | (go_at_call 18; refine (q_mid _ _ _ _).mono ?_; rintro e w' ⟨rfl, rfl⟩) | (go_at_call 16; refine (q_hold _ _).mono ?_; rintro e w' ⟨rfl, rfl⟩) | (go_at_call 20; refine (q_place _ _).mono ?_; rintro e w' ⟨rfl, rfl⟩) | (go_at_call 19; refine (q_clamp _ _ _ _).mono ?_; rintro e w' ⟨rfl, rfl⟩) | (go_at_call 11; refine (known _).mono ?_; rintro e w' ⟨rfl, n, rfl⟩))
  go_ret
  exact ⟨rfl, grown_drewN _ _⟩

end Go.Proofs.Ytdefpbhdjdfobaa
