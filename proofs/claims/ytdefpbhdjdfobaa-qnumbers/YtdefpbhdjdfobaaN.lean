/- Contracts of mutoscoperef1.Root, .Hyp, .Mid and of mutoscopelaw1.same: for all numbers; nothing in memory turns. -/
import Derived.Test.YtdefpbhdjdfobaaK
namespace Go.Proofs.Ytdefpbhdjdfobaa
open Go.RowKit
open M

theorem r_rooti (x : Int) (h0 : 0 ≤ x) (h1 : x ≤ 18446744073709551615) (w : World) :
    Calls Try.prog 36 #[.int .u64 x] w fun e w' => e = .returned (.int .u64 (isqi x)) ∧ w = w' := by
  obtain ⟨n, rfl⟩ := Int.eq_ofNat_of_zero_le h0
  exact r_rootn n (by omega) w
theorem root_is {a : Int} (h : 0 ≤ hold a) : isqi (hold a * 65536) = root a := by
  have e : (hold a * 65536).toNat = (hold a).toNat * 65536 := by omega
  unfold root isqi; rw [if_neg (by omega), e]
theorem root_none {a : Int} (h : hold a ≤ 0) : root a = 0 := by
  by_cases g : hold a < 0
  · exact if_pos g
  · have e : hold a = 0 := by omega
    unfold root; rw [if_neg g, e]; rfl
theorem isqi_lo (x : Int) : 0 ≤ isqi x := by unfold isqi; omega

theorem r_root (a : Int) (w : World) :
    Calls Try.prog 26 #[.int .i64 a] w fun e w' => e = .returned (.int .i64 (root a)) ∧ w = w' := by
  have a1 := hold_lo a; have a2 := hold_hi a
  by_cases h : hold a ≤ 0
  · rw [root_none h]
    go_enter Try.func26, Try.ntmps26
    go_wp2_with (go_at_call 21; refine (r_hold _ _).mono ?_; rintro e w' ⟨rfl, rfl⟩)
    go_ret
    exact ⟨rfl, rfl⟩
  · have r0 := root_lo a
    have r1 := root_hi a
    rw [← root_is (by omega)] at r0 r1 ⊢
    go_enter Try.func26, Try.ntmps26
    go_wp2_with (first | (go_at_call 21; refine (r_hold _ _).mono ?_; rintro e w' ⟨rfl, rfl⟩) | (go_at_call 36; refine (r_rooti _ (by omega) (by omega) _).mono ?_; rintro e w' ⟨rfl, rfl⟩))
    go_ret
    exact ⟨rfl, rfl⟩

theorem r_hyp (x y : Int) (w : World) :
    Calls Try.prog 27 #[.int .i64 x, .int .i64 y] w fun e w' => e = .returned (.int .i64 (hyp x y)) ∧ w = w' := by
  have a1 := wide_lo x; have a2 := wide_hi x; have b1 := wide_lo y; have b2 := wide_hi y
  obtain ⟨c1, c2⟩ := wide_sq x
  obtain ⟨d1, d2⟩ := wide_sq y
  have g0 := hyp_lo x y
  have g1 := hyp_hi x y
  have cl : ∀ a w, Calls Try.prog 29 #[.int .i64 a, .int .i64 (-1073741824), .int .i64 1073741824] w fun e w' => e = .returned (.int .i64 (wide a)) ∧ w = w' := fun a w => r_clamp a _ _ w
  have CL := Lib.hid cl
  clear cl
  change Calls _ _ _ _ fun e w' => e = .returned (.int .i64 (isqi (wide x * wide x + wide y * wide y))) ∧ w = w'
  change 0 ≤ isqi (wide x * wide x + wide y * wide y) at g0
  change isqi (wide x * wide x + wide y * wide y) ≤ _ at g1
  go_enter Try.func27, Try.ntmps27
  go_wp2_with (first | (go_at_call 29; refine (CL.out _ _).mono ?_; rintro e w' ⟨rfl, rfl⟩) | (go_at_call 36; refine (r_rooti _ (by omega) (by omega) _).mono ?_; rintro e w' ⟨rfl, rfl⟩))
  go_ret
  exact ⟨rfl, rfl⟩

theorem r_mid (a b t : Int) (w : World) :
    Calls Try.prog 28 #[.int .i64 a, .int .i64 b, .int .i64 t] w (Drawn (.int .i64 (mid a b t)) w) := by
  have a1 := hold_lo a; have a2 := hold_hi a
  go_enter Try.func28, Try.ntmps28
  go_wp2_with (first | (go_at_call 21; refine (r_hold _ _).mono ?_; rintro e w' ⟨rfl, rfl⟩) | (go_at_call 23; refine (r_add _ _ _).mono ?_; rintro e w' ⟨rfl, rfl⟩) | (go_at_call 24; refine (r_mul _ _ _).mono ?_; rintro e w' ⟨rfl, n, rfl⟩))
  go_ret
  exact ⟨rfl, n, rfl⟩

set_option maxHeartbeats 400000 in
set_option maxRecDepth 100000 in
theorem same (a b t : Int) (w : World) :
    Calls Try.prog 10 #[.int .i64 a, .int .i64 b, .int .i64 t] w (Drawn (.bool true) w) := by
  go_enter Try.func10, Try.ntmps10
  go_wp2_with (first | (go_at_call 12; refine (q_mul _ _ _).mono ?_; rintro e w' ⟨rfl, rfl⟩) | (go_at_call 17; refine (q_div _ _ _).mono ?_; rintro e w' ⟨rfl, n, rfl⟩) | (go_at_call 13; refine (q_root _ _).mono ?_; rintro e w' ⟨rfl, rfl⟩) | (go_at_call 14; refine (q_hyp _ _ _).mono ?_; rintro e w' ⟨rfl, rfl⟩) | (go_at_call 15; refine (q_add _ _ _).mono ?_; rintro e w' ⟨rfl, rfl⟩) | (go_at_call 18; refine (q_mid _ _ _ _).mono ?_; rintro e w' ⟨rfl, rfl⟩) | (go_at_call 16; refine (q_hold _ _).mono ?_; rintro e w' ⟨rfl, rfl⟩) | (go_at_call 20; refine (q_place _ _).mono ?_; rintro e w' ⟨rfl, rfl⟩) | (go_at_call 19; refine (q_clamp _ _ _ _).mono ?_; rintro e w' ⟨rfl, rfl⟩) | (go_at_call 24; refine (r_mul _ _ _).mono ?_; rintro e w' ⟨rfl, n1, rfl⟩) | (go_at_call 25; refine (r_div _ _ _).mono ?_; rintro e w' ⟨rfl, n2, rfl⟩) | (go_at_call 26; refine (r_root _ _).mono ?_; rintro e w' ⟨rfl, rfl⟩) | (go_at_call 27; refine (r_hyp _ _ _).mono ?_; rintro e w' ⟨rfl, rfl⟩) | (go_at_call 23; refine (r_add _ _ _).mono ?_; rintro e w' ⟨rfl, rfl⟩) | (go_at_call 28; refine (r_mid _ _ _ _).mono ?_; rintro e w' ⟨rfl, n3, rfl⟩) | (go_at_call 21; refine (r_hold _ _).mono ?_; rintro e w' ⟨rfl, rfl⟩) | (go_at_call 22; refine (r_place _ _).mono ?_; rintro e w' ⟨rfl, rfl⟩) | (go_at_call 29; refine (r_clamp _ _ _ _).mono ?_; rintro e w' ⟨rfl, rfl⟩))
  go_ret
  exact ⟨rfl, _, rfl⟩

end Go.Proofs.Ytdefpbhdjdfobaa
