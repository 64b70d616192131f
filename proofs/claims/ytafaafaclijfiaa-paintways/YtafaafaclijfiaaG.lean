/- Contracts of q.Root, q.Hyp: for all numbers what the plain arithmetic says; the memory stays as it was. -/
import Derived.Test.YtafaafaclijfiaaD
import Derived.Test.YtafaafaclijfiaaMidQ
import Derived.Test.YtafaafaclijfiaaF
namespace Go.Proofs.Ytafaafaclijfiaa
open Go.RowKit
open M

def isqi (x : Int) : Int := ((isq x.toNat : Nat) : Int)
theorem q_wholeRooti (x : Int) (h0 : 0 ≤ x) (h1 : x ≤ 18446744073709551615) (w : World) :
    Calls Try.prog 61 #[.int .u64 x] w fun e w' => e = .returned (.int .i64 (isqi x)) ∧ w = w' := by
  obtain ⟨n, rfl⟩ := Int.eq_ofNat_of_zero_le h0
  exact q_wholeRoot n (by omega) w
theorem root_pos {a : Int} (h : 0 ≤ hold a) : hold (isqi (hold a * 65536)) = root a := by
  have e : (hold a * 65536).toNat = (hold a).toNat * 65536 := by omega
  have r : root a = isqi (hold a * 65536) := by
    unfold root isqi; rw [if_neg (by omega), e]
  have l := root_lo a
  have g := root_hi a
  rw [← r]
  exact hold_in (by omega) (by omega)


theorem hyp_eq (x y : Int) : hold (isqi (wide x * wide x + wide y * wide y)) = hyp x y := by
  have l := hyp_lo x y
  have g := hyp_hi x y
  exact hold_in (by unfold hyp at l; unfold isqi; omega) (by unfold hyp at g; unfold isqi; omega)
theorem q_hyp (x y : Int) (w : World) :
    Calls Try.prog 47 #[.int .i64 x, .int .i64 y] w fun e w' => e = .returned (.int .i64 (hyp x y)) ∧ w = w' := by
  have a1 := wide_lo x; have a2 := wide_hi x; have b1 := wide_lo y; have b2 := wide_hi y
  obtain ⟨c1, c2⟩ := wide_sq x
  obtain ⟨d1, d2⟩ := wide_sq y
  have cl : ∀ a w, Calls Try.prog 44 #[.int .i64 a, .int .i64 (-1073741824), .int .i64 1073741824] w fun e w' => e = .returned (.int .i64 (wide a)) ∧ w = w' := fun a w => q_clamp a _ _ w
  have CL := Lib.hid cl
  clear cl
  go_enter Try.func47, Try.ntmps47
  go_wp2_with (first | (go_at_call 44; refine (CL.out _ _).mono ?_; rintro e w' ⟨rfl, rfl⟩) | (go_at_call 53; refine (q_hold _ _).mono ?_; rintro e w' ⟨rfl, rfl⟩) | (go_at_call 61; refine (q_wholeRooti _ (by omega) (by omega) _).mono ?_; rintro e w' ⟨rfl, rfl⟩))
  go_ret
  exact ⟨ret_int (hyp_eq x y), rfl⟩

theorem k_mul : (mul (-1) 1 == -1) = true := by decide
theorem k_div : (dv 65536 0 == 0) = true := by decide
theorem k_root : (root 262144 == 131072) = true := by
  have : root 262144 = 131072 := by
    unfold root; rw [hold_in (by decide) (by decide), if_neg (by decide), isq_eq (r := 131072) (by decide) (by decide)]; rfl
  simp [this]
theorem k_hyp : (hyp 3 (-4) == 5) = true := by
  have : hyp 3 (-4) = 5 := by
    unfold hyp; rw [wide_in (by decide) (by decide), wide_in (by decide) (by decide), isq_eq (r := 5) (by decide) (by decide)]; rfl
  simp [this]
theorem k_add : (add 4611686018427387904 4611686018427387904 == 1099511627776) = true := by decide
theorem k_mid : (mid 0 10 32768 == 5) = true := by decide


end Go.Proofs.Ytafaafaclijfiaa
