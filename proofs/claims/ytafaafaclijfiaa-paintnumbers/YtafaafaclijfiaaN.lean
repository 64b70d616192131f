/- Contracts of mutoscoperef1.Root, .Hyp, .Mid and of mutoscopelaw1.same: for all numbers; nothing in memory turns. -/
import Derived.Test.YtafaafaclijfiaaK
import Derived.Test.YtafaafaclijfiaaJ
namespace Go.Proofs.Ytafaafaclijfiaa
open Go.RowKit
open M

theorem r_rooti (x : Int) (h0 : 0 ≤ x) (h1 : x ≤ 18446744073709551615) (w : World) :
    Calls Try.prog 59 #[.int .u64 x] w fun e w' => e = .returned (.int .u64 (isqi x)) ∧ w = w' := by
  obtain ⟨n, rfl⟩ := Int.eq_ofNat_of_zero_le h0
  exact r_rootn n (by omega) w
theorem root_is {a : Int} (h : 0 ≤ hold a) : isqi (hold a * 65536) = root a := by
  have e : (hold a * 65536).toNat = (hold a).toNat * 65536 := by omega
  unfold root isqi; rw [if_neg (by omega), e]
theorem root_none {a : Int} (h : hold a ≤ 0) : root a = 0 := by
  by_cases g : hold a < 0
  · exact if_pos g
  · have e : hold a = 0 := by omega
    unfold root; rw [if_neg g, e]; rfl
theorem isqi_lo (x : Int) : 0 ≤ isqi x := by unfold isqi; omega


theorem r_hyp (x y : Int) (w : World) :
    Calls Try.prog 39 #[.int .i64 x, .int .i64 y] w fun e w' => e = .returned (.int .i64 (hyp x y)) ∧ w = w' := by
  have a1 := wide_lo x; have a2 := wide_hi x; have b1 := wide_lo y; have b2 := wide_hi y
  obtain ⟨c1, c2⟩ := wide_sq x
  obtain ⟨d1, d2⟩ := wide_sq y
  have g0 := hyp_lo x y
  have g1 := hyp_hi x y
  have cl : ∀ a w, Calls Try.prog 40 #[.int .i64 a, .int .i64 (-1073741824), .int .i64 1073741824] w fun e w' => e = .returned (.int .i64 (wide a)) ∧ w = w' := fun a w => r_clamp a _ _ w
  have CL := Lib.hid cl
  clear cl
  change Calls _ _ _ _ fun e w' => e = .returned (.int .i64 (isqi (wide x * wide x + wide y * wide y))) ∧ w = w'
  change 0 ≤ isqi (wide x * wide x + wide y * wide y) at g0
  change isqi (wide x * wide x + wide y * wide y) ≤ _ at g1
  go_enter Try.func39, Try.ntmps39
  go_wp2_with (first | (go_at_call 40; refine (CL.out _ _).mono ?_; rintro e w' ⟨rfl, rfl⟩) | (go_at_call 59; refine (r_rooti _ (by omega) (by omega) _).mono ?_; rintro e w' ⟨rfl, rfl⟩))
  go_ret
  exact ⟨rfl, rfl⟩


end Go.Proofs.Ytafaafaclijfiaa
