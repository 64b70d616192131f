/- Contract of mutoscopebook.Within from 1 to 40 and from 1 to 200: some number from 1 to that; the world stays. And numbers masked. -/
import Derived.Test.YtafaafaclijfiaaRI5
namespace Go.Proofs.Ytafaafaclijfiaa
open Go.RowKit
open M

theorem b_win40 (x : Int) (w : World) :
    Calls Try.prog 42 #[.int .i64 x, .int .i64 1, .int .i64 40] w fun e w' => (∃ y : Int, e = .returned (.int .i64 y) ∧ 1 ≤ y ∧ y ≤ 40) ∧ w = w' := by
  by_cases h : 1 ≤ x ∧ x ≤ 40
  · obtain ⟨h0, h1⟩ := h
    go_enter Try.func42, Try.ntmps42
    go_wp2
    go_ret
    exact ⟨⟨x, rfl, h0, h1⟩, rfl⟩
  · obtain ⟨T, hT, T0, T1⟩ : ∃ T, x.tmod 40 = T ∧ -40 < T ∧ T < 40 := ⟨_, rfl, (tmod_bd _ _ (by decide)).1, (tmod_bd _ _ (by decide)).2⟩
    have h' : x < 1 ∨ 40 < x := by omega
    clear h
    rcases h' with h | h
    · by_cases hn : T < 0
      · go_enter Try.func42, Try.ntmps42
        go_wp2
        go_ret
        exact ⟨⟨T + 40 + 1, ret_int (by omega), by omega, by omega⟩, rfl⟩
      · go_enter Try.func42, Try.ntmps42
        go_wp2
        go_ret
        exact ⟨⟨T + 1, ret_int (by omega), by omega, by omega⟩, rfl⟩
    · have h0 : 0 ≤ x := by omega
      have hT2 : 0 ≤ T := by rw [← hT]; exact Int.tmod_nonneg _ h0
      have hT' : x % 40 = T := by rw [← hT]; exact (Int.tmod_eq_emod_of_nonneg h0).symm
      go_enter Try.func42, Try.ntmps42
      go_wp2
      go_ret
      exact ⟨⟨T + 1, ret_int (by omega), by omega, by omega⟩, rfl⟩
theorem b_win200 (x : Int) (w : World) :
    Calls Try.prog 42 #[.int .i64 x, .int .i64 1, .int .i64 200] w fun e w' => (∃ y : Int, e = .returned (.int .i64 y) ∧ 1 ≤ y ∧ y ≤ 200) ∧ w = w' := by
  by_cases h : 1 ≤ x ∧ x ≤ 200
  · obtain ⟨h0, h1⟩ := h
    go_enter Try.func42, Try.ntmps42
    go_wp2
    go_ret
    exact ⟨⟨x, rfl, h0, h1⟩, rfl⟩
  · obtain ⟨T, hT, T0, T1⟩ : ∃ T, x.tmod 200 = T ∧ -200 < T ∧ T < 200 := ⟨_, rfl, (tmod_bd _ _ (by decide)).1, (tmod_bd _ _ (by decide)).2⟩
    have h' : x < 1 ∨ 200 < x := by omega
    clear h
    rcases h' with h | h
    · by_cases hn : T < 0
      · go_enter Try.func42, Try.ntmps42
        go_wp2
        go_ret
        exact ⟨⟨T + 200 + 1, ret_int (by omega), by omega, by omega⟩, rfl⟩
      · go_enter Try.func42, Try.ntmps42
        go_wp2
        go_ret
        exact ⟨⟨T + 1, ret_int (by omega), by omega, by omega⟩, rfl⟩
    · have h0 : 0 ≤ x := by omega
      have hT2 : 0 ≤ T := by rw [← hT]; exact Int.tmod_nonneg _ h0
      have hT' : x % 200 = T := by rw [← hT]; exact (Int.tmod_eq_emod_of_nonneg h0).symm
      go_enter Try.func42, Try.ntmps42
      go_wp2
      go_ret
      exact ⟨⟨T + 1, ret_int (by omega), by omega, by omega⟩, rfl⟩
theorem and_31 (c : Int) : bits .and .i64 c 31 = c % 32 := by
  show IntKind.i64.wrap ((BitVec.ofInt 64 c &&& BitVec.ofInt 64 (31 : Int)).toNat : Int) = _
  have e0 : (BitVec.ofInt 64 (31 : Int)).toNat = 31 := by decide
  have e1 : (BitVec.ofInt 64 c).toNat = (c % 18446744073709551616).toNat := by rw [BitVec.toNat_ofInt]; rfl
  have e2 : ∀ n : Nat, n &&& 31 = n % 32 := fun n => Nat.and_two_pow_sub_one_eq_mod n 5
  rw [BitVec.toNat_and, e0, e1, e2, IntKind.wrap_i64]
  omega
theorem and_63 (c : Int) : bits .and .i64 c 63 = c % 64 := by
  show IntKind.i64.wrap ((BitVec.ofInt 64 c &&& BitVec.ofInt 64 (63 : Int)).toNat : Int) = _
  have e0 : (BitVec.ofInt 64 (63 : Int)).toNat = 63 := by decide
  have e1 : (BitVec.ofInt 64 c).toNat = (c % 18446744073709551616).toNat := by rw [BitVec.toNat_ofInt]; rfl
  have e2 : ∀ n : Nat, n &&& 63 = n % 64 := fun n => Nat.and_two_pow_sub_one_eq_mod n 6
  rw [BitVec.toNat_and, e0, e1, e2, IntKind.wrap_i64]
  omega
theorem and_127 (c : Int) : bits .and .i64 c 127 = c % 128 := by
  show IntKind.i64.wrap ((BitVec.ofInt 64 c &&& BitVec.ofInt 64 (127 : Int)).toNat : Int) = _
  have e0 : (BitVec.ofInt 64 (127 : Int)).toNat = 127 := by decide
  have e1 : (BitVec.ofInt 64 c).toNat = (c % 18446744073709551616).toNat := by rw [BitVec.toNat_ofInt]; rfl
  have e2 : ∀ n : Nat, n &&& 127 = n % 128 := fun n => Nat.and_two_pow_sub_one_eq_mod n 7
  rw [BitVec.toNat_and, e0, e1, e2, IntKind.wrap_i64]
  omega

end Go.Proofs.Ytafaafaclijfiaa
