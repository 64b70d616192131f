/- Contracts of math/bits.Mul64 and of q.wideMul, q.Mul: for all numbers the product by 65536, rounded down and held; the memory stays as it was. -/
import Derived.Test.YtafaafaclijfiaaA
import Derived.Lib.Mul64
import Derived.Laws.Bits64b
namespace Go.Proofs.Ytafaafaclijfiaa
open Go.RowKit
open M

theorem mask32 (a : Nat) (ha : a < 18446744073709551616) : bits .and .u64 (a : Int) 4294967295 = ((a % 4294967296 : Nat) : Int) := by
  have h := bits_and_u64_nat a 4294967295 ha (by omega)
  have e : a &&& 4294967295 = a % 4294967296 := Nat.and_two_pow_sub_one_eq_mod a 32
  rw [e] at h
  exact h
theorem castDiv (a : Nat) : (a : Int) / 4294967296 = ((a / 4294967296 : Nat) : Int) := by omega
theorem castMul (a b : Nat) : (a : Int) * (b : Int) = ((a * b : Nat) : Int) := (Int.natCast_mul a b).symm
theorem castAdd (a b : Nat) : (a : Int) + (b : Int) = ((a + b : Nat) : Int) := (Int.natCast_add a b).symm
theorem wrapNat (a : Nat) (ha : a < 18446744073709551616) : IntKind.u64.wrap (a : Int) = (a : Int) := by rw [IntKind.wrap_u64]; omega
theorem wrapMod (a : Nat) : IntKind.u64.wrap (a : Int) = ((a % 18446744073709551616 : Nat) : Int) := by rw [IntKind.wrap_u64]; omega

set_option maxHeartbeats 1000000 in
theorem mul64 (x y : Nat) (hx : x < 18446744073709551616) (hy : y < 18446744073709551616) (w : World) :
    Calls Try.prog 57 #[.int .u64 x, .int .u64 y] w fun e w' => e = .returned (.tuple #[.int .u64 ((x * y / 18446744073709551616 : Nat) : Int), .int .u64 ((x * y % 18446744073709551616 : Nat) : Int)]) ∧ w = w' := by
  obtain ⟨bd, bt, bw, hhi⟩ := Lib.mul64_hi x y hx hy
  have ba := Lib.half_mul_le (a := x / 4294967296) (b := y / 4294967296) (by omega) (by omega)
  have bb := Lib.half_mul_le (a := x / 4294967296) (b := y % 4294967296) (by omega) (by omega)
  have bc := Lib.half_mul_le (a := x % 4294967296) (b := y / 4294967296) (by omega) (by omega)
  have ba' : x / 4294967296 * (y / 4294967296) < 18446744073709551616 := by omega
  have bb' : x / 4294967296 * (y % 4294967296) < 18446744073709551616 := by omega
  have bc' : x % 4294967296 * (y / 4294967296) < 18446744073709551616 := by omega
  have bh1 : x / 4294967296 * (y / 4294967296) + (x / 4294967296 * (y % 4294967296) + x % 4294967296 * (y % 4294967296) / 4294967296) / 4294967296 < 18446744073709551616 := by omega
  have bh : x / 4294967296 * (y / 4294967296) + (x / 4294967296 * (y % 4294967296) + x % 4294967296 * (y % 4294967296) / 4294967296) / 4294967296 + ((x / 4294967296 * (y % 4294967296) + x % 4294967296 * (y % 4294967296) / 4294967296) % 4294967296 + x % 4294967296 * (y / 4294967296)) / 4294967296 < 18446744073709551616 := by omega
  go_enter Try.func57, Try.ntmps57
  go_wp2
  simp only [mask32 x hx, mask32 y hy, castDiv, castMul, castAdd, wrapNat _ bd, wrapNat _ bb', wrapNat _ bt, mask32 _ bt, wrapNat _ bc', wrapNat _ bw, wrapNat _ ba', wrapNat _ bh1, wrapNat _ bh, wrapMod (x * y)]
  rw [hhi]
  go_ret2
  exact ⟨rfl, rfl⟩

theorem ret_int {k : IntKind} {a b : Int} (h : a = b) : Ending.returned (.int k a) = .returned (.int k b) := by rw [h]
theorem ret_two {k l : IntKind} {a b c d : Int} (h : a = b) (g : c = d) : Ending.returned (.tuple #[.int k a, .int l c]) = .returned (.tuple #[.int k b, .int l d]) := by rw [h, g]

def hiP (x y : Int) : Int := x * y / 18446744073709551616
def loP (x y : Int) : Int := x * y % 18446744073709551616
theorem mul64i (x y : Int) (hx0 : 0 ≤ x) (hx1 : x ≤ 18446744073709551615) (hy0 : 0 ≤ y) (hy1 : y ≤ 18446744073709551615) (w : World) :
    Calls Try.prog 57 #[.int .u64 x, .int .u64 y] w fun e w' => e = .returned (.tuple #[.int .u64 (hiP x y), .int .u64 (loP x y)]) ∧ w = w' := by
  obtain ⟨m, rfl⟩ := Int.eq_ofNat_of_zero_le hx0
  obtain ⟨n, rfl⟩ := Int.eq_ofNat_of_zero_le hy0
  have e1 : hiP (m : Int) n = ((m * n / 18446744073709551616 : Nat) : Int) := by unfold hiP; rw [castMul]; omega
  have e2 : loP (m : Int) n = ((m * n % 18446744073709551616 : Nat) : Int) := by unfold loP; rw [castMul]; omega
  rw [e1, e2]
  exact mul64 m n (by omega) (by omega) w

theorem prod_bound {x y : Int} {b c : Nat} (h1 : -(b : Int) ≤ x) (h2 : x ≤ b) (h3 : -(c : Int) ≤ y) (h4 : y ≤ c) : -((b * c : Nat) : Int) ≤ x * y ∧ x * y ≤ ((b * c : Nat) : Int) := by
  have h : x.natAbs * y.natAbs ≤ b * c := Nat.mul_le_mul (by omega) (by omega)
  have e : (x * y).natAbs = x.natAbs * y.natAbs := Int.natAbs_mul x y
  omega
theorem held_prod {a b : Int} (a1 : -1099511627776 ≤ a) (a2 : a ≤ 1099511627776) (b1 : -1099511627776 ≤ b) (b2 : b ≤ 1099511627776) :
    -1208925819614629174706176 ≤ a * b ∧ a * b ≤ 1208925819614629174706176 := by
  have h := prod_bound (x := a) (y := b) (b := 1099511627776) (c := 1099511627776) (by omega) (by omega) (by omega) (by omega)
  omega
theorem wm_pp {a b : Int} (a1 : -1099511627776 ≤ a) (a2 : a ≤ 1099511627776) (b1 : -1099511627776 ≤ b) (b2 : b ≤ 1099511627776) :
    wrap64 (hiP a b) = a * b / 18446744073709551616 := by
  have h := held_prod a1 a2 b1 b2
  unfold hiP wrap64
  generalize a * b = p at *
  omega
theorem wm_np {a b : Int} (a1 : -1099511627776 ≤ a) (a2 : a ≤ 1099511627776) (b1 : -1099511627776 ≤ b) (b2 : b ≤ 1099511627776) (ha : a < 0) :
    wrap64 (IntKind.u64.wrap (hiP (IntKind.u64.wrap a) b - b)) = a * b / 18446744073709551616 ∧ loP (IntKind.u64.wrap a) b = a * b % 18446744073709551616 := by
  have h := held_prod a1 a2 b1 b2
  have e : IntKind.u64.wrap a = a + 18446744073709551616 := by rw [IntKind.wrap_u64]; omega
  rw [e]; unfold hiP loP wrap64
  rw [IntKind.wrap_u64, Int.add_mul]
  generalize a * b = p at *
  omega
theorem wm_pn {a b : Int} (a1 : -1099511627776 ≤ a) (a2 : a ≤ 1099511627776) (b1 : -1099511627776 ≤ b) (b2 : b ≤ 1099511627776) (hb : b < 0) :
    wrap64 (IntKind.u64.wrap (hiP a (IntKind.u64.wrap b) - a)) = a * b / 18446744073709551616 ∧ loP a (IntKind.u64.wrap b) = a * b % 18446744073709551616 := by
  have h := held_prod a1 a2 b1 b2
  have e : IntKind.u64.wrap b = b + 18446744073709551616 := by rw [IntKind.wrap_u64]; omega
  rw [e]; unfold hiP loP wrap64
  rw [IntKind.wrap_u64, Int.mul_add]
  generalize a * b = p at *
  omega
theorem wm_nn {a b : Int} (a1 : -1099511627776 ≤ a) (a2 : a ≤ 1099511627776) (b1 : -1099511627776 ≤ b) (b2 : b ≤ 1099511627776) (ha : a < 0) (hb : b < 0) :
    wrap64 (IntKind.u64.wrap (IntKind.u64.wrap (hiP (IntKind.u64.wrap a) (IntKind.u64.wrap b) - IntKind.u64.wrap b) - IntKind.u64.wrap a)) = a * b / 18446744073709551616 ∧ loP (IntKind.u64.wrap a) (IntKind.u64.wrap b) = a * b % 18446744073709551616 := by
  have h := held_prod a1 a2 b1 b2
  have e : IntKind.u64.wrap a = a + 18446744073709551616 := by rw [IntKind.wrap_u64]; omega
  have e' : IntKind.u64.wrap b = b + 18446744073709551616 := by rw [IntKind.wrap_u64]; omega
  rw [e, e']; unfold hiP loP wrap64
  rw [IntKind.wrap_u64, IntKind.wrap_u64, Int.mul_add, Int.add_mul]
  generalize a * b = p at *
  omega

theorem q_wideMul (a b : Int) (w : World) (a1 : -1099511627776 ≤ a) (a2 : a ≤ 1099511627776) (b1 : -1099511627776 ≤ b) (b2 : b ≤ 1099511627776) :
    Calls Try.prog 52 #[.int .i64 a, .int .i64 b] w fun e w' => e = .returned (.tuple #[.int .i64 (hiP a b), .int .u64 (loP a b)]) ∧ w = w' := by
  by_cases ha : a < 0 <;> by_cases hb : b < 0
  all_goals
    go_enter Try.func52, Try.ntmps52
    go_wp2_with (go_at_call 57; refine (mul64i _ _ ?_ ?_ ?_ ?_ _).mono ?_ <;> first | (rw [IntKind.wrap_u64]; omega) | omega | (rintro e w' ⟨rfl, rfl⟩))
    go_ret2
    first
      | exact ⟨ret_two (wm_nn a1 a2 b1 b2 ha hb).1 (wm_nn a1 a2 b1 b2 ha hb).2, rfl⟩
      | exact ⟨ret_two (wm_np a1 a2 b1 b2 ha).1 (wm_np a1 a2 b1 b2 ha).2, rfl⟩
      | exact ⟨ret_two (wm_pn a1 a2 b1 b2 hb).1 (wm_pn a1 a2 b1 b2 hb).2, rfl⟩
      | exact ⟨ret_two (wm_pp a1 a2 b1 b2) rfl, rfl⟩

end Go.Proofs.Ytafaafaclijfiaa
