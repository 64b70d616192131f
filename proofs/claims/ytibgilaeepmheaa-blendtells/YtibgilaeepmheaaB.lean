/- Contracts of math/bits.Mul64 and of q.wideMul, q.Mul: for all numbers the product by 65536, rounded down and held; the memory stays as it was. -/
import Derived.Test.YtibgilaeepmheaaA
import Derived.Lib.Mul64
import Derived.Laws.Bits64b
namespace Go.Proofs.Ytibgilaeepmheaa
open Go.RowKit
open M

theorem mask32 (a : Nat) (ha : a < 18446744073709551616) : bits .and .u64 (a : Int) 4294967295 = ((a % 4294967296 : Nat) : Int) := by
  have h := bits_and_u64_nat a 4294967295 ha (by omega)
  have e : a &&& 4294967295 = a % 4294967296 := Nat.and_two_pow_sub_one_eq_mod a 32
  rw [e] at h
  exact h
theorem castDiv (a : Nat) : (a : Int) / 4294967296 = ((a / 4294967296 : Nat) : Int) := by omega
theorem castMul (a b : Nat) : (a : Int) * (b : Int) = ((a * b : Nat) : Int) := (Int.natCast_mul a b).symm
theorem castAdd (a b : Nat) : (a : Int) + (b : Int) = ((a + b : Nat) : Int) := (Int.natCast_add a b).symm
theorem wrapNat (a : Nat) (ha : a < 18446744073709551616) : IntKind.u64.wrap (a : Int) = (a : Int) := by rw [IntKind.wrap_u64]; omega
theorem wrapMod (a : Nat) : IntKind.u64.wrap (a : Int) = ((a % 18446744073709551616 : Nat) : Int) := by rw [IntKind.wrap_u64]; omega

theorem ret_int {k : IntKind} {a b : Int} (h : a = b) : Ending.returned (.int k a) = .returned (.int k b) := by rw [h]
theorem ret_two {k l : IntKind} {a b c d : Int} (h : a = b) (g : c = d) : Ending.returned (.tuple #[.int k a, .int l c]) = .returned (.tuple #[.int k b, .int l d]) := by rw [h, g]

def hiP (x y : Int) : Int := x * y / 18446744073709551616
def loP (x y : Int) : Int := x * y % 18446744073709551616
theorem prod_bound {x y : Int} {b c : Nat} (h1 : -(b : Int) ≤ x) (h2 : x ≤ b) (h3 : -(c : Int) ≤ y) (h4 : y ≤ c) : -((b * c : Nat) : Int) ≤ x * y ∧ x * y ≤ ((b * c : Nat) : Int) := by
  have h : x.natAbs * y.natAbs ≤ b * c := Nat.mul_le_mul (by omega) (by omega)
  have e : (x * y).natAbs = x.natAbs * y.natAbs := Int.natAbs_mul x y
  omega
theorem held_prod {a b : Int} (a1 : -1099511627776 ≤ a) (a2 : a ≤ 1099511627776) (b1 : -1099511627776 ≤ b) (b2 : b ≤ 1099511627776) :
    -1208925819614629174706176 ≤ a * b ∧ a * b ≤ 1208925819614629174706176 := by
  have h := prod_bound (x := a) (y := b) (b := 1099511627776) (c := 1099511627776) (by omega) (by omega) (by omega) (by omega)
  omega
theorem wm_pp {a b : Int} (a1 : -1099511627776 ≤ a) (a2 : a ≤ 1099511627776) (b1 : -1099511627776 ≤ b) (b2 : b ≤ 1099511627776) :
    wrap64 (hiP a b) = a * b / 18446744073709551616 := by
  have h := held_prod a1 a2 b1 b2
  unfold hiP wrap64
  generalize a * b = p at *
  omega
theorem wm_np {a b : Int} (a1 : -1099511627776 ≤ a) (a2 : a ≤ 1099511627776) (b1 : -1099511627776 ≤ b) (b2 : b ≤ 1099511627776) (ha : a < 0) :
    wrap64 (IntKind.u64.wrap (hiP (IntKind.u64.wrap a) b - b)) = a * b / 18446744073709551616 ∧ loP (IntKind.u64.wrap a) b = a * b % 18446744073709551616 := by
  have h := held_prod a1 a2 b1 b2
  have e : IntKind.u64.wrap a = a + 18446744073709551616 := by rw [IntKind.wrap_u64]; omega
  rw [e]; unfold hiP loP wrap64
  rw [IntKind.wrap_u64, Int.add_mul]
  generalize a * b = p at *
  omega
theorem wm_pn {a b : Int} (a1 : -1099511627776 ≤ a) (a2 : a ≤ 1099511627776) (b1 : -1099511627776 ≤ b) (b2 : b ≤ 1099511627776) (hb : b < 0) :
    wrap64 (IntKind.u64.wrap (hiP a (IntKind.u64.wrap b) - a)) = a * b / 18446744073709551616 ∧ loP a (IntKind.u64.wrap b) = a * b % 18446744073709551616 := by
  have h := held_prod a1 a2 b1 b2
  have e : IntKind.u64.wrap b = b + 18446744073709551616 := by rw [IntKind.wrap_u64]; omega
  rw [e]; unfold hiP loP wrap64
  rw [IntKind.wrap_u64, Int.mul_add]
  generalize a * b = p at *
  omega
theorem wm_nn {a b : Int} (a1 : -1099511627776 ≤ a) (a2 : a ≤ 1099511627776) (b1 : -1099511627776 ≤ b) (b2 : b ≤ 1099511627776) (ha : a < 0) (hb : b < 0) :
    wrap64 (IntKind.u64.wrap (IntKind.u64.wrap (hiP (IntKind.u64.wrap a) (IntKind.u64.wrap b) - IntKind.u64.wrap b) - IntKind.u64.wrap a)) = a * b / 18446744073709551616 ∧ loP (IntKind.u64.wrap a) (IntKind.u64.wrap b) = a * b % 18446744073709551616 := by
  have h := held_prod a1 a2 b1 b2
  have e : IntKind.u64.wrap a = a + 18446744073709551616 := by rw [IntKind.wrap_u64]; omega
  have e' : IntKind.u64.wrap b = b + 18446744073709551616 := by rw [IntKind.wrap_u64]; omega
  rw [e, e']; unfold hiP loP wrap64
  rw [IntKind.wrap_u64, IntKind.wrap_u64, Int.mul_add, Int.add_mul]
  generalize a * b = p at *
  omega

end Go.Proofs.Ytibgilaeepmheaa
