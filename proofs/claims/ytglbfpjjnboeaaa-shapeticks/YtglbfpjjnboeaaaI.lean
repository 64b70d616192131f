/- Contracts of math/bits.Div64 where the upper half is 0, and where the divisor is 65536: quotient and rest; nothing in memory turns. -/
import Derived.Test.YtglbfpjjnboeaaaD
import Derived.Test.YtglbfpjjnboeaaaF
namespace Go.Proofs.Ytglbfpjjnboeaaa
open Go.RowKit
open M

theorem or_47 (h m : Int) (h0 : 0 ≤ h) (h1 : h < 65536) (m0 : 0 ≤ m) (m1 : m < 140737488355328) : bits .or .u64 (h * 140737488355328) m = h * 140737488355328 + m := by
  rw [u64_or _ _ (by omega) (by omega) m0 (by omega), nat_join 47 _ _ (by omega) (by omega)]
  omega
theorem and_32 (v : Int) (v0 : 0 ≤ v) (v1 : v < 18446744073709551616) : bits .and .u64 v 4294967295 = v % 4294967296 := by
  obtain ⟨n, rfl⟩ := Int.eq_ofNat_of_zero_le v0
  rw [mask32 n (by omega)]; omega
theorem d_T (q r s : Int) (r0 : 0 ≤ r) (r1 : r < 2147483648) (s0 : 0 ≤ s) (s1 : s < 131072) :
    IntKind.u64.wrap (IntKind.u64.wrap (IntKind.u64.wrap ((q * 2147483648 + r) * 4294967296) + s * 140737488355328 / 4294967296) - IntKind.u64.wrap (q * 9223372036854775808)) = r * 4294967296 + s * 32768 := by
  simp only [IntKind.wrap_u64]
  omega
theorem d_rem (t u : Int) (u0 : 0 ≤ u) (u1 : u < 2147483648) :
    IntKind.u64.wrap (IntKind.u64.wrap (IntKind.u64.wrap ((t * 2147483648 + u) * 4294967296)) - IntKind.u64.wrap (t * 9223372036854775808)) = u * 4294967296 := by
  simp only [IntKind.wrap_u64]
  omega
end Go.Proofs.Ytglbfpjjnboeaaa
