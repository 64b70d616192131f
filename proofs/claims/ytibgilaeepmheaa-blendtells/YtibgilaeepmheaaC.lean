/- Contract of q.Mul: for all numbers the product by 65536, rounded down and held; the memory stays as it was. -/
import Derived.Test.YtibgilaeepmheaaB
import Derived.Laws.BitsAllLaws
namespace Go.Proofs.Ytibgilaeepmheaa
open Go.RowKit
open M

theorem lo_bd (a b : Int) : 0 ≤ loP a b ∧ loP a b ≤ 18446744073709551615 := by unfold loP; omega
theorem or_low (y : Int) (h1 : 0 ≤ y) (h2 : y ≤ 281474976710655) : bits .or .i64 0 y = y := by
  obtain ⟨n, rfl⟩ := Int.eq_ofNat_of_zero_le h1
  show IntKind.i64.wrap ((BitVec.ofInt 64 (0 : Int) ||| BitVec.ofInt 64 (n : Int)).toNat : Int) = _
  have e0 : (BitVec.ofInt 64 (0 : Int)).toNat = 0 := by decide
  rw [BitVec.toNat_or, ofInt_u64 n (by omega), e0, Nat.zero_or, IntKind.wrap_i64]
  omega
theorem or_high (y : Int) (h1 : 0 ≤ y) (h2 : y ≤ 281474976710655) : bits .or .i64 (-281474976710656) y = y - 281474976710656 := by
  obtain ⟨n, rfl⟩ := Int.eq_ofNat_of_zero_le h1
  show IntKind.i64.wrap ((BitVec.ofInt 64 (-281474976710656 : Int) ||| BitVec.ofInt 64 (n : Int)).toNat : Int) = _
  have e0 : (BitVec.ofInt 64 (-281474976710656 : Int)).toNat = 18446462598732840960 := by decide
  rw [BitVec.toNat_or, ofInt_u64 n (by omega), e0, nat_join 48 18446462598732840960 n (by decide) (by omega), IntKind.wrap_i64]
  omega
theorem mul_mid {a b : Int} (h1 : hiP (hold a) (hold b) ≤ 0) (h2 : -1 ≤ hiP (hold a) (hold b)) :
    hold (bits BinOp.or IntKind.i64 (hiP (hold a) (hold b) * 281474976710656) (loP (hold a) (hold b) / 65536)) = mul a b := by
  have hl := lo_bd (hold a) (hold b)
  unfold mul
  rcases (by omega : hiP (hold a) (hold b) = 0 ∨ hiP (hold a) (hold b) = -1) with h | h
  · rw [h, show (0 : Int) * 281474976710656 = 0 from rfl, or_low _ (by omega) (by omega)]
    congr 1
    unfold hiP at h; unfold loP
    generalize hold a * hold b = p at *
    omega
  · rw [h, show (-1 : Int) * 281474976710656 = -281474976710656 from rfl, or_high _ (by omega) (by omega)]
    congr 1
    unfold hiP at h; unfold loP
    generalize hold a * hold b = p at *
    omega
theorem mul_top {a b : Int} (h1 : 0 < hiP (hold a) (hold b)) : 1099511627776 = mul a b := by
  unfold mul; unfold hiP at h1
  generalize hold a * hold b = p at *
  rw [hold_ge (by omega)]
theorem mul_bot {a b : Int} (h1 : hiP (hold a) (hold b) < -1) : -1099511627776 = mul a b := by
  unfold mul; unfold hiP at h1
  generalize hold a * hold b = p at *
  rw [hold_le (by omega)]

end Go.Proofs.Ytibgilaeepmheaa
