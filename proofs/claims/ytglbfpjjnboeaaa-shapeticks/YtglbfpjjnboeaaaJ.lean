/- Contracts of mutoscoperef1.size, .down, .Mul and .Div: for all numbers what the plain arithmetic says; nothing in memory turns. -/
import Derived.Test.YtglbfpjjnboeaaaI
import Derived.WalkLawsBesides
namespace Go.Proofs.Ytglbfpjjnboeaaa
open Go.RowKit
open M

def absq (a : Int) : Int := if a < 0 then -a else a
def isNeg (a : Int) : Bool := decide (a < 0)
def dnr (N R : Int) (minus : Bool) : Int := hold (if minus then -(if 0 < R then N + 1 else N) else N)
theorem dn_pos (N R : Int) (n0 : 0 ≤ N) : hold (min N 4611686018427387904) = dnr N R false := by
  unfold dnr; rw [if_neg (by decide)]
  by_cases h : N ≤ 4611686018427387904
  · rw [show min N 4611686018427387904 = N by omega]
  · rw [hold_ge (by omega), hold_ge (by omega)]
theorem dn_neg0 (N R : Int) (n0 : 0 ≤ N) (h : ¬ 0 < R) : hold (-(min N 4611686018427387904)) = dnr N R true := by
  unfold dnr; rw [if_pos rfl, if_neg h]
  by_cases h : N ≤ 4611686018427387904
  · rw [show min N 4611686018427387904 = N by omega]
  · rw [hold_le (by omega), hold_le (by omega)]
theorem dn_neg1 (N R : Int) (n0 : 0 ≤ N) (h : 0 < R) (g : N < 4611686018427387904) : hold (-(min (N + 1) 4611686018427387904)) = dnr N R true := by
  unfold dnr; rw [if_pos rfl, if_pos h, show min (N + 1) 4611686018427387904 = N + 1 by omega]
theorem dn_neg2 (N R : Int) (h : 0 < R) (g : ¬ N < 4611686018427387904) : hold (-(min N 4611686018427387904)) = dnr N R true := by
  unfold dnr; rw [if_pos rfl, if_pos h, hold_le (by omega), hold_le (by omega)]

theorem hl_eq (x y : Int) : hiP x y * 18446744073709551616 + loP x y = x * y := by unfold hiP loP; omega
theorem dnr_top {N R : Int} (minus : Bool) (h : 1099511627776 ≤ N) : (if minus then -1099511627776 else 1099511627776 : Int) = dnr N R minus := by
  unfold dnr
  cases minus
  · rw [if_neg (by decide), if_neg (by decide), hold_ge h]
  · rw [if_pos rfl, if_pos rfl]
    split <;> rw [hold_le (by omega)]
theorem floor_neg (m d : Int) (d0 : 0 < d) : (-m) / d = -(if 0 < m % d then m / d + 1 else m / d) := by
  have e := Int.mul_ediv_add_emod m d
  have r0 := Int.emod_nonneg m (by omega : d ≠ 0)
  have r1 := Int.emod_lt_of_pos m d0
  split
  · have e' : d * -(m / d + 1) = -(d * (m / d)) - d := by rw [Int.mul_neg, Int.mul_add, Int.mul_one]; omega
    exact div_eq d0 (by omega) (by omega)
  · have e' : d * -(m / d) = -(d * (m / d)) := Int.mul_neg _ _
    exact div_eq d0 (by omega) (by omega)
theorem dnr_true (m d : Int) (d0 : 0 < d) : dnr (m / d) (m % d) true = hold ((-m) / d) := by
  unfold dnr; rw [if_pos rfl, floor_neg m d d0]
theorem dnr_false (m d : Int) : dnr (m / d) (m % d) false = hold (m / d) := by
  unfold dnr; rw [if_neg (by decide)]
theorem isNeg_true {a : Int} (h : a < 0) : isNeg a = true := by unfold isNeg; simpa using h
theorem isNeg_false {a : Int} (h : ¬ a < 0) : isNeg a = false := by unfold isNeg; simpa using h
theorem mul_signs (a b : Int) : dnr (absq (hold a) * absq (hold b) / 65536) (absq (hold a) * absq (hold b) % 65536) (!(isNeg (hold a) == isNeg (hold b))) = mul a b := by
  unfold mul
  by_cases ha : hold a < 0 <;> by_cases hb : hold b < 0
  · rw [isNeg_true ha, isNeg_true hb, show absq (hold a) = -(hold a) from if_pos ha, show absq (hold b) = -(hold b) from if_pos hb, Int.neg_mul_neg]
    exact dnr_false _ _
  · rw [isNeg_true ha, isNeg_false hb, show absq (hold a) = -(hold a) from if_pos ha, show absq (hold b) = hold b from if_neg hb, Int.neg_mul]
    show dnr _ _ true = _
    rw [dnr_true _ _ (by decide), Int.neg_neg]
  · rw [isNeg_false ha, isNeg_true hb, show absq (hold a) = hold a from if_neg ha, show absq (hold b) = -(hold b) from if_pos hb, Int.mul_neg]
    show dnr _ _ true = _
    rw [dnr_true _ _ (by decide), Int.neg_neg]
  · rw [isNeg_false ha, isNeg_false hb, show absq (hold a) = hold a from if_neg ha, show absq (hold b) = hold b from if_neg hb]
    exact dnr_false _ _
theorem absq_bd (a : Int) : 0 ≤ absq (hold a) ∧ absq (hold a) ≤ 1099511627776 := by
  have := hold_lo a; have := hold_hi a; unfold absq; split <;> omega

end Go.Proofs.Ytglbfpjjnboeaaa
