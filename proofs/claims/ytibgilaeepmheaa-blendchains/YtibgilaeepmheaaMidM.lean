/- Plain arithmetic of what lies between two numbers: no program is named here. -/
import Derived.Test.YtibgilaeepmheaaB
namespace Go.Proofs.Ytibgilaeepmheaa
open M

theorem mid_small {x y k : Int} (x1 : -67108863 ≤ x) (x2 : x ≤ 67108863) (y1 : -67108863 ≤ y) (y2 : y ≤ 67108863) (k1 : 0 ≤ k) (k2 : k ≤ 65536) :
    mid x y k = x + (y - x) * k / 65536 := by
  have b := prod_bound (x := y - x) (y := k) (b := 134217726) (c := 65536) (by omega) (by omega) (by omega) (by omega)
  have e1 : add y (-(hold x)) = y - x := by
    unfold add; rw [hold_in (a := x) (by omega) (by omega), hold_in (a := y) (by omega) (by omega), hold_in (a := -x) (by omega) (by omega), hold_in (by omega) (by omega)]; omega
  have e2 : mul (y - x) k = (y - x) * k / 65536 := by
    unfold mul; rw [hold_in (a := y - x) (by omega) (by omega), hold_in (a := k) (by omega) (by omega)]
    generalize (y - x) * k = p at *
    exact hold_in (by omega) (by omega)
  unfold mid; rw [e1, e2]
  generalize (y - x) * k = p at *
  unfold add; rw [hold_in (a := x) (by omega) (by omega), hold_in (a := p / 65536) (by omega) (by omega), hold_in (by omega) (by omega)]
theorem mid_ends {x y : Int} (x1 : -67108863 ≤ x) (x2 : x ≤ 67108863) (y1 : -67108863 ≤ y) (y2 : y ≤ 67108863) : mid x y 0 = x ∧ mid x y 65536 = y := by
  rw [mid_small x1 x2 y1 y2 (by omega) (by omega), mid_small x1 x2 y1 y2 (by omega) (by omega)]
  omega
theorem mid_up {x y k : Int} (x1 : -67108863 ≤ x) (x2 : x ≤ 67108863) (y1 : -67108863 ≤ y) (y2 : y ≤ 67108863) (k1 : 0 ≤ k) (k2 : k ≤ 65536) (h : x ≤ y) : x ≤ mid x y k ∧ mid x y k ≤ y := by
  rw [mid_small x1 x2 y1 y2 k1 k2]
  have a := Int.mul_le_mul_of_nonneg_left k2 (by omega : 0 ≤ y - x)
  have b := Int.mul_nonneg (by omega : 0 ≤ y - x) k1
  generalize (y - x) * k = p at *
  omega
theorem mid_down {x y k : Int} (x1 : -67108863 ≤ x) (x2 : x ≤ 67108863) (y1 : -67108863 ≤ y) (y2 : y ≤ 67108863) (k1 : 0 ≤ k) (k2 : k ≤ 65536) (h : y ≤ x) : y ≤ mid x y k ∧ mid x y k ≤ x := by
  rw [mid_small x1 x2 y1 y2 k1 k2]
  have a := Int.mul_le_mul_of_nonneg_left k2 (by omega : 0 ≤ x - y)
  have b := Int.mul_nonneg (by omega : 0 ≤ x - y) k1
  have e : (y - x) * k = -((x - y) * k) := by rw [← Int.neg_mul]; congr 1; omega
  rw [e]
  generalize (x - y) * k = p at *
  omega
theorem mid_in {x y k : Int} (x1 : -67108863 ≤ x) (x2 : x ≤ 67108863) (y1 : -67108863 ≤ y) (y2 : y ≤ 67108863) (k1 : 0 ≤ k) (k2 : k ≤ 65536) : min x y ≤ mid x y k ∧ mid x y k ≤ max x y := by
  by_cases h : x ≤ y
  · have := mid_up x1 x2 y1 y2 k1 k2 h; omega
  · have := mid_down x1 x2 y1 y2 k1 k2 (by omega); omega

end Go.Proofs.Ytibgilaeepmheaa
