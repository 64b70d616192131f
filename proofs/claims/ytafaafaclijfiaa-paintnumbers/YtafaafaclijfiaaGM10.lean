/- The plain arithmetic of a side that is parted at a place on it: both pieces together are as long as the side, but for a few. No condition but those that the theorems name; no program is named here. -/
import Derived.Test.YtafaafaclijfiaaXMath
import Derived.Test.YtafaafaclijfiaaCM9
import Derived.Test.YtafaafaclijfiaaMidM
namespace Go.Proofs.Ytafaafaclijfiaa
namespace M

theorem hyp_spec {x y : Int} (x1 : -1073741824 ≤ x) (x2 : x ≤ 1073741824) (y1 : -1073741824 ≤ y) (y2 : y ≤ 1073741824) : 0 ≤ hyp x y ∧ hyp x y * hyp x y ≤ x * x + y * y ∧ x * x + y * y < (hyp x y + 1) * (hyp x y + 1) := by
  have ex : wide x = x := by unfold wide clamp; rw [if_neg (by omega), if_neg (by omega)]
  have ey : wide y = y := by unfold wide clamp; rw [if_neg (by omega), if_neg (by omega)]
  have sx := (wide_sq x).1
  have sy := (wide_sq y).1
  rw [ex] at sx
  rw [ey] at sy
  unfold hyp
  rw [ex, ey]
  obtain ⟨h1, h2⟩ := isq_spec (x * x + y * y).toNat
  have e : (((x * x + y * y).toNat : Nat) : Int) = x * x + y * y := Int.toNat_of_nonneg (by omega)
  generalize (x * x + y * y).toNat = n at *
  rw [← e]
  refine ⟨Int.natCast_nonneg _, ?_, ?_⟩
  · exact_mod_cast h1
  · exact_mod_cast h2
theorem sq_le {a b : Int} (h0 : 0 ≤ a) (h : a ≤ b) : a * a ≤ b * b := Int.mul_le_mul h h h0 (by omega)
theorem of_sq_lt {a b : Int} (hb : 0 ≤ b) (h : a * a < b * b) : a < b := by
  by_cases e : a < b
  · exact e
  · have := sq_le hb (show b ≤ a by omega); omega
theorem sq_nonneg (a : Int) : 0 ≤ a * a := by
  by_cases h : 0 ≤ a
  · exact Int.mul_nonneg h h
  · have := Int.mul_nonneg (show 0 ≤ -a by omega) (show 0 ≤ -a by omega)
    rwa [Int.neg_mul_neg] at this
/-- The way over a third place is not shorter, but for what rounding takes. -/
theorem way_over {p q r s A C : Int} (hA : 0 ≤ A) (hC : 0 ≤ C) (h1 : p * p + q * q < (A + 1) * (A + 1)) (h2 : r * r + s * s < (C + 1) * (C + 1)) : (p + r) * (p + r) + (q + s) * (q + s) < (A + C + 2) * (A + C + 2) := by
  have hx : p * r + q * s < (A + 1) * (C + 1) := by
    refine of_sq_lt (Int.mul_nonneg (by omega) (by omega)) ?_
    have id1 : (p * r + q * s) * (p * r + q * s) + (p * s - q * r) * (p * s - q * r) = (p * p + q * q) * (r * r + s * s) := by grind
    have n1 := sq_nonneg (p * s - q * r)
    have np : 0 ≤ p * p + q * q := by have := sq_nonneg p; have := sq_nonneg q; omega
    have nr : 0 ≤ r * r + s * s := by have := sq_nonneg r; have := sq_nonneg s; omega
    have m1 : (p * p + q * q) * (r * r + s * s) ≤ (A + 1) * (A + 1) * (r * r + s * s) := Int.mul_le_mul_of_nonneg_right (by omega) nr
    have pa : 0 < (A + 1) * (A + 1) := Int.mul_pos (by omega) (by omega)
    have m2 : (A + 1) * (A + 1) * (r * r + s * s) < (A + 1) * (A + 1) * ((C + 1) * (C + 1)) := Int.mul_lt_mul_of_pos_left h2 pa
    have id2 : (A + 1) * (C + 1) * ((A + 1) * (C + 1)) = (A + 1) * (A + 1) * ((C + 1) * (C + 1)) := by grind
    omega
  have id3 : (p + r) * (p + r) + (q + s) * (q + s) = (p * p + q * q) + (r * r + s * s) + 2 * (p * r + q * s) := by grind
  have id4 : (A + C + 2) * (A + C + 2) = (A + 1) * (A + 1) + (C + 1) * (C + 1) + 2 * ((A + 1) * (C + 1)) := by grind
  omega
/-- A share of a way is not longer than the share of its length, but for what rounding takes. -/
theorem way_part {u v t x y A l : Int} (t0 : 0 ≤ t) (hl : 0 ≤ l) (hA : A * A ≤ x * x + y * y) (h : u * u + v * v < (l + 1) * (l + 1))
    (x1 : u * t - 65536 ≤ 65536 * x) (x2 : 65536 * x ≤ u * t + 65536) (y1 : v * t - 65536 ≤ 65536 * y) (y2 : 65536 * y ≤ v * t + 65536) : 65536 * A ≤ t * (l + 1) + 131072 := by
  have big : ∀ {a : Int}, a * a < (l + 1) * (l + 1) → -(l + 1) < a ∧ a < l + 1 := fun {a} ha => ⟨by
    have := of_sq_lt (a := -a) (b := l + 1) (by omega) (by rw [Int.neg_mul_neg]; exact ha)
    omega, of_sq_lt (by omega) ha⟩
  have su := sq_nonneg u
  have sv := sq_nonneg v
  obtain ⟨u1, u2⟩ := big (a := u) (by omega)
  obtain ⟨v1, v2⟩ := big (a := v) (by omega)
  have ut1 : u * t ≤ (l + 1) * t := Int.mul_le_mul_of_nonneg_right (by omega) t0
  have ut2 : -(l + 1) * t ≤ u * t := Int.mul_le_mul_of_nonneg_right (by omega) t0
  have vt1 : v * t ≤ (l + 1) * t := Int.mul_le_mul_of_nonneg_right (by omega) t0
  have vt2 : -(l + 1) * t ≤ v * t := Int.mul_le_mul_of_nonneg_right (by omega) t0
  rw [Int.neg_mul] at ut2 vt2
  have pos : 0 ≤ (l + 1) * t := Int.mul_nonneg (by omega) t0
  by_cases e : 65536 * A ≤ t * (l + 1) + 131072
  · exact e
  · exfalso
    have ec : t * (l + 1) = (l + 1) * t := Int.mul_comm _ _
    have sq1 := sq_le (a := (l + 1) * t + 131072) (b := 65536 * A) (by omega) (by omega)
    have sx : ∀ {k m z : Int}, m - 65536 ≤ k → k ≤ m + 65536 → -z ≤ m → m ≤ z → k * k ≤ m * m + 131072 * z + 4294967296 := by
      intro k m z h1 h2 h3 h4
      obtain ⟨d, rfl⟩ : ∃ d, k = m + d := ⟨k - m, by omega⟩
      have id1 : (m + d) * (m + d) = m * m + 2 * (m * d) + d * d := by grind
      have d2 : d * d ≤ 4294967296 := by
        by_cases hd : 0 ≤ d
        · have := sq_le hd (show d ≤ 65536 by omega); omega
        · have := sq_le (a := -d) (by omega) (show -d ≤ 65536 by omega); rw [Int.neg_mul_neg] at this; omega
      have md : m * d ≤ z * 65536 := by
        by_cases hm : 0 ≤ m
        · have a1 : m * d ≤ m * 65536 := Int.mul_le_mul_of_nonneg_left (by omega) hm
          omega
        · have a1 : -m * -d ≤ -m * 65536 := Int.mul_le_mul_of_nonneg_left (by omega) (by omega)
          rw [Int.neg_mul_neg, Int.neg_mul] at a1
          omega
      omega
    have s1 := sx (k := 65536 * x) (m := u * t) (z := (l + 1) * t) x1 x2 ut2 ut1
    have s2 := sx (k := 65536 * y) (m := v * t) (z := (l + 1) * t) y1 y2 vt2 vt1
    have id2 : 65536 * x * (65536 * x) + 65536 * y * (65536 * y) = 4294967296 * (x * x + y * y) := by grind
    have id3 : 65536 * A * (65536 * A) = 4294967296 * (A * A) := by grind
    have id4 : u * t * (u * t) + v * t * (v * t) = (u * u + v * v) * (t * t) := by grind
    have tt := sq_nonneg t
    have m1 : (u * u + v * v) * (t * t) ≤ (l + 1) * (l + 1) * (t * t) := Int.mul_le_mul_of_nonneg_right (by omega) tt
    have id5 : (l + 1) * (l + 1) * (t * t) = (l + 1) * t * ((l + 1) * t) := by grind
    have id6 : ((l + 1) * t + 131072) * ((l + 1) * t + 131072) = (l + 1) * t * ((l + 1) * t) + 262144 * ((l + 1) * t) + 17179869184 := by grind
    omega

end M
end Go.Proofs.Ytafaafaclijfiaa
