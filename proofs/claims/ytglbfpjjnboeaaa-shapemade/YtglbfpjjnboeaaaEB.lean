/- How far a curve of time may go: plain arithmetic; no program is named here. -/
import Derived.Test.YtglbfpjjnboeaaaEMath
import Derived.Test.YtglbfpjjnboeaaaKMath
namespace Go.Proofs.Ytglbfpjjnboeaaa
namespace M

theorem mul_box {x y X L U : Int} (x0 : 0 ≤ x) (x1 : x ≤ X) (hX : X ≤ 1000000) (y0 : L ≤ y) (y1 : y ≤ U) (L0 : L ≤ 0) (U0 : 0 ≤ U) (hL : -1000000 ≤ L) (hU : U ≤ 1000000) : X * L / 65536 ≤ mul x y ∧ mul x y ≤ X * U / 65536 := by
  have X0 : 0 ≤ X := by omega
  have p1 : x * y ≤ x * U := Int.mul_le_mul_of_nonneg_left y1 x0
  have p2 : x * U ≤ X * U := Int.mul_le_mul_of_nonneg_right x1 U0
  have p3 : x * L ≤ x * y := Int.mul_le_mul_of_nonneg_left y0 x0
  have p4 : X * L ≤ x * L := Int.mul_le_mul_of_nonpos_right x1 L0
  have p5 : X * U ≤ 1000000 * 1000000 := Int.mul_le_mul hX hU U0 (by omega)
  have p6 : 1000000 * (-1000000) ≤ X * L := by
    have a : X * (-1000000) ≤ X * L := Int.mul_le_mul_of_nonneg_left hL X0
    have b : 1000000 * (-1000000) ≤ X * (-1000000) := by omega
    omega
  unfold mul
  rw [hold_in (a := x) (by omega) (by omega), hold_in (a := y) (by omega) (by omega), hold_in (by omega) (by omega)]
  omega
theorem add_plain {x y : Int} (x0 : -1000000000 ≤ x) (x1 : x ≤ 1000000000) (y0 : -1000000000 ≤ y) (y1 : y ≤ 1000000000) : add x y = x + y := by
  unfold add
  rw [hold_in (a := x) (by omega) (by omega), hold_in (a := y) (by omega) (by omega), hold_in (by omega) (by omega)]
/-- A curve whose heights may be goes no further than twenty times One. -/
theorem bend_wide {a b : Int} (a0 : -131072 ≤ a) (a1 : a ≤ 196608) (b0 : -131072 ≤ b) (b1 : b ≤ 196608) (t : Int) : -1310720 ≤ bend a b t ∧ bend a b t ≤ 1310720 := by
  unfold bend bendc
  obtain ⟨u, hu⟩ : ∃ u, clamp t 0 65536 = u := ⟨_, rfl⟩
  have u0 : 0 ≤ u ∧ u ≤ 65536 := by rw [← hu]; unfold clamp; split <;> (try split) <;> omega
  rw [hu]
  have m1 := mul_box (x := 65536 - u) (y := 65536 - u) (X := 65536) (L := 0) (U := 65536) (by omega) (by omega) (by omega) (by omega) (by omega) (by omega) (by omega) (by omega) (by omega)
  have m2 := mul_box (x := mul (65536 - u) (65536 - u)) (y := u) (X := 65536) (L := 0) (U := 65536) (by omega) (by omega) (by omega) (by omega) (by omega) (by omega) (by omega) (by omega) (by omega)
  have m3 := mul_box (x := 65536 - u) (y := u) (X := 65536) (L := 0) (U := 65536) (by omega) (by omega) (by omega) (by omega) (by omega) (by omega) (by omega) (by omega) (by omega)
  have m4 := mul_box (x := mul (65536 - u) u) (y := u) (X := 65536) (L := 0) (U := 65536) (by omega) (by omega) (by omega) (by omega) (by omega) (by omega) (by omega) (by omega) (by omega)
  have m5 := mul_box (x := u) (y := u) (X := 65536) (L := 0) (U := 65536) (by omega) (by omega) (by omega) (by omega) (by omega) (by omega) (by omega) (by omega) (by omega)
  have m6 := mul_box (x := mul u u) (y := u) (X := 65536) (L := 0) (U := 65536) (by omega) (by omega) (by omega) (by omega) (by omega) (by omega) (by omega) (by omega) (by omega)
  have m7 := mul_box (x := 3 * mul (mul (65536 - u) (65536 - u)) u) (y := a) (X := 196608) (L := -131072) (U := 196608) (by omega) (by omega) (by omega) (by omega) (by omega) (by omega) (by omega) (by omega) (by omega)
  have m8 := mul_box (x := 3 * mul (mul (65536 - u) u) u) (y := b) (X := 196608) (L := -131072) (U := 196608) (by omega) (by omega) (by omega) (by omega) (by omega) (by omega) (by omega) (by omega) (by omega)
  rw [add_plain (x := mul (3 * mul (mul (65536 - u) (65536 - u)) u) a) (by omega) (by omega) (by omega) (by omega), add_plain (by omega) (by omega) (by omega) (by omega)]
  omega
theorem curve_wide {a b c d : Int} (h : okE a b c d = true) (p : Int) : -1310720 ≤ curve a b c d p ∧ curve a b c d p ≤ 1310720 := by
  unfold okE okV at h
  simp at h
  unfold curve
  split
  · omega
  · split
    · omega
    · exact bend_wide (by omega) (by omega) (by omega) (by omega) _
theorem goes_wide {h a b c d p : Int} (ok : okHow h a b c d = true) (p0 : 0 ≤ p) (p1 : p ≤ 65536) : -1310720 ≤ goes h a b c d p ∧ goes h a b c d p ≤ 1310720 := by
  unfold goes
  split
  · split <;> omega
  · split
    · omega
    · split
      · rename_i h2
        unfold okHow at ok
        rw [if_neg (by omega), if_pos h2] at ok
        exact curve_wide ok p
      · omega

end M
end Go.Proofs.Ytglbfpjjnboeaaa
