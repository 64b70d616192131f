/- The plain arithmetic of the document's sixteenth chapter (paints: how far along their way a pixel lies, their colours, mapped), on Lean's own integers: no condition but those that the theorems name; no program is named here. -/
import Derived.Test.YtafaafaclijfiaaHMath
import Derived.Test.YtafaafaclijfiaaPoSm
namespace Go.Proofs.Ytafaafaclijfiaa
namespace M

/-- A pixel's middle. -/
def midX (x : Int) : Int := clamp x (-256) 256 * 65536 + 32768
theorem midX_in (x : Int) : -16744448 ≤ midX x ∧ midX x ≤ 16809984 := by unfold midX clamp; split <;> (try split) <;> omega
theorem midX_id {x : Int} (h0 : -256 ≤ x) (h1 : x ≤ 256) : midX x = x * 65536 + 32768 := by unfold midX clamp; rw [if_neg (by omega), if_neg (by omega)]
/-- A paint. -/
structure Pa where
  k : Int
  a : Cr
  b : Cr
  p : Pt
  q : Pt
  r : Int
def linD (dx dy ex ey : Int) : Int := (dx * ex + dy * ey) / 65536
theorem linD_flat (a b c : Int) : linD a b c 0 = a * c / 65536 := by unfold linD; rw [Int.mul_zero, Int.add_zero]
/-- How far along, not yet held: of what the pixel's middle and the end lie from the beginning. -/
def rawW (k dx dy ex ey r : Int) : Int := if k = 1 then (if linD ex ey ex ey = 0 then 0 else dv (linD dx dy ex ey) (linD ex ey ex ey)) else if k = 2 then (if 0 < r then dv (hyp dx dy) r else 65536) else 0
theorem rawW_lin (dx dy ex ey r : Int) : rawW 1 dx dy ex ey r = if linD ex ey ex ey = 0 then 0 else dv (linD dx dy ex ey) (linD ex ey ex ey) := if_pos rfl
theorem rawW_rad (dx dy ex ey r : Int) : rawW 2 dx dy ex ey r = if 0 < r then dv (hyp dx dy) r else 65536 := by unfold rawW; rw [if_neg (by decide), if_pos rfl]
theorem rawW_no {k : Int} (dx dy ex ey r : Int) (h1 : k ≠ 1) (h2 : k ≠ 2) : rawW k dx dy ex ey r = 0 := by unfold rawW; rw [if_neg h1, if_neg h2]
def wayF (c : Pa) (x y : Int) : Int := clamp (rawW c.k (midX x - place c.p.x) (midX y - place c.p.y) (place c.q.x - place c.p.x) (place c.q.y - place c.p.y) c.r) 0 65536
theorem wayF_in (c : Pa) (x y : Int) : 0 ≤ wayF c x y ∧ wayF c x y ≤ 65536 := by unfold wayF clamp; split <;> (try split) <;> omega
def colF (c : Pa) (x y : Int) : Cr := mix c.a c.b (wayF c x y)
def apF (a b c d e f : Int) (p : Pt) : Pt := ⟨place (add (add (mul a p.x) (mul c p.y)) e), place (add (add (mul b p.x) (mul d p.y)) f)⟩
def mapF (a b c d e f : Int) (p : Pa) : Pa := ⟨p.k, p.a, p.b, apF a b c d e f p.p, apF a b c d e f p.q, mul p.r (hyp a b)⟩
/-- What the products come to, so that nothing goes round. -/
theorem lin_in {a b c d : Int} (a0 : -1073741824 ≤ a) (a1 : a ≤ 1073741824) (b0 : -1073741824 ≤ b) (b1 : b ≤ 1073741824) (c0 : -1073741824 ≤ c) (c1 : c ≤ 1073741824) (d0 : -1073741824 ≤ d) (d1 : d ≤ 1073741824) :
    (-1152921504606846976 ≤ a * c ∧ a * c ≤ 1152921504606846976) ∧ (-1152921504606846976 ≤ b * d ∧ b * d ≤ 1152921504606846976) := by
  have e1 := mul_two (m := 1073741824) a0 a1 c0 c1
  have e2 := mul_two (m := 1073741824) b0 b1 d0 d1
  omega
theorem hyp_neg (x y : Int) (h0 : -1073741824 ≤ x) (h1 : x ≤ 1073741824) : hyp (-x) y = hyp x y := by
  unfold hyp
  have : wide (-x) * wide (-x) = wide x * wide x := by
    have e1 : wide x = x := by unfold wide clamp; rw [if_neg (by omega), if_neg (by omega)]
    have e2 : wide (-x) = -x := by unfold wide clamp; rw [if_neg (by omega), if_neg (by omega)]
    rw [e1, e2, Int.neg_mul_neg]
  rw [this]
theorem hyp_swap (x y : Int) : hyp x y = hyp y x := by unfold hyp; rw [Int.add_comm]
/-- A circle's way is the same on each side; a line's across is the same up and down. -/
theorem ways_circle {a b : Cr} {q : Pt} {r x y : Int} (x0 : -200 ≤ x) (x1 : x ≤ 200) (y0 : -200 ≤ y) (y1 : y ≤ 200) :
    wayF ⟨2, a, b, ⟨294912, 294912⟩, q, r⟩ (8 - x) y = wayF ⟨2, a, b, ⟨294912, 294912⟩, q, r⟩ x y ∧ wayF ⟨2, a, b, ⟨294912, 294912⟩, q, r⟩ y x = wayF ⟨2, a, b, ⟨294912, 294912⟩, q, r⟩ x y := by
  have p : place 294912 = 294912 := place_in (by decide) (by decide)
  unfold wayF
  simp only [rawW_rad]
  rw [midX_id (x := 8 - x) (by omega) (by omega), midX_id (x := x) (by omega) (by omega), midX_id (x := y) (by omega) (by omega), p]
  constructor
  · rw [show (8 - x) * 65536 + 32768 - 294912 = -(x * 65536 + 32768 - 294912) by omega, hyp_neg _ _ (by omega) (by omega)]
  · rw [hyp_swap]
theorem ways_line {a b : Cr} {r x y : Int} :
    wayF ⟨1, a, b, ⟨294912, 294912⟩, ⟨753664, 294912⟩, r⟩ x (-y) = wayF ⟨1, a, b, ⟨294912, 294912⟩, ⟨753664, 294912⟩, r⟩ x y := by
  have p : place 294912 = 294912 := place_in (by decide) (by decide)
  have q : place 753664 = 753664 := place_in (by decide) (by decide)
  unfold wayF
  simp only [rawW_lin]
  rw [p, q, Int.sub_self, linD_flat, linD_flat, linD_flat]
/-- Ahead of a line's beginning, behind its end; outside of a circle. -/
theorem dv_pos {a b : Int} (a0 : -1099511627776 ≤ a) (a1 : a ≤ 1099511627776) (b0 : 0 < b) (b1 : b ≤ 1099511627776) : dv a b = hold (a * 65536 / b) := by
  unfold dv
  rw [hold_in (a := b) (by omega) b1, if_neg (by omega), hold_in a0 a1]
  unfold flo
  rw [if_pos b0]
theorem ends_line {a b : Cr} {k x y r : Int} (x0 : 0 ≤ x) (x1 : x ≤ 31) (k0 : 65536 ≤ k) (k1 : k ≤ 524288) :
    (x < 10 → wayF ⟨1, a, b, ⟨655360, 0⟩, ⟨655360 + k, 0⟩, r⟩ x y = 0) ∧ (18 ≤ x → wayF ⟨1, a, b, ⟨655360, 0⟩, ⟨655360 + k, 0⟩, r⟩ x y = 65536) := by
  have p : place 655360 = 655360 := place_in (by decide) (by decide)
  have q : place (655360 + k) = 655360 + k := place_in (by omega) (by omega)
  have z : place 0 = 0 := place_in (by decide) (by decide)
  have hkk : 65536 * 65536 ≤ k * k := Int.mul_le_mul k0 k0 (by decide) (by omega)
  have hk2 : k * k ≤ 524288 * 524288 := Int.mul_le_mul k1 k1 (by omega) (by decide)
  unfold wayF
  simp only [rawW_lin]
  rw [midX_id (x := x) (by omega) (by omega), p, q, z, show 655360 + k - 655360 = k by omega, Int.sub_self, linD_flat, linD_flat, if_neg (by omega)]
  constructor
  · intro hx
    have hn : (x * 65536 + 32768 - 655360) * k ≤ 0 := Int.mul_nonpos_of_nonpos_of_nonneg (by omega) (by omega)
    have hn2 : -655360 * k ≤ (x * 65536 + 32768 - 655360) * k := Int.mul_le_mul_of_nonneg_right (by omega) (by omega)
    generalize (x * 65536 + 32768 - 655360) * k = n at *
    generalize k * k = m at *
    rw [dv_pos (by omega) (by omega) (by omega) (by omega)]
    have : n / 65536 * 65536 / (m / 65536) ≤ 0 := Int.ediv_nonpos_of_nonpos_of_neg (by omega) (by omega)
    unfold hold clamp
    split <;> (try split) <;> (try split) <;> omega
  · intro hx
    have hn : k * k ≤ (x * 65536 + 32768 - 655360) * k := Int.mul_le_mul_of_nonneg_right (by omega) (by omega)
    have hn2 : (x * 65536 + 32768 - 655360) * k ≤ 1409024 * k := Int.mul_le_mul_of_nonneg_right (by omega) (by omega)
    generalize (x * 65536 + 32768 - 655360) * k = n at *
    generalize k * k = m at *
    rw [dv_pos (by omega) (by omega) (by omega) (by omega)]
    have : 65536 ≤ n / 65536 * 65536 / (m / 65536) := Int.le_ediv_of_mul_le (by omega) (by omega)
    unfold hold clamp
    split <;> (try split) <;> (try split) <;> omega
theorem ends_circle {a b : Cr} {q : Pt} {k x y : Int} (x0 : 0 ≤ x) (x1 : x ≤ 31) (y0 : 0 ≤ y) (y1 : y ≤ 31) (k0 : 65536 ≤ k) (k1 : k ≤ 524288) (h : x < 1 ∨ 18 < x ∨ y < 1 ∨ 18 < y) :
    wayF ⟨2, a, b, ⟨655360, 655360⟩, q, k⟩ x y = 65536 := by
  have p : place 655360 = 655360 := place_in (by decide) (by decide)
  unfold wayF
  simp only [rawW_rad]
  rw [midX_id (x := x) (by omega) (by omega), midX_id (x := y) (by omega) (by omega), p, if_pos (by omega)]
  obtain ⟨⟨a1, a2⟩, a3, a4⟩ := hyp_ge (x := x * 65536 + 32768 - 655360) (y := y * 65536 + 32768 - 655360) (by omega) (by omega) (by omega) (by omega)
  have hh := hyp_hi (x * 65536 + 32768 - 655360) (y * 65536 + 32768 - 655360)
  generalize hyp (x * 65536 + 32768 - 655360) (y * 65536 + 32768 - 655360) = d at *
  have hd : 524288 ≤ d := by omega
  rw [dv_pos (by omega) (by omega) (by omega) (by omega)]
  have : 65536 ≤ d * 65536 / k := Int.le_ediv_of_mul_le (by omega) (by omega)
  unfold hold clamp
  split <;> (try split) <;> (try split) <;> omega

end M
end Go.Proofs.Ytafaafaclijfiaa
