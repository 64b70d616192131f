/- The plain arithmetic of maps of small numbers (that only move; that turn round a place), and mat.Made's contract for these: conditions: each number within Near. -/
import Derived.Test.YtcmmihjhfmhkkaaH
import Derived.Test.YtcmmihjhfmhkkaaK3
namespace Go.Proofs.Ytcmmihjhfmhkkaa
open Go.RowKit
open M

namespace M
theorem mul_one_l {x : Int} (h1 : -1099511627776 ≤ x) (h2 : x ≤ 1099511627776) : mul 65536 x = x := by
  unfold mul; rw [hold_in (a := x) h1 h2, hold_in (a := 65536) (by omega) (by omega)]
  rw [hold_in (by omega) (by omega)]; omega
theorem mul_one_r {x : Int} (h1 : -1099511627776 ≤ x) (h2 : x ≤ 1099511627776) : mul x 65536 = x := by
  unfold mul; rw [hold_in (a := x) h1 h2, hold_in (a := 65536) (by omega) (by omega)]
  rw [hold_in (by omega) (by omega)]; omega
theorem mul_none_l (x : Int) : mul 0 x = 0 := by
  unfold mul; rw [show hold 0 = 0 by decide, Int.zero_mul]; rfl
theorem mul_none_r (x : Int) : mul x 0 = 0 := by
  unfold mul; rw [show hold 0 = 0 by decide, Int.mul_zero]; rfl
theorem add_in {x y : Int} (x1 : -1099511627776 ≤ x) (x2 : x ≤ 1099511627776) (y1 : -1099511627776 ≤ y) (y2 : y ≤ 1099511627776) (s1 : -1099511627776 ≤ x + y) (s2 : x + y ≤ 1099511627776) : add x y = x + y := by
  unfold add; rw [hold_in x1 x2, hold_in y1 y2, hold_in s1 s2]
theorem mul_near {c x : Int} (c1 : -65536 ≤ c) (c2 : c ≤ 65536) (x1 : -67108863 ≤ x) (x2 : x ≤ 67108863) : -67108864 ≤ mul c x ∧ mul c x ≤ 67108864 := by
  have b := prod_bound (x := c) (y := x) (b := 65536) (c := 67108863) c1 c2 x1 x2
  unfold mul; rw [hold_in (a := c) (by omega) (by omega), hold_in (a := x) (by omega) (by omega)]
  generalize c * x = p at *
  rw [hold_in (by omega) (by omega)]
  omega
/-- The place that a map is made round comes to where it was put. -/
theorem back {p q a : Int} (p1 : -67108864 ≤ p) (p2 : p ≤ 67108864) (q1 : -67108864 ≤ q) (q2 : q ≤ 67108864) (a1 : -67108863 ≤ a) (a2 : a ≤ 67108863) :
    place (add (add p q) (add a (-add p q))) = a := by
  rw [add_in (x := p) (y := q) (by omega) (by omega) (by omega) (by omega) (by omega) (by omega),
    add_in (x := a) (by omega) (by omega) (by omega) (by omega) (by omega) (by omega),
    add_in (by omega) (by omega) (by omega) (by omega) (by omega) (by omega), place_in (by omega) (by omega)]
  omega
end M

theorem made_move {a b c d : Int} (a1 : -67108863 ≤ a) (a2 : a ≤ 67108863) (b1 : -67108863 ≤ b) (b2 : b ≤ 67108863) (c1 : -67108863 ≤ c) (c2 : c ≤ 67108863) (d1 : -67108863 ≤ d) (d2 : d ≤ 67108863) (w : World) :
    Calls Try.prog 7 #[.int .i64 a, .int .i64 b, .int .i64 c, .int .i64 d, .int .i64 65536, .int .i64 65536, .int .i64 0] w fun r w' => r = .returned (.agg #[.int .i64 65536, .int .i64 0, .int .i64 0, .int .i64 65536, .int .i64 (a - c), .int .i64 (b - d)]) ∧ Below w.heap.size w w' := by
  have h := m_made a b c d 65536 65536 0 w
  have e1 : add a (-add c 0) = a - c := by
    rw [add_in (x := c) (y := 0) (by omega) (by omega) (by omega) (by omega) (by omega) (by omega), add_in (by omega) (by omega) (by omega) (by omega) (by omega) (by omega)]; omega
  have e2 : add b (-add 0 d) = b - d := by
    rw [add_in (x := 0) (y := d) (by omega) (by omega) (by omega) (by omega) (by omega) (by omega), add_in (by omega) (by omega) (by omega) (by omega) (by omega) (by omega)]; omega
  rw [show mul (cos 0) 65536 = 65536 by decide, show mul (sin 0) 65536 = 0 by decide, show mul (-sin 0) 65536 = 0 by decide, mul_none_l, mul_none_l, mul_one_l (x := c) (by omega) (by omega), mul_one_l (x := d) (by omega) (by omega), e1, e2] at h
  exact h

theorem made_turn {a b c d : Int} (t : Int) (a1 : -67108863 ≤ a) (a2 : a ≤ 67108863) (b1 : -67108863 ≤ b) (b2 : b ≤ 67108863) (c1 : -67108863 ≤ c) (c2 : c ≤ 67108863) (d1 : -67108863 ≤ d) (d2 : d ≤ 67108863) :
    ∃ C S T E F : Int, place (add (add (mul C c) (mul T d)) E) = a ∧ place (add (add (mul S c) (mul C d)) F) = b ∧ ∀ w,
      Calls Try.prog 7 #[.int .i64 a, .int .i64 b, .int .i64 c, .int .i64 d, .int .i64 65536, .int .i64 65536, .int .i64 t] w fun r w' => r = .returned (.agg #[.int .i64 C, .int .i64 S, .int .i64 T, .int .i64 C, .int .i64 E, .int .i64 F]) ∧ Below w.heap.size w w' := by
  obtain ⟨s1, s2⟩ := sin_bd t
  obtain ⟨k1, k2⟩ := cos_bd t
  obtain ⟨p1, p2⟩ := mul_near (c := cos t) (x := c) k1 k2 c1 c2
  obtain ⟨q1, q2⟩ := mul_near (c := -sin t) (x := d) (by omega) (by omega) d1 d2
  obtain ⟨u1, u2⟩ := mul_near (c := sin t) (x := c) s1 s2 c1 c2
  obtain ⟨v1, v2⟩ := mul_near (c := cos t) (x := d) k1 k2 d1 d2
  refine ⟨cos t, sin t, -sin t, add a (-add (mul (cos t) c) (mul (-sin t) d)), add b (-add (mul (sin t) c) (mul (cos t) d)), back p1 p2 q1 q2 a1 a2, back u1 u2 v1 v2 b1 b2, fun w => ?_⟩
  have h := m_made a b c d 65536 65536 t w
  rw [mul_one_r (x := cos t) (by omega) (by omega), mul_one_r (x := sin t) (by omega) (by omega), mul_one_r (x := -sin t) (by omega) (by omega)] at h
  exact h

/-- What a map that only moves does with a place. -/
theorem move_x {u v E : Int} (u1 : -268435456 ≤ u) (u2 : u ≤ 268435456) (e1 : -134217728 ≤ E) (e2 : E ≤ 134217728) : place (add (add (mul 65536 u) (mul 0 v)) E) = u + E := by
  rw [mul_none_l, mul_one_l (by omega) (by omega), add_in (x := u) (y := 0) (by omega) (by omega) (by omega) (by omega) (by omega) (by omega), Int.add_zero, add_in (by omega) (by omega) (by omega) (by omega) (by omega) (by omega), place_in (by omega) (by omega)]
theorem move_y {u v E : Int} (u1 : -268435456 ≤ v) (u2 : v ≤ 268435456) (e1 : -134217728 ≤ E) (e2 : E ≤ 134217728) : place (add (add (mul 0 u) (mul 65536 v)) E) = v + E := by
  rw [mul_none_l, mul_one_l (by omega) (by omega), add_in (x := 0) (y := v) (by omega) (by omega) (by omega) (by omega) (by omega) (by omega), Int.zero_add, add_in (by omega) (by omega) (by omega) (by omega) (by omega) (by omega), place_in (by omega) (by omega)]
/-- What stands in the fifth and sixth number behind one and the other. -/
theorem chain_x {u v E : Int} (u1 : -268435456 ≤ u) (u2 : u ≤ 268435456) (e1 : -268435456 ≤ E) (e2 : E ≤ 268435456) : add (add (mul 65536 u) (mul 0 v)) E = u + E := by
  rw [mul_none_l, mul_one_l (by omega) (by omega), add_in (x := u) (y := 0) (by omega) (by omega) (by omega) (by omega) (by omega) (by omega), Int.add_zero, add_in (by omega) (by omega) (by omega) (by omega) (by omega) (by omega)]
theorem chain_y {u v E : Int} (u1 : -268435456 ≤ v) (u2 : v ≤ 268435456) (e1 : -268435456 ≤ E) (e2 : E ≤ 268435456) : add (add (mul 0 u) (mul 65536 v)) E = v + E := by
  rw [mul_none_l, mul_one_l (by omega) (by omega), add_in (x := 0) (y := v) (by omega) (by omega) (by omega) (by omega) (by omega) (by omega), Int.zero_add, add_in (by omega) (by omega) (by omega) (by omega) (by omega) (by omega)]

end Go.Proofs.Ytcmmihjhfmhkkaa
