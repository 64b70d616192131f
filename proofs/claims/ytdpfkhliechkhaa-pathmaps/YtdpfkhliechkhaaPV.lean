/- The plain arithmetic of maps that only move: no program is named here. -/
import Derived.Test.YtdpfkhliechkhaaB
namespace Go.Proofs.Ytdpfkhliechkhaa
open M

namespace M
theorem mul_one_l {x : Int} (h1 : -1099511627776 ≤ x) (h2 : x ≤ 1099511627776) : mul 65536 x = x := by
  unfold mul; rw [hold_in (a := x) h1 h2, hold_in (a := 65536) (by omega) (by omega)]
  rw [hold_in (by omega) (by omega)]; omega
theorem mul_one_r {x : Int} (h1 : -1099511627776 ≤ x) (h2 : x ≤ 1099511627776) : mul x 65536 = x := by
  unfold mul; rw [hold_in (a := x) h1 h2, hold_in (a := 65536) (by omega) (by omega)]
  rw [hold_in (by omega) (by omega)]; omega
theorem mul_none_l (x : Int) : mul 0 x = 0 := by
  unfold mul; rw [show hold 0 = 0 by decide, Int.zero_mul]; rfl
theorem mul_none_r (x : Int) : mul x 0 = 0 := by
  unfold mul; rw [show hold 0 = 0 by decide, Int.mul_zero]; rfl
theorem add_in {x y : Int} (x1 : -1099511627776 ≤ x) (x2 : x ≤ 1099511627776) (y1 : -1099511627776 ≤ y) (y2 : y ≤ 1099511627776) (s1 : -1099511627776 ≤ x + y) (s2 : x + y ≤ 1099511627776) : add x y = x + y := by
  unfold add; rw [hold_in x1 x2, hold_in y1 y2, hold_in s1 s2]
end M
/-- What a map that only moves does with a place. -/
theorem move_x {u v E : Int} (u1 : -268435456 ≤ u) (u2 : u ≤ 268435456) (e1 : -134217728 ≤ E) (e2 : E ≤ 134217728) : place (add (add (mul 65536 u) (mul 0 v)) E) = u + E := by
  rw [mul_none_l, mul_one_l (by omega) (by omega), add_in (x := u) (y := 0) (by omega) (by omega) (by omega) (by omega) (by omega) (by omega), Int.add_zero, add_in (by omega) (by omega) (by omega) (by omega) (by omega) (by omega), place_in (by omega) (by omega)]
theorem move_y {u v E : Int} (u1 : -268435456 ≤ v) (u2 : v ≤ 268435456) (e1 : -134217728 ≤ E) (e2 : E ≤ 134217728) : place (add (add (mul 0 u) (mul 65536 v)) E) = v + E := by
  rw [mul_none_l, mul_one_l (by omega) (by omega), add_in (x := 0) (y := v) (by omega) (by omega) (by omega) (by omega) (by omega) (by omega), Int.zero_add, add_in (by omega) (by omega) (by omega) (by omega) (by omega) (by omega), place_in (by omega) (by omega)]

end Go.Proofs.Ytdpfkhliechkhaa
