/- Contracts of package trig (Turn, hump, Sin, Cos): for all numbers what the plain arithmetic says; nothing in memory turns (the order that Go leaves open is drawn). hump alone has a condition: 0 to half a turn. -/
import Derived.Test.YtafaafaclijfiaaD
import Derived.Test.YtafaafaclijfiaaTMath
namespace Go.Proofs.Ytafaafaclijfiaa
open Go.RowKit
open M

theorem hump_q {x : Int} (h0 : 0 ≤ x) (h1 : x ≤ 11796480) : mul x (11796480 - x) = hpP x := by
  have a := hpP_lo h0 h1; have b := hpP_hi x
  unfold mul; rw [hold_in (a := x) (by omega) (by omega), hold_in (a := 11796480 - x) (by omega) (by omega)]
  unfold hpP at *
  exact hold_in (by omega) (by omega)
theorem hump_dv {p : Int} (h0 : 0 ≤ p) (h1 : p ≤ 530841600) : dv (4 * p) (2654208000 - p) = hpV p := by
  have m := hpV_mono h0 h1 (by decide)
  have d : hpV 530841600 = 65536 := by decide
  have l : 0 ≤ hpV p := by unfold hpV; exact Int.ediv_nonneg (by omega) (by omega)
  unfold dv
  rw [hold_in (a := 4 * p) (by omega) (by omega), hold_in (a := 2654208000 - p) (by omega) (by omega), if_neg (by omega)]
  unfold flo
  rw [if_pos (by omega)]
  exact hold_in (by unfold hpV at l; omega) (by unfold hpV at m d; omega)


end Go.Proofs.Ytafaafaclijfiaa
