/- Contract of mutoscoperef3.Made: for all numbers what the plain arithmetic says; of the memory nothing that was there turns. -/
import Derived.Test.YtdpfkhliechkhaaR3
namespace Go.Proofs.Ytdpfkhliechkhaa
open Go.RowKit
open M

attribute [local go_sem] alloc_drewN setCell_drewN shape_drewN

set_option maxHeartbeats 1000000 in
theorem r3_made (x y ax ay sx sy t : Int) (w : World) :
    Calls Try.prog 18 #[.int .i64 x, .int .i64 y, .int .i64 ax, .int .i64 ay, .int .i64 sx, .int .i64 sy, .int .i64 t] w fun r w' => r = .returned (.agg #[.int .i64 (mul (cos t) sx), .int .i64 (mul (sin t) sx), .int .i64 (mul (-sin t) sy), .int .i64 (mul (cos t) sy), .int .i64 (add x (-add (mul (mul (cos t) sx) ax) (mul (mul (-sin t) sy) ay))), .int .i64 (add y (-add (mul (mul (sin t) sx) ax) (mul (mul (cos t) sy) ay)))]) ∧ Below w.heap.size w w' := by
  obtain ⟨s1, s2⟩ := sin_bd t
  have e1 : -1099511627776 ≤ add (mul (mul (cos t) sx) ax) (mul (mul (-sin t) sy) ay) := hold_lo _
  have e2 : add (mul (mul (cos t) sx) ax) (mul (mul (-sin t) sy) ay) ≤ 1099511627776 := hold_hi _
  have f1 : -1099511627776 ≤ add (mul (mul (sin t) sx) ax) (mul (mul (cos t) sy) ay) := hold_lo _
  have f2 : add (mul (mul (sin t) sx) ax) (mul (mul (cos t) sy) ay) ≤ 1099511627776 := hold_hi _
  go_enter Try.func18, Try.ntmps18
  go_wp2_with (first | (go_at_call 38; refine (r2_cos _ _).mono ?_; rintro e w' ⟨rfl, rfl⟩) | (go_at_call 39; refine (r2_sin _ _).mono ?_; rintro e w' ⟨rfl, rfl⟩) | (go_at_call 42; refine (r3_two0 _ _ _ _ _).mono ?_; rintro e w' ⟨rfl, n, rfl⟩) | (go_at_call 41; refine (r_add _ _ _).mono ?_; rintro e w' ⟨rfl, rfl⟩) | (go_at_call 40; refine (r_mul _ _ _).mono ?_; rintro e w' ⟨rfl, n, rfl⟩))
  refine bodyPost_ret (v := .agg #[.int .i64 (mul (cos t) sx), .int .i64 (mul (sin t) sx), .int .i64 (mul (-sin t) sy), .int .i64 (mul (cos t) sy), .int .i64 (add x (-add (mul (mul (cos t) sx) ax) (mul (mul (-sin t) sy) ay))), .int .i64 (add y (-add (mul (mul (sin t) sx) ax) (mul (mul (cos t) sy) ay)))]) (by simp [results, Try.results18, go_sem]) rfl ⟨rfl, ?_⟩
  repeat (first | exact Below.refl _ _ | refine Below.drew ?_ | refine below_drewN ?_ _ | refine Below.alloc ?_ (by first | (simp; done) | (simp; omega)) _)

end Go.Proofs.Ytdpfkhliechkhaa
