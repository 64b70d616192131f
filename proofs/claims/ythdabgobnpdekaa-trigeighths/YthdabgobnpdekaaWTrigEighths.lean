/- The walk of mutoscopelaw2.TrigEighths: for both numbers it returns true; the memory stays as it was but for draws. -/
import Derived.Test.YthdabgobnpdekaaK2
namespace Go.Proofs.Ythdabgobnpdekaa
open Go.RowKit
open M

theorem quarter_bd (a : Int) : -5898239 ≤ a.tmod 5898240 ∧ a.tmod 5898240 ≤ 5898239 := by
  have := tmod_lt a 5898240 (by decide); omega
/-- What the law asks of two angles of a quarter, the lesser one first. -/
theorem eighth_facts {u v : Int} (u0 : 0 ≤ u) (h : u ≤ v) (v1 : v ≤ 5898239) : sin u ≤ sin v + 2 ∧ sin (5898240 + v) ≤ sin (5898240 + u) + 2 := by
  rw [sin_in' u0 (by omega), sin_in' (by omega) (by omega), sin_in' (x := 5898240 + v) (by omega) (by omega), sin_in' (x := 5898240 + u) (by omega) (by omega)]
  have a := hump_mono u0 h (by omega)
  have b := hump_fall (x := 5898240 + u) (y := 5898240 + v) (by omega) (by omega) (by omega)
  omega
theorem eighth_mirror {x : Int} (x0 : 0 ≤ x) (x1 : x ≤ 5898239) : sin (11796480 - x) = sin x := by
  rw [sin_in' (by omega) (by omega), sin_in' (by omega) (by omega), hump_mirror]
/-- The facts by letters: the sines that the law asks for, of X and Y in whatever order. -/
theorem eighth_letters {X Y : Int} (x0 : 0 ≤ X) (x1 : X ≤ 5898239) (y0 : 0 ≤ Y) (y1 : Y ≤ 5898239) : ∃ s t u v : Int, sin X = s ∧ sin Y = t ∧ sin (5898240 + X) = u ∧ sin (5898240 + Y) = v ∧ sin (11796480 - X) = s ∧
    (X ≤ Y → s ≤ t + 2 ∧ v ≤ u + 2) ∧ (Y ≤ X → t ≤ s + 2 ∧ u ≤ v + 2) ∧ (-65536 ≤ s ∧ s ≤ 65536) ∧ (-65536 ≤ t ∧ t ≤ 65536) ∧ (-65536 ≤ u ∧ u ≤ 65536) ∧ -65536 ≤ v ∧ v ≤ 65536 :=
  ⟨sin X, sin Y, sin (5898240 + X), sin (5898240 + Y), rfl, rfl, rfl, rfl, eighth_mirror x0 x1, fun h => eighth_facts x0 h y1, fun h => eighth_facts y0 h x1, sin_bd _, sin_bd _, sin_bd _, sin_bd _⟩

set_option maxHeartbeats 1000000 in
theorem eighths_nn (a b x y : Int) (w : World) (hx : a.tmod 5898240 = x) (hy : b.tmod 5898240 = y) (x1 : -5898239 ≤ x) (x2 : x ≤ 5898239) (y1 : -5898239 ≤ y) (y2 : y ≤ 5898239) (sx : x < 0) (sy : y < 0) :
    Calls Try.prog 6 #[.int .i64 a, .int .i64 b] w fun e w' => e = .returned (.bool true) ∧ Grown w w' := by
  have t0 := turn_lo a; have t1 := turn_hi a
  have hc : sin (turn a + 5898240) = cos a := rfl
  obtain ⟨C, hC⟩ : ∃ C, cos a = C := ⟨_, rfl⟩
  rw [hC] at hc
  obtain ⟨s, t, u, v, e1, e2, e3, e4, e5, fu, fd, ⟨b1, b2⟩, ⟨b3, b4⟩, ⟨b5, b6⟩, b7, b8⟩ := eighth_letters (X := -x) (Y := -y) (by omega) (by omega) (by omega) (by omega)
  rw [show (11796480 : Int) - -x = 11796480 + x by omega] at e5
  have HC := Lib.hid hC
  have Hc := Lib.hid hc
  have E1 := Lib.hid e1
  have E2 := Lib.hid e2
  have E3 := Lib.hid e3
  have E4 := Lib.hid e4
  have E5 := Lib.hid e5
  clear hC hc e1 e2 e3 e4 e5
  rcases (by omega : -x < -y ∨ -x = -y ∨ -y < -x) with h | h | h
  · obtain ⟨f1, f2⟩ := fu (by omega)
    clear fu fd
    go_enter Try.func6, Try.ntmps6
    go_wp2_with (first | (go_at_call 9; refine (t_sin _ _).mono ?_; rintro e w' ⟨rfl, n, rfl⟩; first | rw [E1.out] | rw [E2.out] | rw [E3.out] | rw [E4.out] | rw [E5.out] | rw [Hc.out]) | (go_at_call 10; refine (t_cos _ _).mono ?_; rintro e w' ⟨rfl, n, rfl⟩; rw [HC.out]) | (go_at_call 11; refine (t_turn _ _).mono ?_; rintro e w' ⟨rfl, rfl⟩) | (go_at_call 8; refine (known2 _).mono ?_; rintro e w' ⟨rfl, n, rfl⟩))
    go_ret
    exact ⟨rfl, grown_drewN _ _⟩
  · obtain ⟨f1, f2⟩ := fu (by omega)
    obtain ⟨f3, f4⟩ := fd (by omega)
    clear fu fd
    obtain rfl : y = x := by omega
    clear h
    go_enter Try.func6, Try.ntmps6
    go_wp2_with (first | (go_at_call 9; refine (t_sin _ _).mono ?_; rintro e w' ⟨rfl, n, rfl⟩; first | rw [E1.out] | rw [E2.out] | rw [E3.out] | rw [E4.out] | rw [E5.out] | rw [Hc.out]) | (go_at_call 10; refine (t_cos _ _).mono ?_; rintro e w' ⟨rfl, n, rfl⟩; rw [HC.out]) | (go_at_call 11; refine (t_turn _ _).mono ?_; rintro e w' ⟨rfl, rfl⟩) | (go_at_call 8; refine (known2 _).mono ?_; rintro e w' ⟨rfl, n, rfl⟩))
    go_ret
    exact ⟨rfl, grown_drewN _ _⟩
  · obtain ⟨f1, f2⟩ := fd (by omega)
    clear fu fd
    go_enter Try.func6, Try.ntmps6
    go_wp2_with (first | (go_at_call 9; refine (t_sin _ _).mono ?_; rintro e w' ⟨rfl, n, rfl⟩; first | rw [E1.out] | rw [E2.out] | rw [E3.out] | rw [E4.out] | rw [E5.out] | rw [Hc.out]) | (go_at_call 10; refine (t_cos _ _).mono ?_; rintro e w' ⟨rfl, n, rfl⟩; rw [HC.out]) | (go_at_call 11; refine (t_turn _ _).mono ?_; rintro e w' ⟨rfl, rfl⟩) | (go_at_call 8; refine (known2 _).mono ?_; rintro e w' ⟨rfl, n, rfl⟩))
    go_ret
    exact ⟨rfl, grown_drewN _ _⟩

set_option maxHeartbeats 1000000 in
theorem eighths_np (a b x y : Int) (w : World) (hx : a.tmod 5898240 = x) (hy : b.tmod 5898240 = y) (x1 : -5898239 ≤ x) (x2 : x ≤ 5898239) (y1 : -5898239 ≤ y) (y2 : y ≤ 5898239) (sx : x < 0) (sy : ¬ y < 0) :
    Calls Try.prog 6 #[.int .i64 a, .int .i64 b] w fun e w' => e = .returned (.bool true) ∧ Grown w w' := by
  have t0 := turn_lo a; have t1 := turn_hi a
  have hc : sin (turn a + 5898240) = cos a := rfl
  obtain ⟨C, hC⟩ : ∃ C, cos a = C := ⟨_, rfl⟩
  rw [hC] at hc
  obtain ⟨s, t, u, v, e1, e2, e3, e4, e5, fu, fd, ⟨b1, b2⟩, ⟨b3, b4⟩, ⟨b5, b6⟩, b7, b8⟩ := eighth_letters (X := -x) (Y := y) (by omega) (by omega) (by omega) (by omega)
  rw [show (11796480 : Int) - -x = 11796480 + x by omega] at e5
  have HC := Lib.hid hC
  have Hc := Lib.hid hc
  have E1 := Lib.hid e1
  have E2 := Lib.hid e2
  have E3 := Lib.hid e3
  have E4 := Lib.hid e4
  have E5 := Lib.hid e5
  clear hC hc e1 e2 e3 e4 e5
  rcases (by omega : -x < y ∨ -x = y ∨ y < -x) with h | h | h
  · obtain ⟨f1, f2⟩ := fu (by omega)
    clear fu fd
    go_enter Try.func6, Try.ntmps6
    go_wp2_with (first | (go_at_call 9; refine (t_sin _ _).mono ?_; rintro e w' ⟨rfl, n, rfl⟩; first | rw [E1.out] | rw [E2.out] | rw [E3.out] | rw [E4.out] | rw [E5.out] | rw [Hc.out]) | (go_at_call 10; refine (t_cos _ _).mono ?_; rintro e w' ⟨rfl, n, rfl⟩; rw [HC.out]) | (go_at_call 11; refine (t_turn _ _).mono ?_; rintro e w' ⟨rfl, rfl⟩) | (go_at_call 8; refine (known2 _).mono ?_; rintro e w' ⟨rfl, n, rfl⟩))
    go_ret
    exact ⟨rfl, grown_drewN _ _⟩
  · obtain ⟨f1, f2⟩ := fu (by omega)
    obtain ⟨f3, f4⟩ := fd (by omega)
    clear fu fd
    obtain rfl : y = -x := by omega
    clear h
    go_enter Try.func6, Try.ntmps6
    go_wp2_with (first | (go_at_call 9; refine (t_sin _ _).mono ?_; rintro e w' ⟨rfl, n, rfl⟩; first | rw [E1.out] | rw [E2.out] | rw [E3.out] | rw [E4.out] | rw [E5.out] | rw [Hc.out]) | (go_at_call 10; refine (t_cos _ _).mono ?_; rintro e w' ⟨rfl, n, rfl⟩; rw [HC.out]) | (go_at_call 11; refine (t_turn _ _).mono ?_; rintro e w' ⟨rfl, rfl⟩) | (go_at_call 8; refine (known2 _).mono ?_; rintro e w' ⟨rfl, n, rfl⟩))
    go_ret
    exact ⟨rfl, grown_drewN _ _⟩
  · obtain ⟨f1, f2⟩ := fd (by omega)
    clear fu fd
    go_enter Try.func6, Try.ntmps6
    go_wp2_with (first | (go_at_call 9; refine (t_sin _ _).mono ?_; rintro e w' ⟨rfl, n, rfl⟩; first | rw [E1.out] | rw [E2.out] | rw [E3.out] | rw [E4.out] | rw [E5.out] | rw [Hc.out]) | (go_at_call 10; refine (t_cos _ _).mono ?_; rintro e w' ⟨rfl, n, rfl⟩; rw [HC.out]) | (go_at_call 11; refine (t_turn _ _).mono ?_; rintro e w' ⟨rfl, rfl⟩) | (go_at_call 8; refine (known2 _).mono ?_; rintro e w' ⟨rfl, n, rfl⟩))
    go_ret
    exact ⟨rfl, grown_drewN _ _⟩

set_option maxHeartbeats 1000000 in
theorem eighths_pn (a b x y : Int) (w : World) (hx : a.tmod 5898240 = x) (hy : b.tmod 5898240 = y) (x1 : -5898239 ≤ x) (x2 : x ≤ 5898239) (y1 : -5898239 ≤ y) (y2 : y ≤ 5898239) (sx : ¬ x < 0) (sy : y < 0) :
    Calls Try.prog 6 #[.int .i64 a, .int .i64 b] w fun e w' => e = .returned (.bool true) ∧ Grown w w' := by
  have t0 := turn_lo a; have t1 := turn_hi a
  have hc : sin (turn a + 5898240) = cos a := rfl
  obtain ⟨C, hC⟩ : ∃ C, cos a = C := ⟨_, rfl⟩
  rw [hC] at hc
  obtain ⟨s, t, u, v, e1, e2, e3, e4, e5, fu, fd, ⟨b1, b2⟩, ⟨b3, b4⟩, ⟨b5, b6⟩, b7, b8⟩ := eighth_letters (X := x) (Y := -y) (by omega) (by omega) (by omega) (by omega)
  rw [show (11796480 : Int) - x = 11796480 - x by omega] at e5
  have HC := Lib.hid hC
  have Hc := Lib.hid hc
  have E1 := Lib.hid e1
  have E2 := Lib.hid e2
  have E3 := Lib.hid e3
  have E4 := Lib.hid e4
  have E5 := Lib.hid e5
  clear hC hc e1 e2 e3 e4 e5
  rcases (by omega : x < -y ∨ x = -y ∨ -y < x) with h | h | h
  · obtain ⟨f1, f2⟩ := fu (by omega)
    clear fu fd
    go_enter Try.func6, Try.ntmps6
    go_wp2_with (first | (go_at_call 9; refine (t_sin _ _).mono ?_; rintro e w' ⟨rfl, n, rfl⟩; first | rw [E1.out] | rw [E2.out] | rw [E3.out] | rw [E4.out] | rw [E5.out] | rw [Hc.out]) | (go_at_call 10; refine (t_cos _ _).mono ?_; rintro e w' ⟨rfl, n, rfl⟩; rw [HC.out]) | (go_at_call 11; refine (t_turn _ _).mono ?_; rintro e w' ⟨rfl, rfl⟩) | (go_at_call 8; refine (known2 _).mono ?_; rintro e w' ⟨rfl, n, rfl⟩))
    go_ret
    exact ⟨rfl, grown_drewN _ _⟩
  · obtain ⟨f1, f2⟩ := fu (by omega)
    obtain ⟨f3, f4⟩ := fd (by omega)
    clear fu fd
    obtain rfl : x = -y := by omega
    have E6 : sin (11796480 + y) = s := by rw [← E5.out, show (11796480 : Int) - -y = 11796480 + y by omega]
    clear E5
    have E5 := Lib.hid E6
    clear E6
    clear h
    go_enter Try.func6, Try.ntmps6
    go_wp2_with (first | (go_at_call 9; refine (t_sin _ _).mono ?_; rintro e w' ⟨rfl, n, rfl⟩; first | rw [E1.out] | rw [E2.out] | rw [E3.out] | rw [E4.out] | rw [E5.out] | rw [Hc.out]) | (go_at_call 10; refine (t_cos _ _).mono ?_; rintro e w' ⟨rfl, n, rfl⟩; rw [HC.out]) | (go_at_call 11; refine (t_turn _ _).mono ?_; rintro e w' ⟨rfl, rfl⟩) | (go_at_call 8; refine (known2 _).mono ?_; rintro e w' ⟨rfl, n, rfl⟩))
    go_ret
    exact ⟨rfl, grown_drewN _ _⟩
  · obtain ⟨f1, f2⟩ := fd (by omega)
    clear fu fd
    go_enter Try.func6, Try.ntmps6
    go_wp2_with (first | (go_at_call 9; refine (t_sin _ _).mono ?_; rintro e w' ⟨rfl, n, rfl⟩; first | rw [E1.out] | rw [E2.out] | rw [E3.out] | rw [E4.out] | rw [E5.out] | rw [Hc.out]) | (go_at_call 10; refine (t_cos _ _).mono ?_; rintro e w' ⟨rfl, n, rfl⟩; rw [HC.out]) | (go_at_call 11; refine (t_turn _ _).mono ?_; rintro e w' ⟨rfl, rfl⟩) | (go_at_call 8; refine (known2 _).mono ?_; rintro e w' ⟨rfl, n, rfl⟩))
    go_ret
    exact ⟨rfl, grown_drewN _ _⟩

set_option maxHeartbeats 1000000 in
theorem eighths_pp (a b x y : Int) (w : World) (hx : a.tmod 5898240 = x) (hy : b.tmod 5898240 = y) (x1 : -5898239 ≤ x) (x2 : x ≤ 5898239) (y1 : -5898239 ≤ y) (y2 : y ≤ 5898239) (sx : ¬ x < 0) (sy : ¬ y < 0) :
    Calls Try.prog 6 #[.int .i64 a, .int .i64 b] w fun e w' => e = .returned (.bool true) ∧ Grown w w' := by
  have t0 := turn_lo a; have t1 := turn_hi a
  have hc : sin (turn a + 5898240) = cos a := rfl
  obtain ⟨C, hC⟩ : ∃ C, cos a = C := ⟨_, rfl⟩
  rw [hC] at hc
  obtain ⟨s, t, u, v, e1, e2, e3, e4, e5, fu, fd, ⟨b1, b2⟩, ⟨b3, b4⟩, ⟨b5, b6⟩, b7, b8⟩ := eighth_letters (X := x) (Y := y) (by omega) (by omega) (by omega) (by omega)
  rw [show (11796480 : Int) - x = 11796480 - x by omega] at e5
  have HC := Lib.hid hC
  have Hc := Lib.hid hc
  have E1 := Lib.hid e1
  have E2 := Lib.hid e2
  have E3 := Lib.hid e3
  have E4 := Lib.hid e4
  have E5 := Lib.hid e5
  clear hC hc e1 e2 e3 e4 e5
  rcases (by omega : x < y ∨ x = y ∨ y < x) with h | h | h
  · obtain ⟨f1, f2⟩ := fu (by omega)
    clear fu fd
    go_enter Try.func6, Try.ntmps6
    go_wp2_with (first | (go_at_call 9; refine (t_sin _ _).mono ?_; rintro e w' ⟨rfl, n, rfl⟩; first | rw [E1.out] | rw [E2.out] | rw [E3.out] | rw [E4.out] | rw [E5.out] | rw [Hc.out]) | (go_at_call 10; refine (t_cos _ _).mono ?_; rintro e w' ⟨rfl, n, rfl⟩; rw [HC.out]) | (go_at_call 11; refine (t_turn _ _).mono ?_; rintro e w' ⟨rfl, rfl⟩) | (go_at_call 8; refine (known2 _).mono ?_; rintro e w' ⟨rfl, n, rfl⟩))
    go_ret
    exact ⟨rfl, grown_drewN _ _⟩
  · obtain ⟨f1, f2⟩ := fu (by omega)
    obtain ⟨f3, f4⟩ := fd (by omega)
    clear fu fd
    obtain rfl : y = x := by omega
    clear h
    go_enter Try.func6, Try.ntmps6
    go_wp2_with (first | (go_at_call 9; refine (t_sin _ _).mono ?_; rintro e w' ⟨rfl, n, rfl⟩; first | rw [E1.out] | rw [E2.out] | rw [E3.out] | rw [E4.out] | rw [E5.out] | rw [Hc.out]) | (go_at_call 10; refine (t_cos _ _).mono ?_; rintro e w' ⟨rfl, n, rfl⟩; rw [HC.out]) | (go_at_call 11; refine (t_turn _ _).mono ?_; rintro e w' ⟨rfl, rfl⟩) | (go_at_call 8; refine (known2 _).mono ?_; rintro e w' ⟨rfl, n, rfl⟩))
    go_ret
    exact ⟨rfl, grown_drewN _ _⟩
  · obtain ⟨f1, f2⟩ := fd (by omega)
    clear fu fd
    go_enter Try.func6, Try.ntmps6
    go_wp2_with (first | (go_at_call 9; refine (t_sin _ _).mono ?_; rintro e w' ⟨rfl, n, rfl⟩; first | rw [E1.out] | rw [E2.out] | rw [E3.out] | rw [E4.out] | rw [E5.out] | rw [Hc.out]) | (go_at_call 10; refine (t_cos _ _).mono ?_; rintro e w' ⟨rfl, n, rfl⟩; rw [HC.out]) | (go_at_call 11; refine (t_turn _ _).mono ?_; rintro e w' ⟨rfl, rfl⟩) | (go_at_call 8; refine (known2 _).mono ?_; rintro e w' ⟨rfl, n, rfl⟩))
    go_ret
    exact ⟨rfl, grown_drewN _ _⟩

theorem trigEighths_walk (a b : Int) (_ : (Lit.int .i64 a).wf = true) (_ : (Lit.int .i64 b).wf = true) (w : World) :
    Calls Try.prog 6 #[.int .i64 a, .int .i64 b] w fun e w' => e = .returned (.bool true) ∧ Grown w w' := by
  obtain ⟨x1, x2⟩ := quarter_bd a
  obtain ⟨y1, y2⟩ := quarter_bd b
  by_cases sx : a.tmod 5898240 < 0 <;> by_cases sy : b.tmod 5898240 < 0
  · exact eighths_nn a b _ _ w rfl rfl x1 x2 y1 y2 sx sy
  · exact eighths_np a b _ _ w rfl rfl x1 x2 y1 y2 sx sy
  · exact eighths_pn a b _ _ w rfl rfl x1 x2 y1 y2 sx sy
  · exact eighths_pp a b _ _ w rfl rfl x1 x2 y1 y2 sx sy

end Go.Proofs.Ythdabgobnpdekaa
