/- PaintEnds of the statements: for all colours and numbers the call returns true; of the memory nothing that was there turns. -/
import Derived.Test.YtafaafaclijfiaaCpW
import Derived.Test.YtafaafaclijfiaaK16
import Derived.Test.YtafaafaclijfiaaB14
namespace Go.Proofs.Ytafaafaclijfiaa
open Go Go.RowKit
open M

attribute [local go_sem] eq_color
set_option maxRecDepth 100000 in
set_option maxHeartbeats 8000000 in
theorem paintEnds_walk {w : World} (va : Value) (a : Cr) (vb : Value) (b : Cr) (x y n : Int) (ha : va = .agg (cCells a) ∧ a.Ok) (hb : vb = .agg (cCells b) ∧ b.Ok) :
    Calls Try.prog 6 #[va, vb, .int .i64 x, .int .i64 y, .int .i64 n] w fun e w' => e = .returned (.bool true) ∧ Below w.heap.size w w' := by
  obtain ⟨rfl, oka⟩ := ha
  obtain ⟨rfl, okb⟩ := hb
  obtain ⟨A, hA⟩ : ∃ A, w.heap.size = A := ⟨_, rfl⟩
  obtain ⟨p, hp, p0, p1⟩ : ∃ q, bits .and .i64 x 31 = q ∧ 0 ≤ q ∧ q ≤ 31 := ⟨_, rfl, by rw [and_31]; omega, by rw [and_31]; omega⟩
  obtain ⟨q, hq, q0, q1⟩ : ∃ q, bits .and .i64 y 31 = q ∧ 0 ≤ q ∧ q ≤ 31 := ⟨_, rfl, by rw [and_31]; omega, by rw [and_31]; omega⟩
  obtain ⟨s, hs, s0, s1⟩ : ∃ q, bits .and .i64 n 7 = q ∧ 0 ≤ q ∧ q ≤ 7 := ⟨_, rfl, by rw [and_seven]; omega, by rw [and_seven]; omega⟩
  obtain ⟨k, hk⟩ : ∃ k, (1 + s) * 65536 = k := ⟨_, rfl⟩
  obtain ⟨d, hd⟩ : ∃ d, 655360 + k = d := ⟨_, rfl⟩
  have e1 : IntKind.i64.wrap (1 + s) = 1 + s := IntWalk.i64_in _ (by omega)
  have e2 : IntKind.i64.wrap ((1 + s) * 65536) = k := by rw [hk]; exact IntWalk.i64_in _ (by omega)
  have e3 : IntKind.i64.wrap (655360 + k) = d := by rw [hd]; exact IntWalk.i64_in _ (by omega)
  have CL : Hid (∃ f : Cr, (∀ w, Calls Try.prog 11 #[.agg (paCells ⟨1, a, b, ⟨655360, 0⟩, ⟨d, 0⟩, 0⟩), .int .i64 p, .int .i64 q] w fun e w' => e = .returned (.agg (cCells f)) ∧ Below w.heap.size w w') ∧ (p < 10 → f = a) ∧ (18 ≤ p → f = b)) := Lib.hid (by
    have h := ends_line (a := a) (b := b) (k := k) (x := p) (y := q) (r := 0) p0 p1 (by omega) (by omega)
    rw [hd] at h
    exact ⟨_, fun w => p_atP _ _ _ ⟨oka, okb⟩ w, fun h1 => by unfold colF; rw [h.1 h1]; exact mix_zero _ oka, fun h1 => by unfold colF; rw [h.2 h1]; exact mix_one _ okb⟩)
  have CC : Hid (∃ f : Cr, (∀ w, Calls Try.prog 11 #[.agg (paCells ⟨2, a, b, ⟨655360, 655360⟩, ⟨0, 0⟩, k⟩), .int .i64 p, .int .i64 q] w fun e w' => e = .returned (.agg (cCells f)) ∧ Below w.heap.size w w') ∧ (p < 1 ∨ 18 < p ∨ q < 1 ∨ 18 < q → f = b)) := Lib.hid (by
    exact ⟨_, fun w => p_atP _ _ _ ⟨oka, okb⟩ w, fun h1 => by unfold colF; rw [ends_circle p0 p1 q0 q1 (by omega) (by omega) h1]; exact mix_one _ okb⟩)
  have CZ : Hid (∀ w, Calls Try.prog 11 #[.agg (paCells ⟨0, a, b, ⟨0, 0⟩, ⟨0, 0⟩, 0⟩), .int .i64 p, .int .i64 q] w fun e w' => e = .returned (.agg (cCells a)) ∧ Below w.heap.size w w') := Lib.hid (fun w => by
    have h := p_atP ⟨0, a, b, ⟨0, 0⟩, ⟨0, 0⟩, 0⟩ p q ⟨oka, okb⟩ w
    rw [show colF ⟨0, a, b, ⟨0, 0⟩, ⟨0, 0⟩, 0⟩ p q = a from mix_zero _ oka] at h
    exact h)
  obtain ⟨W, hW⟩ : ∃ W, (((w.alloc (.cells (cCells a) 23)).alloc (.cells (cCells b) 23)).alloc (.cells (paCells ⟨1, a, b, ⟨655360, 0⟩, ⟨d, 0⟩, 0⟩) 27)).alloc (.cells (paCells ⟨2, a, b, ⟨655360, 655360⟩, ⟨0, 0⟩, k⟩) 27) = W := ⟨_, rfl⟩
  have hb0 : Below w.heap.size w W := by rw [← hW]; exact ((((Below.refl _ _).alloc (Nat.le_refl _) _).alloc (by simp) _).alloc (by simp; omega) _).alloc (by simp; omega) _
  have ka : Has W A (cCells a) 23 := by rw [← hW]; exact (((has_new hA).alloc _).alloc _).alloc _
  have kb : Has W (A + 1) (cCells b) 23 := by rw [← hW]; exact ((has_new (by simp [hA])).alloc _).alloc _
  have kl : Has W (A + 1 + 1) (paCells ⟨1, a, b, ⟨655360, 0⟩, ⟨d, 0⟩, 0⟩) 27 := by rw [← hW]; exact (has_new (by simp [hA])).alloc _
  have kc : Has W (A + 1 + 1 + 1) (paCells ⟨2, a, b, ⟨655360, 655360⟩, ⟨0, 0⟩, k⟩) 27 := by rw [← hW]; exact has_new (by simp [hA])
  have HW := Lib.hid hW
  have HA := Lib.hid ka
  have HB := Lib.hid kb
  have HL := Lib.hid kl
  have HC := Lib.hid kc
  have HB0 := Lib.hid hb0
  clear hW ka kb kl kc hb0 hk hd oka okb
  obtain ⟨f, fl, fa, fb⟩ := CL.out
  obtain ⟨g, gl, gb⟩ := CC.out
  have FL := Lib.hid fl
  have FA := Lib.hid fa
  have FB := Lib.hid fb
  have GL := Lib.hid gl
  have GB := Lib.hid gb
  clear fl fa fb gl gb CL CC
  obtain ⟨a0, a1, a2, a3⟩ := a
  obtain ⟨b0, b1, b2, b3⟩ := b
  go_enter Try.func6, Try.ntmps6
  go_upto_region 5 with fail
  rw [HW.out]
  clear hA HW e1 e2 e3 hp hq hs p0 p1 q0 q1 s0 s1
  have h0 := Later.read HA.out 0 _ rfl
  have h1 := Later.read HA.out 1 _ rfl
  have h2 := Later.read HA.out 2 _ rfl
  have h3 := Later.read HA.out 3 _ rfl
  have i0 := Later.read HB.out 0 _ rfl
  have i1 := Later.read HB.out 1 _ rfl
  have i2 := Later.read HB.out 2 _ rfl
  have i3 := Later.read HB.out 3 _ rfl
  have l0 := Later.read HL.out 0 _ rfl
  have l1 := Later.read HL.out 1 _ rfl
  have l2 := Later.read HL.out 2 _ rfl
  have l3 := Later.read HL.out 3 _ rfl
  have l4 := Later.read HL.out 4 _ rfl
  have l5 := Later.read HL.out 5 _ rfl
  have l6 := Later.read HL.out 6 _ rfl
  have l7 := Later.read HL.out 7 _ rfl
  have l8 := Later.read HL.out 8 _ rfl
  have l9 := Later.read HL.out 9 _ rfl
  have l10 := Later.read HL.out 10 _ rfl
  have l11 := Later.read HL.out 11 _ rfl
  have l12 := Later.read HL.out 12 _ rfl
  have l13 := Later.read HL.out 13 _ rfl
  have c0 := Later.read HC.out 0 _ rfl
  have c1 := Later.read HC.out 1 _ rfl
  have c2 := Later.read HC.out 2 _ rfl
  have c3 := Later.read HC.out 3 _ rfl
  have c4 := Later.read HC.out 4 _ rfl
  have c5 := Later.read HC.out 5 _ rfl
  have c6 := Later.read HC.out 6 _ rfl
  have c7 := Later.read HC.out 7 _ rfl
  have c8 := Later.read HC.out 8 _ rfl
  have c9 := Later.read HC.out 9 _ rfl
  have c10 := Later.read HC.out 10 _ rfl
  have c11 := Later.read HC.out 11 _ rfl
  have c12 := Later.read HC.out 12 _ rfl
  have c13 := Later.read HC.out 13 _ rfl
  have K16 := Lib.hid (fun w => known16 w)
  rcases (show p < 10 ∨ (10 ≤ p ∧ p < 18) ∨ (10 ≤ p ∧ 18 ≤ p) by omega) with h | ⟨h, h'⟩ | ⟨h, h'⟩
  · have g1 : decide (p < 10) = true := decide_eq_true h
    have g2 : decide (18 ≤ p) = false := decide_eq_false (by omega)
    have FE := FA.out h
    subst FE
    refine wp_region_class (C := fun w' => ∃ z : Later W, w' = z.to) (by kernel_rfl) (by kernel_rfl) ⟨⟨_, below_drew (Below.refl _ _)⟩, rfl⟩ ?_
    repeat (go_big_quiet_step (first | (go_at_call 11; exact Later.calls (FL.out _))))
    refine wpQuiet_nil ?_
    rintro _ ⟨z, rfl⟩
    clear g1 g2
    rcases (show p < 1 ∨ (1 ≤ p ∧ 18 < p) ∨ (1 ≤ p ∧ p ≤ 18 ∧ q < 1) ∨ (1 ≤ p ∧ p ≤ 18 ∧ 1 ≤ q ∧ 18 < q) ∨ (1 ≤ p ∧ p ≤ 18 ∧ 1 ≤ q ∧ q ≤ 18) by omega) with o | o | o | o | o
    all_goals (try (exfalso; omega))
    all_goals
      first | (have g3 : decide (p < 1) = true := decide_eq_true (by omega)) | (have g3 : decide (p < 1) = false := decide_eq_false (by omega)) | skip
      first | (have g4 : decide (18 < p) = true := decide_eq_true (by omega)) | (have g4 : decide (18 < p) = false := decide_eq_false (by omega)) | skip
      first | (have g5 : decide (q < 1) = true := decide_eq_true (by omega)) | (have g5 : decide (q < 1) = false := decide_eq_false (by omega)) | skip
      first | (have g6 : decide (18 < q) = true := decide_eq_true (by omega)) | (have g6 : decide (18 < q) = false := decide_eq_false (by omega)) | skip
      try (have FG := GB.out (by omega); subst FG)
      clear o
      go_upto_region 8 with fail
      refine wp_region_class (C := fun w' => ∃ z : Later W, w' = z.to) (by kernel_rfl) (by kernel_rfl) ⟨⟨_, below_drew z.below⟩, rfl⟩ ?_
      repeat (go_big_quiet_step (first | (go_at_call_of 11 (Value.int .i64 2); exact Later.calls (GL.out _)) | (go_at_call 11; exact Later.calls (CZ.out _)) | (go_at_call 8; exact Later.calls (K16.out _))))
      refine wpQuiet_nil ?_
      rintro _ ⟨y, rfl⟩
      go_wp2
      go_ret
      exact ⟨by simp, HB0.out.trans (y.below.mono HB0.out.size)⟩
  · have g1 : decide (p < 10) = false := decide_eq_false (by omega)
    have g2 : decide (18 ≤ p) = false := decide_eq_false (by omega)
    refine wp_region_class (C := fun w' => ∃ z : Later W, w' = z.to) (by kernel_rfl) (by kernel_rfl) ⟨⟨_, below_drew (Below.refl _ _)⟩, rfl⟩ ?_
    repeat (go_big_quiet_step (first | (go_at_call 11; exact Later.calls (FL.out _))))
    refine wpQuiet_nil ?_
    rintro _ ⟨z, rfl⟩
    clear g1 g2
    rcases (show p < 1 ∨ (1 ≤ p ∧ 18 < p) ∨ (1 ≤ p ∧ p ≤ 18 ∧ q < 1) ∨ (1 ≤ p ∧ p ≤ 18 ∧ 1 ≤ q ∧ 18 < q) ∨ (1 ≤ p ∧ p ≤ 18 ∧ 1 ≤ q ∧ q ≤ 18) by omega) with o | o | o | o | o
    all_goals (try (exfalso; omega))
    all_goals
      first | (have g3 : decide (p < 1) = true := decide_eq_true (by omega)) | (have g3 : decide (p < 1) = false := decide_eq_false (by omega)) | skip
      first | (have g4 : decide (18 < p) = true := decide_eq_true (by omega)) | (have g4 : decide (18 < p) = false := decide_eq_false (by omega)) | skip
      first | (have g5 : decide (q < 1) = true := decide_eq_true (by omega)) | (have g5 : decide (q < 1) = false := decide_eq_false (by omega)) | skip
      first | (have g6 : decide (18 < q) = true := decide_eq_true (by omega)) | (have g6 : decide (18 < q) = false := decide_eq_false (by omega)) | skip
      try (have FG := GB.out (by omega); subst FG)
      clear o
      go_upto_region 8 with fail
      refine wp_region_class (C := fun w' => ∃ z : Later W, w' = z.to) (by kernel_rfl) (by kernel_rfl) ⟨⟨_, below_drew z.below⟩, rfl⟩ ?_
      repeat (go_big_quiet_step (first | (go_at_call_of 11 (Value.int .i64 2); exact Later.calls (GL.out _)) | (go_at_call 11; exact Later.calls (CZ.out _)) | (go_at_call 8; exact Later.calls (K16.out _))))
      refine wpQuiet_nil ?_
      rintro _ ⟨y, rfl⟩
      go_wp2
      go_ret
      exact ⟨by simp, HB0.out.trans (y.below.mono HB0.out.size)⟩
  · have g1 : decide (p < 10) = false := decide_eq_false (by omega)
    have g2 : decide (18 ≤ p) = true := decide_eq_true (by omega)
    have FE := FB.out h'
    subst FE
    refine wp_region_class (C := fun w' => ∃ z : Later W, w' = z.to) (by kernel_rfl) (by kernel_rfl) ⟨⟨_, below_drew (Below.refl _ _)⟩, rfl⟩ ?_
    repeat (go_big_quiet_step (first | (go_at_call 11; exact Later.calls (FL.out _))))
    refine wpQuiet_nil ?_
    rintro _ ⟨z, rfl⟩
    clear g1 g2
    rcases (show p < 1 ∨ (1 ≤ p ∧ 18 < p) ∨ (1 ≤ p ∧ p ≤ 18 ∧ q < 1) ∨ (1 ≤ p ∧ p ≤ 18 ∧ 1 ≤ q ∧ 18 < q) ∨ (1 ≤ p ∧ p ≤ 18 ∧ 1 ≤ q ∧ q ≤ 18) by omega) with o | o | o | o | o
    all_goals (try (exfalso; omega))
    all_goals
      first | (have g3 : decide (p < 1) = true := decide_eq_true (by omega)) | (have g3 : decide (p < 1) = false := decide_eq_false (by omega)) | skip
      first | (have g4 : decide (18 < p) = true := decide_eq_true (by omega)) | (have g4 : decide (18 < p) = false := decide_eq_false (by omega)) | skip
      first | (have g5 : decide (q < 1) = true := decide_eq_true (by omega)) | (have g5 : decide (q < 1) = false := decide_eq_false (by omega)) | skip
      first | (have g6 : decide (18 < q) = true := decide_eq_true (by omega)) | (have g6 : decide (18 < q) = false := decide_eq_false (by omega)) | skip
      try (have FG := GB.out (by omega); subst FG)
      clear o
      go_upto_region 8 with fail
      refine wp_region_class (C := fun w' => ∃ z : Later W, w' = z.to) (by kernel_rfl) (by kernel_rfl) ⟨⟨_, below_drew z.below⟩, rfl⟩ ?_
      repeat (go_big_quiet_step (first | (go_at_call_of 11 (Value.int .i64 2); exact Later.calls (GL.out _)) | (go_at_call 11; exact Later.calls (CZ.out _)) | (go_at_call 8; exact Later.calls (K16.out _))))
      refine wpQuiet_nil ?_
      rintro _ ⟨y, rfl⟩
      go_wp2
      go_ret
      exact ⟨by simp, HB0.out.trans (y.below.mono HB0.out.size)⟩

end Go.Proofs.Ytafaafaclijfiaa
