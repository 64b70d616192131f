/- PaintWays of the statements: whatever the numbers are, the call returns true and each argument reads as it did; no condition. -/
import Derived.Test.YtafaafaclijfiaaPaD
import Derived.Test.YtafaafaclijfiaaEqC
import Derived.Laws.StructEq
import Derived.Test.YtafaafaclijfiaaCpW
import Derived.Test.YtafaafaclijfiaaMD16
import Derived.Test.YtafaafaclijfiaaB14
import Derived.Test.YtafaafaclijfiaaT5
import Derived.Deep.Slices
import Derived.ChangeSame
import Derived.Test.YtafaafaclijfiaaRows
import Derived.WalkKit
import Derived.ProofKit
import Derived.OpenShut
import Derived.Carry
namespace Go.Proofs.Ytafaafaclijfiaa
open Go Go.RowKit
open M

theorem eq_colorD (D : Nat) (w : World) (x : Cr) : (Op.equalIn (D + 1 + 1) 23 (.agg (cCells x)) (.agg (cCells x))).run Try.prog w = .ok true w := by
  have := run_equalIn_four w D Try.underlying23 Try.underlying5 (size_u8 w) x.r x.g x.b x.q x.r x.g x.b x.q
  simpa using this
set_option maxRecDepth 100000 in
theorem eq_paint (w : World) (c : Pa) : (Op.equalIn 10000 27 (.agg (paCells c)) (.agg (paCells c))).run Try.prog w = .ok true w := by
  have ha : (Op.equalIn 9999 23 (.agg #[.int .u8 c.a.r, .int .u8 c.a.g, .int .u8 c.a.b, .int .u8 c.a.q]) (.agg #[.int .u8 c.a.r, .int .u8 c.a.g, .int .u8 c.a.b, .int .u8 c.a.q])).run Try.prog w = .ok true w := eq_colorD 9997 w c.a
  have hb : (Op.equalIn 9999 23 (.agg #[.int .u8 c.b.r, .int .u8 c.b.g, .int .u8 c.b.b, .int .u8 c.b.q]) (.agg #[.int .u8 c.b.r, .int .u8 c.b.g, .int .u8 c.b.b, .int .u8 c.b.q])).run Try.prog w = .ok true w := eq_colorD 9997 w c.b
  rw [run_equalIn_agg w 9999 27 _ _ Try.underlying27 (by kernel_rfl)]
  simp [go_sem, Op.eqFields, ha, hb]

end Go.Proofs.Ytafaafaclijfiaa

namespace Go.Proofs.Ytafaafaclijfiaa
open Go Go.RowKit
open M

def kn16a : Cr := ⟨1, 2, 3, 4⟩
def kn16b : Cr := ⟨9, 9, 9, 9⟩
theorem kn16_0 : colF ⟨0, ⟨1, 2, 3, 4⟩, ⟨9, 9, 9, 9⟩, ⟨0, 0⟩, ⟨0, 0⟩, 0⟩ 5 5 = ⟨1, 2, 3, 4⟩ := by decide +kernel
theorem kn16_2 : colF ⟨2, ⟨1, 2, 3, 4⟩, ⟨9, 9, 9, 9⟩, ⟨0, 0⟩, ⟨0, 0⟩, 0⟩ 5 5 = ⟨9, 9, 9, 9⟩ := by decide +kernel
theorem kn16_1 : colF ⟨1, ⟨1, 2, 3, 4⟩, ⟨9, 9, 9, 9⟩, ⟨0, 0⟩, ⟨0, 0⟩, 0⟩ 5 5 = ⟨1, 2, 3, 4⟩ := by decide +kernel
theorem kn16_r : rightP ⟨0, ⟨0, 0, 0, 0⟩, ⟨0, 0, 0, 0⟩, ⟨0, 0⟩, ⟨0, 0⟩, 0⟩ = true := by decide +kernel
theorem kn16_n : rightP ⟨3, ⟨0, 0, 0, 0⟩, ⟨0, 0, 0, 0⟩, ⟨0, 0⟩, ⟨0, 0⟩, 0⟩ = false := by decide +kernel
theorem kn16a_ok : kn16a.Ok := by constructor <;> decide
theorem kn16b_ok : kn16b.Ok := by constructor <;> decide
theorem kn16_ok (k : Int) : PaOk ⟨k, ⟨1, 2, 3, 4⟩, ⟨9, 9, 9, 9⟩, ⟨0, 0⟩, ⟨0, 0⟩, 0⟩ := ⟨kn16a_ok, kn16b_ok⟩

attribute [local go_sem] eq_color
set_option maxRecDepth 100000 in
set_option maxHeartbeats 4000000 in
theorem known16 (w : World) : Calls Try.prog 8 #[] w fun e w' => e = .returned (.bool true) ∧ Below w.heap.size w w' := by
  have C0 := Lib.hid (fun w => p_atP _ 5 5 (kn16_ok 0) w)
  have C1 := Lib.hid (fun w => p_atP _ 5 5 (kn16_ok 1) w)
  have C2 := Lib.hid (fun w => p_atP _ 5 5 (kn16_ok 2) w)
  have R0 := Lib.hid (fun w => p_rightP ⟨0, ⟨0, 0, 0, 0⟩, ⟨0, 0, 0, 0⟩, ⟨0, 0⟩, ⟨0, 0⟩, 0⟩ w)
  have R3 := Lib.hid (fun w => p_rightP ⟨3, ⟨0, 0, 0, 0⟩, ⟨0, 0, 0, 0⟩, ⟨0, 0⟩, ⟨0, 0⟩, 0⟩ w)
  rw [kn16_0] at C0
  rw [kn16_1] at C1
  rw [kn16_2] at C2
  rw [kn16_r] at R0
  rw [kn16_n] at R3
  obtain ⟨B, hB⟩ : ∃ B, w.heap.size = B := ⟨_, rfl⟩
  obtain ⟨W, hW⟩ : ∃ W, (w.alloc (.cells #[.int .u8 1, .int .u8 2, .int .u8 3, .int .u8 4] 23)).alloc (.cells #[.int .u8 9, .int .u8 9, .int .u8 9, .int .u8 9] 23) = W := ⟨_, rfl⟩
  have ha : Has W B #[.int .u8 1, .int .u8 2, .int .u8 3, .int .u8 4] 23 := by rw [← hW]; exact (has_new hB).alloc _
  have hm : Has W (B + 1) #[.int .u8 9, .int .u8 9, .int .u8 9, .int .u8 9] 23 := by rw [← hW]; exact has_new (by simp [hB])
  have hb : Below w.heap.size w W := by rw [← hW]; exact ((Below.refl _ _).alloc (Nat.le_refl _) _).alloc (by simp) _
  have HW := Lib.hid hW
  have HA := Lib.hid ha
  have HM := Lib.hid hm
  have HB := Lib.hid hb
  clear hW ha hm hb
  go_enter Try.func8, Try.ntmps8
  go_upto_region 2 with fail
  rw [HW.out]
  clear hB
  have e0 := Later.read HA.out 0 _ rfl
  have e1 := Later.read HA.out 1 _ rfl
  have e2 := Later.read HA.out 2 _ rfl
  have e3 := Later.read HA.out 3 _ rfl
  have d0 := Later.read HM.out 0 _ rfl
  have d1 := Later.read HM.out 1 _ rfl
  have d2 := Later.read HM.out 2 _ rfl
  have d3 := Later.read HM.out 3 _ rfl
  refine wp_region_class (C := fun w' => ∃ z : Later W, w' = z.to) (by kernel_rfl) (by kernel_rfl) ⟨⟨_, below_drew (Below.refl _ _)⟩, rfl⟩ ?_
  repeat (go_big_quiet_step (first | (go_at_call_of 11 (Value.int .i64 2); exact Later.calls (C2.out _)) | (go_at_call_of 11 (Value.int .i64 1); exact Later.calls (C1.out _)) | (go_at_call 11; exact Later.calls (C0.out _)) | (go_at_call_of 12 (Value.int .i64 3); exact Later.calls (R3.out _)) | (go_at_call 12; exact Later.calls (R0.out _))))
  refine wpQuiet_nil ?_
  rintro _ ⟨z, rfl⟩
  go_wp2
  go_ret
  exact ⟨rfl, HB.out.trans (z.below.mono HB.out.size)⟩

end Go.Proofs.Ytafaafaclijfiaa

namespace Go.Proofs.Ytafaafaclijfiaa
open Go Go.RowKit
open M

set_option maxRecDepth 100000 in
set_option maxHeartbeats 8000000 in
theorem paintWays_walk {w : World} (l : Value) (_ : Unit) (x y : Int) (hN : Nums w l) :
    Calls Try.prog 5 #[l, .int .i64 x, .int .i64 y] w fun e w' => e = .returned (.bool true) ∧ Below w.heap.size w w' := by
  obtain ⟨p, hp, p0, p1⟩ : ∃ q, bits .and .i64 x 31 = q ∧ 0 ≤ q ∧ q ≤ 31 := ⟨_, rfl, by rw [and_31]; omega, by rw [and_31]; omega⟩
  obtain ⟨q, hq, q0, q1⟩ : ∃ q, bits .and .i64 y 31 = q ∧ 0 ≤ q ∧ q ≤ 31 := ⟨_, rfl, by rw [and_31]; omega, by rw [and_31]; omega⟩
  obtain ⟨px, hpx⟩ : ∃ z, p - 8 = z := ⟨_, rfl⟩
  obtain ⟨py, hpy⟩ : ∃ z, q - 8 = z := ⟨_, rfl⟩
  obtain ⟨ox, hox⟩ : ∃ z, 8 - px = z := ⟨_, rfl⟩
  obtain ⟨ny, hny⟩ : ∃ z, -py = z := ⟨_, rfl⟩
  have e1 : IntKind.i64.wrap (p - 8) = px := by rw [hpx]; exact IntWalk.i64_in _ (by omega)
  have e2 : IntKind.i64.wrap (q - 8) = py := by rw [hpy]; exact IntWalk.i64_in _ (by omega)
  have e3 : IntKind.i64.wrap (8 - px) = ox := by rw [hox]; exact IntWalk.i64_in _ (by omega)
  have e4 : IntKind.i64.wrap (-py) = ny := by rw [hny]; exact IntWalk.i64_in _ (by omega)
  have x0 : -8 ≤ px ∧ px ≤ 23 ∧ -8 ≤ py ∧ py ≤ 23 := by omega
  have E1 := Lib.hid e1
  have E2 := Lib.hid e2
  have E3 := Lib.hid e3
  have E4 := Lib.hid e4
  have OX := Lib.hid hox
  have NY := Lib.hid hny
  have X0 := Lib.hid x0
  clear hpx hpy hox hny e3 e4 x0
  have MD := Lib.hid (l16_made hN)
  obtain ⟨a1, n1, c1, rfl⟩ := nums_shape16 hN
  clear hN
  go_enter Try.func5, Try.ntmps5
  go_wp2_with fail
  refine MD.out.mono ?_
  rintro e w1 ⟨⟨k, ⟨a0, a1, a2, a3⟩, ⟨b0, b1, b2, b3⟩, ⟨sx, sy⟩, ⟨tx, ty⟩, rad⟩, rfl, ok, hb⟩
  obtain ⟨P, hP⟩ : ∃ P, w1.heap.size = P := ⟨_, rfl⟩
  obtain ⟨V, hV⟩ : ∃ V, w1.alloc (.cells (paCells ⟨k, ⟨a0, a1, a2, a3⟩, ⟨b0, b1, b2, b3⟩, ⟨sx, sy⟩, ⟨tx, ty⟩, rad⟩) 27) = V := ⟨_, rfl⟩
  have bV := Lib.hid (show Below w.heap.size w V by rw [← hV]; exact hb.alloc hb.size _)
  have kp := Lib.hid (show Has V P (paCells ⟨k, ⟨a0, a1, a2, a3⟩, ⟨b0, b1, b2, b3⟩, ⟨sx, sy⟩, ⟨tx, ty⟩, rad⟩) 27 by rw [← hV]; exact has_new hP)
  have BP : Hid (w.heap.size ≤ P) := Lib.hid (by have := hb.size; omega)
  have HV := Lib.hid hV
  clear hV hb ok MD
  go_upto_region 3 with fail
  rw [HV.out]
  clear hP HV e1 e2 p0 p1 q0 q1 hp hq
  have W0 := wayF_in ⟨k, ⟨a0, a1, a2, a3⟩, ⟨b0, b1, b2, b3⟩, ⟨sx, sy⟩, ⟨tx, ty⟩, rad⟩ px py
  have C0 := Lib.hid (fun w => p_wayP ⟨k, ⟨a0, a1, a2, a3⟩, ⟨b0, b1, b2, b3⟩, ⟨sx, sy⟩, ⟨tx, ty⟩, rad⟩ px py w)
  obtain ⟨wy, hwy⟩ : ∃ v, wayF ⟨k, ⟨a0, a1, a2, a3⟩, ⟨b0, b1, b2, b3⟩, ⟨sx, sy⟩, ⟨tx, ty⟩, rad⟩ px py = v := ⟨_, rfl⟩
  rw [hwy] at W0 C0
  obtain ⟨w0, w1'⟩ := W0
  clear hwy
  have d0 := kp.out.cell 0 _ rfl
  have d1 := kp.out.cell 1 _ rfl
  have d2 := kp.out.cell 2 _ rfl
  have d3 := kp.out.cell 3 _ rfl
  have d4 := kp.out.cell 4 _ rfl
  have d5 := kp.out.cell 5 _ rfl
  have d6 := kp.out.cell 6 _ rfl
  have d7 := kp.out.cell 7 _ rfl
  have d8 := kp.out.cell 8 _ rfl
  have d9 := kp.out.cell 9 _ rfl
  have d10 := kp.out.cell 10 _ rfl
  have d11 := kp.out.cell 11 _ rfl
  have d12 := kp.out.cell 12 _ rfl
  have d13 := kp.out.cell 13 _ rfl
  go_wp2_with fail
  refine (C0.out _).mono ?_
  rintro e w2 ⟨rfl, hq⟩
  have bb2 := bV.out.trans (hq.mono bV.out.size)
  have k2 := kp.out.below hq kp.out.lt
  clear d0 d1 d2 d3 d4 d5 d6 d7 d8 d9 d10 d11 d12 d13 hq bV kp C0
  obtain ⟨V2, hV2⟩ : ∃ V, ((w2.setCell ⟨P, 9, none⟩ (.int .i64 294912)).setCell ⟨P, 10, none⟩ (.int .i64 294912)).setCell ⟨P, 0, none⟩ (.int .i64 2) = V := ⟨_, rfl⟩
  have bb3 : Below w.heap.size w V2 := by rw [← hV2]; exact ((bb2.setCell BP.out _).setCell BP.out _).setCell BP.out _
  have k3 : Has V2 P (paCells ⟨2, ⟨a0, a1, a2, a3⟩, ⟨b0, b1, b2, b3⟩, ⟨294912, 294912⟩, ⟨tx, ty⟩, rad⟩) 27 := by rw [← hV2]; exact has_set (has_set (has_set k2 9 _) 10 _) 0 _
  have c0 := k2.cell 0 _ rfl
  have c9 := k2.cell 9 _ rfl
  have c10 := k2.cell 10 _ rfl
  have fz := has_fro k2
  have HV2 := Lib.hid hV2
  have HB := Lib.hid bb3
  have HK := Lib.hid k3
  clear hV2 bb2 k2 bb3 k3
  go_upto_region 8 with fail
  rw [HV2.out]
  clear c0 c9 c10 fz HV2 w0 w1'
  have CW : Hid (∃ R, ∀ a b w, (a = px ∧ b = py) ∨ (a = ox ∧ b = py) ∨ (a = py ∧ b = px) → Calls Try.prog 10 #[.agg (paCells ⟨2, ⟨a0, a1, a2, a3⟩, ⟨b0, b1, b2, b3⟩, ⟨294912, 294912⟩, ⟨tx, ty⟩, rad⟩), .int .i64 a, .int .i64 b] w fun e w' => e = .returned (.int .i64 R) ∧ Below w.heap.size w w') := Lib.hid (by
    obtain ⟨x0, x1, x2, x3⟩ := X0.out
    obtain ⟨u, v⟩ := ways_circle (a := ⟨a0, a1, a2, a3⟩) (b := ⟨b0, b1, b2, b3⟩) (q := ⟨tx, ty⟩) (r := rad) (x := px) (y := py) (by omega) (by omega) (by omega) (by omega)
    rw [OX.out] at u
    refine ⟨wayF ⟨2, ⟨a0, a1, a2, a3⟩, ⟨b0, b1, b2, b3⟩, ⟨294912, 294912⟩, ⟨tx, ty⟩, rad⟩ px py, fun a b w h => ?_⟩
    rcases h with ⟨h1, h2⟩ | ⟨h1, h2⟩ | ⟨h1, h2⟩
    · rw [h1, h2]; exact p_wayP _ _ _ w
    · rw [h1, h2, ← u]; exact p_wayP _ _ _ w
    · rw [h1, h2, ← v]; exact p_wayP _ _ _ w)
  have CL : Hid (∃ R, ∀ a b w, a = px ∧ (b = py ∨ b = ny) → Calls Try.prog 10 #[.agg (paCells ⟨1, ⟨a0, a1, a2, a3⟩, ⟨b0, b1, b2, b3⟩, ⟨294912, 294912⟩, ⟨753664, 294912⟩, rad⟩), .int .i64 a, .int .i64 b] w fun e w' => e = .returned (.int .i64 R) ∧ Below w.heap.size w w') := Lib.hid (by
    have u := ways_line (a := ⟨a0, a1, a2, a3⟩) (b := ⟨b0, b1, b2, b3⟩) (r := rad) (x := px) (y := py)
    rw [NY.out] at u
    refine ⟨wayF ⟨1, ⟨a0, a1, a2, a3⟩, ⟨b0, b1, b2, b3⟩, ⟨294912, 294912⟩, ⟨753664, 294912⟩, rad⟩ px py, fun a b w h => ?_⟩
    rcases h with ⟨h1, h2 | h2⟩
    · rw [h1, h2]; exact p_wayP _ _ _ w
    · rw [h1, h2, ← u]; exact p_wayP _ _ _ w)
  obtain ⟨R, hR⟩ := CW.out
  obtain ⟨S, hS⟩ := CL.out
  have C1 := Lib.hid hR
  have C2 := Lib.hid hS
  clear hR hS CW CL
  have d0 := Later.read HK.out 0 _ rfl
  have d1 := Later.read HK.out 1 _ rfl
  have d2 := Later.read HK.out 2 _ rfl
  have d3 := Later.read HK.out 3 _ rfl
  have d4 := Later.read HK.out 4 _ rfl
  have d5 := Later.read HK.out 5 _ rfl
  have d6 := Later.read HK.out 6 _ rfl
  have d7 := Later.read HK.out 7 _ rfl
  have d8 := Later.read HK.out 8 _ rfl
  have d9 := Later.read HK.out 9 _ rfl
  have d10 := Later.read HK.out 10 _ rfl
  have d11 := Later.read HK.out 11 _ rfl
  have d12 := Later.read HK.out 12 _ rfl
  have d13 := Later.read HK.out 13 _ rfl
  have e3 := E3.out
  refine wp_region_class (C := fun w' => ∃ z : Later V2, w' = z.to) (by kernel_rfl) (by kernel_rfl) ⟨⟨_, below_drew (Below.refl _ _)⟩, rfl⟩ ?_
  repeat (go_big_quiet_step (first | (go_at_call 10; exact Later.calls (C1.out _ _ _ (by simp)))))
  refine wpQuiet_nil ?_
  rintro _ ⟨z, rfl⟩
  have bb4 := HB.out.trans (z.below.mono HB.out.size)
  have k4 := HK.out.below z.below HK.out.lt
  clear d0 d1 d2 d3 d4 d5 d6 d7 d8 d9 d10 d11 d12 d13 e3 HB HK C1
  obtain ⟨V4, hV4⟩ : ∃ V, ((z.to.setCell ⟨P, 0, none⟩ (.int .i64 1)).setCell ⟨P, 11, none⟩ (.int .i64 753664)).setCell ⟨P, 12, none⟩ (.int .i64 294912) = V := ⟨_, rfl⟩
  have bb5 : Below w.heap.size w V4 := by rw [← hV4]; exact ((bb4.setCell BP.out _).setCell BP.out _).setCell BP.out _
  have k5 : Has V4 P (paCells ⟨1, ⟨a0, a1, a2, a3⟩, ⟨b0, b1, b2, b3⟩, ⟨294912, 294912⟩, ⟨753664, 294912⟩, rad⟩) 27 := by rw [← hV4]; exact has_set (has_set (has_set k4 0 _) 11 _) 12 _
  have c0 := k4.cell 0 _ rfl
  have c9 := k4.cell 9 _ rfl
  have c10 := k4.cell 10 _ rfl
  have c11 := k4.cell 11 _ rfl
  have c12 := k4.cell 12 _ rfl
  have fz := has_fro k4
  have HV4 := Lib.hid hV4
  have HB5 := Lib.hid bb5
  have HK5 := Lib.hid k5
  clear hV4 bb4 k4 bb5 k5
  go_upto_region 10 with fail
  rw [HV4.out]
  clear c0 c9 c10 c11 c12 fz HV4
  have d0 := Later.read HK5.out 0 _ rfl
  have d1 := Later.read HK5.out 1 _ rfl
  have d2 := Later.read HK5.out 2 _ rfl
  have d3 := Later.read HK5.out 3 _ rfl
  have d4 := Later.read HK5.out 4 _ rfl
  have d5 := Later.read HK5.out 5 _ rfl
  have d6 := Later.read HK5.out 6 _ rfl
  have d7 := Later.read HK5.out 7 _ rfl
  have d8 := Later.read HK5.out 8 _ rfl
  have d9 := Later.read HK5.out 9 _ rfl
  have d10 := Later.read HK5.out 10 _ rfl
  have d11 := Later.read HK5.out 11 _ rfl
  have d12 := Later.read HK5.out 12 _ rfl
  have d13 := Later.read HK5.out 13 _ rfl
  have e4 := E4.out
  refine wp_region_class (C := fun w' => ∃ z : Later V4, w' = z.to) (by kernel_rfl) (by kernel_rfl) ⟨⟨_, below_drew (Below.refl _ _)⟩, rfl⟩ ?_
  repeat (go_big_quiet_step (first | (go_at_call 10; exact Later.calls (C2.out _ _ _ (by simp))) | (go_at_call 8; exact Later.calls (known16 _))))
  refine wpQuiet_nil ?_
  rintro _ ⟨z2, rfl⟩
  go_wp2
  go_ret
  exact ⟨by simp, HB5.out.trans (z2.below.mono HB5.out.size)⟩

end Go.Proofs.Ytafaafaclijfiaa

namespace Go.Proofs.Ytafaafaclijfiaa
open Go.RowKit Go.ChangeShapes Go.WideShapes Go.Deep
open M

section
variable {H : Type} {enc : TypeId × Value → H} {w : World} {base : Nat} {held : Bool}
theorem cell_int : Try.prog.cellsOf 3 = 1 := by kernel_rfl
set_option maxRecDepth 100000 in
theorem open_tape {r : Reach} {b0 : Nat} {v : Value} {d : DataW H} {p : List MemPlace} (hv : Value.okWide Try.prog w r b0 33 v) (h : DataW.Trod enc Try.prog w base (fun _ => true) held 33 v d p) : ∃ _ : Unit, Nums w v := by
  refine ⟨(), ?_⟩
  obtain ⟨a0, len0, cap0, rfl⟩ := okWide_slice Try.underlying33 hv
  obtain ⟨fuel, hf⟩ := h
  rcases open_slice1 Try.underlying33 cell_int hf with ⟨hc, _⟩ | ⟨a, len, cap, m, n, V, D, Pl, hc, _, hl, hm, hmm, _, hi⟩
  · simp [Value.cells] at hc
    obtain ⟨rfl, rfl, rfl⟩ := hc
    exact Or.inl ⟨_, _, rfl⟩
  · simp [Value.cells] at hc
    obtain ⟨rfl, rfl, rfl⟩ := hc
    rw [if_pos rfl] at hmm
    subst hmm
    by_cases h0 : len0 = 0
    · subst h0
      exact Or.inl ⟨_, _, rfl⟩
    · have hspot : a.spot = none := by
        have := (hi 0 (by omega)).1
        simpa [Addr.add] using World.cell?_spot this
      obtain ⟨b, o, sp⟩ := a
      simp only at hspot
      subst hspot
      have h63 : len0 ≤ 9223372036854775807 := by
        have h := hm
        simp [maxLen] at h
        omega
      refine Or.inr ⟨b, o, len0, _, rfl, by omega, h63, fun i hil => ?_⟩
      obtain ⟨h1, h2⟩ := hi i (by omega)
      obtain ⟨k, hk, _⟩ := DataW.trod_int Try.underlying3 h2
      rw [Addr.add_lit] at h1
      refine ⟨k, h1.trans ?_⟩
      simpa using hk
end

end Go.Proofs.Ytafaafaclijfiaa

namespace Go.Proofs.Ytafaafaclijfiaa.paintWays
open Go.ChangeShapes Go.WideShapes Go.ChangeAt Go.RowKit

theorem post_below {H : Type} {enc : TypeId × Value → H} {P : Program} {f : Func} {s : ChangeSpec} {apart fresh handsOn : Bool} {W V : World} {args : Array Value} {v : Value} {ds gs : List (DataW H)} {before pa pv : List MemPlace}
    (hW : DataW.Whole enc P f.params.toList s.vars apart W args.toList ds gs before)
    (hres : ∀ (b : Nat) (sp : Nat → Bool) (hd : Bool), DataW.TrodAll enc P V b sp hd f.resultTypes.toList (v.resultList f.resultTypes.size) (s.fn H (ds ++ gs)).results [])
    (hargs : ∀ sp : Nat → Bool, (∀ p ∈ before, sp p.block = true) → DataW.TrodAll enc P V 0 sp true f.params.toList args.toList (s.fn H (ds ++ gs)).args pa)
    (hvars : ∀ sp : Nat → Bool, (∀ p ∈ before, sp p.block = true) → DataW.TrodVars enc P V sp s.vars (s.fn H (ds ++ gs)).vars pv)
    (hps : before = pa ++ pv) (hb : Below W.heap.size W V) : s.post enc P f apart fresh handsOn false W args v V := by
  have hl : ∀ p ∈ before, (fun b => decide (b < W.heap.size)) p.block = true := fun p hp => by simpa using hW.lt p hp
  refine ⟨ds, gs, before, [], pa, pv, hW, hres _ _ _, hargs _ hl, hvars _ hl, World.keptBut_mono (fun p hp => ⟨hp, ?_⟩) (hb.frame (· ∈ before)), fun h => by cases h⟩
  rw [hps, List.mem_append] at hp
  exact Or.inr hp

theorem own : ownKnob Try.prog.godebug = none := by kernel_rfl
theorem laid : laidOutB Try.prog = true := by kernel_rfl

set_option maxRecDepth 100000 in
theorem lifted (os : Os) (started : os.Started) (H : Type) (enc : TypeId × Value → H) :
    ReturnsInHanded {} Try.checked os 5 .any (Rows.paintWaysSpec.pre6 enc Try.prog Try.f5 Rows.paintWaysRow.domain false) (Rows.paintWaysSpec.post enc Try.prog Try.f5 false true false false) := by
  refine returnsInHanded_of_change (C := Try.checked) own started (by kernel_rfl) Try.func5
    (ChangeSpec.witness6 (enc := enc) (C := Try.checked) false ⟨#[], #[.slice none 0 0, .int .i64 0, .int .i64 0], []⟩ 8 (by kernel_rfl) (by kernel_rfl) (by kernel_rfl) (by kernel_rfl)) ?_
  intro W base args ds gs before hval0 hW hcnd _
  have hval : ∀ (j : Nat) t v, Try.f5.params[j]? = some t → args[j]? = some v → Value.okWide Try.prog W .any base t v := hval0
  have hW' := hW
  obtain ⟨p, q, hA0, hV, rfl, hfz, hnd⟩ := hW
  have hA : DataW.TrodAll enc Try.prog W 0 (fun _ => true) true Try.f5.params.toList args.toList ds p := hA0
  rw [Try.params5] at hA hval
  obtain ⟨v0, vs0, d0, ds0, p0, q0, hargs, rfl, rfl, h0, r0⟩ := trodAll_cons hA
  obtain ⟨v1, vs1, d1, ds1, p1, q1, rfl, rfl, rfl, h1, r1⟩ := trodAll_cons r0
  obtain ⟨v2, vs2, d2, ds2, p2, q2, rfl, rfl, rfl, h2, r2⟩ := trodAll_cons r1
  obtain ⟨rfl, rfl, rfl⟩ := trodAll_nil r2
  obtain rfl : args = #[v0, v1, v2] := by cases args; simp_all
  obtain ⟨rfl, rfl⟩ := trodVars_none hV
  obtain ⟨a0, w0⟩ := open_tape (hval 0 33 v0 rfl rfl) h0
  obtain ⟨a1, rfl, rfl, rfl, w1⟩ := open_int Try.underlying3 (hval 1 3 v1 rfl rfl) h1
  obtain ⟨a2, rfl, rfl, rfl, w2⟩ := open_int Try.underlying3 (hval 2 3 v2 rfl rfl) h2
  clear hA0 hval0
  simp only [List.append_nil] at hW'
  refine (paintWays_walk (w := W) v0 a0 a1 a2 w0).mono fun e W' ⟨he, hg⟩ => ?_
  subst he
  exact ⟨_, rfl, post_below (pv := []) hW' (fun _ _ _ => (trodAll_cons_mk (shut_bool Try.underlying4 _) trodAll_mk0)) (fun sp hsp => (trodAll_cons_mk (WideElems.Trod_stays laid (by kernel_rfl) (of_decide_eq_true (by kernel_rfl)) h0 (fun x hx => hg.same (by simpa using hW'.lt x (by simp [hx]))) (fun x hx => hsp x (by simp [hx]))) (trodAll_cons_mk (shut_int Try.underlying3 w1) (trodAll_cons_mk (shut_int Try.underlying3 w2) trodAll_mk0)))) (fun _ _ => rfl) (by simp) hg⟩

theorem over : Rows.paintWaysRow.holds Try.pinned (OpenSpec.ofChange Rows.paintWaysSpec) :=
  OpenClaim.holds_of_wide 5 Try.f5 rfl rfl rfl rfl rfl rfl rfl ⟨rfl, rfl, rfl, rfl, rfl⟩ rfl rfl rfl rfl rfl (by kernel_rfl) Try.func5 (by kernel_rfl)
    (of_decide_eq_true (by kernel_rfl)) (by unfold Func.isWrapper; first | (rw [if_pos (by decide +kernel)]; kernel_rfl) | (rw [if_neg (by decide +kernel)]; exact ⟨rfl, rfl⟩))
    (fun os started H enc _ => lifted os started H enc)

end Go.Proofs.Ytafaafaclijfiaa.paintWays
namespace Go.Proofs.Ytafaafaclijfiaa
theorem paintWays_holds : Rows.PaintWaysSaid := paintWays.over
#print axioms paintWays_holds
end Go.Proofs.Ytafaafaclijfiaa
