/- PaintNumbers of the statements: whatever the numbers are, the call returns true and each argument reads as it did; no condition. -/
import Derived.Test.YtafaafaclijfiaaHM
import Derived.ChangeKeysEq
import Derived.Test.YtafaafaclijfiaaPaD
import Derived.Laws.StructEq
import Derived.Test.YtafaafaclijfiaaCpW
import Derived.Test.YtafaafaclijfiaaCpM
import Derived.Test.YtafaafaclijfiaaR16c
import Derived.Test.YtafaafaclijfiaaRPa
import Derived.Test.YtafaafaclijfiaaRows
import Derived.WalkKit
import Derived.ProofKit
import Derived.OpenShut
namespace Go.Proofs.Ytafaafaclijfiaa
open Go Go.RowKit

section
variable {P : Program} (w : World)
theorem run_equalIn_four {t e : TypeId} {k : IntKind} (D : Nat) (ht : P.underlying t = some (.array 4 e)) (he : P.underlying e = some (.int k)) (hs : (sizeOf e).run P w = .ok 1 w) (a b c d a' b' c' d' : Int) :
    (Op.equalIn (D + 1 + 1) t (.agg #[.int k a, .int k b, .int k c, .int k d]) (.agg #[.int k a', .int k b', .int k c', .int k d'])).run P w = .ok ((a == a') && ((b == b') && ((c == c') && (d == d')))) w := by
  have hp : P.plainKey e = true := by simp [Program.plainKey, he]
  have q : ∀ (x y : Int), (Op.equalIn (D + 1) e (.int k x) (.int k y)).run P w = .ok (x == y) w := fun x y => run_equalIn_int w D e k k x y he
  have p0 : ∀ (x0 x1 x2 x3 : Value), (part e #[x0, x1, x2, x3] 0).run P w = .ok x0 w := fun _ _ _ _ => run_part_plain w hp rfl
  have p1 : ∀ (x0 x1 x2 x3 : Value), (part e #[x0, x1, x2, x3] 1).run P w = .ok x1 w := fun _ _ _ _ => run_part_plain w hp rfl
  have p2 : ∀ (x0 x1 x2 x3 : Value), (part e #[x0, x1, x2, x3] 2).run P w = .ok x2 w := fun _ _ _ _ => run_part_plain w hp rfl
  have p3 : ∀ (x0 x1 x2 x3 : Value), (part e #[x0, x1, x2, x3] 3).run P w = .ok x3 w := fun _ _ _ _ => run_part_plain w hp rfl
  rw [Op.equalIn]
  simp only [Sem.run_bind, run_underlying ht, Result.andThen_ok, hs, Std.Legacy.Range.forIn_eq_forIn_range', Std.Legacy.Range.size, Nat.sub_zero, Nat.add_sub_cancel, Nat.div_one, List.range'_succ, List.range'_zero, List.forIn_cons, List.forIn_nil, Nat.mul_one, Nat.zero_add, Nat.reduceAdd, p0, q]
  generalize (a == a') = A
  generalize eb : (b == b') = B
  generalize ec : (c == c') = C
  generalize ed : (d == d') = E
  cases A
  · simp
  · cases B
    · simp [p1, q, eb]
    · cases C
      · simp [p1, p2, q, eb, ec]
      · cases E
        · simp [p1, p2, p3, q, eb, ec, ed]
        · simp [p1, p2, p3, q, eb, ec, ed]
end

open M
theorem size_u8 (w : World) : (sizeOf 5).run Try.prog w = .ok 1 w := by
  have h : (Try.prog.info? 5).map (fun i => i.size) = some 1 := by kernel_rfl
  cases hi : Try.prog.info? 5 with
  | none => rw [hi] at h; cases h
  | some i =>
    rw [hi] at h
    have hs : i.size = 1 := by simpa using h
    simp only [sizeOf, Sem.run_bind, run_typeInfo w hi, Result.andThen_ok, hs, Sem.run_pure]
theorem eq_color (w : World) (a b c d a' b' c' d' : Int) :
    (Op.equalIn 10000 23 (.agg #[.int .u8 a, .int .u8 b, .int .u8 c, .int .u8 d]) (.agg #[.int .u8 a', .int .u8 b', .int .u8 c', .int .u8 d'])).run Try.prog w = .ok ((a == a') && ((b == b') && ((c == c') && (d == d')))) w :=
  run_equalIn_four w 9998 Try.underlying23 Try.underlying5 (size_u8 w) a b c d a' b' c' d'
theorem eq_color_same (w : World) (x : Cr) : (Op.equalIn 10000 23 (.agg (cCells x)) (.agg (cCells x))).run Try.prog w = .ok true w := by
  rw [eq_color]; simp

end Go.Proofs.Ytafaafaclijfiaa

namespace Go.Proofs.Ytafaafaclijfiaa
open Go Go.RowKit
open M

theorem eq_colorD (D : Nat) (w : World) (x : Cr) : (Op.equalIn (D + 1 + 1) 23 (.agg (cCells x)) (.agg (cCells x))).run Try.prog w = .ok true w := by
  have := run_equalIn_four w D Try.underlying23 Try.underlying5 (size_u8 w) x.r x.g x.b x.q x.r x.g x.b x.q
  simpa using this
set_option maxRecDepth 100000 in
theorem eq_paint (w : World) (c : Pa) : (Op.equalIn 10000 27 (.agg (paCells c)) (.agg (paCells c))).run Try.prog w = .ok true w := by
  have ha : (Op.equalIn 9999 23 (.agg #[.int .u8 c.a.r, .int .u8 c.a.g, .int .u8 c.a.b, .int .u8 c.a.q]) (.agg #[.int .u8 c.a.r, .int .u8 c.a.g, .int .u8 c.a.b, .int .u8 c.a.q])).run Try.prog w = .ok true w := eq_colorD 9997 w c.a
  have hb : (Op.equalIn 9999 23 (.agg #[.int .u8 c.b.r, .int .u8 c.b.g, .int .u8 c.b.b, .int .u8 c.b.q]) (.agg #[.int .u8 c.b.r, .int .u8 c.b.g, .int .u8 c.b.b, .int .u8 c.b.q])).run Try.prog w = .ok true w := eq_colorD 9997 w c.b
  rw [run_equalIn_agg w 9999 27 _ _ Try.underlying27 (by kernel_rfl)]
  simp [go_sem, Op.eqFields, ha, hb]

end Go.Proofs.Ytafaafaclijfiaa

namespace Go.Proofs.Ytafaafaclijfiaa
open Go Go.RowKit
open M

attribute [local go_sem] eq_color
set_option maxRecDepth 100000 in
set_option maxHeartbeats 8000000 in
theorem l16_same (c : Pa) (x y m0 m1 m2 m3 m4 m5 : Int) (ok : PaOk c) (w : World) : Calls Try.prog 7 #[.agg (paCells c), .int .i64 x, .int .i64 y, .agg #[.int .i64 m0, .int .i64 m1, .int .i64 m2, .int .i64 m3, .int .i64 m4, .int .i64 m5]] w fun e w' => e = .returned (.bool true) ∧ Below w.heap.size w w' := by
  obtain ⟨B, hB⟩ : ∃ B, w.heap.size = B := ⟨_, rfl⟩
  obtain ⟨W, hW⟩ : ∃ W, (w.alloc (.cells (paCells c) 27)).alloc (.cells #[.int .i64 m0, .int .i64 m1, .int .i64 m2, .int .i64 m3, .int .i64 m4, .int .i64 m5] 30) = W := ⟨_, rfl⟩
  have ha : Has W B (paCells c) 27 := by rw [← hW]; exact (has_new hB).alloc _
  have hm : Has W (B + 1) #[.int .i64 m0, .int .i64 m1, .int .i64 m2, .int .i64 m3, .int .i64 m4, .int .i64 m5] 30 := by rw [← hW]; exact has_new (by simp [hB])
  have hb : Below w.heap.size w W := by rw [← hW]; exact ((Below.refl _ _).alloc (Nat.le_refl _) _).alloc (by simp) _
  have HW := Lib.hid hW
  have HA := Lib.hid ha
  have HM := Lib.hid hm
  have HB := Lib.hid hb
  have C1 := Lib.hid (fun w => p_rightP c w)
  have C2 := Lib.hid (fun w => rh_paint c.k c.a c.b c.p c.q c.r w)
  have e2 : (decide (c.k = 0 ∨ c.k = 1 ∨ c.k = 2) && (nearN c.p.x && nearN c.p.y && nearN c.q.x && nearN c.q.y && nearN c.r)) = rightP c := rfl
  rw [e2] at C2
  obtain ⟨rt, hrt⟩ : ∃ b, rightP c = b := ⟨_, rfl⟩
  rw [hrt] at C1 C2
  have C3 := Lib.hid (fun w => p_mapP m0 m1 m2 m3 m4 m5 c w)
  have C4 := Lib.hid (fun w => r15_map m0 m1 m2 m3 m4 m5 c w)
  obtain ⟨mp, hmp⟩ : ∃ b, paCells (mapF m0 m1 m2 m3 m4 m5 c) = b := ⟨_, rfl⟩
  have C5 := Lib.hid (fun w => p_wayP c x y w)
  have C6 := Lib.hid (fun w => r15_way c x y w)
  obtain ⟨wy, hwy⟩ : ∃ b, wayF c x y = b := ⟨_, rfl⟩
  rw [hwy] at C5 C6
  have C7 := Lib.hid (fun w => p_atP c x y ok w)
  have C8 := Lib.hid (fun w => r15_color c x y ok w)
  obtain ⟨⟨fr, fg, fb, fq⟩, hF⟩ : ∃ f, colF c x y = f := ⟨_, rfl⟩
  rw [hF] at C7 C8
  obtain ⟨g, hg⟩ : ∃ g, mapF m0 m1 m2 m3 m4 m5 c = g := ⟨_, rfl⟩
  rw [hg] at C3 C4
  clear hmp mp hrt hwy hF hg e2 ok
  obtain ⟨k, ⟨a0, a1, a2, a3⟩, ⟨b0, b1, b2, b3⟩, ⟨px, py⟩, ⟨qx, qy⟩, r⟩ := c
  obtain ⟨gk, ⟨ga0, ga1, ga2, ga3⟩, ⟨gb0, gb1, gb2, gb3⟩, ⟨gpx, gpy⟩, ⟨gqx, gqy⟩, gr⟩ := g
  clear hW ha hm hb
  have EP : ∀ w, (Op.equalIn 10000 27 (.agg (paCells ⟨gk, ⟨ga0, ga1, ga2, ga3⟩, ⟨gb0, gb1, gb2, gb3⟩, ⟨gpx, gpy⟩, ⟨gqx, gqy⟩, gr⟩)) (.agg (paCells ⟨gk, ⟨ga0, ga1, ga2, ga3⟩, ⟨gb0, gb1, gb2, gb3⟩, ⟨gpx, gpy⟩, ⟨gqx, gqy⟩, gr⟩))).run Try.prog w = .ok true w := fun w => eq_paint w _
  go_enter Try.func7, Try.ntmps7
  go_upto_region 1 with fail
  rw [HW.out]
  clear hB
  have e0 := Later.read HA.out 0 _ rfl
  have e1 := Later.read HA.out 1 _ rfl
  have e2 := Later.read HA.out 2 _ rfl
  have e3 := Later.read HA.out 3 _ rfl
  have e4 := Later.read HA.out 4 _ rfl
  have e5 := Later.read HA.out 5 _ rfl
  have e6 := Later.read HA.out 6 _ rfl
  have e7 := Later.read HA.out 7 _ rfl
  have e8 := Later.read HA.out 8 _ rfl
  have e9 := Later.read HA.out 9 _ rfl
  have e10 := Later.read HA.out 10 _ rfl
  have e11 := Later.read HA.out 11 _ rfl
  have e12 := Later.read HA.out 12 _ rfl
  have e13 := Later.read HA.out 13 _ rfl
  have d0 := Later.read HM.out 0 _ rfl
  have d1 := Later.read HM.out 1 _ rfl
  have d2 := Later.read HM.out 2 _ rfl
  have d3 := Later.read HM.out 3 _ rfl
  have d4 := Later.read HM.out 4 _ rfl
  have d5 := Later.read HM.out 5 _ rfl
  refine wp_region_class (C := fun w' => ∃ z : Later W, w' = z.to) (by kernel_rfl) (by kernel_rfl) ⟨⟨_, below_drew (Below.refl _ _)⟩, rfl⟩ ?_
  repeat (go_big_quiet_step (first | (go_at_call 12; exact Later.calls (C1.out _)) | (go_at_call 13; exact Later.calls (C2.out _)) | (go_at_call 14; exact Later.calls (C3.out _)) | (go_at_call 15; exact Later.calls (C4.out _)) | (go_at_call 10; exact Later.calls (C5.out _)) | (go_at_call 16; exact Later.calls (C6.out _)) | (go_at_call 11; exact Later.calls (C7.out _)) | (go_at_call 17; exact Later.calls (C8.out _))))
  refine wpQuiet_nil ?_
  rintro _ ⟨z, rfl⟩
  go_wp2
  go_ret
  exact ⟨rfl, HB.out.trans (z.below.mono HB.out.size)⟩

end Go.Proofs.Ytafaafaclijfiaa

namespace Go.Proofs.Ytafaafaclijfiaa
open Go Go.RowKit
open M

def kn16a : Cr := ⟨1, 2, 3, 4⟩
def kn16b : Cr := ⟨9, 9, 9, 9⟩
theorem kn16_0 : colF ⟨0, ⟨1, 2, 3, 4⟩, ⟨9, 9, 9, 9⟩, ⟨0, 0⟩, ⟨0, 0⟩, 0⟩ 5 5 = ⟨1, 2, 3, 4⟩ := by decide +kernel
theorem kn16_2 : colF ⟨2, ⟨1, 2, 3, 4⟩, ⟨9, 9, 9, 9⟩, ⟨0, 0⟩, ⟨0, 0⟩, 0⟩ 5 5 = ⟨9, 9, 9, 9⟩ := by decide +kernel
theorem kn16_1 : colF ⟨1, ⟨1, 2, 3, 4⟩, ⟨9, 9, 9, 9⟩, ⟨0, 0⟩, ⟨0, 0⟩, 0⟩ 5 5 = ⟨1, 2, 3, 4⟩ := by decide +kernel
theorem kn16_r : rightP ⟨0, ⟨0, 0, 0, 0⟩, ⟨0, 0, 0, 0⟩, ⟨0, 0⟩, ⟨0, 0⟩, 0⟩ = true := by decide +kernel
theorem kn16_n : rightP ⟨3, ⟨0, 0, 0, 0⟩, ⟨0, 0, 0, 0⟩, ⟨0, 0⟩, ⟨0, 0⟩, 0⟩ = false := by decide +kernel
theorem kn16a_ok : kn16a.Ok := by constructor <;> decide
theorem kn16b_ok : kn16b.Ok := by constructor <;> decide
theorem kn16_ok (k : Int) : PaOk ⟨k, ⟨1, 2, 3, 4⟩, ⟨9, 9, 9, 9⟩, ⟨0, 0⟩, ⟨0, 0⟩, 0⟩ := ⟨kn16a_ok, kn16b_ok⟩

attribute [local go_sem] eq_color
set_option maxRecDepth 100000 in
set_option maxHeartbeats 4000000 in
theorem known16 (w : World) : Calls Try.prog 8 #[] w fun e w' => e = .returned (.bool true) ∧ Below w.heap.size w w' := by
  have C0 := Lib.hid (fun w => p_atP _ 5 5 (kn16_ok 0) w)
  have C1 := Lib.hid (fun w => p_atP _ 5 5 (kn16_ok 1) w)
  have C2 := Lib.hid (fun w => p_atP _ 5 5 (kn16_ok 2) w)
  have R0 := Lib.hid (fun w => p_rightP ⟨0, ⟨0, 0, 0, 0⟩, ⟨0, 0, 0, 0⟩, ⟨0, 0⟩, ⟨0, 0⟩, 0⟩ w)
  have R3 := Lib.hid (fun w => p_rightP ⟨3, ⟨0, 0, 0, 0⟩, ⟨0, 0, 0, 0⟩, ⟨0, 0⟩, ⟨0, 0⟩, 0⟩ w)
  rw [kn16_0] at C0
  rw [kn16_1] at C1
  rw [kn16_2] at C2
  rw [kn16_r] at R0
  rw [kn16_n] at R3
  obtain ⟨B, hB⟩ : ∃ B, w.heap.size = B := ⟨_, rfl⟩
  obtain ⟨W, hW⟩ : ∃ W, (w.alloc (.cells #[.int .u8 1, .int .u8 2, .int .u8 3, .int .u8 4] 23)).alloc (.cells #[.int .u8 9, .int .u8 9, .int .u8 9, .int .u8 9] 23) = W := ⟨_, rfl⟩
  have ha : Has W B #[.int .u8 1, .int .u8 2, .int .u8 3, .int .u8 4] 23 := by rw [← hW]; exact (has_new hB).alloc _
  have hm : Has W (B + 1) #[.int .u8 9, .int .u8 9, .int .u8 9, .int .u8 9] 23 := by rw [← hW]; exact has_new (by simp [hB])
  have hb : Below w.heap.size w W := by rw [← hW]; exact ((Below.refl _ _).alloc (Nat.le_refl _) _).alloc (by simp) _
  have HW := Lib.hid hW
  have HA := Lib.hid ha
  have HM := Lib.hid hm
  have HB := Lib.hid hb
  clear hW ha hm hb
  go_enter Try.func8, Try.ntmps8
  go_upto_region 2 with fail
  rw [HW.out]
  clear hB
  have e0 := Later.read HA.out 0 _ rfl
  have e1 := Later.read HA.out 1 _ rfl
  have e2 := Later.read HA.out 2 _ rfl
  have e3 := Later.read HA.out 3 _ rfl
  have d0 := Later.read HM.out 0 _ rfl
  have d1 := Later.read HM.out 1 _ rfl
  have d2 := Later.read HM.out 2 _ rfl
  have d3 := Later.read HM.out 3 _ rfl
  refine wp_region_class (C := fun w' => ∃ z : Later W, w' = z.to) (by kernel_rfl) (by kernel_rfl) ⟨⟨_, below_drew (Below.refl _ _)⟩, rfl⟩ ?_
  repeat (go_big_quiet_step (first | (go_at_call_of 11 (Value.int .i64 2); exact Later.calls (C2.out _)) | (go_at_call_of 11 (Value.int .i64 1); exact Later.calls (C1.out _)) | (go_at_call 11; exact Later.calls (C0.out _)) | (go_at_call_of 12 (Value.int .i64 3); exact Later.calls (R3.out _)) | (go_at_call 12; exact Later.calls (R0.out _))))
  refine wpQuiet_nil ?_
  rintro _ ⟨z, rfl⟩
  go_wp2
  go_ret
  exact ⟨rfl, HB.out.trans (z.below.mono HB.out.size)⟩

end Go.Proofs.Ytafaafaclijfiaa

namespace Go.Proofs.Ytafaafaclijfiaa
open Go Go.RowKit
open M

theorem nm16_ok (k : Int) (p q : Pt) (r : Int) : PaOk ⟨k, ⟨0, 100, 200, 255⟩, ⟨255, 50, 0, 9⟩, p, q, r⟩ := by
  constructor <;> constructor <;> simp
theorem nm16_zero (k : Int) (p q : Pt) (r : Int) : PaOk ⟨k, ⟨0, 0, 0, 0⟩, ⟨0, 0, 0, 0⟩, p, q, r⟩ := by
  constructor <;> constructor <;> simp

set_option maxRecDepth 100000 in
set_option maxHeartbeats 8000000 in
theorem paintNumbers_walk (w : World) : Calls Try.prog 3 #[] w fun e w' => e = .returned (.bool true) ∧ Below w.heap.size w w' := by
  have K16 := Lib.hid (fun w => known16 w)
  go_enter Try.func3, Try.ntmps3
  go_wp2_with fail
  go_loopw [1] (fun t wr => ∃ k : Int, -1 ≤ k ∧ k ≤ 4 ∧ t = .int .i64 k ∧ Below w.heap.size w wr) (fun t _ => 10 - (intOf t + 2).toNat)
  case atStart => exact ⟨-1, by omega, by omega, rfl, Below.refl _ _⟩
  case round =>
    obtain ⟨k, k0, k1, rfl, hb⟩ := hrel
    have HB := Lib.hid hb
    clear hb
    by_cases hk : k < 4
    · go_wp2_with fail
      go_loopw [2] (fun t wr => ∃ a : Int, -3 ≤ a ∧ a ≤ 4 ∧ t = .int .i64 a ∧ Below w.heap.size w wr) (fun t _ => 10 - (intOf t + 4).toNat)
      case atStart => exact ⟨-3, by omega, by omega, rfl, HB.out⟩
      case round =>
        clear HB
        obtain ⟨a, a0, a1, rfl, hb⟩ := hrel
        have HB := Lib.hid hb
        clear hb
        by_cases ha : a < 4
        · go_wp2_with fail
          go_loopw [3] (fun t wr => ∃ b : Int, -3 ≤ b ∧ b ≤ 4 ∧ t = .int .i64 b ∧ Below w.heap.size w wr) (fun t _ => 10 - (intOf t + 4).toNat)
          case atStart => exact ⟨-3, by omega, by omega, rfl, HB.out⟩
          case round =>
            clear HB
            obtain ⟨b, b0, b1, rfl, hb⟩ := hrel
            have HB := Lib.hid hb
            clear hb
            by_cases hlb : b < 4
            · obtain ⟨P, hP⟩ : ∃ P, wr.heap.size = P := ⟨_, rfl⟩
              obtain ⟨V, hV⟩ : ∃ V, wr.alloc (.cells (paCells ⟨k, ⟨0, 100, 200, 255⟩, ⟨255, 50, 0, 9⟩, ⟨a * 65536, b⟩, ⟨b * 65536 * 3, a * 65536⟩, (a + b) * 65536⟩) 27) = V := ⟨_, rfl⟩
              have kp : Has V P (paCells ⟨k, ⟨0, 100, 200, 255⟩, ⟨255, 50, 0, 9⟩, ⟨a * 65536, b⟩, ⟨b * 65536 * 3, a * 65536⟩, (a + b) * 65536⟩) 27 := by rw [← hV]; exact has_new hP
              have BV := Lib.hid (show Below w.heap.size w V by rw [← hV]; exact HB.out.alloc HB.out.size _)
              have SP := Lib.hid (fun x y m0 m1 m2 m3 m4 m5 w => l16_same ⟨k, ⟨0, 100, 200, 255⟩, ⟨255, 50, 0, 9⟩, ⟨a * 65536, b⟩, ⟨b * 65536 * 3, a * 65536⟩, (a + b) * 65536⟩ x y m0 m1 m2 m3 m4 m5 (nm16_ok _ _ _ _) w)
              have FP := Lib.hid (show ∀ w', Below V.heap.size V w' → ∀ j u, (paCells ⟨k, ⟨0, 100, 200, 255⟩, ⟨255, 50, 0, 9⟩, ⟨a * 65536, b⟩, ⟨b * 65536 * 3, a * 65536⟩, (a + b) * 65536⟩)[j]? = some u → w'.cell? ⟨P, j, none⟩ = some u from fun w' h' j u hu => (kp.below h' kp.lt).cell j u hu)
              have HV := Lib.hid hV
              clear kp hV HB
              go_upto_region 11 with fail
              rw [HV.out]
              clear hP HV
              go_wp2_with fail
              go_loopw [5] (fun t wx => ∃ x : Int, -300 ≤ x ∧ x ≤ 330 ∧ t = .int .i64 x ∧ Below V.heap.size V wx) (fun t _ => 1000 - (intOf t + 301).toNat)
              case atStart => exact ⟨-300, by omega, by omega, rfl, Below.refl _ _⟩
              case round =>
                obtain ⟨x, x0, x1, rfl, hb⟩ := hrel
                have DX := Lib.hid hb
                clear hb
                by_cases hx : x < 300
                · have d0 := FP.out _ DX.out 0 _ rfl
                  have d1 := FP.out _ DX.out 1 _ rfl
                  have d2 := FP.out _ DX.out 2 _ rfl
                  have d3 := FP.out _ DX.out 3 _ rfl
                  have d4 := FP.out _ DX.out 4 _ rfl
                  have d5 := FP.out _ DX.out 5 _ rfl
                  have d6 := FP.out _ DX.out 6 _ rfl
                  have d7 := FP.out _ DX.out 7 _ rfl
                  have d8 := FP.out _ DX.out 8 _ rfl
                  have d9 := FP.out _ DX.out 9 _ rfl
                  have d10 := FP.out _ DX.out 10 _ rfl
                  have d11 := FP.out _ DX.out 11 _ rfl
                  have d12 := FP.out _ DX.out 12 _ rfl
                  have d13 := FP.out _ DX.out 13 _ rfl
                  go_wp2_with fail
                  refine (SP.out _ _ _ _ _ _ _ _ _).mono ?_
                  rintro e X1 ⟨rfl, hq⟩
                  have D1 := Lib.hid (DX.out.trans (hq.mono DX.out.size))
                  clear hq d0 d1 d2 d3 d4 d5 d6 d7 d8 d9 d10 d11 d12 d13
                  go_wp2
                  go_roundw
                  case rel => exact ⟨x + 23, by omega, by omega, by go_num, D1.out⟩
                  case measure => simp [intOf]; omega
                · go_wp2
                  go_roundw
                  case rel => exact ⟨b + 1, by omega, by omega, by go_num, BV.out.trans (DX.out.mono BV.out.size)⟩
                  case measure => simp [intOf]; omega
            · go_wp2
              go_roundw
              case rel => exact ⟨a + 1, by omega, by omega, by go_num, HB.out⟩
              case measure => simp [intOf]; omega
        · go_wp2
          go_roundw
          case rel => exact ⟨k + 1, by omega, by omega, by go_num, HB.out⟩
          case measure => simp [intOf]; omega
    · obtain ⟨G, hG⟩ : ∃ G, wr.heap.size = G := ⟨_, rfl⟩
      obtain ⟨V, hV⟩ : ∃ V, wr.alloc (.cells #[.int .i64 67108864, .int .i64 67108865, .int .i64 536870912, .int .i64 9223372036854775807, .int .i64 (-9223372036854775808)] 2) = V := ⟨_, rfl⟩
      have kg : Has V G #[.int .i64 67108864, .int .i64 67108865, .int .i64 536870912, .int .i64 9223372036854775807, .int .i64 (-9223372036854775808)] 2 := by rw [← hV]; exact has_new hG
      have BV := Lib.hid (show Below w.heap.size w V by rw [← hV]; exact HB.out.alloc HB.out.size _)
      have FG := Lib.hid (show ∀ w', Below V.heap.size V w' → ∀ i : Nat, i < 5 → ∃ v : Int, w'.cell? ⟨G, i, none⟩ = some (.int .i64 v) from fun w' h' i hi => by
        have h2 := kg.below h' kg.lt
        rcases (show i = 0 ∨ i = 1 ∨ i = 2 ∨ i = 3 ∨ i = 4 by omega) with rfl | rfl | rfl | rfl | rfl
        · exact ⟨_, h2.cell 0 _ rfl⟩
        · exact ⟨_, h2.cell 1 _ rfl⟩
        · exact ⟨_, h2.cell 2 _ rfl⟩
        · exact ⟨_, h2.cell 3 _ rfl⟩
        · exact ⟨_, h2.cell 4 _ rfl⟩)
      have HV := Lib.hid hV
      clear kg hV HB
      go_upto_region 16 with fail
      go_wp2_with fail
      rw [HV.out]
      clear hG HV
      go_loopw [56] (fun t wx => ∃ i : Nat, i ≤ 5 ∧ t = .int .i64 i ∧ Below V.heap.size V wx) (fun t _ => 10 - (intOf t).toNat)
      case atStart => exact ⟨0, by omega, rfl, Below.refl _ _⟩
      case round =>
        obtain ⟨i, hi, rfl, hb⟩ := hrel
        have DX := Lib.hid hb
        clear hb
        by_cases hl : i < 5
        · have o1 : (i : Int) < 5 := by omega
          obtain ⟨v, cv⟩ := FG.out _ DX.out i hl
          go_wp2_with fail
          clear cv
          go_loopw [8] (fun t wx => ∃ c : Int, 0 ≤ c ∧ c ≤ 3 ∧ t = .int .i64 c ∧ Below V.heap.size V wx) (fun t _ => 10 - (intOf t).toNat)
          case atStart => exact ⟨0, by omega, by omega, rfl, DX.out⟩
          case round =>
            clear DX
            obtain ⟨c, c0, c1, rfl, hb⟩ := hrel
            have DX := Lib.hid hb
            clear hb
            by_cases hc : c < 3
            · go_wp2_with fail
              refine (l16_same ⟨c, ⟨0, 0, 0, 0⟩, ⟨0, 0, 0, 0⟩, ⟨v, 0⟩, ⟨0, v⟩, v⟩ _ _ _ _ _ _ _ _ (nm16_zero _ _ _ _) _).mono ?_
              rintro e X1 ⟨rfl, hq⟩
              have D1 := Lib.hid (DX.out.trans (hq.mono DX.out.size))
              clear hq DX
              go_wp2_with fail
              refine (l16_same ⟨c, ⟨0, 0, 0, 0⟩, ⟨0, 0, 0, 0⟩, ⟨v, v⟩, ⟨_, 0⟩, 5⟩ _ _ _ _ _ _ _ _ (nm16_zero _ _ _ _) _).mono ?_
              rintro e X2 ⟨rfl, hq⟩
              have D2 := Lib.hid (D1.out.trans (hq.mono D1.out.size))
              clear hq D1
              go_wp2
              go_roundw
              case rel => exact ⟨c + 1, by omega, by omega, by go_num, D2.out⟩
              case measure => simp [intOf]; omega
            · go_wp2
              go_roundw
              case rel => exact ⟨i + 1, by omega, by go_num, DX.out⟩
              case measure => simp [intOf]; omega
        · have o1 : ¬ (i : Int) < 5 := by omega
          go_wp2_with fail
          refine (K16.out _).mono ?_
          rintro e X3 ⟨rfl, hq⟩
          have D3 := Lib.hid (DX.out.trans (hq.mono DX.out.size))
          clear hq DX
          go_wp2
          go_ret
          exact ⟨rfl, BV.out.trans (D3.out.mono BV.out.size)⟩

end Go.Proofs.Ytafaafaclijfiaa

namespace Go.Proofs.Ytafaafaclijfiaa.paintNumbers
open Go.ChangeShapes Go.WideShapes Go.ChangeAt Go.RowKit

theorem post_below {H : Type} {enc : TypeId × Value → H} {P : Program} {f : Func} {s : ChangeSpec} {apart fresh handsOn : Bool} {W V : World} {args : Array Value} {v : Value} {ds gs : List (DataW H)} {before pa pv : List MemPlace}
    (hW : DataW.Whole enc P f.params.toList s.vars apart W args.toList ds gs before)
    (hres : ∀ (b : Nat) (sp : Nat → Bool) (hd : Bool), DataW.TrodAll enc P V b sp hd f.resultTypes.toList (v.resultList f.resultTypes.size) (s.fn H (ds ++ gs)).results [])
    (hargs : ∀ sp : Nat → Bool, (∀ p ∈ before, sp p.block = true) → DataW.TrodAll enc P V 0 sp true f.params.toList args.toList (s.fn H (ds ++ gs)).args pa)
    (hvars : ∀ sp : Nat → Bool, (∀ p ∈ before, sp p.block = true) → DataW.TrodVars enc P V sp s.vars (s.fn H (ds ++ gs)).vars pv)
    (hps : before = pa ++ pv) (hb : Below W.heap.size W V) : s.post enc P f apart fresh handsOn false W args v V := by
  have hl : ∀ p ∈ before, (fun b => decide (b < W.heap.size)) p.block = true := fun p hp => by simpa using hW.lt p hp
  refine ⟨ds, gs, before, [], pa, pv, hW, hres _ _ _, hargs _ hl, hvars _ hl, World.keptBut_mono (fun p hp => ⟨hp, ?_⟩) (hb.frame (· ∈ before)), fun h => by cases h⟩
  rw [hps, List.mem_append] at hp
  exact Or.inr hp

theorem own : ownKnob Try.prog.godebug = none := by kernel_rfl

set_option maxRecDepth 100000 in
theorem lifted (os : Os) (started : os.Started) (H : Type) (enc : TypeId × Value → H) :
    ReturnsInHanded {} Try.checked os 3 .any (Rows.paintNumbersSpec.pre6 enc Try.prog Try.f3 Rows.paintNumbersRow.domain false) (Rows.paintNumbersSpec.post enc Try.prog Try.f3 false true false false) := by
  refine returnsInHanded_of_change (C := Try.checked) own started (by kernel_rfl) Try.func3
    (ChangeSpec.witness6 (enc := enc) (C := Try.checked) false ⟨#[], #[], []⟩ 8 (by kernel_rfl) (by kernel_rfl) (by kernel_rfl) (by kernel_rfl)) ?_
  intro W base args ds gs before hval0 hW hcnd _
  have hval : ∀ (j : Nat) t v, Try.f3.params[j]? = some t → args[j]? = some v → Value.okWide Try.prog W .any base t v := hval0
  have hW' := hW
  obtain ⟨p, q, hA0, hV, rfl, hfz, hnd⟩ := hW
  have hA : DataW.TrodAll enc Try.prog W 0 (fun _ => true) true Try.f3.params.toList args.toList ds p := hA0
  rw [Try.params3] at hA hval
  obtain ⟨rfl, rfl, rfl⟩ := trodAll_none hA
  obtain ⟨rfl, rfl⟩ := trodVars_none hV
  clear hA0 hval0
  simp only [List.append_nil] at hW'
  refine (paintNumbers_walk W).mono fun e W' ⟨he, hg⟩ => ?_
  subst he
  exact ⟨_, rfl, post_below (pa := []) (pv := []) hW' (fun _ _ _ => (trodAll_cons_mk (shut_bool Try.underlying4 _) trodAll_mk0)) (fun sp _ => rfl) (fun _ _ => rfl) rfl hg⟩

theorem over : Rows.paintNumbersRow.holds Try.pinned (OpenSpec.ofChange Rows.paintNumbersSpec) :=
  OpenClaim.holds_of_wide 3 Try.f3 rfl rfl rfl rfl rfl rfl rfl ⟨rfl, rfl, rfl, rfl, rfl⟩ rfl rfl rfl rfl rfl (by kernel_rfl) Try.func3 (by kernel_rfl)
    (of_decide_eq_true (by kernel_rfl)) (by unfold Func.isWrapper; first | (rw [if_pos (by decide +kernel)]; kernel_rfl) | (rw [if_neg (by decide +kernel)]; exact ⟨rfl, rfl⟩))
    (fun os started H enc _ => lifted os started H enc)

end Go.Proofs.Ytafaafaclijfiaa.paintNumbers
namespace Go.Proofs.Ytafaafaclijfiaa
theorem paintNumbers_holds : Rows.PaintNumbersSaid := paintNumbers.over
#print axioms paintNumbers_holds
end Go.Proofs.Ytafaafaclijfiaa
