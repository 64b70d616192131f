/- PaintTells of the statements: whatever the numbers are, the call returns true and each argument reads as it did; no condition. -/
import Derived.Test.YtafaafaclijfiaaR16
import Derived.Test.YtafaafaclijfiaaPaN
import Derived.Test.YtafaafaclijfiaaMake
import Derived.Test.YtafaafaclijfiaaQt
import Derived.Laws.Rows
import Derived.Test.YtafaafaclijfiaaHM
import Derived.ChangeKeysEq
import Derived.Test.YtafaafaclijfiaaPaD
import Derived.Laws.StructEq
import Derived.Test.YtafaafaclijfiaaCpW
import Derived.Test.YtafaafaclijfiaaCpM
import Derived.Test.YtafaafaclijfiaaRI5
import Derived.Test.YtafaafaclijfiaaMD16
import Derived.Lib.SmallJoins
import Derived.ChangeSame
import Derived.Below
import Derived.Test.YtafaafaclijfiaaK5
import Derived.Test.YtafaafaclijfiaaApp
import Derived.Test.YtafaafaclijfiaaMidM
import Derived.Deep.Slices
import Derived.Deep.Fields
import Derived.OpenShut
import Derived.Laws.IdiomArrays
import Derived.Test.YtafaafaclijfiaaPMath
import Derived.Test.YtafaafaclijfiaaT5
import Derived.Laws.CopyOwn
import Derived.Deep.AppendLies
import Derived.Test.YtafaafaclijfiaaRows
import Derived.WalkKit
import Derived.ProofKit
import Derived.Carry
namespace Go.Proofs.Ytafaafaclijfiaa
open Go Go.RowKit
open M

set_option maxRecDepth 100000 in
set_option maxHeartbeats 4000000 in
theorem r15_color (c : Pa) (x y : Int) (ok : PaOk c) (w : World) : Calls Try.prog 17 #[.agg (paCells c), .int .i64 x, .int .i64 y] w fun e w' => e = .returned (.agg (cCells (colF c x y))) ∧ Below w.heap.size w w' := by
  obtain ⟨B, hB⟩ : ∃ B, w.heap.size = B := ⟨_, rfl⟩
  obtain ⟨W, hW⟩ : ∃ W, (w.alloc (.cells (paCells c) 27)).alloc (.cells #[.int .u8 0, .int .u8 0, .int .u8 0, .int .u8 0] 23) = W := ⟨_, rfl⟩
  have ha : Has W B (paCells c) 27 := by rw [← hW]; exact (has_new hB).alloc _
  have hr : Has W (B + 1) #[.int .u8 0, .int .u8 0, .int .u8 0, .int .u8 0] 23 := by rw [← hW]; exact has_new (by simp [hB])
  have hb : Below w.heap.size w W := by rw [← hW]; exact ((Below.refl _ _).alloc (Nat.le_refl _) _).alloc (by simp) _
  have HW := Lib.hid hW
  have HA := Lib.hid ha
  have HR := Lib.hid hr
  have HB := Lib.hid hb
  have BB : Hid (w.heap.size ≤ B + 1) := Lib.hid (by omega)
  have WC := Lib.hid (fun w => r15_way c x y w)
  have MC := Lib.hid (fun p w => r5_mix c.a c.b p w ok.1 ok.2)
  have EQ : Hid (mix c.a c.b (wayF c x y) = colF c x y) := Lib.hid rfl
  obtain ⟨v, hv⟩ : ∃ v, wayF c x y = v := ⟨_, rfl⟩
  rw [hv] at WC EQ
  have MV := Lib.hid (fun w => MC.out v w)
  rw [EQ.out] at MV
  obtain ⟨⟨fr, fg, fb, fq⟩, hF⟩ : ∃ f, colF c x y = f := ⟨_, rfl⟩
  rw [hF] at MV ⊢
  obtain ⟨k, ⟨a0, a1, a2, a3⟩, ⟨b0, b1, b2, b3⟩, ⟨px, py⟩, ⟨qx, qy⟩, r⟩ := c
  clear hW ha hr hb hv hF MC EQ ok
  go_enter Try.func17, Try.ntmps17
  go_upto_region 1 with fail
  rw [HW.out]
  clear hB
  refine wp_region_make0 9 (by kernel_rfl) (by kernel_rfl) (by kernel_rfl) ?_
  apply Exists.intro
  refine ⟨fun R hR hN => ?_, ?_⟩
  · have e0 := fun z => LaterR.read (R := R) HA.out 0 _ rfl z
    have e1 := fun z => LaterR.read (R := R) HA.out 1 _ rfl z
    have e2 := fun z => LaterR.read (R := R) HA.out 2 _ rfl z
    have e3 := fun z => LaterR.read (R := R) HA.out 3 _ rfl z
    have e4 := fun z => LaterR.read (R := R) HA.out 4 _ rfl z
    have e5 := fun z => LaterR.read (R := R) HA.out 5 _ rfl z
    have e6 := fun z => LaterR.read (R := R) HA.out 6 _ rfl z
    have e7 := fun z => LaterR.read (R := R) HA.out 7 _ rfl z
    have e8 := fun z => LaterR.read (R := R) HA.out 8 _ rfl z
    have e9 := fun z => LaterR.read (R := R) HA.out 9 _ rfl z
    have e10 := fun z => LaterR.read (R := R) HA.out 10 _ rfl z
    have e11 := fun z => LaterR.read (R := R) HA.out 11 _ rfl z
    have e12 := fun z => LaterR.read (R := R) HA.out 12 _ rfl z
    have e13 := fun z => LaterR.read (R := R) HA.out 13 _ rfl z
    simp only [List.take_succ_cons, List.take_zero]
    repeat (go_big_quiet_step (first | (go_at_call 16; exact LaterR.calls hR (WC.out _)) | (go_at_call 41; exact LaterR.calls hR (MV.out _))))
    exact wpQuiet_nil rfl
  · intro w3 hb3
    simp only [List.drop_succ_cons, List.drop_zero]
    have h3 := HR.out.below hb3 HR.out.lt
    have r0 := h3.cell 0 _ rfl
    have r1 := h3.cell 1 _ rfl
    have r2 := h3.cell 2 _ rfl
    have r3 := h3.cell 3 _ rfl
    have fz := has_fro h3
    have B3 := Lib.hid (HB.out.trans (hb3.mono HB.out.size))
    clear h3 hb3
    go_wp2
    refine bodyPost_ret (v := .agg #[.int .u8 fr, .int .u8 fg, .int .u8 fb, .int .u8 fq]) (by simp [results, Try.results17, go_sem, r0, r1, r2, r3]) rfl ⟨rfl, ?_⟩
    repeat (first | exact B3.out | refine Below.setCell ?_ (show w.heap.size ≤ B + 1 from BB.out) _)

end Go.Proofs.Ytafaafaclijfiaa

namespace Go.Proofs.Ytafaafaclijfiaa
open Go Go.RowKit
open M

theorem rh_near (a : Int) (w : World) : Calls Try.prog 29 #[.int .i64 a] w fun e w' => e = .returned (.bool (nearN a)) ∧ Below w.heap.size w w' := by
  obtain ⟨K, hK⟩ : ∃ K, nearN a = K := ⟨_, rfl⟩
  have EK := Lib.hid hK
  rw [hK]
  clear hK
  go_enter Try.func29, Try.ntmps29
  go_wp2
  all_goals
    go_ret
    refine ⟨?_, Below.refl _ _⟩
    rw [← EK.out]
    clear EK
    unfold nearN
    first | (simp_all; done) | (simp_all; omega; done)
set_option maxRecDepth 100000 in
set_option maxHeartbeats 4000000 in
theorem rh_paint (k : Int) (a b : Cr) (p q : Pt) (r : Int) (w : World) : Calls Try.prog 13 #[.agg (paC k a b p q r)] w fun e w' => e = .returned (.bool (decide (k = 0 ∨ k = 1 ∨ k = 2) && (nearN p.x && nearN p.y && nearN q.x && nearN q.y && nearN r))) ∧ Below w.heap.size w w' := by
  obtain ⟨px, py⟩ := p
  obtain ⟨qx, qy⟩ := q
  simp only
  obtain ⟨n0, h0⟩ : ∃ x, nearN px = x := ⟨_, rfl⟩
  have N0 : Hid (∀ w, Calls Try.prog 29 #[.int .i64 px] w fun e w' => e = .returned (.bool n0) ∧ Below w.heap.size w w') := Lib.hid (fun w => by rw [← h0]; exact rh_near _ w)
  obtain ⟨n1, h1⟩ : ∃ x, nearN py = x := ⟨_, rfl⟩
  have N1 : Hid (∀ w, Calls Try.prog 29 #[.int .i64 py] w fun e w' => e = .returned (.bool n1) ∧ Below w.heap.size w w') := Lib.hid (fun w => by rw [← h1]; exact rh_near _ w)
  obtain ⟨n2, h2⟩ : ∃ x, nearN qx = x := ⟨_, rfl⟩
  have N2 : Hid (∀ w, Calls Try.prog 29 #[.int .i64 qx] w fun e w' => e = .returned (.bool n2) ∧ Below w.heap.size w w') := Lib.hid (fun w => by rw [← h2]; exact rh_near _ w)
  obtain ⟨n3, h3⟩ : ∃ x, nearN qy = x := ⟨_, rfl⟩
  have N3 : Hid (∀ w, Calls Try.prog 29 #[.int .i64 qy] w fun e w' => e = .returned (.bool n3) ∧ Below w.heap.size w w') := Lib.hid (fun w => by rw [← h3]; exact rh_near _ w)
  obtain ⟨n4, h4⟩ : ∃ x, nearN r = x := ⟨_, rfl⟩
  have N4 : Hid (∀ w, Calls Try.prog 29 #[.int .i64 r] w fun e w' => e = .returned (.bool n4) ∧ Below w.heap.size w w') := Lib.hid (fun w => by rw [← h4]; exact rh_near _ w)
  rw [h0, h1, h2, h3, h4]
  clear h0 h1 h2 h3 h4
  obtain ⟨B, hB⟩ : ∃ B, w.heap.size = B := ⟨_, rfl⟩
  by_cases hk : k = 0 ∨ k = 1 ∨ k = 2
  · rw [decide_eq_true hk]
    obtain ⟨W, hW⟩ : ∃ W, w.alloc (.cells (paC k a b ⟨px, py⟩ ⟨qx, qy⟩ r) 27) = W := ⟨_, rfl⟩
    have hkk : Has W B (paC k a b ⟨px, py⟩ ⟨qx, qy⟩ r) 27 := by rw [← hW]; exact has_new hB
    have hb : Below B w W := by rw [← hW]; exact (Below.refl _ _).alloc (by omega) _
    have HF := Lib.hid (show ∀ w', Below W.heap.size W w' → ∀ j u, (paC k a b ⟨px, py⟩ ⟨qx, qy⟩ r)[j]? = some u → w'.cell? ⟨B, j, none⟩ = some u from fun w' h' j u hu => (hkk.below h' hkk.lt).cell j u hu)
    have R0 : Hid (Below W.heap.size W W) := Lib.hid (Below.refl _ _)
    have FIN := Lib.hid (show ∀ w', Below W.heap.size W w' → Below w.heap.size w w' from fun w' h' => by rw [hB]; exact hb.trans (h'.mono (by have := hkk.lt; omega)))
    have HW := Lib.hid hW
    clear hkk hb hW
    rcases hk with rfl | rfl | rfl
    all_goals
      go_enter Try.func13, Try.ntmps13
      go_wp2_with fail
      rw [HW.out]
      clear hB
      refine (N0.out _).mono ?_
      rintro e w1 ⟨rfl, q1⟩
      have R1 := Lib.hid (R0.out.trans (q1.mono R0.out.size))
      clear q1
      cases n0
      · go_wp2
        go_ret
        exact ⟨rfl, FIN.out _ R1.out⟩
      have g10 := HF.out w1 R1.out 10 _ rfl
      go_wp2_with fail
      refine (N1.out _).mono ?_
      rintro e w2 ⟨rfl, q2⟩
      have R2 := Lib.hid (R1.out.trans (q2.mono R1.out.size))
      clear q2
      cases n1
      · go_wp2
        go_ret
        exact ⟨rfl, FIN.out _ R2.out⟩
      have g11 := HF.out w2 R2.out 11 _ rfl
      go_wp2_with fail
      refine (N2.out _).mono ?_
      rintro e w3 ⟨rfl, q3⟩
      have R3 := Lib.hid (R2.out.trans (q3.mono R2.out.size))
      clear q3
      cases n2
      · go_wp2
        go_ret
        exact ⟨rfl, FIN.out _ R3.out⟩
      have g12 := HF.out w3 R3.out 12 _ rfl
      go_wp2_with fail
      refine (N3.out _).mono ?_
      rintro e w4 ⟨rfl, q4⟩
      have R4 := Lib.hid (R3.out.trans (q4.mono R3.out.size))
      clear q4
      cases n3
      · go_wp2
        go_ret
        exact ⟨rfl, FIN.out _ R4.out⟩
      have g13 := HF.out w4 R4.out 13 _ rfl
      go_wp2_with fail
      refine (N4.out _).mono ?_
      rintro e w5 ⟨rfl, q5⟩
      have R5 := Lib.hid (R4.out.trans (q5.mono R4.out.size))
      clear q5
      go_wp2
      go_ret
      exact ⟨by simp, FIN.out _ R5.out⟩
  · rw [decide_eq_false hk]
    clear hB
    rcases (show k < 0 ∨ (0 ≤ k ∧ 2 < k) by omega) with h0 | ⟨h0, h1⟩
    all_goals
      go_enter Try.func13, Try.ntmps13
      go_wp2
      go_ret
      exact ⟨by first | (simp; done) | (simp; omega), (Below.refl _ _).alloc (Nat.le_refl _) _⟩

end Go.Proofs.Ytafaafaclijfiaa

namespace Go.Proofs.Ytafaafaclijfiaa
open Go Go.RowKit

section
variable {P : Program} (w : World)
theorem run_equalIn_four {t e : TypeId} {k : IntKind} (D : Nat) (ht : P.underlying t = some (.array 4 e)) (he : P.underlying e = some (.int k)) (hs : (sizeOf e).run P w = .ok 1 w) (a b c d a' b' c' d' : Int) :
    (Op.equalIn (D + 1 + 1) t (.agg #[.int k a, .int k b, .int k c, .int k d]) (.agg #[.int k a', .int k b', .int k c', .int k d'])).run P w = .ok ((a == a') && ((b == b') && ((c == c') && (d == d')))) w := by
  have hp : P.plainKey e = true := by simp [Program.plainKey, he]
  have q : ∀ (x y : Int), (Op.equalIn (D + 1) e (.int k x) (.int k y)).run P w = .ok (x == y) w := fun x y => run_equalIn_int w D e k k x y he
  have p0 : ∀ (x0 x1 x2 x3 : Value), (part e #[x0, x1, x2, x3] 0).run P w = .ok x0 w := fun _ _ _ _ => run_part_plain w hp rfl
  have p1 : ∀ (x0 x1 x2 x3 : Value), (part e #[x0, x1, x2, x3] 1).run P w = .ok x1 w := fun _ _ _ _ => run_part_plain w hp rfl
  have p2 : ∀ (x0 x1 x2 x3 : Value), (part e #[x0, x1, x2, x3] 2).run P w = .ok x2 w := fun _ _ _ _ => run_part_plain w hp rfl
  have p3 : ∀ (x0 x1 x2 x3 : Value), (part e #[x0, x1, x2, x3] 3).run P w = .ok x3 w := fun _ _ _ _ => run_part_plain w hp rfl
  rw [Op.equalIn]
  simp only [Sem.run_bind, run_underlying ht, Result.andThen_ok, hs, Std.Legacy.Range.forIn_eq_forIn_range', Std.Legacy.Range.size, Nat.sub_zero, Nat.add_sub_cancel, Nat.div_one, List.range'_succ, List.range'_zero, List.forIn_cons, List.forIn_nil, Nat.mul_one, Nat.zero_add, Nat.reduceAdd, p0, q]
  generalize (a == a') = A
  generalize eb : (b == b') = B
  generalize ec : (c == c') = C
  generalize ed : (d == d') = E
  cases A
  · simp
  · cases B
    · simp [p1, q, eb]
    · cases C
      · simp [p1, p2, q, eb, ec]
      · cases E
        · simp [p1, p2, p3, q, eb, ec, ed]
        · simp [p1, p2, p3, q, eb, ec, ed]
end

open M
theorem size_u8 (w : World) : (sizeOf 5).run Try.prog w = .ok 1 w := by
  have h : (Try.prog.info? 5).map (fun i => i.size) = some 1 := by kernel_rfl
  cases hi : Try.prog.info? 5 with
  | none => rw [hi] at h; cases h
  | some i =>
    rw [hi] at h
    have hs : i.size = 1 := by simpa using h
    simp only [sizeOf, Sem.run_bind, run_typeInfo w hi, Result.andThen_ok, hs, Sem.run_pure]
theorem eq_color (w : World) (a b c d a' b' c' d' : Int) :
    (Op.equalIn 10000 23 (.agg #[.int .u8 a, .int .u8 b, .int .u8 c, .int .u8 d]) (.agg #[.int .u8 a', .int .u8 b', .int .u8 c', .int .u8 d'])).run Try.prog w = .ok ((a == a') && ((b == b') && ((c == c') && (d == d')))) w :=
  run_equalIn_four w 9998 Try.underlying23 Try.underlying5 (size_u8 w) a b c d a' b' c' d'
theorem eq_color_same (w : World) (x : Cr) : (Op.equalIn 10000 23 (.agg (cCells x)) (.agg (cCells x))).run Try.prog w = .ok true w := by
  rw [eq_color]; simp

end Go.Proofs.Ytafaafaclijfiaa

namespace Go.Proofs.Ytafaafaclijfiaa
open Go Go.RowKit
open M

theorem eq_colorD (D : Nat) (w : World) (x : Cr) : (Op.equalIn (D + 1 + 1) 23 (.agg (cCells x)) (.agg (cCells x))).run Try.prog w = .ok true w := by
  have := run_equalIn_four w D Try.underlying23 Try.underlying5 (size_u8 w) x.r x.g x.b x.q x.r x.g x.b x.q
  simpa using this
set_option maxRecDepth 100000 in
theorem eq_paint (w : World) (c : Pa) : (Op.equalIn 10000 27 (.agg (paCells c)) (.agg (paCells c))).run Try.prog w = .ok true w := by
  have ha : (Op.equalIn 9999 23 (.agg #[.int .u8 c.a.r, .int .u8 c.a.g, .int .u8 c.a.b, .int .u8 c.a.q]) (.agg #[.int .u8 c.a.r, .int .u8 c.a.g, .int .u8 c.a.b, .int .u8 c.a.q])).run Try.prog w = .ok true w := eq_colorD 9997 w c.a
  have hb : (Op.equalIn 9999 23 (.agg #[.int .u8 c.b.r, .int .u8 c.b.g, .int .u8 c.b.b, .int .u8 c.b.q]) (.agg #[.int .u8 c.b.r, .int .u8 c.b.g, .int .u8 c.b.b, .int .u8 c.b.q])).run Try.prog w = .ok true w := eq_colorD 9997 w c.b
  rw [run_equalIn_agg w 9999 27 _ _ Try.underlying27 (by kernel_rfl)]
  simp [go_sem, Op.eqFields, ha, hb]

end Go.Proofs.Ytafaafaclijfiaa

namespace Go.Proofs.Ytafaafaclijfiaa
open Go Go.RowKit
open M

attribute [local go_sem] eq_color
set_option maxRecDepth 100000 in
set_option maxHeartbeats 8000000 in
theorem l16_same (c : Pa) (x y m0 m1 m2 m3 m4 m5 : Int) (ok : PaOk c) (w : World) : Calls Try.prog 7 #[.agg (paCells c), .int .i64 x, .int .i64 y, .agg #[.int .i64 m0, .int .i64 m1, .int .i64 m2, .int .i64 m3, .int .i64 m4, .int .i64 m5]] w fun e w' => e = .returned (.bool true) ∧ Below w.heap.size w w' := by
  obtain ⟨B, hB⟩ : ∃ B, w.heap.size = B := ⟨_, rfl⟩
  obtain ⟨W, hW⟩ : ∃ W, (w.alloc (.cells (paCells c) 27)).alloc (.cells #[.int .i64 m0, .int .i64 m1, .int .i64 m2, .int .i64 m3, .int .i64 m4, .int .i64 m5] 30) = W := ⟨_, rfl⟩
  have ha : Has W B (paCells c) 27 := by rw [← hW]; exact (has_new hB).alloc _
  have hm : Has W (B + 1) #[.int .i64 m0, .int .i64 m1, .int .i64 m2, .int .i64 m3, .int .i64 m4, .int .i64 m5] 30 := by rw [← hW]; exact has_new (by simp [hB])
  have hb : Below w.heap.size w W := by rw [← hW]; exact ((Below.refl _ _).alloc (Nat.le_refl _) _).alloc (by simp) _
  have HW := Lib.hid hW
  have HA := Lib.hid ha
  have HM := Lib.hid hm
  have HB := Lib.hid hb
  have C1 := Lib.hid (fun w => p_rightP c w)
  have C2 := Lib.hid (fun w => rh_paint c.k c.a c.b c.p c.q c.r w)
  have e2 : (decide (c.k = 0 ∨ c.k = 1 ∨ c.k = 2) && (nearN c.p.x && nearN c.p.y && nearN c.q.x && nearN c.q.y && nearN c.r)) = rightP c := rfl
  rw [e2] at C2
  obtain ⟨rt, hrt⟩ : ∃ b, rightP c = b := ⟨_, rfl⟩
  rw [hrt] at C1 C2
  have C3 := Lib.hid (fun w => p_mapP m0 m1 m2 m3 m4 m5 c w)
  have C4 := Lib.hid (fun w => r15_map m0 m1 m2 m3 m4 m5 c w)
  obtain ⟨mp, hmp⟩ : ∃ b, paCells (mapF m0 m1 m2 m3 m4 m5 c) = b := ⟨_, rfl⟩
  have C5 := Lib.hid (fun w => p_wayP c x y w)
  have C6 := Lib.hid (fun w => r15_way c x y w)
  obtain ⟨wy, hwy⟩ : ∃ b, wayF c x y = b := ⟨_, rfl⟩
  rw [hwy] at C5 C6
  have C7 := Lib.hid (fun w => p_atP c x y ok w)
  have C8 := Lib.hid (fun w => r15_color c x y ok w)
  obtain ⟨⟨fr, fg, fb, fq⟩, hF⟩ : ∃ f, colF c x y = f := ⟨_, rfl⟩
  rw [hF] at C7 C8
  obtain ⟨g, hg⟩ : ∃ g, mapF m0 m1 m2 m3 m4 m5 c = g := ⟨_, rfl⟩
  rw [hg] at C3 C4
  clear hmp mp hrt hwy hF hg e2 ok
  obtain ⟨k, ⟨a0, a1, a2, a3⟩, ⟨b0, b1, b2, b3⟩, ⟨px, py⟩, ⟨qx, qy⟩, r⟩ := c
  obtain ⟨gk, ⟨ga0, ga1, ga2, ga3⟩, ⟨gb0, gb1, gb2, gb3⟩, ⟨gpx, gpy⟩, ⟨gqx, gqy⟩, gr⟩ := g
  clear hW ha hm hb
  have EP : ∀ w, (Op.equalIn 10000 27 (.agg (paCells ⟨gk, ⟨ga0, ga1, ga2, ga3⟩, ⟨gb0, gb1, gb2, gb3⟩, ⟨gpx, gpy⟩, ⟨gqx, gqy⟩, gr⟩)) (.agg (paCells ⟨gk, ⟨ga0, ga1, ga2, ga3⟩, ⟨gb0, gb1, gb2, gb3⟩, ⟨gpx, gpy⟩, ⟨gqx, gqy⟩, gr⟩))).run Try.prog w = .ok true w := fun w => eq_paint w _
  go_enter Try.func7, Try.ntmps7
  go_upto_region 1 with fail
  rw [HW.out]
  clear hB
  have e0 := Later.read HA.out 0 _ rfl
  have e1 := Later.read HA.out 1 _ rfl
  have e2 := Later.read HA.out 2 _ rfl
  have e3 := Later.read HA.out 3 _ rfl
  have e4 := Later.read HA.out 4 _ rfl
  have e5 := Later.read HA.out 5 _ rfl
  have e6 := Later.read HA.out 6 _ rfl
  have e7 := Later.read HA.out 7 _ rfl
  have e8 := Later.read HA.out 8 _ rfl
  have e9 := Later.read HA.out 9 _ rfl
  have e10 := Later.read HA.out 10 _ rfl
  have e11 := Later.read HA.out 11 _ rfl
  have e12 := Later.read HA.out 12 _ rfl
  have e13 := Later.read HA.out 13 _ rfl
  have d0 := Later.read HM.out 0 _ rfl
  have d1 := Later.read HM.out 1 _ rfl
  have d2 := Later.read HM.out 2 _ rfl
  have d3 := Later.read HM.out 3 _ rfl
  have d4 := Later.read HM.out 4 _ rfl
  have d5 := Later.read HM.out 5 _ rfl
  refine wp_region_class (C := fun w' => ∃ z : Later W, w' = z.to) (by kernel_rfl) (by kernel_rfl) ⟨⟨_, below_drew (Below.refl _ _)⟩, rfl⟩ ?_
  repeat (go_big_quiet_step (first | (go_at_call 12; exact Later.calls (C1.out _)) | (go_at_call 13; exact Later.calls (C2.out _)) | (go_at_call 14; exact Later.calls (C3.out _)) | (go_at_call 15; exact Later.calls (C4.out _)) | (go_at_call 10; exact Later.calls (C5.out _)) | (go_at_call 16; exact Later.calls (C6.out _)) | (go_at_call 11; exact Later.calls (C7.out _)) | (go_at_call 17; exact Later.calls (C8.out _))))
  refine wpQuiet_nil ?_
  rintro _ ⟨z, rfl⟩
  go_wp2
  go_ret
  exact ⟨rfl, HB.out.trans (z.below.mono HB.out.size)⟩

end Go.Proofs.Ytafaafaclijfiaa

namespace Go.Proofs.Ytafaafaclijfiaa
open Go Go.RowKit
open M

def kn16a : Cr := ⟨1, 2, 3, 4⟩
def kn16b : Cr := ⟨9, 9, 9, 9⟩
theorem kn16_0 : colF ⟨0, ⟨1, 2, 3, 4⟩, ⟨9, 9, 9, 9⟩, ⟨0, 0⟩, ⟨0, 0⟩, 0⟩ 5 5 = ⟨1, 2, 3, 4⟩ := by decide +kernel
theorem kn16_2 : colF ⟨2, ⟨1, 2, 3, 4⟩, ⟨9, 9, 9, 9⟩, ⟨0, 0⟩, ⟨0, 0⟩, 0⟩ 5 5 = ⟨9, 9, 9, 9⟩ := by decide +kernel
theorem kn16_1 : colF ⟨1, ⟨1, 2, 3, 4⟩, ⟨9, 9, 9, 9⟩, ⟨0, 0⟩, ⟨0, 0⟩, 0⟩ 5 5 = ⟨1, 2, 3, 4⟩ := by decide +kernel
theorem kn16_r : rightP ⟨0, ⟨0, 0, 0, 0⟩, ⟨0, 0, 0, 0⟩, ⟨0, 0⟩, ⟨0, 0⟩, 0⟩ = true := by decide +kernel
theorem kn16_n : rightP ⟨3, ⟨0, 0, 0, 0⟩, ⟨0, 0, 0, 0⟩, ⟨0, 0⟩, ⟨0, 0⟩, 0⟩ = false := by decide +kernel
theorem kn16a_ok : kn16a.Ok := by constructor <;> decide
theorem kn16b_ok : kn16b.Ok := by constructor <;> decide
theorem kn16_ok (k : Int) : PaOk ⟨k, ⟨1, 2, 3, 4⟩, ⟨9, 9, 9, 9⟩, ⟨0, 0⟩, ⟨0, 0⟩, 0⟩ := ⟨kn16a_ok, kn16b_ok⟩

attribute [local go_sem] eq_color
set_option maxRecDepth 100000 in
set_option maxHeartbeats 4000000 in
theorem known16 (w : World) : Calls Try.prog 8 #[] w fun e w' => e = .returned (.bool true) ∧ Below w.heap.size w w' := by
  have C0 := Lib.hid (fun w => p_atP _ 5 5 (kn16_ok 0) w)
  have C1 := Lib.hid (fun w => p_atP _ 5 5 (kn16_ok 1) w)
  have C2 := Lib.hid (fun w => p_atP _ 5 5 (kn16_ok 2) w)
  have R0 := Lib.hid (fun w => p_rightP ⟨0, ⟨0, 0, 0, 0⟩, ⟨0, 0, 0, 0⟩, ⟨0, 0⟩, ⟨0, 0⟩, 0⟩ w)
  have R3 := Lib.hid (fun w => p_rightP ⟨3, ⟨0, 0, 0, 0⟩, ⟨0, 0, 0, 0⟩, ⟨0, 0⟩, ⟨0, 0⟩, 0⟩ w)
  rw [kn16_0] at C0
  rw [kn16_1] at C1
  rw [kn16_2] at C2
  rw [kn16_r] at R0
  rw [kn16_n] at R3
  obtain ⟨B, hB⟩ : ∃ B, w.heap.size = B := ⟨_, rfl⟩
  obtain ⟨W, hW⟩ : ∃ W, (w.alloc (.cells #[.int .u8 1, .int .u8 2, .int .u8 3, .int .u8 4] 23)).alloc (.cells #[.int .u8 9, .int .u8 9, .int .u8 9, .int .u8 9] 23) = W := ⟨_, rfl⟩
  have ha : Has W B #[.int .u8 1, .int .u8 2, .int .u8 3, .int .u8 4] 23 := by rw [← hW]; exact (has_new hB).alloc _
  have hm : Has W (B + 1) #[.int .u8 9, .int .u8 9, .int .u8 9, .int .u8 9] 23 := by rw [← hW]; exact has_new (by simp [hB])
  have hb : Below w.heap.size w W := by rw [← hW]; exact ((Below.refl _ _).alloc (Nat.le_refl _) _).alloc (by simp) _
  have HW := Lib.hid hW
  have HA := Lib.hid ha
  have HM := Lib.hid hm
  have HB := Lib.hid hb
  clear hW ha hm hb
  go_enter Try.func8, Try.ntmps8
  go_upto_region 2 with fail
  rw [HW.out]
  clear hB
  have e0 := Later.read HA.out 0 _ rfl
  have e1 := Later.read HA.out 1 _ rfl
  have e2 := Later.read HA.out 2 _ rfl
  have e3 := Later.read HA.out 3 _ rfl
  have d0 := Later.read HM.out 0 _ rfl
  have d1 := Later.read HM.out 1 _ rfl
  have d2 := Later.read HM.out 2 _ rfl
  have d3 := Later.read HM.out 3 _ rfl
  refine wp_region_class (C := fun w' => ∃ z : Later W, w' = z.to) (by kernel_rfl) (by kernel_rfl) ⟨⟨_, below_drew (Below.refl _ _)⟩, rfl⟩ ?_
  repeat (go_big_quiet_step (first | (go_at_call_of 11 (Value.int .i64 2); exact Later.calls (C2.out _)) | (go_at_call_of 11 (Value.int .i64 1); exact Later.calls (C1.out _)) | (go_at_call 11; exact Later.calls (C0.out _)) | (go_at_call_of 12 (Value.int .i64 3); exact Later.calls (R3.out _)) | (go_at_call 12; exact Later.calls (R0.out _))))
  refine wpQuiet_nil ?_
  rintro _ ⟨z, rfl⟩
  go_wp2
  go_ret
  exact ⟨rfl, HB.out.trans (z.below.mono HB.out.size)⟩

end Go.Proofs.Ytafaafaclijfiaa

namespace Go.Proofs.Ytafaafaclijfiaa
open Go.RowKit
open M

theorem b_win40 (x : Int) (w : World) :
    Calls Try.prog 42 #[.int .i64 x, .int .i64 1, .int .i64 40] w fun e w' => (∃ y : Int, e = .returned (.int .i64 y) ∧ 1 ≤ y ∧ y ≤ 40) ∧ w = w' := by
  by_cases h : 1 ≤ x ∧ x ≤ 40
  · obtain ⟨h0, h1⟩ := h
    go_enter Try.func42, Try.ntmps42
    go_wp2
    go_ret
    exact ⟨⟨x, rfl, h0, h1⟩, rfl⟩
  · obtain ⟨T, hT, T0, T1⟩ : ∃ T, x.tmod 40 = T ∧ -40 < T ∧ T < 40 := ⟨_, rfl, (tmod_bd _ _ (by decide)).1, (tmod_bd _ _ (by decide)).2⟩
    have h' : x < 1 ∨ 40 < x := by omega
    clear h
    rcases h' with h | h
    · by_cases hn : T < 0
      · go_enter Try.func42, Try.ntmps42
        go_wp2
        go_ret
        exact ⟨⟨T + 40 + 1, ret_int (by omega), by omega, by omega⟩, rfl⟩
      · go_enter Try.func42, Try.ntmps42
        go_wp2
        go_ret
        exact ⟨⟨T + 1, ret_int (by omega), by omega, by omega⟩, rfl⟩
    · have h0 : 0 ≤ x := by omega
      have hT2 : 0 ≤ T := by rw [← hT]; exact Int.tmod_nonneg _ h0
      have hT' : x % 40 = T := by rw [← hT]; exact (Int.tmod_eq_emod_of_nonneg h0).symm
      go_enter Try.func42, Try.ntmps42
      go_wp2
      go_ret
      exact ⟨⟨T + 1, ret_int (by omega), by omega, by omega⟩, rfl⟩
theorem b_win200 (x : Int) (w : World) :
    Calls Try.prog 42 #[.int .i64 x, .int .i64 1, .int .i64 200] w fun e w' => (∃ y : Int, e = .returned (.int .i64 y) ∧ 1 ≤ y ∧ y ≤ 200) ∧ w = w' := by
  by_cases h : 1 ≤ x ∧ x ≤ 200
  · obtain ⟨h0, h1⟩ := h
    go_enter Try.func42, Try.ntmps42
    go_wp2
    go_ret
    exact ⟨⟨x, rfl, h0, h1⟩, rfl⟩
  · obtain ⟨T, hT, T0, T1⟩ : ∃ T, x.tmod 200 = T ∧ -200 < T ∧ T < 200 := ⟨_, rfl, (tmod_bd _ _ (by decide)).1, (tmod_bd _ _ (by decide)).2⟩
    have h' : x < 1 ∨ 200 < x := by omega
    clear h
    rcases h' with h | h
    · by_cases hn : T < 0
      · go_enter Try.func42, Try.ntmps42
        go_wp2
        go_ret
        exact ⟨⟨T + 200 + 1, ret_int (by omega), by omega, by omega⟩, rfl⟩
      · go_enter Try.func42, Try.ntmps42
        go_wp2
        go_ret
        exact ⟨⟨T + 1, ret_int (by omega), by omega, by omega⟩, rfl⟩
    · have h0 : 0 ≤ x := by omega
      have hT2 : 0 ≤ T := by rw [← hT]; exact Int.tmod_nonneg _ h0
      have hT' : x % 200 = T := by rw [← hT]; exact (Int.tmod_eq_emod_of_nonneg h0).symm
      go_enter Try.func42, Try.ntmps42
      go_wp2
      go_ret
      exact ⟨⟨T + 1, ret_int (by omega), by omega, by omega⟩, rfl⟩
theorem and_31 (c : Int) : bits .and .i64 c 31 = c % 32 := by
  show IntKind.i64.wrap ((BitVec.ofInt 64 c &&& BitVec.ofInt 64 (31 : Int)).toNat : Int) = _
  have e0 : (BitVec.ofInt 64 (31 : Int)).toNat = 31 := by decide
  have e1 : (BitVec.ofInt 64 c).toNat = (c % 18446744073709551616).toNat := by rw [BitVec.toNat_ofInt]; rfl
  have e2 : ∀ n : Nat, n &&& 31 = n % 32 := fun n => Nat.and_two_pow_sub_one_eq_mod n 5
  rw [BitVec.toNat_and, e0, e1, e2, IntKind.wrap_i64]
  omega
theorem and_63 (c : Int) : bits .and .i64 c 63 = c % 64 := by
  show IntKind.i64.wrap ((BitVec.ofInt 64 c &&& BitVec.ofInt 64 (63 : Int)).toNat : Int) = _
  have e0 : (BitVec.ofInt 64 (63 : Int)).toNat = 63 := by decide
  have e1 : (BitVec.ofInt 64 c).toNat = (c % 18446744073709551616).toNat := by rw [BitVec.toNat_ofInt]; rfl
  have e2 : ∀ n : Nat, n &&& 63 = n % 64 := fun n => Nat.and_two_pow_sub_one_eq_mod n 6
  rw [BitVec.toNat_and, e0, e1, e2, IntKind.wrap_i64]
  omega
theorem and_127 (c : Int) : bits .and .i64 c 127 = c % 128 := by
  show IntKind.i64.wrap ((BitVec.ofInt 64 c &&& BitVec.ofInt 64 (127 : Int)).toNat : Int) = _
  have e0 : (BitVec.ofInt 64 (127 : Int)).toNat = 127 := by decide
  have e1 : (BitVec.ofInt 64 c).toNat = (c % 18446744073709551616).toNat := by rw [BitVec.toNat_ofInt]; rfl
  have e2 : ∀ n : Nat, n &&& 127 = n % 128 := fun n => Nat.and_two_pow_sub_one_eq_mod n 7
  rw [BitVec.toNat_and, e0, e1, e2, IntKind.wrap_i64]
  omega

end Go.Proofs.Ytafaafaclijfiaa

namespace Go.Proofs.Ytafaafaclijfiaa
open Go Go.RowKit
open M

set_option maxRecDepth 100000 in
set_option maxHeartbeats 8000000 in
theorem paintTells_walk {w : World} (l : Value) (_ : Unit) (x y m0 m1 m2 m3 m4 m5 : Int) (vr : Value) (r : Pa) (hN : Nums w l) (hr : vr = .agg (paCells r) ∧ PaOk r) :
    Calls Try.prog 4 #[l, .int .i64 x, .int .i64 y, .agg #[.int .i64 m0, .int .i64 m1, .int .i64 m2, .int .i64 m3, .int .i64 m4, .int .i64 m5], vr] w fun e w' => e = .returned (.bool true) ∧ Below w.heap.size w w' := by
  obtain ⟨rfl, okr⟩ := hr
  obtain ⟨B, hB⟩ : ∃ B, w.heap.size = B := ⟨_, rfl⟩
  obtain ⟨p, hp, p0, p1⟩ : ∃ q, bits .and .i64 x 63 = q ∧ 0 ≤ q ∧ q ≤ 63 := ⟨_, rfl, by rw [and_63]; omega, by rw [and_63]; omega⟩
  obtain ⟨q, hq, q0, q1⟩ : ∃ q, bits .and .i64 y 63 = q ∧ 0 ≤ q ∧ q ≤ 63 := ⟨_, rfl, by rw [and_63]; omega, by rw [and_63]; omega⟩
  have e1 : IntKind.i64.wrap (p - 16) = p - 16 := IntWalk.i64_in _ (by omega)
  have e2 : IntKind.i64.wrap (q - 16) = q - 16 := IntWalk.i64_in _ (by omega)
  obtain ⟨W, hW⟩ : ∃ W, (w.alloc (.cells #[.int .i64 m0, .int .i64 m1, .int .i64 m2, .int .i64 m3, .int .i64 m4, .int .i64 m5] 30)).alloc (.cells (paCells r) 27) = W := ⟨_, rfl⟩
  have hb0 : Below w.heap.size w W := by rw [← hW]; exact ((Below.refl _ _).alloc (Nat.le_refl _) _).alloc (by simp) _
  have hm : Has W B #[.int .i64 m0, .int .i64 m1, .int .i64 m2, .int .i64 m3, .int .i64 m4, .int .i64 m5] 30 := by rw [← hW]; exact (has_new hB).alloc _
  have hr : Has W (B + 1) (paCells r) 27 := by rw [← hW]; exact has_new (by simp [hB])
  have MD := Lib.hid (l16_made (w := W) (l := l) (nums16_on hN hb0))
  have SR := Lib.hid (fun x y w => l16_same r x y m0 m1 m2 m3 m4 m5 okr w)
  obtain ⟨a1, n1, c1, rfl⟩ := nums_shape16 hN
  have HW := Lib.hid hW
  have HM := Lib.hid hm
  have HR := Lib.hid hr
  have HB0 := Lib.hid hb0
  clear hb0 hW hN hm hr okr
  obtain ⟨rk, ⟨ra0, ra1, ra2, ra3⟩, ⟨rb0, rb1, rb2, rb3⟩, ⟨rpx, rpy⟩, ⟨rqx, rqy⟩, rr⟩ := r
  go_enter Try.func4, Try.ntmps4
  go_upto_region 1 with fail
  rw [HW.out]
  go_wp2_with fail
  clear hB
  refine MD.out.mono ?_
  rintro e w1 ⟨c, rfl, ok, hb⟩
  obtain ⟨P, hP⟩ : ∃ P, w1.heap.size = P := ⟨_, rfl⟩
  obtain ⟨V, hV⟩ : ∃ V, w1.alloc (.cells (paCells c) 27) = V := ⟨_, rfl⟩
  have bV : Below W.heap.size W V := by rw [← hV]; exact hb.alloc hb.size _
  have kp : Has V P (paCells c) 27 := by rw [← hV]; exact has_new hP
  have km := HM.out.below bV HM.out.lt
  have kr := HR.out.below bV HR.out.lt
  have FIN := Lib.hid (show ∀ w', Below V.heap.size V w' → Below w.heap.size w w' from fun w' h => (HB0.out.trans (bV.mono HB0.out.size)).trans (h.mono (by have := HB0.out.size; have := bV.size; omega)))
  have SP := Lib.hid (fun x y w => l16_same c x y m0 m1 m2 m3 m4 m5 ok w)
  have HV := Lib.hid hV
  clear hb ok bV hV MD HM HR HB0 HW
  obtain ⟨k, ⟨a0, a1, a2, a3⟩, ⟨b0, b1, b2, b3⟩, ⟨px, py⟩, ⟨qx, qy⟩, rad⟩ := c
  have FP := Lib.hid (show ∀ w', Below V.heap.size V w' → ∀ j u, (paCells ⟨k, ⟨a0, a1, a2, a3⟩, ⟨b0, b1, b2, b3⟩, ⟨px, py⟩, ⟨qx, qy⟩, rad⟩)[j]? = some u → w'.cell? ⟨P, j, none⟩ = some u from fun w' h' j u hu => (kp.below h' kp.lt).cell j u hu)
  have FM := Lib.hid (show ∀ w', Below V.heap.size V w' → ∀ j u, (#[.int .i64 m0, .int .i64 m1, .int .i64 m2, .int .i64 m3, .int .i64 m4, .int .i64 m5] : Array Value)[j]? = some u → w'.cell? ⟨B, j, none⟩ = some u from fun w' h' j u hu => (km.below h' km.lt).cell j u hu)
  have FR := Lib.hid (show ∀ w', Below V.heap.size V w' → ∀ j u, (paCells ⟨rk, ⟨ra0, ra1, ra2, ra3⟩, ⟨rb0, rb1, rb2, rb3⟩, ⟨rpx, rpy⟩, ⟨rqx, rqy⟩, rr⟩)[j]? = some u → w'.cell? ⟨B + 1, j, none⟩ = some u from fun w' h' j u hu => (kr.below h' kr.lt).cell j u hu)
  clear kp km kr
  have D0 : Hid (Below V.heap.size V V) := Lib.hid (Below.refl _ _)
  go_upto_region 2 with fail
  rw [HV.out]
  clear hP HV
  have d0 := FP.out V D0.out 0 _ rfl
  have d1 := FP.out V D0.out 1 _ rfl
  have d2 := FP.out V D0.out 2 _ rfl
  have d3 := FP.out V D0.out 3 _ rfl
  have d4 := FP.out V D0.out 4 _ rfl
  have d5 := FP.out V D0.out 5 _ rfl
  have d6 := FP.out V D0.out 6 _ rfl
  have d7 := FP.out V D0.out 7 _ rfl
  have d8 := FP.out V D0.out 8 _ rfl
  have d9 := FP.out V D0.out 9 _ rfl
  have d10 := FP.out V D0.out 10 _ rfl
  have d11 := FP.out V D0.out 11 _ rfl
  have d12 := FP.out V D0.out 12 _ rfl
  have d13 := FP.out V D0.out 13 _ rfl
  have k0 := FM.out V D0.out 0 _ rfl
  have k1 := FM.out V D0.out 1 _ rfl
  have k2 := FM.out V D0.out 2 _ rfl
  have k3 := FM.out V D0.out 3 _ rfl
  have k4 := FM.out V D0.out 4 _ rfl
  have k5 := FM.out V D0.out 5 _ rfl
  go_wp2_with fail
  refine (SP.out _ _ _).mono ?_
  rintro e X0 ⟨rfl, hz⟩
  have D1 := Lib.hid (D0.out.trans (hz.mono D0.out.size))
  clear hz D0 d0 d1 d2 d3 d4 d5 d6 d7 d8 d9 d10 d11 d12 d13 k0 k1 k2 k3 k4 k5
  have d0 := FP.out X0 D1.out 0 _ rfl
  have d1 := FP.out X0 D1.out 1 _ rfl
  have d2 := FP.out X0 D1.out 2 _ rfl
  have d3 := FP.out X0 D1.out 3 _ rfl
  have d4 := FP.out X0 D1.out 4 _ rfl
  have d5 := FP.out X0 D1.out 5 _ rfl
  have d6 := FP.out X0 D1.out 6 _ rfl
  have d7 := FP.out X0 D1.out 7 _ rfl
  have d8 := FP.out X0 D1.out 8 _ rfl
  have d9 := FP.out X0 D1.out 9 _ rfl
  have d10 := FP.out X0 D1.out 10 _ rfl
  have d11 := FP.out X0 D1.out 11 _ rfl
  have d12 := FP.out X0 D1.out 12 _ rfl
  have d13 := FP.out X0 D1.out 13 _ rfl
  have k0 := FM.out X0 D1.out 0 _ rfl
  have k1 := FM.out X0 D1.out 1 _ rfl
  have k2 := FM.out X0 D1.out 2 _ rfl
  have k3 := FM.out X0 D1.out 3 _ rfl
  have k4 := FM.out X0 D1.out 4 _ rfl
  have k5 := FM.out X0 D1.out 5 _ rfl
  go_wp2_with fail
  refine (SP.out _ _ _).mono ?_
  rintro e X1 ⟨rfl, hz⟩
  have D2 := Lib.hid (D1.out.trans (hz.mono D1.out.size))
  clear hz D1 d0 d1 d2 d3 d4 d5 d6 d7 d8 d9 d10 d11 d12 d13 k0 k1 k2 k3 k4 k5
  have d0 := FR.out X1 D2.out 0 _ rfl
  have d1 := FR.out X1 D2.out 1 _ rfl
  have d2 := FR.out X1 D2.out 2 _ rfl
  have d3 := FR.out X1 D2.out 3 _ rfl
  have d4 := FR.out X1 D2.out 4 _ rfl
  have d5 := FR.out X1 D2.out 5 _ rfl
  have d6 := FR.out X1 D2.out 6 _ rfl
  have d7 := FR.out X1 D2.out 7 _ rfl
  have d8 := FR.out X1 D2.out 8 _ rfl
  have d9 := FR.out X1 D2.out 9 _ rfl
  have d10 := FR.out X1 D2.out 10 _ rfl
  have d11 := FR.out X1 D2.out 11 _ rfl
  have d12 := FR.out X1 D2.out 12 _ rfl
  have d13 := FR.out X1 D2.out 13 _ rfl
  have k0 := FM.out X1 D2.out 0 _ rfl
  have k1 := FM.out X1 D2.out 1 _ rfl
  have k2 := FM.out X1 D2.out 2 _ rfl
  have k3 := FM.out X1 D2.out 3 _ rfl
  have k4 := FM.out X1 D2.out 4 _ rfl
  have k5 := FM.out X1 D2.out 5 _ rfl
  go_wp2_with fail
  refine (SR.out _ _ _).mono ?_
  rintro e X2 ⟨rfl, hz⟩
  have D3 := Lib.hid (D2.out.trans (hz.mono D2.out.size))
  clear hz D2 d0 d1 d2 d3 d4 d5 d6 d7 d8 d9 d10 d11 d12 d13 k0 k1 k2 k3 k4 k5
  have d0 := FR.out X2 D3.out 0 _ rfl
  have d1 := FR.out X2 D3.out 1 _ rfl
  have d2 := FR.out X2 D3.out 2 _ rfl
  have d3 := FR.out X2 D3.out 3 _ rfl
  have d4 := FR.out X2 D3.out 4 _ rfl
  have d5 := FR.out X2 D3.out 5 _ rfl
  have d6 := FR.out X2 D3.out 6 _ rfl
  have d7 := FR.out X2 D3.out 7 _ rfl
  have d8 := FR.out X2 D3.out 8 _ rfl
  have d9 := FR.out X2 D3.out 9 _ rfl
  have d10 := FR.out X2 D3.out 10 _ rfl
  have d11 := FR.out X2 D3.out 11 _ rfl
  have d12 := FR.out X2 D3.out 12 _ rfl
  have d13 := FR.out X2 D3.out 13 _ rfl
  have k0 := FM.out X2 D3.out 0 _ rfl
  have k1 := FM.out X2 D3.out 1 _ rfl
  have k2 := FM.out X2 D3.out 2 _ rfl
  have k3 := FM.out X2 D3.out 3 _ rfl
  have k4 := FM.out X2 D3.out 4 _ rfl
  have k5 := FM.out X2 D3.out 5 _ rfl
  go_wp2_with fail
  refine (SR.out _ _ _).mono ?_
  rintro e X3 ⟨rfl, hz⟩
  have D4 := Lib.hid (D3.out.trans (hz.mono D3.out.size))
  clear hz D3 d0 d1 d2 d3 d4 d5 d6 d7 d8 d9 d10 d11 d12 d13 k0 k1 k2 k3 k4 k5
  go_wp2_with fail
  refine (known16 _).mono ?_
  rintro e X4 ⟨rfl, hz⟩
  have D5 := Lib.hid (D4.out.trans (hz.mono D4.out.size))
  clear hz D4
  go_wp2
  go_ret
  exact ⟨rfl, FIN.out _ D5.out⟩

end Go.Proofs.Ytafaafaclijfiaa

namespace Go.Proofs.Ytafaafaclijfiaa
open Go Go.RowKit Go.Joins Go.ChangeShapes Go.WideShapes Go.Deep

section
variable {H : Type} {enc : TypeId × Value → H} {P : Program} {w : World} {base : Nat} {spare : Nat → Bool} {held : Bool}

def fieldsOf (e : TypeId) (fs : Array Field) : Bool := fs.toList.all fun f => f.type == e
theorem fieldsOf_spec {e : TypeId} {fs : Array Field} (h : fieldsOf e fs = true) (j : Nat) (f : Field) (hj : fs[j]? = some f) : f.type = e := by
  have := List.all_eq_true.1 h f (by rw [Array.mem_toList_iff]; exact Array.mem_of_getElem? hj)
  simpa using this

theorem open_ints {r : Reach} {b0 : Nat} {t e : TypeId} {fs : Array Field} {v : Value} {d : DataW H} {p : List MemPlace} (hs : P.underlying t = some (.struct fs)) (he : P.underlying e = some (.int .i64))
    (hone : oneCellFields P fs = true) (hty : fieldsOf e fs = true) (hC : P.cellsOf t = fs.size) (hv : Value.okWide P w r b0 t v) (h : DataW.Trod enc P w base spare held t v d p) :
    ∃ ns : List Int, ns.length = fs.size ∧ v = .agg (ns.map (Value.int .i64)).toArray ∧ d = .agg (ns.map fun n => .lit (.int .i64 n)) ∧ p = [] ∧ ∀ n ∈ ns, (Lit.int .i64 n).wf = true := by
  obtain ⟨⟨L⟩, rfl, hsz⟩ := okWide_struct hs hv
  obtain ⟨fuel, hf⟩ := h
  obtain ⟨xs, n, _, hx, _, hlen, hg⟩ := DataW.trod_struct hs hf
  have hL : L.length = fs.size := by rw [← hC]; simpa using hsz
  have key : ∀ j, j < fs.size → ∃ a, L[j]? = some (.int .i64 a) ∧ xs[j]? = some (.lit (.int .i64 a), []) ∧ (Lit.int .i64 a).wf = true := by
    intro j hj
    obtain ⟨f, hfj⟩ : ∃ f, fs[j]? = some f := ⟨_, Array.getElem?_eq_getElem hj⟩
    obtain ⟨ho, hk⟩ := hone_of hone j f hfj
    have h1 := hg j f hfj
    rw [ho, hk, fieldsOf_spec hty j f hfj] at h1
    have hjL : j < L.length := by omega
    have hc : (((Value.agg L.toArray).cells.toList).drop j).take 1 = [L[j]] := by
      show (L.drop j).take 1 = [L[j]]
      rw [List.drop_eq_getElem_cons hjL]; rfl
    rw [hc] at h1
    have hxj : xs[j]? = some (xs[j]'(by omega)) := List.getElem?_eq_getElem (by omega)
    rw [hxj] at h1
    obtain ⟨a, ha, hxa, hw⟩ := DataW.trod_int he h1
    have hLa : L[j] = .int .i64 a := by simpa using ha
    exact ⟨a, by rw [List.getElem?_eq_getElem hjL, hLa], by rw [hxj, hxa], hw⟩
  have e1 : (L.map intOf).map (Value.int .i64) = L := by
    apply List.ext_getElem?
    intro j
    by_cases hj : j < fs.size
    · obtain ⟨a, ha, _, _⟩ := key j hj
      simp [List.getElem?_map, ha, intOf]
    · rw [List.getElem?_eq_none (by simp; omega), List.getElem?_eq_none (by omega)]
  have e2 : xs.map (·.1) = (L.map intOf).map fun n => DataW.lit (.int .i64 n) := by
    apply List.ext_getElem?
    intro j
    by_cases hj : j < fs.size
    · obtain ⟨a, ha, hxa, _⟩ := key j hj
      simp [List.getElem?_map, ha, hxa, intOf]
    · rw [List.getElem?_eq_none (by simp; omega), List.getElem?_eq_none (by simp; omega)]
  have e3 : xs.flatMap (·.2) = [] := by
    rw [List.flatMap_eq_nil_iff]
    intro y hy
    obtain ⟨j, hj⟩ := List.mem_iff_getElem?.1 hy
    have hjl : j < fs.size := by have := (List.getElem?_eq_some_iff.1 hj).1; omega
    obtain ⟨a, _, hxa, _⟩ := key j hjl
    rw [hj] at hxa
    rw [Option.some.inj hxa]
  simp only [Prod.mk.injEq] at hx
  refine ⟨L.map intOf, by simpa using hL, by rw [e1], by rw [hx.1, e2], by rw [hx.2, e3], fun m hm => ?_⟩
  obtain ⟨c, hc, rfl⟩ := List.mem_map.1 hm
  obtain ⟨j, hj⟩ := List.mem_iff_getElem?.1 hc
  have hjl : j < fs.size := by have := (List.getElem?_eq_some_iff.1 hj).1; omega
  obtain ⟨a, ha, _, hw⟩ := key j hjl
  rw [hj] at ha
  rw [Option.some.inj ha]
  exact hw

theorem mapM_all {α β : Type} {g : α → Option β} : ∀ (l : List α) (xs : List β), l.length = xs.length → (∀ (i : Nat) a x, l[i]? = some a → xs[i]? = some x → g a = some x) → l.mapM g = some xs
  | [], [], _, _ => by simp
  | [], _ :: _, h, _ => by simp at h
  | _ :: _, [], h, _ => by simp at h
  | a :: l, x :: xs, h, hh => by
    have h0 : g a = some x := hh 0 a x rfl rfl
    have ih := mapM_all l xs (by simpa using h) (fun i b y h1 h2 => hh (i + 1) b y (by simpa using h1) (by simpa using h2))
    simp [List.mapM_cons, h0, ih]

theorem shut_ints {t e : TypeId} {fs : Array Field} {ns : List Int} (hs : P.underlying t = some (.struct fs)) (he : P.underlying e = some (.int .i64))
    (hone : oneCellFields P fs = true) (hty : fieldsOf e fs = true) (hC : P.cellsOf t = fs.size) (hl : ns.length = fs.size) (hw : ∀ n ∈ ns, (Lit.int .i64 n).wf = true) :
    DataW.Trod enc P w base spare held t (.agg (ns.map (Value.int .i64)).toArray) (.agg (ns.map fun n => .lit (.int .i64 n))) [] := by
  have h := trod_struct_mk (enc := enc) (w := w) (base := base) (spare := spare) (held := held) (n := 1) (cs := ns.map (Value.int .i64)) (xs := ns.map fun n => (DataW.lit (.int .i64 n), [])) hs (by simp [hl, hC]) (by
    refine mapM_all _ _ (by simp [hl]) ?_
    intro i f x hf hx
    have hf' : fs[i]? = some f := by simpa using hf
    obtain ⟨ho, hk⟩ := hone_of hone i f hf'
    have hil : i < ns.length := by have := (Array.getElem?_eq_some_iff.1 hf').1; omega
    rw [List.getElem?_map, List.getElem?_eq_getElem hil] at hx
    obtain rfl := Option.some.inj hx
    rw [ho, hk, fieldsOf_spec hty i f hf']
    have hc : ((ns.map (Value.int .i64)).drop i).take 1 = [.int .i64 ns[i]] := by
      rw [List.drop_eq_getElem_cons (by simpa using hil)]
      simp
    rw [hc]
    have hwn := hw ns[i] (List.getElem_mem hil)
    simp [DataW.trod, he, hwn])
  refine ⟨2, ?_⟩
  have e1 : (ns.map fun n => (DataW.lit (H := H) (.int .i64 n), ([] : List MemPlace))).map (·.1) = ns.map fun n => .lit (.int .i64 n) := by simp
  have e2 : (ns.map fun n => (DataW.lit (H := H) (.int .i64 n), ([] : List MemPlace))).flatMap (·.2) = [] := by
    rw [List.flatMap_eq_nil_iff]; intro y hy; obtain ⟨m, _, rfl⟩ := List.mem_map.1 hy; rfl
  rw [e1, e2] at h
  exact h

theorem list2 {l : List Int} (h : l.length = 2) : ∃ n0 n1, l = [n0, n1] := by
  match l, h with
  | [n0, n1], _ => exact ⟨n0, n1, rfl⟩
theorem open_ints2 {r : Reach} {b0 : Nat} {t e : TypeId} {fs : Array Field} {v : Value} {d : DataW H} {p : List MemPlace} (hs : P.underlying t = some (.struct fs)) (he : P.underlying e = some (.int .i64))
    (hone : oneCellFields P fs = true) (hty : fieldsOf e fs = true) (hC : P.cellsOf t = fs.size) (h2 : fs.size = 2) (hv : Value.okWide P w r b0 t v) (h : DataW.Trod enc P w base spare held t v d p) :
    ∃ n0 n1 : Int, v = .agg #[.int .i64 n0, .int .i64 n1] ∧ d = .agg [.lit (.int .i64 n0), .lit (.int .i64 n1)] ∧ p = [] ∧ (Lit.int .i64 n0).wf = true ∧ (Lit.int .i64 n1).wf = true := by
  obtain ⟨ns, hl, hv', hd, hp, hw⟩ := open_ints hs he hone hty hC hv h
  obtain ⟨n0, n1, rfl⟩ := list2 (hl.trans h2)
  exact ⟨n0, n1, hv', hd, hp, hw n0 (by simp), hw n1 (by simp)⟩
theorem shut_ints2 {t e : TypeId} {fs : Array Field} {n0 n1 : Int} (hs : P.underlying t = some (.struct fs)) (he : P.underlying e = some (.int .i64))
    (hone : oneCellFields P fs = true) (hty : fieldsOf e fs = true) (hC : P.cellsOf t = fs.size) (h2 : fs.size = 2) (w0 : (Lit.int .i64 n0).wf = true) (w1 : (Lit.int .i64 n1).wf = true) :
    DataW.Trod enc P w base spare held t (.agg #[.int .i64 n0, .int .i64 n1]) (.agg [.lit (.int .i64 n0), .lit (.int .i64 n1)]) [] :=
  shut_ints (ns := [n0, n1]) hs he hone hty hC h2.symm (by intro m hm; simp at hm; rcases hm with rfl | rfl <;> assumption)
theorem list4 {l : List Int} (h : l.length = 4) : ∃ n0 n1 n2 n3, l = [n0, n1, n2, n3] := by
  match l, h with
  | [n0, n1, n2, n3], _ => exact ⟨n0, n1, n2, n3, rfl⟩
theorem open_ints4 {r : Reach} {b0 : Nat} {t e : TypeId} {fs : Array Field} {v : Value} {d : DataW H} {p : List MemPlace} (hs : P.underlying t = some (.struct fs)) (he : P.underlying e = some (.int .i64))
    (hone : oneCellFields P fs = true) (hty : fieldsOf e fs = true) (hC : P.cellsOf t = fs.size) (h4 : fs.size = 4) (hv : Value.okWide P w r b0 t v) (h : DataW.Trod enc P w base spare held t v d p) :
    ∃ n0 n1 n2 n3 : Int, v = .agg #[.int .i64 n0, .int .i64 n1, .int .i64 n2, .int .i64 n3] ∧ d = .agg [.lit (.int .i64 n0), .lit (.int .i64 n1), .lit (.int .i64 n2), .lit (.int .i64 n3)] ∧ p = [] ∧ (Lit.int .i64 n0).wf = true ∧ (Lit.int .i64 n1).wf = true ∧ (Lit.int .i64 n2).wf = true ∧ (Lit.int .i64 n3).wf = true := by
  obtain ⟨ns, hl, hv', hd, hp, hw⟩ := open_ints hs he hone hty hC hv h
  obtain ⟨n0, n1, n2, n3, rfl⟩ := list4 (hl.trans h4)
  exact ⟨n0, n1, n2, n3, hv', hd, hp, hw n0 (by simp), hw n1 (by simp), hw n2 (by simp), hw n3 (by simp)⟩
theorem shut_ints4 {t e : TypeId} {fs : Array Field} {n0 n1 n2 n3 : Int} (hs : P.underlying t = some (.struct fs)) (he : P.underlying e = some (.int .i64))
    (hone : oneCellFields P fs = true) (hty : fieldsOf e fs = true) (hC : P.cellsOf t = fs.size) (h4 : fs.size = 4) (w0 : (Lit.int .i64 n0).wf = true) (w1 : (Lit.int .i64 n1).wf = true) (w2 : (Lit.int .i64 n2).wf = true) (w3 : (Lit.int .i64 n3).wf = true) :
    DataW.Trod enc P w base spare held t (.agg #[.int .i64 n0, .int .i64 n1, .int .i64 n2, .int .i64 n3]) (.agg [.lit (.int .i64 n0), .lit (.int .i64 n1), .lit (.int .i64 n2), .lit (.int .i64 n3)]) [] :=
  shut_ints (ns := [n0, n1, n2, n3]) hs he hone hty hC h4.symm (by intro m hm; simp at hm; rcases hm with rfl | rfl | rfl | rfl <;> assumption)
theorem list6 {l : List Int} (h : l.length = 6) : ∃ n0 n1 n2 n3 n4 n5, l = [n0, n1, n2, n3, n4, n5] := by
  match l, h with
  | [n0, n1, n2, n3, n4, n5], _ => exact ⟨n0, n1, n2, n3, n4, n5, rfl⟩
theorem open_ints6 {r : Reach} {b0 : Nat} {t e : TypeId} {fs : Array Field} {v : Value} {d : DataW H} {p : List MemPlace} (hs : P.underlying t = some (.struct fs)) (he : P.underlying e = some (.int .i64))
    (hone : oneCellFields P fs = true) (hty : fieldsOf e fs = true) (hC : P.cellsOf t = fs.size) (h6 : fs.size = 6) (hv : Value.okWide P w r b0 t v) (h : DataW.Trod enc P w base spare held t v d p) :
    ∃ n0 n1 n2 n3 n4 n5 : Int, v = .agg #[.int .i64 n0, .int .i64 n1, .int .i64 n2, .int .i64 n3, .int .i64 n4, .int .i64 n5] ∧ d = .agg [.lit (.int .i64 n0), .lit (.int .i64 n1), .lit (.int .i64 n2), .lit (.int .i64 n3), .lit (.int .i64 n4), .lit (.int .i64 n5)] ∧ p = [] ∧ (Lit.int .i64 n0).wf = true ∧ (Lit.int .i64 n1).wf = true ∧ (Lit.int .i64 n2).wf = true ∧ (Lit.int .i64 n3).wf = true ∧ (Lit.int .i64 n4).wf = true ∧ (Lit.int .i64 n5).wf = true := by
  obtain ⟨ns, hl, hv', hd, hp, hw⟩ := open_ints hs he hone hty hC hv h
  obtain ⟨n0, n1, n2, n3, n4, n5, rfl⟩ := list6 (hl.trans h6)
  exact ⟨n0, n1, n2, n3, n4, n5, hv', hd, hp, hw n0 (by simp), hw n1 (by simp), hw n2 (by simp), hw n3 (by simp), hw n4 (by simp), hw n5 (by simp)⟩
theorem shut_ints6 {t e : TypeId} {fs : Array Field} {n0 n1 n2 n3 n4 n5 : Int} (hs : P.underlying t = some (.struct fs)) (he : P.underlying e = some (.int .i64))
    (hone : oneCellFields P fs = true) (hty : fieldsOf e fs = true) (hC : P.cellsOf t = fs.size) (h6 : fs.size = 6) (w0 : (Lit.int .i64 n0).wf = true) (w1 : (Lit.int .i64 n1).wf = true) (w2 : (Lit.int .i64 n2).wf = true) (w3 : (Lit.int .i64 n3).wf = true) (w4 : (Lit.int .i64 n4).wf = true) (w5 : (Lit.int .i64 n5).wf = true) :
    DataW.Trod enc P w base spare held t (.agg #[.int .i64 n0, .int .i64 n1, .int .i64 n2, .int .i64 n3, .int .i64 n4, .int .i64 n5]) (.agg [.lit (.int .i64 n0), .lit (.int .i64 n1), .lit (.int .i64 n2), .lit (.int .i64 n3), .lit (.int .i64 n4), .lit (.int .i64 n5)]) [] :=
  shut_ints (ns := [n0, n1, n2, n3, n4, n5]) hs he hone hty hC h6.symm (by intro m hm; simp at hm; rcases hm with rfl | rfl | rfl | rfl | rfl | rfl <;> assumption)
end

end Go.Proofs.Ytafaafaclijfiaa

namespace Go.Proofs.Ytafaafaclijfiaa
open Go.RowKit
open M

/-- A colour key's cells. -/
abbrev kkCells (k : Ck) : Array Value := #[.int .i64 k.t, .int .u8 k.p.r, .int .u8 k.p.g, .int .u8 k.p.b, .int .u8 k.p.q, .int .i64 k.h, .int .i64 k.a, .int .i64 k.b, .int .i64 k.c, .int .i64 k.d]
/-- A row of colour keys lies in block g from cell o on. -/
structure Crow (w : World) (g o : Nat) (ks : List Ck) : Prop where
  few : ks.length ≤ 8796093022208
  ok : ∀ i, i < ks.length → (ck ks i).p.Ok
  c0 : ∀ i, i < ks.length → w.cell? ⟨g, o + i * 10, none⟩ = some (.int .i64 (ck ks i).t)
  c1 : ∀ i, i < ks.length → w.cell? ⟨g, o + i * 10 + 1, none⟩ = some (.int .u8 (ck ks i).p.r)
  c2 : ∀ i, i < ks.length → w.cell? ⟨g, o + i * 10 + 2, none⟩ = some (.int .u8 (ck ks i).p.g)
  c3 : ∀ i, i < ks.length → w.cell? ⟨g, o + i * 10 + 3, none⟩ = some (.int .u8 (ck ks i).p.b)
  c4 : ∀ i, i < ks.length → w.cell? ⟨g, o + i * 10 + 4, none⟩ = some (.int .u8 (ck ks i).p.q)
  c5 : ∀ i, i < ks.length → w.cell? ⟨g, o + i * 10 + 5, none⟩ = some (.int .i64 (ck ks i).h)
  c6 : ∀ i, i < ks.length → w.cell? ⟨g, o + i * 10 + 6, none⟩ = some (.int .i64 (ck ks i).a)
  c7 : ∀ i, i < ks.length → w.cell? ⟨g, o + i * 10 + 7, none⟩ = some (.int .i64 (ck ks i).b)
  c8 : ∀ i, i < ks.length → w.cell? ⟨g, o + i * 10 + 8, none⟩ = some (.int .i64 (ck ks i).c)
  c9 : ∀ i, i < ks.length → w.cell? ⟨g, o + i * 10 + 9, none⟩ = some (.int .i64 (ck ks i).d)
theorem Crow.below {w w' : World} {g o B : Nat} {ks : List Ck} (h : Crow w g o ks) (hb : Below B w w') (hg : g < B) : Crow w' g o ks :=
  ⟨h.few, h.ok, fun i hi => (hb.cell (p := ⟨g, _, _⟩) hg).trans (h.c0 i hi), fun i hi => (hb.cell (p := ⟨g, _, _⟩) hg).trans (h.c1 i hi), fun i hi => (hb.cell (p := ⟨g, _, _⟩) hg).trans (h.c2 i hi), fun i hi => (hb.cell (p := ⟨g, _, _⟩) hg).trans (h.c3 i hi), fun i hi => (hb.cell (p := ⟨g, _, _⟩) hg).trans (h.c4 i hi), fun i hi => (hb.cell (p := ⟨g, _, _⟩) hg).trans (h.c5 i hi), fun i hi => (hb.cell (p := ⟨g, _, _⟩) hg).trans (h.c6 i hi), fun i hi => (hb.cell (p := ⟨g, _, _⟩) hg).trans (h.c7 i hi), fun i hi => (hb.cell (p := ⟨g, _, _⟩) hg).trans (h.c8 i hi), fun i hi => (hb.cell (p := ⟨g, _, _⟩) hg).trans (h.c9 i hi)⟩
theorem Crow.lt {w : World} {g o : Nat} {ks : List Ck} (h : Crow w g o ks) (hn : 0 < ks.length) : g < w.heap.size := World.block_lt_of_cell? w _ (h.c0 0 hn)
theorem Crow.later {W : World} {g o : Nat} {ks : List Ck} (h : Crow W g o ks) (hn : 0 < ks.length) (z : Later W) : Crow z.to g o ks := h.below z.below (h.lt hn)
/-- The slice's value v holds just these keys. -/
def Csl (w : World) (v : Value) (ks : List Ck) : Prop := (ks = [] ∧ ∃ ao cap, v = .slice ao 0 cap) ∨ (0 < ks.length ∧ ∃ g o cap, v = .slice (some ⟨g, o, none⟩) ks.length cap ∧ Crow w g o ks)
theorem Csl.below {w w' : World} {v : Value} {ks : List Ck} (h : Csl w v ks) (hb : Below w.heap.size w w') : Csl w' v ks := by
  rcases h with h | ⟨h0, g, o, cap, hv, hr⟩
  · exact Or.inl h
  · exact Or.inr ⟨h0, g, o, cap, hv, hr.below hb (hr.lt h0)⟩
theorem Has.thaw {w : World} {g : Nat} {cs : Array Value} {t : TypeId} (h : Has w g cs t) (k : Nat) : w.frozen? ⟨g, k, none⟩ = false := by
  unfold Has at h
  simp [World.frozen?, h]

theorem four_below {B g : Nat} {w V : World} (h : Below B w V) (hg : B ≤ g) (a b c d : Value) :
    Below B w ((((V.setCell ⟨g, 0, none⟩ a).setCell ⟨g, 1, none⟩ b).setCell ⟨g, 2, none⟩ c).setCell ⟨g, 3, none⟩ d) := (((h.setCell hg _).setCell hg _).setCell hg _).setCell hg _


end Go.Proofs.Ytafaafaclijfiaa

namespace Go.Proofs.Ytafaafaclijfiaa
open Go.RowKit
open M

/-- A colour key's cells, as a list; a list of keys' cells. -/
def cl (k : Ck) : List Value := [.int .i64 k.t, .int .u8 k.p.r, .int .u8 k.p.g, .int .u8 k.p.b, .int .u8 k.p.q, .int .i64 k.h, .int .i64 k.a, .int .i64 k.b, .int .i64 k.c, .int .i64 k.d]
def cls (ks : List Ck) : List Value := ks.flatMap cl
theorem cls_cons (k : Ck) (ks : List Ck) : cls (k :: ks) = cl k ++ cls ks := by simp [cls]
theorem cls_snoc (ks : List Ck) (k : Ck) : cls (ks ++ [k]) = cls ks ++ cl k := by simp [cls]
theorem cls_length (ks : List Ck) : (cls ks).length = ks.length * 10 := by
  induction ks with
  | nil => rfl
  | cons k ks ih => rw [cls_cons, List.length_append, ih]; simp [cl]; omega
theorem ck_cons (k : Ck) (ks : List Ck) (i : Nat) : ck (k :: ks) (i + 1) = ck ks i := by simp [ck]
theorem ck_zero (k : Ck) (ks : List Ck) : ck (k :: ks) 0 = k := by simp [ck]
theorem cls_at {ks : List Ck} {i j : Nat} (hi : i < ks.length) (hj : j < 10) : (cls ks)[i * 10 + j]? = (cl (ck ks i))[j]? := by
  induction ks generalizing i with
  | nil => simp at hi
  | cons k ks ih =>
    rw [cls_cons]
    cases i with
    | zero => rw [ck_zero, Nat.zero_mul, Nat.zero_add, List.getElem?_append_left (by simpa [cl] using hj)]
    | succ i =>
      rw [ck_cons, List.getElem?_append_right (by simp [cl]; omega)]
      rw [← ih (by simpa using hi)]
      congr 1
      simp [cl]; omega
theorem one_cl (k : Ck) : ∀ u ∈ cl k, u.oneCell' = true := by
  intro u hu
  simp [cl] at hu
  rcases hu with rfl | rfl | rfl | rfl | rfl | rfl | rfl | rfl | rfl | rfl <;> rfl
theorem crow_of {w : World} {g o : Nat} {ks : List Ck} (hf : ks.length ≤ 8796093022208) (hk : ∀ i, i < ks.length → (ck ks i).p.Ok) (h : ∀ j u, (cls ks)[j]? = some u → w.cell? ⟨g, o + j, none⟩ = some u) : Crow w g o ks := by
  have key : ∀ i j u, i < ks.length → j < 10 → (cl (ck ks i))[j]? = some u → w.cell? ⟨g, o + i * 10 + j, none⟩ = some u := by
    intro i j u hi hj hu
    rw [Nat.add_assoc]
    exact h _ _ ((cls_at hi hj).trans hu)
  exact ⟨hf, hk, fun i hi => key i 0 _ hi (by omega) rfl, fun i hi => key i 1 _ hi (by omega) rfl, fun i hi => key i 2 _ hi (by omega) rfl, fun i hi => key i 3 _ hi (by omega) rfl, fun i hi => key i 4 _ hi (by omega) rfl, fun i hi => key i 5 _ hi (by omega) rfl, fun i hi => key i 6 _ hi (by omega) rfl, fun i hi => key i 7 _ hi (by omega) rfl, fun i hi => key i 8 _ hi (by omega) rfl, fun i hi => key i 9 _ hi (by omega) rfl⟩
theorem crow_has {w : World} {g : Nat} {ks : List Ck} {cs : Array Value} {t : TypeId} (hf : ks.length ≤ 8796093022208) (hk : ∀ i, i < ks.length → (ck ks i).p.Ok) (h : Has w g cs t) (hc : cs.toList = cls ks) : Crow w g 0 ks := by
  refine crow_of hf hk fun j u hu => ?_
  rw [Nat.zero_add]
  refine h.cell j u ?_
  rw [← hc] at hu
  simpa using hu
theorem csl_lit {w : World} {g : Nat} {ks : List Ck} {cs : Array Value} {t : TypeId} (n c : Nat) (hn : ks.length = n) (h0 : 0 < n) (hf : n ≤ 8796093022208) (hk : ∀ i, i < ks.length → (ck ks i).p.Ok) (h : Has w g cs t) (hc : cs.toList = cls ks) : Csl w (.slice (some ⟨g, 0, none⟩) n c) ks := by
  subst hn
  exact Or.inr ⟨h0, g, 0, c, rfl, crow_has hf hk h hc⟩
theorem ten_cells {w : World} {k : Ck} {t : TypeId} {g : Nat} (hg : w.heap.size = g) : ∀ j u, (cl k)[j]? = some u → (w.alloc (.cells (kkCells k) t)).cell? ((⟨g, 0, none⟩ : Addr).add j) = some u := by
  intro j u hj
  subst hg
  match j, hj with
  | 0, hj => simp [cl] at hj; subst hj; simp [Addr.add]
  | 1, hj => simp [cl] at hj; subst hj; simp [Addr.add]
  | 2, hj => simp [cl] at hj; subst hj; simp [Addr.add]
  | 3, hj => simp [cl] at hj; subst hj; simp [Addr.add]
  | 4, hj => simp [cl] at hj; subst hj; simp [Addr.add]
  | 5, hj => simp [cl] at hj; subst hj; simp [Addr.add]
  | 6, hj => simp [cl] at hj; subst hj; simp [Addr.add]
  | 7, hj => simp [cl] at hj; subst hj; simp [Addr.add]
  | 8, hj => simp [cl] at hj; subst hj; simp [Addr.add]
  | 9, hj => simp [cl] at hj; subst hj; simp [Addr.add]

/-- One cell of a colour key set: the number (not a part of the colour). -/
def cupd (j : Nat) (k : Ck) (x : Int) : Ck := match j with
  | 0 => { k with t := x }
  | 5 => { k with h := x }
  | 6 => { k with a := x }
  | 7 => { k with b := x }
  | 8 => { k with c := x }
  | _ => { k with d := x }
def isNum (j : Nat) : Bool := j == 0 || (decide (5 ≤ j) && decide (j ≤ 9))
theorem cl_upd {j : Nat} (hj : isNum j = true) (k : Ck) (x : Int) : cl (cupd j k x) = (cl k).set j (.int .i64 x) := by
  have h : j = 0 ∨ j = 5 ∨ j = 6 ∨ j = 7 ∨ j = 8 ∨ j = 9 := by simp [isNum] at hj; omega
  rcases h with rfl | rfl | rfl | rfl | rfl | rfl <;> rfl
theorem isNum_lt {j : Nat} (hj : isNum j = true) : j < 10 := by simp [isNum] at hj; omega
theorem cls_upd {qs : List Ck} {n j : Nat} (hn : n < qs.length) (hj : isNum j = true) (x : Int) : cls (qs.set n (cupd j (ck qs n) x)) = (cls qs).set (n * 10 + j) (.int .i64 x) := by
  have h10 := isNum_lt hj
  induction qs generalizing n with
  | nil => simp at hn
  | cons k qs ih =>
    cases n with
    | zero => rw [List.set_cons_zero, cls_cons, cls_cons, ck_zero, cl_upd hj, Nat.zero_mul, Nat.zero_add, List.set_append_left _ _ (by simpa [cl] using h10)]
    | succ n =>
      rw [List.set_cons_succ, cls_cons, cls_cons, ck_cons, ih (by simpa using hn), List.set_append_right _ _ (by simp [cl]; omega)]
      congr 2
      simp [cl]; omega
theorem ck_set_eq {qs : List Ck} {n : Nat} (hn : n < qs.length) (k : Ck) : ck (qs.set n k) n = k := by unfold ck; simp [List.getD, hn]
theorem ck_set_ne {qs : List Ck} {n i : Nat} (h : n ≠ i) (k : Ck) : ck (qs.set n k) i = ck qs i := by unfold ck; simp [List.getD, h]
theorem ck_left {rs : List Ck} {k : Ck} {i : Nat} (h : i < rs.length) : ck (rs ++ [k]) i = ck rs i := by
  unfold ck; simp [List.getD, List.getElem?_append_left h]
theorem ck_last (rs : List Ck) (k : Ck) : ck (rs ++ [k]) rs.length = k := by unfold ck; simp [List.getD]
theorem cset_self (qs : List Ck) (n : Nat) : qs.set n (ck qs n) = qs := by
  apply List.ext_getElem?
  intro i
  by_cases e : n = i
  · subst e
    by_cases h : n < qs.length
    · unfold ck; simp [List.getD, h]
    · rw [List.getElem?_eq_none (by simp; omega), List.getElem?_eq_none (by omega)]
  · simp [e]
end Go.Proofs.Ytafaafaclijfiaa

namespace Go.Proofs.Ytafaafaclijfiaa
open Go.RowKit
open M

theorem Rise.lt {rs : List Ky} {A : Int} (h : Rise rs A) {i j : Nat} (hij : i < j) (hj : j < rs.length) : (ky rs i).t < (ky rs j).t := by
  induction j with
  | zero => omega
  | succ j ih =>
    have := h.up j hj
    by_cases e : i = j
    · subst e; exact this
    · have := ih (by omega) (by omega); omega
theorem find_key {rs : List Ky} {A : Int} (h : Rise rs A) {n : Nat} (hn : n < rs.length) : find rs (ky rs n).t = n := by
  have : ∀ m, n < m → m ≤ rs.length → findN rs (ky rs n).t m = n := by
    intro m
    induction m with
    | zero => omega
    | succ m ih =>
      intro h1 h2
      by_cases e : n = m
      · subst e; exact findN_hit (Int.le_refl _)
      · have := h.lt (i := n) (j := m) (by omega) (by omega)
        rw [findN_miss (by omega)]
        exact ih (by omega) (by omega)
  exact this _ hn (Nat.le_refl _)
theorem prt_bd (f o t : Int) : 0 ≤ prt f o t ∧ prt f o t ≤ 65536 := by
  rcases part_cases f o t with ⟨_, e⟩ | ⟨_, _, e⟩ | ⟨h1, h2, e⟩
  · rw [e]; omega
  · rw [e]; omega
  · rw [e]; exact quo_bd (by omega) (by omega) (by omega)
theorem goes_bd {h a b c d p : Int} (h0 : 0 ≤ h) (h1 : h ≤ 1) (p0 : 0 ≤ p) (p1 : p ≤ 65536) : 0 ≤ goes h a b c d p ∧ goes h a b c d p ≤ 65536 := by
  have : h = 0 ∨ h = 1 := by omega
  unfold goes
  rcases this with rfl | rfl
  · rw [if_pos rfl]; split <;> omega
  · rw [if_neg (by decide), if_pos rfl]; omega
theorem goes_zero (h a b c d : Int) : goes h a b c d 0 = 0 := by
  unfold goes
  by_cases h0 : h = 0
  · rw [if_pos h0]; rfl
  · rw [if_neg h0]
    by_cases h1 : h = 1
    · rw [if_pos h1]
    · rw [if_neg h1]
      by_cases h2 : h = 2
      · rw [if_pos h2]; exact k4_at0 a b c d
      · rw [if_neg h2]
theorem prt_self (f o : Int) : prt f o f = 0 := by unfold prt; rw [if_pos (Int.le_refl _)]
theorem atk_key {rs : List Ky} {A : Int} (h : Rise rs A) {n : Nat} (hn : n < rs.length) (no : Int) : atk rs (ky rs n).t no = (ky rs n).v := by
  have hf := find_key h hn
  rcases atk_cases rs (ky rs n).t no (by omega) with ⟨e1, _⟩ | ⟨i, e1, _, e2⟩ | ⟨i, e1, hi, e2⟩
  · omega
  · obtain rfl : n = i := by omega
    exact e2
  · obtain rfl : n = i := by omega
    rw [e2]
    unfold tween
    rw [prt_self, goes_zero]
    have a := h.val n hn
    have b := h.val (n + 1) hi
    exact (mid_ends (by omega) (by omega) (by omega) (by omega)).1
theorem tween_in {x y : Ky} {t : Int} (x0 : -67108864 < x.v) (x1 : x.v < 67108864) (y0 : -67108864 < y.v) (y1 : y.v < 67108864) (h0 : 0 ≤ x.h) (h1 : x.h ≤ 1) :
    min x.v y.v ≤ tween x y t ∧ tween x y t ≤ max x.v y.v := by
  unfold tween
  obtain ⟨p0, p1⟩ := prt_bd x.t y.t t
  obtain ⟨g0, g1⟩ := goes_bd (a := x.a) (b := x.b) (c := x.c) (d := x.d) h0 h1 p0 p1
  exact mid_in (by omega) (by omega) (by omega) (by omega) g0 g1

/-- Field j of a key set. -/
def updK (j : Nat) (k : Ky) (x : Int) : Ky := match j with
  | 0 => { k with t := x }
  | 1 => { k with v := x }
  | 2 => { k with h := x }
  | 3 => { k with a := x }
  | 4 => { k with b := x }
  | 5 => { k with c := x }
  | _ => { k with d := x }
theorem kl_upd {j : Nat} (hj : j < 7) (k : Ky) (x : Int) : kl (updK j k x) = (kl k).set j (.int .i64 x) := by
  match j, hj with
  | 0, _ => rfl
  | 1, _ => rfl
  | 2, _ => rfl
  | 3, _ => rfl
  | 4, _ => rfl
  | 5, _ => rfl
  | 6, _ => rfl
theorem kls_upd {qs : List Ky} {n j : Nat} (hn : n < qs.length) (hj : j < 7) (x : Int) : kls (qs.set n (updK j (ky qs n) x)) = (kls qs).set (n * 7 + j) (.int .i64 x) := by
  induction qs generalizing n with
  | nil => simp at hn
  | cons k qs ih =>
    cases n with
    | zero => rw [List.set_cons_zero, kls_cons, kls_cons, ky_zero, kl_upd hj, Nat.zero_mul, Nat.zero_add, List.set_append_left _ _ (by simpa [kl] using hj)]
    | succ n =>
      rw [List.set_cons_succ, kls_cons, kls_cons, ky_cons, ih (by simpa using hn), List.set_append_right _ _ (by simp [kl]; omega)]
      congr 2
      simp [kl]; omega
theorem ky_set_eq {qs : List Ky} {n : Nat} (hn : n < qs.length) (k : Ky) : ky (qs.set n k) n = k := by unfold ky; simp [List.getD, hn]
theorem ky_set_ne {qs : List Ky} {n i : Nat} (h : n ≠ i) (k : Ky) : ky (qs.set n k) i = ky qs i := by unfold ky; simp [List.getD, h]
theorem set_set {qs : List Ky} {n : Nat} (k l : Ky) : (qs.set n k).set n l = qs.set n l := by simp
theorem set_self (qs : List Ky) (n : Nat) : qs.set n (ky qs n) = qs := by
  apply List.ext_getElem?
  intro i
  by_cases e : n = i
  · subst e
    by_cases h : n < qs.length
    · unfold ky; simp [List.getD, h]
    · rw [List.getElem?_eq_none (by simp; omega), List.getElem?_eq_none (by omega)]
  · simp [e]
theorem Rise.set {rs : List Ky} {A : Int} (h : Rise rs A) {n : Nat} {k : Ky} (ht : k.t = (ky rs n).t) (hv : -67108864 < k.v ∧ k.v < 67108864) (hh : 0 ≤ k.h ∧ k.h ≤ 2) : Rise (rs.set n k) A := by
  have e : ∀ i, i < rs.length → (ky (rs.set n k) i).t = (ky rs i).t := by
    intro i hi
    by_cases e : n = i
    · subst e; rw [ky_set_eq hi, ht]
    · rw [ky_set_ne e]
  refine ⟨by simpa using h.few, by simpa using h.top, h.bot, ?_, ?_, ?_, ?_⟩
  · intro i hi
    simp at hi
    rw [e i hi]; exact h.tick i hi
  · intro i hi
    simp at hi
    by_cases e : n = i
    · subst e; rw [ky_set_eq hi]; exact hv
    · rw [ky_set_ne e]; exact h.val i hi
  · intro i hi
    simp at hi
    by_cases e : n = i
    · subst e; rw [ky_set_eq hi]; exact hh
    · rw [ky_set_ne e]; exact h.how i hi
  · intro i hi
    simp at hi
    rw [e i (by omega), e (i + 1) hi]; exact h.up i hi
end Go.Proofs.Ytafaafaclijfiaa

namespace Go.Proofs.Ytafaafaclijfiaa
open Go.RowKit
open M

/-- Keys of colours that rise, within the bounds of 'rising', all of them at most at the tick A. -/
structure Crise (rs : List Ck) (A : Int) : Prop where
  few : rs.length ≤ 40
  top : A ≤ 8 * rs.length - 5
  bot : -5 ≤ A
  ok : ∀ i, i < rs.length → (ck rs i).p.Ok
  tick : ∀ i, i < rs.length → -5 < (ck rs i).t ∧ (ck rs i).t ≤ A
  how : ∀ i, i < rs.length → 0 ≤ (ck rs i).h ∧ (ck rs i).h ≤ 2
  plain : ∀ i, i < rs.length → (ck rs i).h ≠ 2 → (ck rs i).a = 0 ∧ (ck rs i).b = 0 ∧ (ck rs i).c = 0 ∧ (ck rs i).d = 0
  up : ∀ i, i + 1 < rs.length → (ck rs i).t < (ck rs (i + 1)).t
theorem Crise.nil : Crise [] (-5) := ⟨by simp, by simp, by decide, by simp, by simp, by simp, by simp, by simp⟩
theorem Crise.snoc {rs : List Ck} {A : Int} (h : Crise rs A) {k : Ck} (hl : rs.length < 40) (hk : k.p.Ok) (h1 : A + 1 ≤ k.t) (h2 : k.t ≤ A + 8) (a1 : 0 ≤ k.h) (a2 : k.h ≤ 2) (a3 : k.h ≠ 2 → k.a = 0 ∧ k.b = 0 ∧ k.c = 0 ∧ k.d = 0) : Crise (rs ++ [k]) k.t := by
  have hb := h.bot
  have ht := h.top
  refine ⟨by simp; omega, by simp; omega, by omega, ?_, ?_, ?_, ?_, ?_⟩
  · intro i hi
    simp at hi
    by_cases e : i < rs.length
    · rw [ck_left e]; exact h.ok i e
    · obtain rfl : i = rs.length := by omega
      rw [ck_last]; exact hk
  · intro i hi
    simp at hi
    by_cases e : i < rs.length
    · rw [ck_left e]; have := h.tick i e; omega
    · obtain rfl : i = rs.length := by omega
      rw [ck_last]; omega
  · intro i hi
    simp at hi
    by_cases e : i < rs.length
    · rw [ck_left e]; exact h.how i e
    · obtain rfl : i = rs.length := by omega
      rw [ck_last]; omega
  · intro i hi
    simp at hi
    by_cases e : i < rs.length
    · rw [ck_left e]; exact h.plain i e
    · obtain rfl : i = rs.length := by omega
      rw [ck_last]; exact a3
  · intro i hi
    simp at hi
    by_cases e : i + 1 < rs.length
    · rw [ck_left e, ck_left (by omega)]; exact h.up i e
    · have e2 : i + 1 = rs.length := by omega
      rw [ck_left (by omega), e2, ck_last]
      have := (h.tick i (by omega)).2
      omega
/-- A slice of colour keys that came in: none, or as many as its length says, of which the first forty are these. -/
def Carg (w : World) (v : Value) (ks : List Ck) : Prop := (ks = [] ∧ ∃ ao cap, v = .slice ao 0 cap) ∨ ∃ g o len cap, v = .slice (some ⟨g, o, none⟩) len cap ∧ 0 < len ∧ len ≤ cap ∧ cap ≤ 9223372036854775807 ∧ ks.length = min len 40 ∧ Crow w g o ks
theorem Carg.below {w w' : World} {v : Value} {ks : List Ck} (h : Carg w v ks) (hb : Below w.heap.size w w') : Carg w' v ks := by
  rcases h with h | ⟨g, o, len, cap, hv, h0, h1, h2, hn, hr⟩
  · exact Or.inl h
  · exact Or.inr ⟨g, o, len, cap, hv, h0, h1, h2, hn, hr.below hb (hr.lt (by omega))⟩

end Go.Proofs.Ytafaafaclijfiaa

namespace Go.Proofs.Ytafaafaclijfiaa
open Go.RowKit Go.ChangeShapes Go.WideShapes Go.Deep
open M

section
variable {H : Type} {enc : TypeId × Value → H} {w : World} {base : Nat} {spare : Nat → Bool} {held : Bool}
theorem cells_i64 : Try.prog.cellsOf 2 = 1 := by kernel_rfl
theorem cells_int : Try.prog.cellsOf 3 = 1 := by kernel_rfl
theorem some_at {α : Type} {xs : List α} {i n : Nat} (h : xs.length = n) (hi : i < n) : ∃ x, xs[i]? = some x := ⟨_, List.getElem?_eq_getElem (by omega)⟩
theorem int_one {t : TypeId} {n : Nat} {c : Value} {x : Option (DataW H × List MemPlace)} (ht : Try.prog.underlying t = some (.int .i64)) (h : DataW.trod enc Try.prog w base spare held n t [c] = x) (hx : ∃ y, x = some y) : ∃ k : Int, c = .int .i64 k := by
  obtain ⟨y, rfl⟩ := hx
  obtain ⟨k, hk, _⟩ := DataW.trod_int ht h
  exact ⟨k, by simpa using hk⟩
end

end Go.Proofs.Ytafaafaclijfiaa

namespace Go.Proofs.Ytafaafaclijfiaa
open Go.RowKit Go.ChangeShapes Go.WideShapes Go.Deep
open M

section
variable {H : Type} {enc : TypeId × Value → H} {w : World} {base : Nat} {spare : Nat → Bool} {held : Bool}
theorem cells_u8 : Try.prog.cellsOf 5 = 1 := by kernel_rfl
theorem cells_color : Try.prog.cellsOf 23 = 4 := by kernel_rfl
theorem byte_bd {n : Int} (h : (Lit.int .u8 n).wf = true) : 0 ≤ n ∧ n ≤ 255 := by
  simp [Lit.wf, IntKind.min, IntKind.max, IntKind.signed, IntKind.bits] at h
  omega
theorem byte_one {n : Nat} {c : Value} {y : DataW H × List MemPlace} (h : DataW.trod enc Try.prog w base spare held n 5 [c] = some y) : ∃ k : Int, c = .int .u8 k ∧ 0 ≤ k ∧ k ≤ 255 := by
  obtain ⟨k, hk, _, hw⟩ := DataW.trod_int Try.underlying5 h
  exact ⟨k, by simpa using hk, byte_bd hw⟩
set_option maxRecDepth 100000 in
theorem four_bytes {t : TypeId} (ht : Try.prog.underlying t = some (.array 4 5)) {n : Nat} {c0 c1 c2 c3 : Value} {y : DataW H × List MemPlace} (h : DataW.trod enc Try.prog w base spare held n t [c0, c1, c2, c3] = some y) : ∃ x : Cr, [c0, c1, c2, c3] = (cCells x).toList ∧ x.Ok := by
  obtain ⟨y0, y1, y2, y3, m, _, h0, h1, h2, h3⟩ := trod_array4 ht cells_u8 h
  obtain ⟨a, rfl, a0, a1⟩ := byte_one h0
  obtain ⟨b, rfl, b0, b1⟩ := byte_one h1
  obtain ⟨c, rfl, e0, e1⟩ := byte_one h2
  obtain ⟨d, rfl, d0, d1⟩ := byte_one h3
  exact ⟨⟨a, b, c, d⟩, rfl, ⟨a0, a1, b0, b1, e0, e1, d0, d1⟩⟩
theorem okWide_four {P : Program} {t e : TypeId} {n : Nat} {r : Reach} {b0 : Nat} {v : Value} (ht : P.underlying t = some (.array n e)) (h : Value.okWide P w r b0 t v) : ∃ cs, v = .agg cs ∧ cs.size = P.cellsOf t := by
  unfold Value.okWide at h
  rw [ht] at h
  obtain ⟨cs, hv, hs, _⟩ := h
  exact ⟨cs, hv, hs⟩
set_option maxRecDepth 100000 in
theorem open_four {t : TypeId} (ht : Try.prog.underlying t = some (.array 4 5)) (hc : Try.prog.cellsOf t = 4) {r : Reach} {b0 : Nat} {v : Value} {d : DataW H} {p : List MemPlace} (hv : Value.okWide Try.prog w r b0 t v) (h : DataW.Trod enc Try.prog w base (fun _ => true) held t v d p) : ∃ x : Cr, v = .agg (cCells x) ∧ x.Ok := by
  obtain ⟨⟨L⟩, rfl, hs⟩ := okWide_four ht hv
  rw [hc] at hs
  obtain ⟨fuel, hf⟩ := h
  have hl : L.length = 4 := by simpa using hs
  match L, hl with
  | [c0, c1, c2, c3], _ =>
    have hf' : DataW.trod enc Try.prog w base (fun _ => true) held fuel t [c0, c1, c2, c3] = some (d, p) := hf
    obtain ⟨x, hx, hok⟩ := four_bytes ht hf'
    refine ⟨x, ?_, hok⟩
    rw [hx]
set_option maxRecDepth 100000 in
theorem open_color {r : Reach} {b0 : Nat} {v : Value} {d : DataW H} {p : List MemPlace} (hv : Value.okWide Try.prog w r b0 23 v) (h : DataW.Trod enc Try.prog w base (fun _ => true) held 23 v d p) : ∃ x : Cr, v = .agg (cCells x) ∧ x.Ok :=
  open_four Try.underlying23 cells_color hv h
end

end Go.Proofs.Ytafaafaclijfiaa

namespace Go.Proofs.Ytafaafaclijfiaa
open Go Go.RowKit
open M

/-- A place's cells. -/
abbrev pCells (p : Pt) : Array Value := #[.int .i64 p.x, .int .i64 p.y]
/-- A row of places lies in block g from cell o on. -/
structure Prow (w : World) (g o : Nat) (ps : List Pt) : Prop where
  few : ps.length ≤ 8796093022208
  c0 : ∀ i, i < ps.length → w.cell? ⟨g, o + i * 2, none⟩ = some (.int .i64 (pt ps i).x)
  c1 : ∀ i, i < ps.length → w.cell? ⟨g, o + i * 2 + 1, none⟩ = some (.int .i64 (pt ps i).y)
theorem Prow.lt {w : World} {g o : Nat} {ps : List Pt} (h : Prow w g o ps) (hn : 0 < ps.length) : g < w.heap.size := World.block_lt_of_cell? w _ (h.c0 0 hn)
theorem Prow.block {w w' : World} {g o : Nat} {ps : List Pt} (h : Prow w g o ps) (hb : w'.heap[g]? = w.heap[g]?) : Prow w' g o ps :=
  ⟨h.few, fun i hi => (World.cell?_of_block (a := ⟨g, _, _⟩) hb).trans (h.c0 i hi), fun i hi => (World.cell?_of_block (a := ⟨g, _, _⟩) hb).trans (h.c1 i hi)⟩
/-- The slice's value v holds just these places. -/
def Psl (w : World) (v : Value) (ps : List Pt) : Prop := ∃ ao cap, v = .slice ao ps.length cap ∧ ps.length ≤ 8796093022208 ∧ (0 < ps.length → ∃ g o, ao = some ⟨g, o, none⟩ ∧ Prow w g o ps)
theorem Psl.few {w : World} {v : Value} {ps : List Pt} (h : Psl w v ps) : ps.length ≤ 8796093022208 := by
  obtain ⟨_, _, _, h, _⟩ := h
  exact h
theorem Psl.blocks {w w' : World} {v : Value} {ps : List Pt} (h : Psl w v ps) (hb : ∀ k, k < w.heap.size → v.ownBlock = some k → w'.heap[k]? = w.heap[k]?) : Psl w' v ps := by
  obtain ⟨ao, cap, rfl, hf, hr⟩ := h
  refine ⟨ao, cap, rfl, hf, fun h0 => ?_⟩
  obtain ⟨g, o, rfl, hr'⟩ := hr h0
  exact ⟨g, o, rfl, hr'.block (hb g (hr'.lt h0) rfl)⟩
theorem Psl.below {w w' : World} {v : Value} {ps : List Pt} {B : Nat} (h : Psl w v ps) (hb : Below B w w') (hB : w.heap.size ≤ B) : Psl w' v ps := h.blocks fun k hk _ => hb.block k (by omega)
theorem Psl.grown {w w' : World} {v : Value} {ps : List Pt} {row : Option Nat} (h : Psl w v ps) (hg : w.grownBy w' row) (hr : ∀ k, row = some k → v.ownBlock ≠ some k) : Psl w' v ps :=
  h.blocks fun k hk hv => hg.block k hk fun e => hr k e.symm hv
theorem Psl.alloc {w : World} {v : Value} {ps : List Pt} (h : Psl w v ps) (o : Obj) : Psl (w.alloc o) v ps := h.blocks fun k hk _ => (MapKept.heap_alloc w o).2 k hk
theorem Psl.later {W : World} {v : Value} {ps : List Pt} (h : Psl W v ps) (z : Later W) : Psl z.to v ps := h.below z.below (Nat.le_refl _)
theorem Psl.drewN {w : World} {v : Value} {ps : List Pt} (h : Psl w v ps) (n : Nat) : Psl (w.drewN n) v ps := h.blocks fun _ _ _ => rfl
theorem Psl.drew {w : World} {v : Value} {ps : List Pt} (h : Psl w v ps) : Psl w.drew v ps := h.blocks fun _ _ _ => rfl

/-- A place's cells, as a list; a list of places' cells. -/
def pl (p : Pt) : List Value := [.int .i64 p.x, .int .i64 p.y]
def pls (ps : List Pt) : List Value := ps.flatMap pl
theorem pls_cons (p : Pt) (ps : List Pt) : pls (p :: ps) = pl p ++ pls ps := by simp [pls]
theorem pls_append (ps qs : List Pt) : pls (ps ++ qs) = pls ps ++ pls qs := by simp [pls]
theorem pls_length (ps : List Pt) : (pls ps).length = ps.length * 2 := by
  induction ps with
  | nil => rfl
  | cons p ps ih => rw [pls_cons, List.length_append, ih]; simp [pl]; omega
theorem pls_at {ps : List Pt} {i j : Nat} (hi : i < ps.length) (hj : j < 2) : (pls ps)[i * 2 + j]? = (pl (pt ps i))[j]? := by
  induction ps generalizing i with
  | nil => simp at hi
  | cons p ps ih =>
    rw [pls_cons]
    cases i with
    | zero => rw [pt_zero, Nat.zero_mul, Nat.zero_add, List.getElem?_append_left (by simpa [pl] using hj)]
    | succ i =>
      rw [pt_cons, List.getElem?_append_right (by simp [pl]; omega)]
      rw [← ih (by simpa using hi)]
      congr 1
      simp [pl]; omega
theorem ones_pls (ps : List Pt) : ∀ u ∈ pls ps, u.oneCell' = true := by
  intro u hu
  obtain ⟨p, _, hp⟩ := List.mem_flatMap.1 hu
  simp [pl] at hp
  rcases hp with rfl | rfl <;> rfl
theorem prow_of {w : World} {g o : Nat} {ps : List Pt} (hf : ps.length ≤ 8796093022208) (h : ∀ j u, (pls ps)[j]? = some u → w.cell? ⟨g, o + j, none⟩ = some u) : Prow w g o ps := by
  have key : ∀ i j u, i < ps.length → j < 2 → (pl (pt ps i))[j]? = some u → w.cell? ⟨g, o + i * 2 + j, none⟩ = some u := by
    intro i j u hi hj hu
    rw [Nat.add_assoc]
    exact h _ _ ((pls_at hi hj).trans hu)
  exact ⟨hf, fun i hi => key i 0 _ hi (by omega) rfl, fun i hi => key i 1 _ hi (by omega) rfl⟩
theorem Prow.at {w : World} {g o : Nat} {ps : List Pt} (h : Prow w g o ps) : ∀ j u, (pls ps)[j]? = some u → w.cell? ⟨g, o + j, none⟩ = some u := by
  intro j u hu
  have hj : j < ps.length * 2 := by
    have := (List.getElem?_eq_some_iff.1 hu).1
    rwa [pls_length] at this
  have e1 : j = j / 2 * 2 + j % 2 := by omega
  have hi : j / 2 < ps.length := by omega
  rw [e1, pls_at hi (by omega)] at hu
  rcases (show j % 2 = 0 ∨ j % 2 = 1 by omega) with e | e
  · rw [e] at hu e1
    simp [pl] at hu
    rw [e1, ← hu]
    exact h.c0 _ hi
  · rw [e] at hu e1
    simp [pl] at hu
    rw [e1, ← Nat.add_assoc, ← hu]
    exact h.c1 _ hi
theorem prow_has {w : World} {g : Nat} {ps : List Pt} {cs : Array Value} {t : TypeId} (hf : ps.length ≤ 8796093022208) (h : Has w g cs t) (hc : cs.toList = pls ps) : Prow w g 0 ps := by
  refine prow_of hf fun j u hu => ?_
  rw [Nat.zero_add]
  refine h.cell j u ?_
  rw [← hc] at hu
  simpa using hu
theorem psl_lit {w : World} {g : Nat} {ps : List Pt} {cs : Array Value} {t : TypeId} (n c : Nat) (hn : ps.length = n) (hf : n ≤ 8796093022208) (h : Has w g cs t) (hc : cs.toList = pls ps) : Psl w (.slice (some ⟨g, 0, none⟩) n c) ps := by
  subst hn
  exact ⟨_, c, rfl, hf, fun _ => ⟨g, 0, rfl, prow_has hf h hc⟩⟩
theorem psl_nil (w : World) (ao : Option Addr) (cap : Nat) : Psl w (.slice ao 0 cap) [] := ⟨ao, cap, rfl, by simp, fun h => by simp at h⟩

/-- The value v of a call's own holds just these places, in its own blocks from 'base' on. -/
def Pown (w : World) (base : Nat) (v : Value) (ps : List Pt) : Prop := w.ownsRow base 25 2 v ps.length (pls ps)
theorem Pown.sl {w : World} {base : Nat} {v : Value} {ps : List Pt} (h : Pown w base v ps) (hf : ps.length ≤ 8796093022208) : Psl w v ps := by
  rcases h.2 with ⟨rfl, hn⟩ | ⟨g, cap, cur, rfl, _, hg, _, _, _, ht⟩
  · exact ⟨none, 0, by rw [hn], hf, fun h0 => by omega⟩
  · refine ⟨_, cap, rfl, hf, fun _ => ⟨g, 0, rfl, prow_of hf fun j u hu => ?_⟩⟩
    rw [Nat.zero_add, cell_of_row w g j cur _ _ hg]
    rw [← ht, List.getElem?_take] at hu
    split at hu
    · simpa using hu
    · cases hu
theorem Pown.nil (w : World) (base : Nat) : Pown w base (.slice none 0 0) [] := World.ownsRow_nil _ _ _ _
theorem Pown.alloc {w : World} {base : Nat} {v : Value} {ps : List Pt} (h : Pown w base v ps) (o : Obj) : Pown (w.alloc o) base v ps := World.ownsRow.alloc h o
theorem Pown.kept {w w' : World} {B : Nat} {v : Value} {ps : List Pt} {row : Option Nat} (h : Pown w B v ps) (hg : w.grownBy w' row) (hr : ∀ k, row = some k → v.ownBlock ≠ some k) : Pown w' B v ps := by
  refine World.ownsRow.kept h hg ?_
  by_cases e : v.ownBlock = none
  · exact Or.inl e
  · refine Or.inr fun e2 => ?_
    cases hrow : row with
    | none => rw [hrow] at e2; exact e e2
    | some k => rw [hrow] at e2; exact hr k hrow e2
theorem Pown.base {w : World} {B : Nat} {v : Value} {ps : List Pt} (h : Pown w B v ps) (k : Nat) (hk : v.ownBlock = some k) : B ≤ k ∧ k < w.heap.size := World.ownsRow.lt h k hk
theorem Pown.young {w w' : World} {B g : Nat} {v : Value} {ps : List Pt} (h : Pown w B v ps) (hg : w.grownBy w' (some g)) (hB : g < B) : Pown w' B v ps := h.kept hg fun k hk e => by simp at hk; have := (h.base k e).1; omega
theorem grownBy_below {w w' : World} {B : Nat} (h : Below B w w') (hB : w.heap.size ≤ B) : w.grownBy w' none := ⟨h.os, h.tape, h.output, h.size, fun k hk _ => h.block k (by omega)⟩
theorem Pown.below {w w' : World} {B B' : Nat} {v : Value} {ps : List Pt} (h : Pown w B v ps) (hb : Below B' w w') (hB : w.heap.size ≤ B') : Pown w' B v ps := h.kept (grownBy_below hb hB) fun k hk => by cases hk
theorem Pown.lower {w : World} {B B' : Nat} {v : Value} {ps : List Pt} (h : Pown w B v ps) (hB : B' ≤ B) : Pown w B' v ps := by
  refine ⟨h.1, ?_⟩
  rcases h.2 with h | ⟨g, cap, cur, a, b, r⟩
  · exact Or.inl h
  · exact Or.inr ⟨g, cap, cur, a, by omega, r⟩
theorem Pown.shape {w : World} {B : Nat} {v : Value} {ps : List Pt} (h : Pown w B v ps) (h0 : 0 < ps.length) : ∃ g cap, v = .slice (some ⟨g, 0, none⟩) ps.length cap := by
  rcases h.2 with ⟨_, hn⟩ | ⟨g, cap, cur, rfl, _⟩
  · omega
  · exact ⟨g, cap, rfl⟩
theorem Pown.len {w : World} {B : Nat} {v : Value} {ps : List Pt} (h : Pown w B v ps) : ∃ ao cap, v = .slice ao ps.length cap := by
  rcases h.2 with ⟨rfl, hn⟩ | ⟨g, cap, cur, rfl, _⟩
  · exact ⟨none, 0, by rw [hn]⟩
  · exact ⟨_, cap, rfl⟩
theorem Pown.row {w : World} {B g cap N : Nat} {ps : List Pt} (h : Pown w B (.slice (some ⟨g, 0, none⟩) N cap) ps) (hf : ps.length ≤ 8796093022208) (h0 : 0 < ps.length) : Prow w g 0 ps := by
  obtain ⟨ao, cap', hv, _, hr⟩ := h.sl hf
  simp at hv
  obtain ⟨rfl, _, _⟩ := hv
  obtain ⟨g', o, e, hr⟩ := hr h0
  simp at e
  obtain ⟨rfl, rfl⟩ := e
  exact hr
theorem Pown.fro {w : World} {B g cap N : Nat} {ps : List Pt} (h : Pown w B (.slice (some ⟨g, 0, none⟩) N cap) ps) (hN : ps.length = N) (j : Nat) : w.frozen? ⟨g, j, none⟩ = false := by
  unfold Pown at h
  rw [hN] at h
  exact World.ownsRow.frozenAt h j
/-- Place n of a list stored: both its cells. -/
theorem pls_set {ps : List Pt} {n : Nat} (hn : n < ps.length) (p : Pt) : pls (ps.set n p) = ((pls ps).set (n * 2) (.int .i64 p.x)).set (n * 2 + 1) (.int .i64 p.y) := by
  induction ps generalizing n with
  | nil => simp at hn
  | cons q ps ih =>
    cases n with
    | zero => simp [pls_cons, pl]
    | succ n =>
      rw [List.set_cons_succ, pls_cons, pls_cons, ih (by simpa using hn), List.set_append_right _ _ (by simp [pl]; omega), List.set_append_right _ _ (by simp [pl]; omega)]
      congr 2
      · congr 1; simp [pl]; omega
      · simp [pl]; omega
theorem Pown.put {w : World} {B g cap N n : Nat} {ps : List Pt} (h : Pown w B (.slice (some ⟨g, 0, none⟩) N cap) ps) (hN : ps.length = N) (hn : n < N) (p : Pt) :
    Pown ((w.setCell ⟨g, n * 2, none⟩ (.int .i64 p.x)).setCell ⟨g, n * 2 + 1, none⟩ (.int .i64 p.y)) B (.slice (some ⟨g, 0, none⟩) N cap) (ps.set n p) := by
  subst hN
  unfold Pown at h ⊢
  rw [pls_set hn, List.length_set]
  exact (World.ownsRow.stored (World.ownsRow.stored h _ _).1 _ _).1

/-- What make lays. -/
def zer (n : Nat) : Array Value := madeCells #[.int .i64 0, .int .i64 0] (n * 2)
theorem zer_pls (n : Nat) : (zer n).toList = pls (List.replicate n default) := by
  apply List.ext_getElem?
  intro j
  by_cases h : j < n * 2
  · have e1 : j = j / 2 * 2 + j % 2 := by omega
    have h2 : j % 2 < 2 := by omega
    have e2 : pt (List.replicate n default) (j / 2) = default := by
      unfold pt
      rw [List.getD_eq_getElem?_getD, List.getElem?_replicate]
      split <;> rfl
    have e3 : (pls (List.replicate n default))[j]? = some (.int .i64 0) := by
      rw [e1, pls_at (by simp; omega) h2, e2]
      rcases (show j % 2 = 0 ∨ j % 2 = 1 by omega) with e | e <;> rw [e] <;> rfl
    rw [e3]
    have e4 : (#[.int .i64 0, .int .i64 0] : Array Value)[j % 2]! = .int .i64 0 := by
      rcases (show j % 2 = 0 ∨ j % 2 = 1 by omega) with e | e <;> rw [e] <;> rfl
    have e5 : (zer n)[j]? = some (.int .i64 0) := by
      unfold zer madeCells
      rw [Array.getElem?_map, Array.getElem?_eq_getElem (by simpa using h)]
      simp only [Array.getElem_range, Option.map_some]
      exact congrArg some e4
    simpa using e5
  · rw [List.getElem?_eq_none (by simp [zer, size_madeCells]; omega), List.getElem?_eq_none (by rw [pls_length]; simp; omega)]
theorem Try.infoPt : (Try.prog.info? 25).map (fun i => (i.zero, i.size, i.bytes)) = some (some (.agg #[.int .i64 0, .int .i64 0]), 2, 16) := by kernel_rfl
theorem own_made {w : World} {B n : Nat} (hn : n ≤ 8796093022208) (hb : B ≤ w.heap.size) {H : Nat} (hH : w.heap.size = H) : Pown (w.alloc (.cells (zer n) 25)) B (.slice (some ⟨H, 0, none⟩) n n) (List.replicate n default) := by
  subst hH
  have h := World.ownsRow_lit (e := 25) (size := 2) w (zer n) n hb (by unfold maxLen; omega) (by simp [zer, size_madeCells])
  unfold Pown
  rw [List.length_replicate, ← zer_pls]
  exact h

section
variable {P : Program}
/-- 'copy' of elements of 's' cells into a row of the call's own, from its head: as many cells as both have. -/
theorem run_copy_wide (w : World) (dT sT ty elem : TypeId) (g dLen dCap : Nat) (a : Addr) (sLen sCap s : Nat) (cur : Array Value) (t : TypeId) (cs : List Value)
    (hu : P.underlying dT = some (.slice elem)) (hs : (P.info? elem).map (·.size) = some s)
    (hg : w.heap[g]? = some (.cells cur t (0, 0))) (hn : cs.length = Nat.min sLen dLen * s)
    (hsrc : ∀ j v, cs[j]? = some v → w.cell? (a.add j) = some v) (hfit : cs.length ≤ cur.size) (h1 : ∀ v ∈ cs, v.oneCell' = true) :
    (Builtin.copy_ #[dT, sT] ty #[.slice (some ⟨g, 0, none⟩) dLen dCap, .slice (some a) sLen sCap]).run P w =
      .ok (goInt (Nat.min sLen dLen)) (w.setRow g (cs ++ cur.toList.drop cs.length).toArray) := by
  have hl := run_loadCells_list (P := P) w a cs hsrc
  have hst := run_storeCells_at P g 0 t cs 0 cur w hg (by simpa using hfit) h1
  simp only [Nat.zero_add, List.take_zero, List.nil_append] at hst
  cases hq : P.info? elem with
  | none => simp [hq] at hs
  | some i =>
    have hi : i.size = s := by simpa [hq] using hs
    simp [Builtin.copy_, run_underlying hu, Builtin.lenOf, Builtin.firstCells, sizeOf, typeInfo, hq, hi, ← hn, hl, hst]
end
end Go.Proofs.Ytafaafaclijfiaa

namespace Go.Proofs.Ytafaafaclijfiaa
open Go.RowKit Go.ChangeShapes Go.WideShapes Go.Deep
open M

section
variable {H : Type} {enc : TypeId × Value → H} {w : World} {base : Nat} {spare : Nat → Bool} {held : Bool}
theorem cells16_i64 : Try.prog.cellsOf 2 = 1 := by kernel_rfl
theorem cells16_int : Try.prog.cellsOf 3 = 1 := by kernel_rfl
theorem cells16_pt : Try.prog.cellsOf 25 = 2 := by kernel_rfl
theorem cells16_paint : Try.prog.cellsOf 27 = 14 := by kernel_rfl
theorem some16_at {α : Type} {xs : List α} {i n : Nat} (h : xs.length = n) (hi : i < n) : ∃ x, xs[i]? = some x := ⟨_, List.getElem?_eq_getElem (by omega)⟩
theorem int16_one {t : TypeId} {n : Nat} {c : Value} {x : Option (DataW H × List MemPlace)} (ht : Try.prog.underlying t = some (.int .i64)) (h : DataW.trod enc Try.prog w base spare held n t [c] = x) (hx : ∃ y, x = some y) : ∃ k : Int, c = .int .i64 k := by
  obtain ⟨y, rfl⟩ := hx
  obtain ⟨k, hk, _, hw⟩ := DataW.trod_int ht h
  exact ⟨k, by simpa using hk⟩
set_option maxRecDepth 100000 in
theorem pt16_cells {n : Nat} {cs : List Value} {x : DataW H × List MemPlace} (h : DataW.trod enc Try.prog w base spare held n 25 cs = some x) : ∃ p : Pt, cs = pl p := by
  obtain ⟨xs, m, _, _, hlen, hxl, hf⟩ := DataW.trod_struct Try.underlying25 h
  rw [cells16_pt] at hlen
  match cs, hlen with
  | [c0, c1], _ =>
    have f0 : DataW.trod enc Try.prog w base spare held m 2 (([c0, c1].drop 0).take (Try.prog.cellsOf 2)) = xs[0]? := hf 0 _ rfl
    have f1 : DataW.trod enc Try.prog w base spare held m 2 (([c0, c1].drop 1).take (Try.prog.cellsOf 2)) = xs[1]? := hf 1 _ rfl
    rw [cells16_i64] at f0 f1
    obtain ⟨a, rfl⟩ := int16_one Try.underlying2 f0 (some16_at hxl (by decide))
    obtain ⟨b, rfl⟩ := int16_one Try.underlying2 f1 (some16_at hxl (by decide))
    exact ⟨⟨a, b⟩, rfl⟩
set_option maxRecDepth 100000 in
theorem paint16_cells {n : Nat} {e0 e1 e2 e3 e4 e5 e6 e7 e8 e9 e10 e11 e12 e13 : Value} {y : DataW H × List MemPlace} (h : DataW.trod enc Try.prog w base spare held n 27 [e0, e1, e2, e3, e4, e5, e6, e7, e8, e9, e10, e11, e12, e13] = some y) : ∃ c : Pa, [e0, e1, e2, e3, e4, e5, e6, e7, e8, e9, e10, e11, e12, e13] = (paCells c).toList ∧ PaOk c := by
  obtain ⟨xs, m, _, _, _, hxl, hf⟩ := DataW.trod_struct Try.underlying27 h
  have f0 : DataW.trod enc Try.prog w base spare held m 3 (([e0, e1, e2, e3, e4, e5, e6, e7, e8, e9, e10, e11, e12, e13].drop 0).take (Try.prog.cellsOf 3)) = xs[0]? := hf 0 _ rfl
  have f1 : DataW.trod enc Try.prog w base spare held m 23 (([e0, e1, e2, e3, e4, e5, e6, e7, e8, e9, e10, e11, e12, e13].drop 1).take (Try.prog.cellsOf 23)) = xs[1]? := hf 1 _ rfl
  have f2 : DataW.trod enc Try.prog w base spare held m 23 (([e0, e1, e2, e3, e4, e5, e6, e7, e8, e9, e10, e11, e12, e13].drop 5).take (Try.prog.cellsOf 23)) = xs[2]? := hf 2 _ rfl
  have f3 : DataW.trod enc Try.prog w base spare held m 25 (([e0, e1, e2, e3, e4, e5, e6, e7, e8, e9, e10, e11, e12, e13].drop 9).take (Try.prog.cellsOf 25)) = xs[3]? := hf 3 _ rfl
  have f4 : DataW.trod enc Try.prog w base spare held m 25 (([e0, e1, e2, e3, e4, e5, e6, e7, e8, e9, e10, e11, e12, e13].drop 11).take (Try.prog.cellsOf 25)) = xs[4]? := hf 4 _ rfl
  have f5 : DataW.trod enc Try.prog w base spare held m 2 (([e0, e1, e2, e3, e4, e5, e6, e7, e8, e9, e10, e11, e12, e13].drop 13).take (Try.prog.cellsOf 2)) = xs[5]? := hf 5 _ rfl
  rw [cells16_int] at f0
  rw [cells_color] at f1 f2
  rw [cells16_pt] at f3 f4
  rw [cells16_i64] at f5
  obtain ⟨y1, hy1⟩ := some16_at (i := 1) hxl (by decide)
  obtain ⟨y2, hy2⟩ := some16_at (i := 2) hxl (by decide)
  obtain ⟨y3, hy3⟩ := some16_at (i := 3) hxl (by decide)
  obtain ⟨y4, hy4⟩ := some16_at (i := 4) hxl (by decide)
  rw [hy1] at f1
  rw [hy2] at f2
  rw [hy3] at f3
  rw [hy4] at f4
  obtain ⟨k, rfl⟩ := int16_one Try.underlying3 f0 (some16_at hxl (by decide))
  obtain ⟨a, ha, oa⟩ := four_bytes Try.underlying23 (show DataW.trod enc Try.prog w base spare held m 23 [e1, e2, e3, e4] = some y1 from f1)
  obtain ⟨b, hb, ob⟩ := four_bytes Try.underlying23 (show DataW.trod enc Try.prog w base spare held m 23 [e5, e6, e7, e8] = some y2 from f2)
  obtain ⟨p, hp⟩ := pt16_cells (show DataW.trod enc Try.prog w base spare held m 25 [e9, e10] = some y3 from f3)
  obtain ⟨q, hq⟩ := pt16_cells (show DataW.trod enc Try.prog w base spare held m 25 [e11, e12] = some y4 from f4)
  obtain ⟨r, rfl⟩ := int16_one Try.underlying2 f5 (some16_at hxl (by decide))
  simp [pl] at ha hb hp hq
  obtain ⟨rfl, rfl, rfl, rfl⟩ := ha
  obtain ⟨rfl, rfl, rfl, rfl⟩ := hb
  obtain ⟨rfl, rfl⟩ := hp
  obtain ⟨rfl, rfl⟩ := hq
  exact ⟨⟨k, a, b, p, q, r⟩, rfl, oa, ob⟩
theorem open_paint {r : Reach} {b0 : Nat} {v : Value} {d : DataW H} {p : List MemPlace} (hv : Value.okWide Try.prog w r b0 27 v) (h : DataW.Trod enc Try.prog w base (fun _ => true) held 27 v d p) : ∃ c : Pa, v = .agg (paCells c) ∧ PaOk c := by
  obtain ⟨⟨L⟩, rfl, hs⟩ := okWide_struct Try.underlying27 hv
  rw [cells16_paint] at hs
  have hl : L.length = 14 := by simpa using hs
  obtain ⟨fuel, hf⟩ := h
  match L, hl with
  | [c0, c1, c2, c3, c4, c5, c6, c7, c8, c9, c10, c11, c12, c13], _ =>
    obtain ⟨c, hc, ok⟩ := paint16_cells (show DataW.trod enc Try.prog w base (fun _ => true) held fuel 27 [c0, c1, c2, c3, c4, c5, c6, c7, c8, c9, c10, c11, c12, c13] = some (d, p) from hf)
    exact ⟨c, by rw [hc], ok⟩
end

end Go.Proofs.Ytafaafaclijfiaa

namespace Go.Proofs.Ytafaafaclijfiaa
open Go.RowKit Go.ChangeShapes Go.WideShapes Go.Deep
open M

section
variable {H : Type} {enc : TypeId × Value → H} {w : World} {base : Nat} {held : Bool}
theorem cell_int : Try.prog.cellsOf 3 = 1 := by kernel_rfl
set_option maxRecDepth 100000 in
theorem open_tape {r : Reach} {b0 : Nat} {v : Value} {d : DataW H} {p : List MemPlace} (hv : Value.okWide Try.prog w r b0 33 v) (h : DataW.Trod enc Try.prog w base (fun _ => true) held 33 v d p) : ∃ _ : Unit, Nums w v := by
  refine ⟨(), ?_⟩
  obtain ⟨a0, len0, cap0, rfl⟩ := okWide_slice Try.underlying33 hv
  obtain ⟨fuel, hf⟩ := h
  rcases open_slice1 Try.underlying33 cell_int hf with ⟨hc, _⟩ | ⟨a, len, cap, m, n, V, D, Pl, hc, _, hl, hm, hmm, _, hi⟩
  · simp [Value.cells] at hc
    obtain ⟨rfl, rfl, rfl⟩ := hc
    exact Or.inl ⟨_, _, rfl⟩
  · simp [Value.cells] at hc
    obtain ⟨rfl, rfl, rfl⟩ := hc
    rw [if_pos rfl] at hmm
    subst hmm
    by_cases h0 : len0 = 0
    · subst h0
      exact Or.inl ⟨_, _, rfl⟩
    · have hspot : a.spot = none := by
        have := (hi 0 (by omega)).1
        simpa [Addr.add] using World.cell?_spot this
      obtain ⟨b, o, sp⟩ := a
      simp only at hspot
      subst hspot
      have h63 : len0 ≤ 9223372036854775807 := by
        have h := hm
        simp [maxLen] at h
        omega
      refine Or.inr ⟨b, o, len0, _, rfl, by omega, h63, fun i hil => ?_⟩
      obtain ⟨h1, h2⟩ := hi i (by omega)
      obtain ⟨k, hk, _⟩ := DataW.trod_int Try.underlying3 h2
      rw [Addr.add_lit] at h1
      refine ⟨k, h1.trans ?_⟩
      simpa using hk
end

end Go.Proofs.Ytafaafaclijfiaa

namespace Go.Proofs.Ytafaafaclijfiaa.paintTells
open Go.ChangeShapes Go.WideShapes Go.ChangeAt Go.RowKit

theorem post_below {H : Type} {enc : TypeId × Value → H} {P : Program} {f : Func} {s : ChangeSpec} {apart fresh handsOn : Bool} {W V : World} {args : Array Value} {v : Value} {ds gs : List (DataW H)} {before pa pv : List MemPlace}
    (hW : DataW.Whole enc P f.params.toList s.vars apart W args.toList ds gs before)
    (hres : ∀ (b : Nat) (sp : Nat → Bool) (hd : Bool), DataW.TrodAll enc P V b sp hd f.resultTypes.toList (v.resultList f.resultTypes.size) (s.fn H (ds ++ gs)).results [])
    (hargs : ∀ sp : Nat → Bool, (∀ p ∈ before, sp p.block = true) → DataW.TrodAll enc P V 0 sp true f.params.toList args.toList (s.fn H (ds ++ gs)).args pa)
    (hvars : ∀ sp : Nat → Bool, (∀ p ∈ before, sp p.block = true) → DataW.TrodVars enc P V sp s.vars (s.fn H (ds ++ gs)).vars pv)
    (hps : before = pa ++ pv) (hb : Below W.heap.size W V) : s.post enc P f apart fresh handsOn false W args v V := by
  have hl : ∀ p ∈ before, (fun b => decide (b < W.heap.size)) p.block = true := fun p hp => by simpa using hW.lt p hp
  refine ⟨ds, gs, before, [], pa, pv, hW, hres _ _ _, hargs _ hl, hvars _ hl, World.keptBut_mono (fun p hp => ⟨hp, ?_⟩) (hb.frame (· ∈ before)), fun h => by cases h⟩
  rw [hps, List.mem_append] at hp
  exact Or.inr hp

theorem own : ownKnob Try.prog.godebug = none := by kernel_rfl
theorem laid : laidOutB Try.prog = true := by kernel_rfl

set_option maxRecDepth 100000 in
theorem lifted (os : Os) (started : os.Started) (H : Type) (enc : TypeId × Value → H) :
    ReturnsInHanded {} Try.checked os 4 .any (Rows.paintTellsSpec.pre6 enc Try.prog Try.f4 Rows.paintTellsRow.domain false) (Rows.paintTellsSpec.post enc Try.prog Try.f4 false true false false) := by
  refine returnsInHanded_of_change (C := Try.checked) own started (by kernel_rfl) Try.func4
    (ChangeSpec.witness6 (enc := enc) (C := Try.checked) false ⟨#[], #[.slice none 0 0, .int .i64 0, .int .i64 0, .agg #[.int .i64 0, .int .i64 0, .int .i64 0, .int .i64 0, .int .i64 0, .int .i64 0], .agg #[.int .i64 0, .int .u8 0, .int .u8 0, .int .u8 0, .int .u8 0, .int .u8 0, .int .u8 0, .int .u8 0, .int .u8 0, .int .i64 0, .int .i64 0, .int .i64 0, .int .i64 0, .int .i64 0]], []⟩ 8 (by kernel_rfl) (by kernel_rfl) (by kernel_rfl) (by kernel_rfl)) ?_
  intro W base args ds gs before hval0 hW hcnd _
  have hval : ∀ (j : Nat) t v, Try.f4.params[j]? = some t → args[j]? = some v → Value.okWide Try.prog W .any base t v := hval0
  have hW' := hW
  obtain ⟨p, q, hA0, hV, rfl, hfz, hnd⟩ := hW
  have hA : DataW.TrodAll enc Try.prog W 0 (fun _ => true) true Try.f4.params.toList args.toList ds p := hA0
  rw [Try.params4] at hA hval
  obtain ⟨v0, vs0, d0, ds0, p0, q0, hargs, rfl, rfl, h0, r0⟩ := trodAll_cons hA
  obtain ⟨v1, vs1, d1, ds1, p1, q1, rfl, rfl, rfl, h1, r1⟩ := trodAll_cons r0
  obtain ⟨v2, vs2, d2, ds2, p2, q2, rfl, rfl, rfl, h2, r2⟩ := trodAll_cons r1
  obtain ⟨v3, vs3, d3, ds3, p3, q3, rfl, rfl, rfl, h3, r3⟩ := trodAll_cons r2
  obtain ⟨v4, vs4, d4, ds4, p4, q4, rfl, rfl, rfl, h4, r4⟩ := trodAll_cons r3
  obtain ⟨rfl, rfl, rfl⟩ := trodAll_nil r4
  obtain rfl : args = #[v0, v1, v2, v3, v4] := by cases args; simp_all
  obtain ⟨rfl, rfl⟩ := trodVars_none hV
  obtain ⟨a0, w0⟩ := open_tape (hval 0 33 v0 rfl rfl) h0
  obtain ⟨a1, rfl, rfl, rfl, w1⟩ := open_int Try.underlying3 (hval 1 3 v1 rfl rfl) h1
  obtain ⟨a2, rfl, rfl, rfl, w2⟩ := open_int Try.underlying3 (hval 2 3 v2 rfl rfl) h2
  obtain ⟨a3_0, a3_1, a3_2, a3_3, a3_4, a3_5, rfl, rfl, rfl, w3_0, w3_1, w3_2, w3_3, w3_4, w3_5⟩ := open_ints6 Try.underlying30 Try.underlying2 (by kernel_rfl) (by kernel_rfl) (by kernel_rfl) rfl (hval 3 30 v3 rfl rfl) h3
  obtain ⟨a4, w4⟩ := open_paint (hval 4 27 v4 rfl rfl) h4
  clear hA0 hval0
  simp only [List.append_nil] at hW'
  refine (paintTells_walk (w := W) v0 a0 a1 a2 a3_0 a3_1 a3_2 a3_3 a3_4 a3_5 v4 a4 w0 w4).mono fun e W' ⟨he, hg⟩ => ?_
  subst he
  exact ⟨_, rfl, post_below (pv := []) hW' (fun _ _ _ => (trodAll_cons_mk (shut_bool Try.underlying4 _) trodAll_mk0)) (fun sp hsp => (trodAll_cons_mk (WideElems.Trod_stays laid (by kernel_rfl) (of_decide_eq_true (by kernel_rfl)) h0 (fun x hx => hg.same (by simpa using hW'.lt x (by simp [hx]))) (fun x hx => hsp x (by simp [hx]))) (trodAll_cons_mk (shut_int Try.underlying3 w1) (trodAll_cons_mk (shut_int Try.underlying3 w2) (trodAll_cons_mk (shut_ints6 Try.underlying30 Try.underlying2 (by kernel_rfl) (by kernel_rfl) (by kernel_rfl) rfl w3_0 w3_1 w3_2 w3_3 w3_4 w3_5) (trodAll_cons_mk (WideElems.Trod_stays laid (by kernel_rfl) (of_decide_eq_true (by kernel_rfl)) h4 (fun x hx => hg.same (by simpa using hW'.lt x (by simp [hx]))) (fun x hx => hsp x (by simp [hx]))) trodAll_mk0)))))) (fun _ _ => rfl) (by simp) hg⟩

theorem over : Rows.paintTellsRow.holds Try.pinned (OpenSpec.ofChange Rows.paintTellsSpec) :=
  OpenClaim.holds_of_wide 4 Try.f4 rfl rfl rfl rfl rfl rfl rfl ⟨rfl, rfl, rfl, rfl, rfl⟩ rfl rfl rfl rfl rfl (by kernel_rfl) Try.func4 (by kernel_rfl)
    (of_decide_eq_true (by kernel_rfl)) (by unfold Func.isWrapper; first | (rw [if_pos (by decide +kernel)]; kernel_rfl) | (rw [if_neg (by decide +kernel)]; exact ⟨rfl, rfl⟩))
    (fun os started H enc _ => lifted os started H enc)

end Go.Proofs.Ytafaafaclijfiaa.paintTells
namespace Go.Proofs.Ytafaafaclijfiaa
theorem paintTells_holds : Rows.PaintTellsSaid := paintTells.over
#print axioms paintTells_holds
end Go.Proofs.Ytafaafaclijfiaa
