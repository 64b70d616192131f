/- Contracts of paint.Map and of mutoscoperef15.Map: for all paints and maps what the plain arithmetic says; of the memory nothing that was there turns. -/
import Derived.Test.YtafaafaclijfiaaCpA
import Derived.Test.YtafaafaclijfiaaMake
import Derived.Test.YtafaafaclijfiaaQt
import Derived.Test.YtafaafaclijfiaaMP
import Derived.Test.YtafaafaclijfiaaM3
import Derived.Test.YtafaafaclijfiaaR3
import Derived.Test.YtafaafaclijfiaaJ
import Derived.Test.YtafaafaclijfiaaC
import Derived.Test.YtafaafaclijfiaaTK5
import Derived.Laws.Rows
import Derived.Deep.DeepCutAuto
import Derived.BigRegion
import Derived.Deep.RegionWith
namespace Go.Proofs.Ytafaafaclijfiaa
open Go Go.RowKit
open M

abbrev zPa : Array Value := #[.int .i64 0, .int .u8 0, .int .u8 0, .int .u8 0, .int .u8 0, .int .u8 0, .int .u8 0, .int .u8 0, .int .u8 0, .int .i64 0, .int .i64 0, .int .i64 0, .int .i64 0, .int .i64 0]
set_option maxRecDepth 100000 in
set_option maxHeartbeats 4000000 in
theorem r15_map (m0 m1 m2 m3 m4 m5 : Int) (c : Pa) (w : World) : Calls Try.prog 15 #[.agg #[.int .i64 m0, .int .i64 m1, .int .i64 m2, .int .i64 m3, .int .i64 m4, .int .i64 m5], .agg (paCells c)] w fun e w' => e = .returned (.agg (paCells (mapF m0 m1 m2 m3 m4 m5 c))) ∧ Below w.heap.size w w' := by
  obtain ⟨B, hB⟩ : ∃ B, w.heap.size = B := ⟨_, rfl⟩
  obtain ⟨W, hW⟩ : ∃ W, ((w.alloc (.cells #[.int .i64 m0, .int .i64 m1, .int .i64 m2, .int .i64 m3, .int .i64 m4, .int .i64 m5] 30)).alloc (.cells (paCells c) 27)).alloc (.cells zPa 27) = W := ⟨_, rfl⟩
  have hm : Has W B #[.int .i64 m0, .int .i64 m1, .int .i64 m2, .int .i64 m3, .int .i64 m4, .int .i64 m5] 30 := by rw [← hW]; exact ((has_new hB).alloc _).alloc _
  have ha : Has W (B + 1) (paCells c) 27 := by rw [← hW]; exact (has_new (by simp [hB])).alloc _
  have hr : Has W (B + 2) zPa 27 := by rw [← hW]; exact has_new (by simp [hB])
  have hb : Below w.heap.size w W := by rw [← hW]; exact (((Below.refl _ _).alloc (Nat.le_refl _) _).alloc (by simp) _).alloc (by simp; omega) _
  have HW := Lib.hid hW
  have HM := Lib.hid hm
  have HA := Lib.hid ha
  have HR := Lib.hid hr
  have HB := Lib.hid hb
  have BB : Hid (w.heap.size ≤ B) := Lib.hid (by omega)
  have A1 := Lib.hid (fun w => r3_apply m0 m1 m2 m3 m4 m5 c.p.x c.p.y w)
  have A2 := Lib.hid (fun w => r3_apply m0 m1 m2 m3 m4 m5 c.q.x c.q.y w)
  have A3 := Lib.hid (fun w => r3_width m0 m1 m2 m3 m4 m5 w)
  have A4 := Lib.hid (fun w => drawn_below (r_mul c.r (hyp m0 m1) w))
  unfold mapF
  unfold apF
  obtain ⟨ux, hux⟩ : ∃ x, place (add (add (mul m0 c.p.x) (mul m2 c.p.y)) m4) = x := ⟨_, rfl⟩
  obtain ⟨uy, huy⟩ : ∃ x, place (add (add (mul m1 c.p.x) (mul m3 c.p.y)) m5) = x := ⟨_, rfl⟩
  obtain ⟨vx, hvx⟩ : ∃ x, place (add (add (mul m0 c.q.x) (mul m2 c.q.y)) m4) = x := ⟨_, rfl⟩
  obtain ⟨vy, hvy⟩ : ∃ x, place (add (add (mul m1 c.q.x) (mul m3 c.q.y)) m5) = x := ⟨_, rfl⟩
  obtain ⟨h, hh⟩ : ∃ x, hyp m0 m1 = x := ⟨_, rfl⟩
  rw [hux, huy] at A1
  rw [hvx, hvy] at A2
  rw [hh] at A3 A4
  rw [hux, huy, hvx, hvy, hh]
  obtain ⟨t, ht⟩ : ∃ x, mul c.r h = x := ⟨_, rfl⟩
  rw [ht] at A4 ⊢
  clear hW hm ha hr hb hux huy hvx hvy hh ht
  obtain ⟨k, ⟨a0, a1, a2, a3⟩, ⟨b0, b1, b2, b3⟩, ⟨px, py⟩, ⟨qx, qy⟩, r⟩ := c
  go_enter Try.func15, Try.ntmps15
  go_upto_region 1 with fail
  rw [HW.out]
  clear hB
  refine wp_region_make0 9 (by kernel_rfl) (by kernel_rfl) (by kernel_rfl) ?_
  apply Exists.intro
  refine ⟨fun R hR hN => ?_, ?_⟩
  · have d0 := fun z => LaterR.read (R := R) HM.out 0 _ rfl z
    have d1 := fun z => LaterR.read (R := R) HM.out 1 _ rfl z
    have d2 := fun z => LaterR.read (R := R) HM.out 2 _ rfl z
    have d3 := fun z => LaterR.read (R := R) HM.out 3 _ rfl z
    have d4 := fun z => LaterR.read (R := R) HM.out 4 _ rfl z
    have d5 := fun z => LaterR.read (R := R) HM.out 5 _ rfl z
    have e9 := fun z => LaterR.read (R := R) HA.out 9 _ rfl z
    have e10 := fun z => LaterR.read (R := R) HA.out 10 _ rfl z
    have e11 := fun z => LaterR.read (R := R) HA.out 11 _ rfl z
    have e12 := fun z => LaterR.read (R := R) HA.out 12 _ rfl z
    simp only [List.take_succ_cons, List.take_zero]
    repeat (go_big_quiet_step (first | (go_at_call_of 33 px; exact LaterR.calls hR (A1.out _)) | (go_at_call 33; exact LaterR.calls hR (A2.out _))))
    exact wpQuiet_nil rfl
  · intro w3 hb3
    simp only [List.drop_succ_cons, List.drop_zero]
    have h3 := HA.out.below hb3 HA.out.lt
    have c9 := h3.cell 9 _ rfl
    have c10 := h3.cell 10 _ rfl
    have c11 := h3.cell 11 _ rfl
    have c12 := h3.cell 12 _ rfl
    have fz := has_fro h3
    obtain ⟨W1, hW1⟩ : ∃ V, (((w3.setCell ⟨B + 1, 9, none⟩ (.int .i64 ux)).setCell ⟨B + 1, 10, none⟩ (.int .i64 uy)).setCell ⟨B + 1, 11, none⟩ (.int .i64 vx)).setCell ⟨B + 1, 12, none⟩ (.int .i64 vy) = V := ⟨_, rfl⟩
    have HA1 := Lib.hid (show Has W1 (B + 1) (paCells ⟨k, ⟨a0, a1, a2, a3⟩, ⟨b0, b1, b2, b3⟩, ⟨ux, uy⟩, ⟨vx, vy⟩, r⟩) 27 by
      have := has_set (has_set (has_set (has_set h3 9 (.int .i64 ux)) 10 (.int .i64 uy)) 11 (.int .i64 vx)) 12 (.int .i64 vy)
      rw [hW1] at this
      simpa using this)
    have HM1 := Lib.hid (show Has W1 B #[.int .i64 m0, .int .i64 m1, .int .i64 m2, .int .i64 m3, .int .i64 m4, .int .i64 m5] 30 by
      rw [← hW1]
      exact has_setO (has_setO (has_setO (has_setO (HM.out.below hb3 HM.out.lt) (by omega) _ _) (by omega) _ _) (by omega) _ _) (by omega) _ _)
    have HR1 := Lib.hid (show Has W1 (B + 2) zPa 27 by
      rw [← hW1]
      exact has_setO (has_setO (has_setO (has_setO (HR.out.below hb3 HR.out.lt) (by omega) _ _) (by omega) _ _) (by omega) _ _) (by omega) _ _)
    have HB1 := Lib.hid (show Below w.heap.size w W1 by
      have hk : w.heap.size ≤ B + 1 := by have := BB.out; omega
      rw [← hW1]
      exact ((((HB.out.trans (hb3.mono HB.out.size)).setCell hk _).setCell hk _).setCell hk _).setCell hk _)
    have HW1 := Lib.hid hW1
    clear hW1 h3 hb3 HM HA HR HB A1 A2
    go_upto_region 2 with fail
    rw [HW1.out]
    clear c9 c10 c11 c12 fz HW1
    refine wp_region_make0 6 (by kernel_rfl) (by kernel_rfl) (by kernel_rfl) ?_
    apply Exists.intro
    refine ⟨fun R hR hN => ?_, ?_⟩
    · have d0 := fun z => LaterR.read (R := R) HM1.out 0 _ rfl z
      have d1 := fun z => LaterR.read (R := R) HM1.out 1 _ rfl z
      have d2 := fun z => LaterR.read (R := R) HM1.out 2 _ rfl z
      have d3 := fun z => LaterR.read (R := R) HM1.out 3 _ rfl z
      have d4 := fun z => LaterR.read (R := R) HM1.out 4 _ rfl z
      have d5 := fun z => LaterR.read (R := R) HM1.out 5 _ rfl z
      have e13 := fun z => LaterR.read (R := R) HA1.out 13 _ rfl z
      simp only [List.take_succ_cons, List.take_zero]
      repeat (go_big_quiet_step (first | (go_at_call 35; exact LaterR.calls hR (A3.out _)) | (go_at_call 34; exact LaterR.calls hR (A4.out _))))
      exact wpQuiet_nil rfl
    · intro w4 hb4
      simp only [List.drop_succ_cons, List.drop_zero]
      have h4 := HA1.out.below hb4 HA1.out.lt
      have c13 := h4.cell 13 _ rfl
      have fz := has_fro h4
      obtain ⟨W2, hW2⟩ : ∃ V, w4.setCell ⟨B + 1, 13, none⟩ (.int .i64 t) = V := ⟨_, rfl⟩
      have hA2 : Has W2 (B + 1) (paCells ⟨k, ⟨a0, a1, a2, a3⟩, ⟨b0, b1, b2, b3⟩, ⟨ux, uy⟩, ⟨vx, vy⟩, t⟩) 27 := by
        have := has_set h4 13 (.int .i64 t)
        rw [hW2] at this
        simpa using this
      have hR2 : Has W2 (B + 2) zPa 27 := by
        rw [← hW2]
        exact has_setO (HR1.out.below hb4 HR1.out.lt) (by omega) _ _
      have HB2 := Lib.hid (show Below w.heap.size w W2 by
        have hk : w.heap.size ≤ B + 1 := by have := BB.out; omega
        rw [← hW2]
        exact (HB1.out.trans (hb4.mono HB1.out.size)).setCell hk _)
      have HW2 := Lib.hid hW2
      have HA2 := Lib.hid hA2
      have HR2 := Lib.hid hR2
      clear hW2 h4 hb4 HM1 HA1 HR1 HB1 A3 A4 hA2 hR2
      go_upto_region 3 with fail
      rw [HW2.out]
      clear c13 fz HW2
      have fz := has_fro HR2.out
      have c0 := HA2.out.cell 0 _ rfl
      have c1 := HA2.out.cell 1 _ rfl
      have c2 := HA2.out.cell 2 _ rfl
      have c3 := HA2.out.cell 3 _ rfl
      have c4 := HA2.out.cell 4 _ rfl
      have c5 := HA2.out.cell 5 _ rfl
      have c6 := HA2.out.cell 6 _ rfl
      have c7 := HA2.out.cell 7 _ rfl
      have c8 := HA2.out.cell 8 _ rfl
      have c9 := HA2.out.cell 9 _ rfl
      have c10 := HA2.out.cell 10 _ rfl
      have c11 := HA2.out.cell 11 _ rfl
      have c12 := HA2.out.cell 12 _ rfl
      have c13 := HA2.out.cell 13 _ rfl
      have r0 := HR2.out.cell 0 _ rfl
      have r1 := HR2.out.cell 1 _ rfl
      have r2 := HR2.out.cell 2 _ rfl
      have r3 := HR2.out.cell 3 _ rfl
      have r4 := HR2.out.cell 4 _ rfl
      have r5 := HR2.out.cell 5 _ rfl
      have r6 := HR2.out.cell 6 _ rfl
      have r7 := HR2.out.cell 7 _ rfl
      have r8 := HR2.out.cell 8 _ rfl
      have r9 := HR2.out.cell 9 _ rfl
      have r10 := HR2.out.cell 10 _ rfl
      have r11 := HR2.out.cell 11 _ rfl
      have r12 := HR2.out.cell 12 _ rfl
      have r13 := HR2.out.cell 13 _ rfl
      go_wp2
      refine bodyPost_ret (v := .agg (paCells ⟨k, ⟨a0, a1, a2, a3⟩, ⟨b0, b1, b2, b3⟩, ⟨ux, uy⟩, ⟨vx, vy⟩, t⟩)) (by simp [results, Try.results15, go_sem, r0, r1, r2, r3, r4, r5, r6, r7, r8, r9, r10, r11, r12, r13]) rfl ⟨rfl, ?_⟩
      have hk : w.heap.size ≤ B + 2 := by have := BB.out; omega
      repeat (first | refine Below.setCell ?_ (show w.heap.size ≤ B + 2 from hk) _ | exact HB2.out)

set_option maxRecDepth 100000 in
set_option maxHeartbeats 4000000 in
theorem p_mapP (m0 m1 m2 m3 m4 m5 : Int) (c : Pa) (w : World) : Calls Try.prog 14 #[.agg #[.int .i64 m0, .int .i64 m1, .int .i64 m2, .int .i64 m3, .int .i64 m4, .int .i64 m5], .agg (paCells c)] w fun e w' => e = .returned (.agg (paCells (mapF m0 m1 m2 m3 m4 m5 c))) ∧ Below w.heap.size w w' := by
  obtain ⟨B, hB⟩ : ∃ B, w.heap.size = B := ⟨_, rfl⟩
  obtain ⟨W, hW⟩ : ∃ W, ((w.alloc (.cells #[.int .i64 m0, .int .i64 m1, .int .i64 m2, .int .i64 m3, .int .i64 m4, .int .i64 m5] 30)).alloc (.cells (paCells c) 27)).alloc (.cells zPa 27) = W := ⟨_, rfl⟩
  have hm : Has W B #[.int .i64 m0, .int .i64 m1, .int .i64 m2, .int .i64 m3, .int .i64 m4, .int .i64 m5] 30 := by rw [← hW]; exact ((has_new hB).alloc _).alloc _
  have ha : Has W (B + 1) (paCells c) 27 := by rw [← hW]; exact (has_new (by simp [hB])).alloc _
  have hr : Has W (B + 2) zPa 27 := by rw [← hW]; exact has_new (by simp [hB])
  have hb : Below w.heap.size w W := by rw [← hW]; exact (((Below.refl _ _).alloc (Nat.le_refl _) _).alloc (by simp) _).alloc (by simp; omega) _
  have HW := Lib.hid hW
  have HM := Lib.hid hm
  have HA := Lib.hid ha
  have HR := Lib.hid hr
  have HB := Lib.hid hb
  have BB : Hid (w.heap.size ≤ B) := Lib.hid (by omega)
  have A1 := Lib.hid (fun w => m_apply m0 m1 m2 m3 m4 m5 c.p.x c.p.y w)
  have A2 := Lib.hid (fun w => m_apply m0 m1 m2 m3 m4 m5 c.q.x c.q.y w)
  have A3 := Lib.hid (fun w => m_width m0 m1 m2 m3 m4 m5 w)
  have A4 := Lib.hid (fun w => below_of (q_mul c.r (hyp m0 m1) w))
  unfold mapF
  unfold apF
  obtain ⟨ux, hux⟩ : ∃ x, place (add (add (mul m0 c.p.x) (mul m2 c.p.y)) m4) = x := ⟨_, rfl⟩
  obtain ⟨uy, huy⟩ : ∃ x, place (add (add (mul m1 c.p.x) (mul m3 c.p.y)) m5) = x := ⟨_, rfl⟩
  obtain ⟨vx, hvx⟩ : ∃ x, place (add (add (mul m0 c.q.x) (mul m2 c.q.y)) m4) = x := ⟨_, rfl⟩
  obtain ⟨vy, hvy⟩ : ∃ x, place (add (add (mul m1 c.q.x) (mul m3 c.q.y)) m5) = x := ⟨_, rfl⟩
  obtain ⟨h, hh⟩ : ∃ x, hyp m0 m1 = x := ⟨_, rfl⟩
  rw [hux, huy] at A1
  rw [hvx, hvy] at A2
  rw [hh] at A3 A4
  rw [hux, huy, hvx, hvy, hh]
  obtain ⟨t, ht⟩ : ∃ x, mul c.r h = x := ⟨_, rfl⟩
  rw [ht] at A4 ⊢
  clear hW hm ha hr hb hux huy hvx hvy hh ht
  obtain ⟨k, ⟨a0, a1, a2, a3⟩, ⟨b0, b1, b2, b3⟩, ⟨px, py⟩, ⟨qx, qy⟩, r⟩ := c
  have d0 := HM.out.cell 0 _ rfl
  have d1 := HM.out.cell 1 _ rfl
  have d2 := HM.out.cell 2 _ rfl
  have d3 := HM.out.cell 3 _ rfl
  have d4 := HM.out.cell 4 _ rfl
  have d5 := HM.out.cell 5 _ rfl
  have c9 := HA.out.cell 9 _ rfl
  have c10 := HA.out.cell 10 _ rfl
  go_enter Try.func14, Try.ntmps14
  go_upto_region 1 with fail
  rw [HW.out]
  clear hB HW
  go_wp2_with fail
  refine (A1.out _).mono ?_
  rintro e w3 ⟨rfl, hb3⟩
  clear d0 d1 d2 d3 d4 d5 c9 c10
  have h3 := HA.out.below hb3 HA.out.lt
  have c9 := h3.cell 9 _ rfl
  have c10 := h3.cell 10 _ rfl
  have fz := has_fro h3
  obtain ⟨W1, hW1⟩ : ∃ V, (w3.setCell ⟨B + 1, 9, none⟩ (.int .i64 ux)).setCell ⟨B + 1, 10, none⟩ (.int .i64 uy) = V := ⟨_, rfl⟩
  have HA1 := Lib.hid (show Has W1 (B + 1) (paCells ⟨k, ⟨a0, a1, a2, a3⟩, ⟨b0, b1, b2, b3⟩, ⟨ux, uy⟩, ⟨qx, qy⟩, r⟩) 27 by
    have := has_set (has_set h3 9 (.int .i64 ux)) 10 (.int .i64 uy)
    rw [hW1] at this
    simpa using this)
  have HM1 := Lib.hid (show Has W1 B #[.int .i64 m0, .int .i64 m1, .int .i64 m2, .int .i64 m3, .int .i64 m4, .int .i64 m5] 30 by
    rw [← hW1]
    exact has_setO (has_setO (HM.out.below hb3 HM.out.lt) (by omega) _ _) (by omega) _ _)
  have HR1 := Lib.hid (show Has W1 (B + 2) zPa 27 by
    rw [← hW1]
    exact has_setO (has_setO (HR.out.below hb3 HR.out.lt) (by omega) _ _) (by omega) _ _)
  have HB1 := Lib.hid (show Below w.heap.size w W1 by
    have hk : w.heap.size ≤ B + 1 := by have := BB.out; omega
    rw [← hW1]
    exact ((HB.out.trans (hb3.mono HB.out.size)).setCell hk _).setCell hk _)
  have HW1 := Lib.hid hW1
  clear hW1 h3 hb3 HM HA HR HB A1
  go_upto_region 2 with fail
  rw [HW1.out]
  clear c9 c10 fz HW1
  have d0 := HM1.out.cell 0 _ rfl
  have d1 := HM1.out.cell 1 _ rfl
  have d2 := HM1.out.cell 2 _ rfl
  have d3 := HM1.out.cell 3 _ rfl
  have d4 := HM1.out.cell 4 _ rfl
  have d5 := HM1.out.cell 5 _ rfl
  have c11 := HA1.out.cell 11 _ rfl
  have c12 := HA1.out.cell 12 _ rfl
  go_wp2_with fail
  refine (A2.out _).mono ?_
  rintro e w4 ⟨rfl, hb4⟩
  clear d0 d1 d2 d3 d4 d5 c11 c12
  have h4 := HA1.out.below hb4 HA1.out.lt
  have c11 := h4.cell 11 _ rfl
  have c12 := h4.cell 12 _ rfl
  have fz := has_fro h4
  obtain ⟨W2, hW2⟩ : ∃ V, (w4.setCell ⟨B + 1, 11, none⟩ (.int .i64 vx)).setCell ⟨B + 1, 12, none⟩ (.int .i64 vy) = V := ⟨_, rfl⟩
  have HA2 := Lib.hid (show Has W2 (B + 1) (paCells ⟨k, ⟨a0, a1, a2, a3⟩, ⟨b0, b1, b2, b3⟩, ⟨ux, uy⟩, ⟨vx, vy⟩, r⟩) 27 by
    have := has_set (has_set h4 11 (.int .i64 vx)) 12 (.int .i64 vy)
    rw [hW2] at this
    simpa using this)
  have HM2 := Lib.hid (show Has W2 B #[.int .i64 m0, .int .i64 m1, .int .i64 m2, .int .i64 m3, .int .i64 m4, .int .i64 m5] 30 by
    rw [← hW2]
    exact has_setO (has_setO (HM1.out.below hb4 HM1.out.lt) (by omega) _ _) (by omega) _ _)
  have HR2 := Lib.hid (show Has W2 (B + 2) zPa 27 by
    rw [← hW2]
    exact has_setO (has_setO (HR1.out.below hb4 HR1.out.lt) (by omega) _ _) (by omega) _ _)
  have HB2 := Lib.hid (show Below w.heap.size w W2 by
    have hk : w.heap.size ≤ B + 1 := by have := BB.out; omega
    rw [← hW2]
    exact ((HB1.out.trans (hb4.mono HB1.out.size)).setCell hk _).setCell hk _)
  have HW2 := Lib.hid hW2
  clear hW2 h4 hb4 HM1 HA1 HR1 HB1 A2
  go_upto_region 3 with fail
  rw [HW2.out]
  clear c11 c12 fz HW2
  refine wp_region_make0 6 (by kernel_rfl) (by kernel_rfl) (by kernel_rfl) ?_
  apply Exists.intro
  refine ⟨fun R hR hN => ?_, ?_⟩
  · have d0 := fun z => LaterR.read (R := R) HM2.out 0 _ rfl z
    have d1 := fun z => LaterR.read (R := R) HM2.out 1 _ rfl z
    have d2 := fun z => LaterR.read (R := R) HM2.out 2 _ rfl z
    have d3 := fun z => LaterR.read (R := R) HM2.out 3 _ rfl z
    have d4 := fun z => LaterR.read (R := R) HM2.out 4 _ rfl z
    have d5 := fun z => LaterR.read (R := R) HM2.out 5 _ rfl z
    have e13 := fun z => LaterR.read (R := R) HA2.out 13 _ rfl z
    simp only [List.take_succ_cons, List.take_zero]
    repeat (go_big_quiet_step (first | (go_at_call 32; exact LaterR.calls hR (A3.out _)) | (go_at_call 31; exact LaterR.calls hR (A4.out _))))
    exact wpQuiet_nil rfl
  · intro w5 hb5
    simp only [List.drop_succ_cons, List.drop_zero]
    have h5 := HA2.out.below hb5 HA2.out.lt
    have c13 := h5.cell 13 _ rfl
    have fz := has_fro h5
    obtain ⟨W3, hW3⟩ : ∃ V, w5.setCell ⟨B + 1, 13, none⟩ (.int .i64 t) = V := ⟨_, rfl⟩
    have HA3 := Lib.hid (show Has W3 (B + 1) (paCells ⟨k, ⟨a0, a1, a2, a3⟩, ⟨b0, b1, b2, b3⟩, ⟨ux, uy⟩, ⟨vx, vy⟩, t⟩) 27 by
      have := has_set h5 13 (.int .i64 t)
      rw [hW3] at this
      simpa using this)
    have HR3 := Lib.hid (show Has W3 (B + 2) zPa 27 by
      rw [← hW3]
      exact has_setO (HR2.out.below hb5 HR2.out.lt) (by omega) _ _)
    have HB3 := Lib.hid (show Below w.heap.size w W3 by
      have hk : w.heap.size ≤ B + 1 := by have := BB.out; omega
      rw [← hW3]
      exact (HB2.out.trans (hb5.mono HB2.out.size)).setCell hk _)
    have HW3 := Lib.hid hW3
    clear hW3 h5 hb5 HM2 HA2 HR2 HB2 A3 A4
    go_upto_region 4 with fail
    rw [HW3.out]
    clear c13 fz HW3
    have fz := has_fro HR3.out
    have c0 := HA3.out.cell 0 _ rfl
    have c1 := HA3.out.cell 1 _ rfl
    have c2 := HA3.out.cell 2 _ rfl
    have c3 := HA3.out.cell 3 _ rfl
    have c4 := HA3.out.cell 4 _ rfl
    have c5 := HA3.out.cell 5 _ rfl
    have c6 := HA3.out.cell 6 _ rfl
    have c7 := HA3.out.cell 7 _ rfl
    have c8 := HA3.out.cell 8 _ rfl
    have c9 := HA3.out.cell 9 _ rfl
    have c10 := HA3.out.cell 10 _ rfl
    have c11 := HA3.out.cell 11 _ rfl
    have c12 := HA3.out.cell 12 _ rfl
    have c13 := HA3.out.cell 13 _ rfl
    have r0 := HR3.out.cell 0 _ rfl
    have r1 := HR3.out.cell 1 _ rfl
    have r2 := HR3.out.cell 2 _ rfl
    have r3 := HR3.out.cell 3 _ rfl
    have r4 := HR3.out.cell 4 _ rfl
    have r5 := HR3.out.cell 5 _ rfl
    have r6 := HR3.out.cell 6 _ rfl
    have r7 := HR3.out.cell 7 _ rfl
    have r8 := HR3.out.cell 8 _ rfl
    have r9 := HR3.out.cell 9 _ rfl
    have r10 := HR3.out.cell 10 _ rfl
    have r11 := HR3.out.cell 11 _ rfl
    have r12 := HR3.out.cell 12 _ rfl
    have r13 := HR3.out.cell 13 _ rfl
    go_wp2
    refine bodyPost_ret (v := .agg (paCells ⟨k, ⟨a0, a1, a2, a3⟩, ⟨b0, b1, b2, b3⟩, ⟨ux, uy⟩, ⟨vx, vy⟩, t⟩)) (by simp [results, Try.results14, go_sem, r0, r1, r2, r3, r4, r5, r6, r7, r8, r9, r10, r11, r12, r13]) rfl ⟨rfl, ?_⟩
    have hk : w.heap.size ≤ B + 2 := by have := BB.out; omega
    repeat (first | refine Below.setCell ?_ (show w.heap.size ≤ B + 2 from hk) _ | exact HB3.out)

end Go.Proofs.Ytafaafaclijfiaa
