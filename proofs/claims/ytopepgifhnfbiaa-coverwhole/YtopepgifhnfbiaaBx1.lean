/- Contracts of box.Empty, .orZero, .Has, .Meet, .Join and of the reference's Empty, Has, Meet, Join: for all numbers what the plain arithmetic says; of the memory nothing that was there turns. -/
import Derived.Test.YtopepgifhnfbiaaBxMath
import Derived.Test.YtopepgifhnfbiaaPB
import Derived.Test.YtopepgifhnfbiaaMake
import Derived.Test.YtopepgifhnfbiaaQt
import Derived.Deep.DeepCutAuto
import Derived.BigRegion
namespace Go.Proofs.Ytopepgifhnfbiaa
open Go Go.RowKit
open M

/-- A box's cells. -/
abbrev bCells (b : Bo) : Array Value := #[.int .i64 b.x0, .int .i64 b.y0, .int .i64 b.x1, .int .i64 b.y1]

theorem b_empty (b : Bo) (w : World) : Calls Try.prog 41 #[.agg (bCells b)] w fun r w' => r = .returned (.bool (emptyB b)) ∧ Below w.heap.size w w' := by
  obtain ⟨x0, y0, x1, y1⟩ := b
  unfold emptyB
  simp only
  by_cases h : x1 ≤ x0
  · go_enter Try.func41, Try.ntmps41
    go_wp2
    refine bodyPost_ret (v := .bool true) (by simp [results, Try.results41, go_sem]) rfl ⟨by simp [h], ?_⟩
    repeat (first | exact Below.refl _ _ | refine Below.alloc ?_ (by first | (simp; done) | (simp; omega)) _ | refine Below.setCell ?_ (by simp; omega) _)
  · go_enter Try.func41, Try.ntmps41
    go_wp2
    refine bodyPost_ret (v := .bool (decide (y1 ≤ y0))) (by simp [results, Try.results41, go_sem]) rfl ⟨by simp; omega, ?_⟩
    repeat (first | exact Below.refl _ _ | refine Below.alloc ?_ (by first | (simp; done) | (simp; omega)) _ | refine Below.setCell ?_ (by simp; omega) _)
theorem has_old {w W : World} {cs ds : Array Value} {t t2 : TypeId} (h : (w.alloc (.cells cs t)).alloc (.cells ds t2) = W) : Has W w.heap.size cs t ∧ Has W (w.heap.size + 1) ds t2 ∧ Below w.heap.size w W := by
  subst h
  refine ⟨(has_new rfl).alloc _, has_new (by simp), ((Below.refl _ _).alloc (Nat.le_refl _) _).alloc (by simp) _⟩
theorem b_orZero (b : Bo) (w : World) : Calls Try.prog 55 #[.agg (bCells b)] w fun r w' => r = .returned (.agg (bCells (orZ b))) ∧ Below w.heap.size w w' := by
  obtain ⟨W, hW⟩ : ∃ W, (w.alloc (.cells (bCells b) 41)).alloc (.cells #[.int .i64 0, .int .i64 0, .int .i64 0, .int .i64 0] 41) = W := ⟨_, rfl⟩
  obtain ⟨ha, hr, hb0⟩ := has_old hW
  obtain ⟨B, hB⟩ : ∃ B, w.heap.size = B := ⟨_, rfl⟩
  rw [hB] at ha hr
  have HB := Lib.hid hb0
  have HA := Lib.hid ha
  have HR := Lib.hid hr
  have HW := Lib.hid hW
  have EM := Lib.hid (fun w => b_empty b w)
  have HZ : Hid (orZ b = if emptyB b = true then zeroB else b) := Lib.hid rfl
  obtain ⟨e, he⟩ : ∃ e, emptyB b = e := ⟨_, rfl⟩
  rw [he] at HZ EM
  obtain ⟨x0, y0, x1, y1⟩ := b
  clear ha hr hb0 hW he
  go_enter Try.func55, Try.ntmps55
  go_upto_region 1 with fail
  rw [HW.out]
  have a0 := HA.out.cell 0 _ rfl
  have a1 := HA.out.cell 1 _ rfl
  have a2 := HA.out.cell 2 _ rfl
  have a3 := HA.out.cell 3 _ rfl
  go_wp2_with fail
  refine (EM.out _).mono ?_
  rintro r w1 ⟨rfl, hb⟩
  have HB1 := Lib.hid (HB.out.trans (hb.mono HB.out.size))
  have ha := HA.out.below hb HA.out.lt
  have hr := HR.out.below hb HR.out.lt
  clear a0 a1 a2 a3
  have a0 := ha.cell 0 _ rfl
  have a1 := ha.cell 1 _ rfl
  have a2 := ha.cell 2 _ rfl
  have a3 := ha.cell 3 _ rfl
  have r0 := hr.cell 0 _ rfl
  have r1 := hr.cell 1 _ rfl
  have r2 := hr.cell 2 _ rfl
  have r3 := hr.cell 3 _ rfl
  have fz := has_fro hr
  clear hb ha hr
  cases e
  · go_wp2
    refine bodyPost_ret (v := .agg #[.int .i64 x0, .int .i64 y0, .int .i64 x1, .int .i64 y1]) (by simp [results, Try.results55, go_sem, r0, r1, r2, r3]) rfl ⟨by rw [HZ.out]; rfl, ?_⟩
    repeat (first | exact HB1.out | refine Below.setCell ?_ (show w.heap.size ≤ B + 1 by omega) _)
  · go_wp2
    refine bodyPost_ret (v := .agg #[.int .i64 0, .int .i64 0, .int .i64 0, .int .i64 0]) (by simp [results, Try.results55, go_sem, r0, r1, r2, r3]) rfl ⟨by rw [HZ.out]; rfl, ?_⟩
    repeat (first | exact HB1.out | refine Below.setCell ?_ (show w.heap.size ≤ B + 1 by omega) _)

theorem has_old3 {w W : World} {cs ds es : Array Value} {t t2 t3 : TypeId} (h : ((w.alloc (.cells cs t)).alloc (.cells ds t2)).alloc (.cells es t3) = W) : Has W w.heap.size cs t ∧ Has W (w.heap.size + 1) ds t2 ∧ Has W (w.heap.size + 2) es t3 ∧ Below w.heap.size w W := by
  subst h
  exact ⟨((has_new rfl).alloc _).alloc _, (has_new (by simp)).alloc _, has_new (by simp), (((Below.refl _ _).alloc (Nat.le_refl _) _).alloc (by simp) _).alloc (by simp; omega) _⟩
set_option maxHeartbeats 1000000 in
theorem b_meet (a b : Bo) (w : World) : Calls Try.prog 39 #[.agg (bCells a), .agg (bCells b)] w fun r w' => r = .returned (.agg (bCells (meetB a b))) ∧ Below w.heap.size w w' := by
  obtain ⟨W, hW⟩ : ∃ W, ((w.alloc (.cells (bCells a) 41)).alloc (.cells (bCells b) 41)).alloc (.cells #[.int .i64 0, .int .i64 0, .int .i64 0, .int .i64 0] 41) = W := ⟨_, rfl⟩
  obtain ⟨ha, hb, hr, hb0⟩ := has_old3 hW
  obtain ⟨B, hB⟩ : ∃ B, w.heap.size = B := ⟨_, rfl⟩
  rw [hB] at ha hb hr
  have HB := Lib.hid hb0
  have HA := Lib.hid ha
  have HBB := Lib.hid hb
  have HR := Lib.hid hr
  have HW := Lib.hid hW
  obtain ⟨x0, y0, x1, y1⟩ := a
  obtain ⟨p0, q0, p1, q1⟩ := b
  obtain ⟨m0, hm0⟩ : ∃ m, (if x0 < p0 then p0 else x0) = m := ⟨_, rfl⟩
  obtain ⟨m1, hm1⟩ : ∃ m, (if y0 < q0 then q0 else y0) = m := ⟨_, rfl⟩
  obtain ⟨m2, hm2⟩ : ∃ m, (if p1 < x1 then p1 else x1) = m := ⟨_, rfl⟩
  obtain ⟨m3, hm3⟩ : ∃ m, (if q1 < y1 then q1 else y1) = m := ⟨_, rfl⟩
  have OZ := Lib.hid (fun w => b_orZero ⟨m0, m1, m2, m3⟩ w)
  have HM : Hid (orZ ⟨m0, m1, m2, m3⟩ = meetB ⟨x0, y0, x1, y1⟩ ⟨p0, q0, p1, q1⟩) := Lib.hid (by rw [← hm0, ← hm1, ← hm2, ← hm3]; rfl)
  obtain ⟨R, hR⟩ : ∃ R, meetB ⟨x0, y0, x1, y1⟩ ⟨p0, q0, p1, q1⟩ = R := ⟨_, rfl⟩
  rw [hR] at HM ⊢
  rw [HM.out] at OZ
  clear ha hb hr hb0 hW hR
  go_enter Try.func39, Try.ntmps39
  go_upto_region 1 with fail
  rw [HW.out]
  have a0 := HA.out.cell 0 _ rfl
  have a1 := HA.out.cell 1 _ rfl
  have a2 := HA.out.cell 2 _ rfl
  have a3 := HA.out.cell 3 _ rfl
  have b0 := HBB.out.cell 0 _ rfl
  have b1 := HBB.out.cell 1 _ rfl
  have b2 := HBB.out.cell 2 _ rfl
  have b3 := HBB.out.cell 3 _ rfl
  go_wp2_with fail
  refine (OZ.out _).mono ?_
  rintro r w1 ⟨rfl, hb⟩
  have HB1 := Lib.hid (HB.out.trans (hb.mono HB.out.size))
  have hr := HR.out.below hb HR.out.lt
  clear a0 a1 a2 a3 b0 b1 b2 b3
  have r0 := hr.cell 0 _ rfl
  have r1 := hr.cell 1 _ rfl
  have r2 := hr.cell 2 _ rfl
  have r3 := hr.cell 3 _ rfl
  have fz := has_fro hr
  clear hb hr
  obtain ⟨z0, z1, z2, z3⟩ := R
  go_wp2
  refine bodyPost_ret (v := .agg #[.int .i64 z0, .int .i64 z1, .int .i64 z2, .int .i64 z3]) (by simp [results, Try.results39, go_sem, r0, r1, r2, r3]) rfl ⟨rfl, ?_⟩
  repeat (first | exact HB1.out | refine Below.setCell ?_ (show w.heap.size ≤ B + 2 by omega) _)

end Go.Proofs.Ytopepgifhnfbiaa
