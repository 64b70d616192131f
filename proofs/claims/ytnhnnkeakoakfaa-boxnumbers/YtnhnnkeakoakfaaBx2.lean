/- Contracts of box.Join and of the reference's Empty, Has, Meet, Join: for all numbers what the plain arithmetic says; of the memory nothing that was there turns. -/
import Derived.Test.YtnhnnkeakoakfaaBx1
namespace Go.Proofs.Ytnhnnkeakoakfaa
open Go Go.RowKit
open M

set_option maxHeartbeats 1000000 in
theorem b_join (a b : Bo) (w : World) : Calls Try.prog 18 #[.agg (bCells a), .agg (bCells b)] w fun r w' => r = .returned (.agg (bCells (joinB a b))) ∧ Below w.heap.size w w' := by
  obtain ⟨W, hW⟩ : ∃ W, ((w.alloc (.cells (bCells a) 23)).alloc (.cells (bCells b) 23)).alloc (.cells #[.int .i64 0, .int .i64 0, .int .i64 0, .int .i64 0] 23) = W := ⟨_, rfl⟩
  obtain ⟨ha, hb, hr, hb0⟩ := has_old3 hW
  obtain ⟨B, hB⟩ : ∃ B, w.heap.size = B := ⟨_, rfl⟩
  rw [hB] at ha hb hr
  have HB := Lib.hid hb0
  have HA := Lib.hid ha
  have HBB := Lib.hid hb
  have HR := Lib.hid hr
  have HW := Lib.hid hW
  have EA := Lib.hid (fun w => b_empty a w)
  have EB := Lib.hid (fun w => b_empty b w)
  have OZ := Lib.hid (fun w => b_orZero b w)
  have HJ : Hid (joinB a b = if emptyB a = true then orZ b else if emptyB b = true then a else uniB a b) := Lib.hid rfl
  obtain ⟨ea, hea⟩ : ∃ e, emptyB a = e := ⟨_, rfl⟩
  obtain ⟨eb, heb⟩ : ∃ e, emptyB b = e := ⟨_, rfl⟩
  obtain ⟨R, hR⟩ : ∃ R, joinB a b = R := ⟨_, rfl⟩
  obtain ⟨Z, hZ⟩ : ∃ Z, orZ b = Z := ⟨_, rfl⟩
  rw [hea] at EA HJ
  rw [heb] at EB HJ
  rw [hR] at HJ ⊢
  rw [hZ] at HJ OZ
  obtain ⟨x0, y0, x1, y1⟩ := a
  obtain ⟨p0, q0, p1, q1⟩ := b
  obtain ⟨m0, hm0⟩ : ∃ m, (if p0 < x0 then p0 else x0) = m := ⟨_, rfl⟩
  obtain ⟨m1, hm1⟩ : ∃ m, (if q0 < y0 then q0 else y0) = m := ⟨_, rfl⟩
  obtain ⟨m2, hm2⟩ : ∃ m, (if x1 < p1 then p1 else x1) = m := ⟨_, rfl⟩
  obtain ⟨m3, hm3⟩ : ∃ m, (if y1 < q1 then q1 else y1) = m := ⟨_, rfl⟩
  have HU : Hid (uniB ⟨x0, y0, x1, y1⟩ ⟨p0, q0, p1, q1⟩ = ⟨m0, m1, m2, m3⟩) := Lib.hid (by rw [← hm0, ← hm1, ← hm2, ← hm3]; rfl)
  clear ha hb hr hb0 hW hR hea heb hZ
  go_enter Try.func18, Try.ntmps18
  go_upto_region 1 with fail
  rw [HW.out]
  have a0 := HA.out.cell 0 _ rfl
  have a1 := HA.out.cell 1 _ rfl
  have a2 := HA.out.cell 2 _ rfl
  have a3 := HA.out.cell 3 _ rfl
  have b0 := HBB.out.cell 0 _ rfl
  have b1 := HBB.out.cell 1 _ rfl
  have b2 := HBB.out.cell 2 _ rfl
  have b3 := HBB.out.cell 3 _ rfl
  go_wp2_with fail
  refine (EA.out _).mono ?_
  rintro r w1 ⟨rfl, hb⟩
  have HB1 := Lib.hid (HB.out.trans (hb.mono HB.out.size))
  have HA1 := Lib.hid (HA.out.below hb HA.out.lt)
  have HBB1 := Lib.hid (HBB.out.below hb HBB.out.lt)
  have HR1 := Lib.hid (HR.out.below hb HR.out.lt)
  clear a0 a1 a2 a3 b0 b1 b2 b3 hb
  have b0 := HBB1.out.cell 0 _ rfl
  have b1 := HBB1.out.cell 1 _ rfl
  have b2 := HBB1.out.cell 2 _ rfl
  have b3 := HBB1.out.cell 3 _ rfl
  cases ea
  · go_wp2_with fail
    refine (EB.out _).mono ?_
    rintro r w2 ⟨rfl, hb⟩
    have HB2 := Lib.hid (HB1.out.trans (hb.mono HB1.out.size))
    have ha := HA1.out.below hb HA1.out.lt
    have hbb := HBB1.out.below hb HBB1.out.lt
    have hr := HR1.out.below hb HR1.out.lt
    clear b0 b1 b2 b3 hb
    have a0 := ha.cell 0 _ rfl
    have a1 := ha.cell 1 _ rfl
    have a2 := ha.cell 2 _ rfl
    have a3 := ha.cell 3 _ rfl
    have b0 := hbb.cell 0 _ rfl
    have b1 := hbb.cell 1 _ rfl
    have b2 := hbb.cell 2 _ rfl
    have b3 := hbb.cell 3 _ rfl
    have r0 := hr.cell 0 _ rfl
    have r1 := hr.cell 1 _ rfl
    have r2 := hr.cell 2 _ rfl
    have r3 := hr.cell 3 _ rfl
    have fz := has_fro hr
    clear ha hbb hr
    cases eb
    · go_wp2
      refine bodyPost_ret (v := .agg #[.int .i64 m0, .int .i64 m1, .int .i64 m2, .int .i64 m3]) (by simp [results, Try.results18, go_sem, r0, r1, r2, r3]) rfl ⟨by rw [HJ.out]; simp only [Bool.false_eq_true, if_false]; rw [HU.out], ?_⟩
      repeat (first | exact HB2.out | refine Below.setCell ?_ (show w.heap.size ≤ B + 2 by omega) _)
    · go_wp2
      refine bodyPost_ret (v := .agg #[.int .i64 x0, .int .i64 y0, .int .i64 x1, .int .i64 y1]) (by simp [results, Try.results18, go_sem, r0, r1, r2, r3]) rfl ⟨by rw [HJ.out]; rfl, ?_⟩
      repeat (first | exact HB2.out | refine Below.setCell ?_ (show w.heap.size ≤ B + 2 by omega) _)
  · go_wp2_with fail
    refine (OZ.out _).mono ?_
    rintro r w2 ⟨rfl, hb⟩
    have HB2 := Lib.hid (HB1.out.trans (hb.mono HB1.out.size))
    have hr := HR1.out.below hb HR1.out.lt
    clear b0 b1 b2 b3 hb
    have r0 := hr.cell 0 _ rfl
    have r1 := hr.cell 1 _ rfl
    have r2 := hr.cell 2 _ rfl
    have r3 := hr.cell 3 _ rfl
    have fz := has_fro hr
    clear hr
    obtain ⟨z0, z1, z2, z3⟩ := Z
    go_wp2
    refine bodyPost_ret (v := .agg #[.int .i64 z0, .int .i64 z1, .int .i64 z2, .int .i64 z3]) (by simp [results, Try.results18, go_sem, r0, r1, r2, r3]) rfl ⟨by rw [HJ.out]; rfl, ?_⟩
    repeat (first | exact HB2.out | refine Below.setCell ?_ (show w.heap.size ≤ B + 2 by omega) _)

theorem r14_empty (b : Bo) (w : World) : Calls Try.prog 20 #[.agg (bCells b)] w fun r w' => r = .returned (.bool (emptyB b)) ∧ Below w.heap.size w w' := by
  obtain ⟨x0, y0, x1, y1⟩ := b
  unfold emptyB
  simp only
  by_cases h : x1 ≤ x0
  · go_enter Try.func20, Try.ntmps20
    go_wp2
    refine bodyPost_ret (v := .bool true) (by simp [results, Try.results20, go_sem]) rfl ⟨by simp [h], ?_⟩
    repeat (first | exact Below.refl _ _ | refine Below.alloc ?_ (by first | (simp; done) | (simp; omega)) _ | refine Below.setCell ?_ (by simp; omega) _)
  · go_enter Try.func20, Try.ntmps20
    go_wp2
    refine bodyPost_ret (v := .bool (decide (y1 ≤ y0))) (by simp [results, Try.results20, go_sem]) rfl ⟨by simp; omega, ?_⟩
    repeat (first | exact Below.refl _ _ | refine Below.alloc ?_ (by first | (simp; done) | (simp; omega)) _ | refine Below.setCell ?_ (by simp; omega) _)
theorem r14_has (b : Bo) (x y : Int) (w : World) : Calls Try.prog 23 #[.agg (bCells b), .int .i64 x, .int .i64 y] w fun r w' => r = .returned (.bool (hasB b x y)) ∧ Below w.heap.size w w' := by
  obtain ⟨x0, y0, x1, y1⟩ := b
  unfold hasB
  simp only
  by_cases h : x0 ≤ x
  · by_cases h2 : x < x1
    · by_cases h3 : y0 ≤ y
      · go_enter Try.func23, Try.ntmps23
        go_wp2
        refine bodyPost_ret (v := .bool (decide (y < y1))) (by simp [results, Try.results23, go_sem]) rfl ⟨by simp [h, h2, h3], ?_⟩
        repeat (first | exact Below.refl _ _ | refine Below.alloc ?_ (by first | (simp; done) | (simp; omega)) _ | refine Below.setCell ?_ (by simp; omega) _)
      · go_enter Try.func23, Try.ntmps23
        go_wp2
        refine bodyPost_ret (v := .bool false) (by simp [results, Try.results23, go_sem]) rfl ⟨by simp; omega, ?_⟩
        repeat (first | exact Below.refl _ _ | refine Below.alloc ?_ (by first | (simp; done) | (simp; omega)) _ | refine Below.setCell ?_ (by simp; omega) _)
    · go_enter Try.func23, Try.ntmps23
      go_wp2
      refine bodyPost_ret (v := .bool false) (by simp [results, Try.results23, go_sem]) rfl ⟨by simp; omega, ?_⟩
      repeat (first | exact Below.refl _ _ | refine Below.alloc ?_ (by first | (simp; done) | (simp; omega)) _ | refine Below.setCell ?_ (by simp; omega) _)
  · go_enter Try.func23, Try.ntmps23
    go_wp2
    refine bodyPost_ret (v := .bool false) (by simp [results, Try.results23, go_sem]) rfl ⟨by simp; omega, ?_⟩
    repeat (first | exact Below.refl _ _ | refine Below.alloc ?_ (by first | (simp; done) | (simp; omega)) _ | refine Below.setCell ?_ (by simp; omega) _)

end Go.Proofs.Ytnhnnkeakoakfaa
