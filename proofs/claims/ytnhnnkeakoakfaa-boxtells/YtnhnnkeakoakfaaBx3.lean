/- Contracts of the reference's Join and Meet: for all numbers what the plain arithmetic says; of the memory nothing that was there turns. -/
import Derived.Test.YtnhnnkeakoakfaaBx2
namespace Go.Proofs.Ytnhnnkeakoakfaa
open Go Go.RowKit
open M

set_option maxHeartbeats 1000000 in
theorem r14_join (a b : Bo) (w : World) : Calls Try.prog 21 #[.agg (bCells a), .agg (bCells b)] w fun r w' => r = .returned (.agg (bCells (joinB a b))) ∧ Below w.heap.size w w' := by
  obtain ⟨W, hW⟩ : ∃ W, ((w.alloc (.cells (bCells a) 23)).alloc (.cells (bCells b) 23)).alloc (.cells #[.int .i64 0, .int .i64 0, .int .i64 0, .int .i64 0] 23) = W := ⟨_, rfl⟩
  obtain ⟨ha, hb, hr, hb0⟩ := has_old3 hW
  obtain ⟨B, hB⟩ : ∃ B, w.heap.size = B := ⟨_, rfl⟩
  rw [hB] at ha hb hr
  have HB0 := Lib.hid hb0
  have HA0 := Lib.hid ha
  have HBB0 := Lib.hid hb
  have HR0 := Lib.hid hr
  have HW := Lib.hid hW
  have EA := Lib.hid (fun w => r14_empty a w)
  have EB := Lib.hid (fun w => r14_empty b w)
  have HJ : Hid (joinB a b = if emptyB a = true then (if emptyB b = true then zeroB else b) else if emptyB b = true then a else uniB a b) := Lib.hid rfl
  obtain ⟨ea, hea⟩ : ∃ e, emptyB a = e := ⟨_, rfl⟩
  obtain ⟨eb, heb⟩ : ∃ e, emptyB b = e := ⟨_, rfl⟩
  obtain ⟨R, hR⟩ : ∃ R, joinB a b = R := ⟨_, rfl⟩
  rw [hea] at EA HJ
  rw [heb] at EB HJ
  rw [hR] at HJ ⊢
  obtain ⟨x0, y0, x1, y1⟩ := a
  obtain ⟨p0, q0, p1, q1⟩ := b
  obtain ⟨m0, hm0⟩ : ∃ m, (if p0 < x0 then p0 else x0) = m := ⟨_, rfl⟩
  obtain ⟨m1, hm1⟩ : ∃ m, (if q0 < y0 then q0 else y0) = m := ⟨_, rfl⟩
  obtain ⟨m2, hm2⟩ : ∃ m, (if x1 < p1 then p1 else x1) = m := ⟨_, rfl⟩
  obtain ⟨m3, hm3⟩ : ∃ m, (if y1 < q1 then q1 else y1) = m := ⟨_, rfl⟩
  have HU : Hid (uniB ⟨x0, y0, x1, y1⟩ ⟨p0, q0, p1, q1⟩ = ⟨m0, m1, m2, m3⟩) := Lib.hid (by rw [← hm0, ← hm1, ← hm2, ← hm3]; rfl)
  clear ha hb hr hb0 hW hR hea heb
  go_enter Try.func21, Try.ntmps21
  go_upto_region 1 with fail
  rw [HW.out]
  have a0 := HA0.out.cell 0 _ rfl
  have a1 := HA0.out.cell 1 _ rfl
  have a2 := HA0.out.cell 2 _ rfl
  have a3 := HA0.out.cell 3 _ rfl
  go_wp2_with fail
  refine (EA.out _).mono ?_
  rintro r w1 ⟨rfl, hb⟩
  have HB1 := Lib.hid (HB0.out.trans (hb.mono HB0.out.size))
  have HA1 := Lib.hid (HA0.out.below hb HA0.out.lt)
  have HBB1 := Lib.hid (HBB0.out.below hb HBB0.out.lt)
  have HR1 := Lib.hid (HR0.out.below hb HR0.out.lt)
  clear a0 a1 a2 a3 hb
  have a0 := HA1.out.cell 0 _ rfl
  have a1 := HA1.out.cell 1 _ rfl
  have a2 := HA1.out.cell 2 _ rfl
  have a3 := HA1.out.cell 3 _ rfl
  have b0 := HBB1.out.cell 0 _ rfl
  have b1 := HBB1.out.cell 1 _ rfl
  have b2 := HBB1.out.cell 2 _ rfl
  have b3 := HBB1.out.cell 3 _ rfl
  cases ea
  · go_wp2_with fail
    refine (EA.out _).mono ?_
    rintro r w2 ⟨rfl, hb⟩
    have HB2 := Lib.hid (HB1.out.trans (hb.mono HB1.out.size))
    have HA2 := Lib.hid (HA1.out.below hb HA1.out.lt)
    have HBB2 := Lib.hid (HBB1.out.below hb HBB1.out.lt)
    have HR2 := Lib.hid (HR1.out.below hb HR1.out.lt)
    clear a0 a1 a2 a3 b0 b1 b2 b3 hb
    have a0 := HA2.out.cell 0 _ rfl
    have a1 := HA2.out.cell 1 _ rfl
    have a2 := HA2.out.cell 2 _ rfl
    have a3 := HA2.out.cell 3 _ rfl
    have b0 := HBB2.out.cell 0 _ rfl
    have b1 := HBB2.out.cell 1 _ rfl
    have b2 := HBB2.out.cell 2 _ rfl
    have b3 := HBB2.out.cell 3 _ rfl
    go_wp2_with fail
    refine (EB.out _).mono ?_
    rintro r w3 ⟨rfl, hb⟩
    have HB3 := Lib.hid (HB2.out.trans (hb.mono HB2.out.size))
    have HA3 := Lib.hid (HA2.out.below hb HA2.out.lt)
    have HBB3 := Lib.hid (HBB2.out.below hb HBB2.out.lt)
    have HR3 := Lib.hid (HR2.out.below hb HR2.out.lt)
    clear a0 a1 a2 a3 b0 b1 b2 b3 hb
    have a0 := HA3.out.cell 0 _ rfl
    have a1 := HA3.out.cell 1 _ rfl
    have a2 := HA3.out.cell 2 _ rfl
    have a3 := HA3.out.cell 3 _ rfl
    have b0 := HBB3.out.cell 0 _ rfl
    have b1 := HBB3.out.cell 1 _ rfl
    have b2 := HBB3.out.cell 2 _ rfl
    have b3 := HBB3.out.cell 3 _ rfl
    have r0 := HR3.out.cell 0 _ rfl
    have r1 := HR3.out.cell 1 _ rfl
    have r2 := HR3.out.cell 2 _ rfl
    have r3 := HR3.out.cell 3 _ rfl
    have fz := has_fro HR3.out
    cases eb
    · go_wp2
      refine bodyPost_ret (v := .agg #[.int .i64 m0, .int .i64 m1, .int .i64 m2, .int .i64 m3]) (by simp [results, Try.results21, go_sem, r0, r1, r2, r3]) rfl ⟨by rw [HJ.out]; simp only [Bool.false_eq_true, if_false]; rw [HU.out], ?_⟩
      repeat (first | exact HB3.out | refine Below.setCell ?_ (show w.heap.size ≤ B + 2 by omega) _)
    · go_wp2
      refine bodyPost_ret (v := .agg #[.int .i64 x0, .int .i64 y0, .int .i64 x1, .int .i64 y1]) (by simp [results, Try.results21, go_sem, r0, r1, r2, r3]) rfl ⟨by rw [HJ.out]; rfl, ?_⟩
      repeat (first | exact HB3.out | refine Below.setCell ?_ (show w.heap.size ≤ B + 2 by omega) _)
  · go_wp2_with fail
    refine (EB.out _).mono ?_
    rintro r w2 ⟨rfl, hb⟩
    have HB2 := Lib.hid (HB1.out.trans (hb.mono HB1.out.size))
    have HA2 := Lib.hid (HA1.out.below hb HA1.out.lt)
    have HBB2 := Lib.hid (HBB1.out.below hb HBB1.out.lt)
    have HR2 := Lib.hid (HR1.out.below hb HR1.out.lt)
    clear a0 a1 a2 a3 b0 b1 b2 b3 hb
    have a0 := HA2.out.cell 0 _ rfl
    have a1 := HA2.out.cell 1 _ rfl
    have a2 := HA2.out.cell 2 _ rfl
    have a3 := HA2.out.cell 3 _ rfl
    have b0 := HBB2.out.cell 0 _ rfl
    have b1 := HBB2.out.cell 1 _ rfl
    have b2 := HBB2.out.cell 2 _ rfl
    have b3 := HBB2.out.cell 3 _ rfl
    have r0 := HR2.out.cell 0 _ rfl
    have r1 := HR2.out.cell 1 _ rfl
    have r2 := HR2.out.cell 2 _ rfl
    have r3 := HR2.out.cell 3 _ rfl
    have fz := has_fro HR2.out
    cases eb
    · go_wp2_with fail
      refine (EA.out _).mono ?_
      rintro r w3 ⟨rfl, hb⟩
      have HB3 := Lib.hid (HB2.out.trans (hb.mono HB2.out.size))
      have HA3 := Lib.hid (HA2.out.below hb HA2.out.lt)
      have HBB3 := Lib.hid (HBB2.out.below hb HBB2.out.lt)
      have HR3 := Lib.hid (HR2.out.below hb HR2.out.lt)
      clear a0 a1 a2 a3 b0 b1 b2 b3 r0 r1 r2 r3 hb
      have a0 := HA3.out.cell 0 _ rfl
      have a1 := HA3.out.cell 1 _ rfl
      have a2 := HA3.out.cell 2 _ rfl
      have a3 := HA3.out.cell 3 _ rfl
      have b0 := HBB3.out.cell 0 _ rfl
      have b1 := HBB3.out.cell 1 _ rfl
      have b2 := HBB3.out.cell 2 _ rfl
      have b3 := HBB3.out.cell 3 _ rfl
      have r0 := HR3.out.cell 0 _ rfl
      have r1 := HR3.out.cell 1 _ rfl
      have r2 := HR3.out.cell 2 _ rfl
      have r3 := HR3.out.cell 3 _ rfl
      have fz := has_fro HR3.out
      go_wp2
      refine bodyPost_ret (v := .agg #[.int .i64 p0, .int .i64 q0, .int .i64 p1, .int .i64 q1]) (by simp [results, Try.results21, go_sem, r0, r1, r2, r3]) rfl ⟨by rw [HJ.out]; rfl, ?_⟩
      repeat (first | exact HB3.out | refine Below.setCell ?_ (show w.heap.size ≤ B + 2 by omega) _)
    · go_wp2
      refine bodyPost_ret (v := .agg #[.int .i64 0, .int .i64 0, .int .i64 0, .int .i64 0]) (by simp [results, Try.results21, go_sem, r0, r1, r2, r3]) rfl ⟨by rw [HJ.out]; rfl, ?_⟩
      repeat (first | exact HB2.out | refine Below.setCell ?_ (show w.heap.size ≤ B + 2 by omega) _)
set_option maxHeartbeats 1000000 in
theorem r14_meet (a b : Bo) (w : World) : Calls Try.prog 22 #[.agg (bCells a), .agg (bCells b)] w fun r w' => r = .returned (.agg (bCells (meetB a b))) ∧ Below w.heap.size w w' := by
  obtain ⟨W, hW⟩ : ∃ W, ((w.alloc (.cells (bCells a) 23)).alloc (.cells (bCells b) 23)).alloc (.cells #[.int .i64 0, .int .i64 0, .int .i64 0, .int .i64 0] 23) = W := ⟨_, rfl⟩
  obtain ⟨ha, hb, hr, hb0⟩ := has_old3 hW
  have hsz : W.heap.size = w.heap.size + 3 := by rw [← hW]; simp
  obtain ⟨B, hB⟩ : ∃ B, w.heap.size = B := ⟨_, rfl⟩
  rw [hB] at ha hb hr hsz
  have EA := Lib.hid (fun w => r14_empty a w)
  have EB := Lib.hid (fun w => r14_empty b w)
  obtain ⟨ea, hea⟩ : ∃ e, emptyB a = e := ⟨_, rfl⟩
  obtain ⟨eb, heb⟩ : ∃ e, emptyB b = e := ⟨_, rfl⟩
  have C1 : Hid (ea = true → emptyB (capB a b) = true) := Lib.hid (fun h => cap_empty (Or.inl (hea.trans h)))
  have C2 : Hid (eb = true → emptyB (capB a b) = true) := Lib.hid (fun h => cap_empty (Or.inr (heb.trans h)))
  have HJ : Hid (meetB a b = if emptyB (capB a b) = true then zeroB else capB a b) := Lib.hid rfl
  obtain ⟨R, hR⟩ : ∃ R, meetB a b = R := ⟨_, rfl⟩
  rw [hea] at EA
  rw [heb] at EB
  rw [hR] at HJ ⊢
  obtain ⟨x0, y0, x1, y1⟩ := a
  obtain ⟨p0, q0, p1, q1⟩ := b
  obtain ⟨m0, hm0⟩ : ∃ m, (if x0 < p0 then p0 else x0) = m := ⟨_, rfl⟩
  obtain ⟨m1, hm1⟩ : ∃ m, (if y0 < q0 then q0 else y0) = m := ⟨_, rfl⟩
  obtain ⟨m2, hm2⟩ : ∃ m, (if p1 < x1 then p1 else x1) = m := ⟨_, rfl⟩
  obtain ⟨m3, hm3⟩ : ∃ m, (if q1 < y1 then q1 else y1) = m := ⟨_, rfl⟩
  have hu : capB ⟨x0, y0, x1, y1⟩ ⟨p0, q0, p1, q1⟩ = ⟨m0, m1, m2, m3⟩ := by rw [← hm0, ← hm1, ← hm2, ← hm3]; rfl
  rw [hu] at HJ C1 C2
  have EC := Lib.hid (fun w => r14_empty ⟨m0, m1, m2, m3⟩ w)
  obtain ⟨ec, hec⟩ : ∃ e, emptyB ⟨m0, m1, m2, m3⟩ = e := ⟨_, rfl⟩
  rw [hec] at EC HJ C1 C2
  obtain ⟨V, hV⟩ : ∃ V, W.alloc (.cells #[.int .i64 m0, .int .i64 m1, .int .i64 m2, .int .i64 m3] 23) = V := ⟨_, rfl⟩
  have hc : Has V (B + 3) #[.int .i64 m0, .int .i64 m1, .int .i64 m2, .int .i64 m3] 23 := by rw [← hV]; exact has_new hsz
  have HA0 : Hid (Has V _ _ _) := Lib.hid (by rw [← hV]; exact ha.alloc _)
  have HBB0 : Hid (Has V _ _ _) := Lib.hid (by rw [← hV]; exact hb.alloc _)
  have HR0 : Hid (Has V _ _ _) := Lib.hid (by rw [← hV]; exact hr.alloc _)
  have HB0 : Hid (Below w.heap.size w V) := Lib.hid (by rw [← hV]; exact hb0.alloc hb0.size _)
  have HA := Lib.hid ha
  have HBB := Lib.hid hb
  have HC0 := Lib.hid hc
  have HW := Lib.hid hW
  have HV := Lib.hid hV
  have SZ := Lib.hid hsz
  clear ha hb hr hb0 hW hR hea heb hec hu hV hc hsz
  go_enter Try.func22, Try.ntmps22
  go_upto_region 1 with fail
  rw [HW.out]
  have a0 := HA.out.cell 0 _ rfl
  have a1 := HA.out.cell 1 _ rfl
  have a2 := HA.out.cell 2 _ rfl
  have a3 := HA.out.cell 3 _ rfl
  have b0 := HBB.out.cell 0 _ rfl
  have b1 := HBB.out.cell 1 _ rfl
  have b2 := HBB.out.cell 2 _ rfl
  have b3 := HBB.out.cell 3 _ rfl
  have sz := SZ.out
  go_upto_region 2 with fail
  rw [HV.out]
  clear a0 a1 a2 a3 b0 b1 b2 b3 sz
  have a0 := HA0.out.cell 0 _ rfl
  have a1 := HA0.out.cell 1 _ rfl
  have a2 := HA0.out.cell 2 _ rfl
  have a3 := HA0.out.cell 3 _ rfl
  go_wp2_with fail
  refine (EA.out _).mono ?_
  rintro r w1 ⟨rfl, hb⟩
  have HB1 := Lib.hid (HB0.out.trans (hb.mono HB0.out.size))
  have HA1 := Lib.hid (HA0.out.below hb HA0.out.lt)
  have HBB1 := Lib.hid (HBB0.out.below hb HBB0.out.lt)
  have HR1 := Lib.hid (HR0.out.below hb HR0.out.lt)
  have HC1 := Lib.hid (HC0.out.below hb HC0.out.lt)
  clear a0 a1 a2 a3 hb
  have b0 := HBB1.out.cell 0 _ rfl
  have b1 := HBB1.out.cell 1 _ rfl
  have b2 := HBB1.out.cell 2 _ rfl
  have b3 := HBB1.out.cell 3 _ rfl
  cases ea
  · go_wp2_with fail
    refine (EB.out _).mono ?_
    rintro r w2 ⟨rfl, hb⟩
    have HB2 := Lib.hid (HB1.out.trans (hb.mono HB1.out.size))
    have HA2 := Lib.hid (HA1.out.below hb HA1.out.lt)
    have HBB2 := Lib.hid (HBB1.out.below hb HBB1.out.lt)
    have HR2 := Lib.hid (HR1.out.below hb HR1.out.lt)
    have HC2 := Lib.hid (HC1.out.below hb HC1.out.lt)
    clear b0 b1 b2 b3 hb
    have c0 := HC2.out.cell 0 _ rfl
    have c1 := HC2.out.cell 1 _ rfl
    have c2 := HC2.out.cell 2 _ rfl
    have c3 := HC2.out.cell 3 _ rfl
    cases eb
    · go_wp2_with fail
      refine (EC.out _).mono ?_
      rintro r w3 ⟨rfl, hb⟩
      have HB3 := Lib.hid (HB2.out.trans (hb.mono HB2.out.size))
      have HA3 := Lib.hid (HA2.out.below hb HA2.out.lt)
      have HBB3 := Lib.hid (HBB2.out.below hb HBB2.out.lt)
      have HR3 := Lib.hid (HR2.out.below hb HR2.out.lt)
      have HC3 := Lib.hid (HC2.out.below hb HC2.out.lt)
      clear c0 c1 c2 c3 hb
      have c0 := HC3.out.cell 0 _ rfl
      have c1 := HC3.out.cell 1 _ rfl
      have c2 := HC3.out.cell 2 _ rfl
      have c3 := HC3.out.cell 3 _ rfl
      have r0 := HR3.out.cell 0 _ rfl
      have r1 := HR3.out.cell 1 _ rfl
      have r2 := HR3.out.cell 2 _ rfl
      have r3 := HR3.out.cell 3 _ rfl
      have fz := has_fro HR3.out
      cases ec
      · go_wp2
        refine bodyPost_ret (v := .agg #[.int .i64 m0, .int .i64 m1, .int .i64 m2, .int .i64 m3]) (by simp [results, Try.results22, go_sem, r0, r1, r2, r3]) rfl ⟨by rw [HJ.out]; rfl, ?_⟩
        repeat (first | exact HB3.out | refine Below.setCell ?_ (show w.heap.size ≤ B + 2 by omega) _)
      · go_wp2
        refine bodyPost_ret (v := .agg #[.int .i64 0, .int .i64 0, .int .i64 0, .int .i64 0]) (by simp [results, Try.results22, go_sem, r0, r1, r2, r3]) rfl ⟨by rw [HJ.out]; rfl, ?_⟩
        repeat (first | exact HB3.out | refine Below.setCell ?_ (show w.heap.size ≤ B + 2 by omega) _)
    · clear c0 c1 c2 c3
      have r0 := HR2.out.cell 0 _ rfl
      have r1 := HR2.out.cell 1 _ rfl
      have r2 := HR2.out.cell 2 _ rfl
      have r3 := HR2.out.cell 3 _ rfl
      have fz := has_fro HR2.out
      go_wp2
      refine bodyPost_ret (v := .agg #[.int .i64 0, .int .i64 0, .int .i64 0, .int .i64 0]) (by simp [results, Try.results22, go_sem, r0, r1, r2, r3]) rfl ⟨by rw [HJ.out, show ec = true by first | exact C2.out rfl | exact C2.out trivial]; rfl, ?_⟩
      repeat (first | exact HB2.out | refine Below.setCell ?_ (show w.heap.size ≤ B + 2 by omega) _)
  · clear b0 b1 b2 b3
    have r0 := HR1.out.cell 0 _ rfl
    have r1 := HR1.out.cell 1 _ rfl
    have r2 := HR1.out.cell 2 _ rfl
    have r3 := HR1.out.cell 3 _ rfl
    have fz := has_fro HR1.out
    go_wp2
    refine bodyPost_ret (v := .agg #[.int .i64 0, .int .i64 0, .int .i64 0, .int .i64 0]) (by simp [results, Try.results22, go_sem, r0, r1, r2, r3]) rfl ⟨by rw [HJ.out, show ec = true by first | exact C1.out rfl | exact C1.out trivial]; rfl, ?_⟩
    repeat (first | exact HB1.out | refine Below.setCell ?_ (show w.heap.size ≤ B + 2 by omega) _)

end Go.Proofs.Ytnhnnkeakoakfaa
