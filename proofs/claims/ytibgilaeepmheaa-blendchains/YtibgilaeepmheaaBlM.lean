/- Contracts of blend.Matte and of mutoscoperef15.Matte: for all pixels and ways what the plain arithmetic says; of the memory nothing that was there turns. Condition: the pixels' parts are bytes. -/
import Derived.Test.YtibgilaeepmheaaBlC
import Derived.Test.YtibgilaeepmheaaHL
import Derived.Test.YtibgilaeepmheaaMake
namespace Go.Proofs.Ytibgilaeepmheaa
open Go Go.RowKit
open M

attribute [local go_sem] alloc_drewN setCell_drewN shape_drewN

set_option maxRecDepth 100000 in
set_option maxHeartbeats 4000000 in
theorem bl_matte (x m : Cr) (how : Int) (hx : x.Ok) (hm : m.Ok) (w : World) :
    Calls Try.prog 17 #[.agg (cCells x), .agg (cCells m), .int .i64 how] w fun e w' => e = .returned (.agg (cCells (matteB x m how))) ∧ Below w.heap.size w w' := by
  obtain ⟨B, hB⟩ : ∃ B, w.heap.size = B := ⟨_, rfl⟩
  obtain ⟨W, hW⟩ : ∃ W, ((w.alloc (.cells (cCells x) 25)).alloc (.cells (cCells m) 25)).alloc (.cells zPx 25) = W := ⟨_, rfl⟩
  have HA : Hid (Has W B (cCells x) 25) := Lib.hid (by rw [← hW]; exact ((has_new hB).alloc _).alloc _)
  have HM : Hid (Has W (B + 1) (cCells m) 25) := Lib.hid (by rw [← hW]; exact (has_new (by simp [hB])).alloc _)
  have HR : Hid (Has W (B + 2) zPx 25) := Lib.hid (by rw [← hW]; exact has_new (by simp [hB]))
  have HB : Hid (Below w.heap.size w W) := Lib.hid (by rw [← hW]; exact (((Below.refl _ _).alloc (Nat.le_refl _) _).alloc (by simp) _).alloc (by simp; omega) _)
  have HW := Lib.hid hW
  have BB : Hid (w.heap.size ≤ B) := Lib.hid (by omega)
  clear hW
  have LU := Lib.hid (fun w => h_luma m w hm)
  obtain ⟨u, hu⟩ : ∃ u, luma m = u := ⟨_, rfl⟩
  rw [hu] at LU
  by_cases h1 : how = 1
  · subst h1
    have F1 := Lib.hid (fun w => bl_fade x m.q hx w)
    rw [show matteB x m 1 = fadeB x m.q from rfl]
    obtain ⟨⟨fr, fg, fb, fq⟩, hf⟩ : ∃ f, fadeB x m.q = f := ⟨_, rfl⟩
    rw [hf] at F1 ⊢
    clear hf hu LU hx
    obtain ⟨xr, xg, xb, xq⟩ := x
    obtain ⟨mr, mg, mb, mq⟩ := m
    obtain ⟨r0, r1, g0, g1, b0, b1, q0, q1⟩ := hm
    simp only at q0 q1 F1
    clear r0 r1 g0 g1 b0 b1
    go_enter Try.func17, Try.ntmps17
    go_upto_region 1 with fail
    rw [HW.out]
    clear hB HW
    have a0 := HA.out.cell 0 _ rfl
    have m0 := HM.out.cell 0 _ rfl
    have a1 := HA.out.cell 1 _ rfl
    have m1 := HM.out.cell 1 _ rfl
    have a2 := HA.out.cell 2 _ rfl
    have m2 := HM.out.cell 2 _ rfl
    have a3 := HA.out.cell 3 _ rfl
    have m3 := HM.out.cell 3 _ rfl
    go_wp2_with fail
    refine (F1.out _).mono ?_
    rintro e w3 ⟨rfl, hb3⟩
    clear a0 a1 a2 a3 m0 m1 m2 m3
    have hr3 := HR.out.below hb3 HR.out.lt
    have HB3 := Lib.hid (HB.out.trans (hb3.mono HB.out.size))
    have fz := has_fro hr3
    have z0 := hr3.cell 0 _ rfl
    have z1 := hr3.cell 1 _ rfl
    have z2 := hr3.cell 2 _ rfl
    have z3 := hr3.cell 3 _ rfl
    go_wp2
    refine bodyPost_ret (v := .agg (cCells ⟨fr, fg, fb, fq⟩)) (by simp [results, Try.results17, go_sem, z0, z1, z2, z3]) rfl ⟨rfl, ?_⟩
    have hk : w.heap.size ≤ B + 2 := by have := BB.out; omega
    repeat (first | refine Below.setCell ?_ (show w.heap.size ≤ B + 2 from hk) _ | exact HB3.out)
  · by_cases h2 : how = 2
    · subst h2
      have F1 := Lib.hid (fun w => bl_fade x u hx w)
      rw [show matteB x m 2 = fadeB x u by rw [← hu]; rfl]
      obtain ⟨⟨fr, fg, fb, fq⟩, hf⟩ : ∃ f, fadeB x u = f := ⟨_, rfl⟩
      rw [hf] at F1 ⊢
      clear hf hu hx hm h1
      obtain ⟨xr, xg, xb, xq⟩ := x
      obtain ⟨mr, mg, mb, mq⟩ := m
      go_enter Try.func17, Try.ntmps17
      go_upto_region 1 with fail
      rw [HW.out]
      clear hB HW
      go_wp2
      refine wp_region_make0 4 (by kernel_rfl) (by kernel_rfl) (by kernel_rfl) ?_
      apply Exists.intro
      refine ⟨fun R hR hN => ?_, ?_⟩
      · have a0 := fun z => LaterR.read (R := R) HA.out 0 _ rfl z
        have a1 := fun z => LaterR.read (R := R) HA.out 1 _ rfl z
        have a2 := fun z => LaterR.read (R := R) HA.out 2 _ rfl z
        have a3 := fun z => LaterR.read (R := R) HA.out 3 _ rfl z
        have m0 := fun z => LaterR.read (R := R) HM.out 0 _ rfl z
        have m1 := fun z => LaterR.read (R := R) HM.out 1 _ rfl z
        have m2 := fun z => LaterR.read (R := R) HM.out 2 _ rfl z
        have m3 := fun z => LaterR.read (R := R) HM.out 3 _ rfl z
        simp only [List.take_succ_cons, List.take_zero]
        repeat (go_big_quiet_step (first | (go_at_call 22; exact LaterR.calls hR (LU.out _)) | (go_at_call 13; exact LaterR.calls hR (F1.out _))))
        exact wpQuiet_nil rfl
      · intro w3 hb3
        simp only [List.drop_succ_cons, List.drop_zero]
        have hr3 := HR.out.below hb3 HR.out.lt
        have HB3 := Lib.hid (HB.out.trans (hb3.mono HB.out.size))
        have fz := has_fro hr3
        have z0 := hr3.cell 0 _ rfl
        have z1 := hr3.cell 1 _ rfl
        have z2 := hr3.cell 2 _ rfl
        have z3 := hr3.cell 3 _ rfl
        go_wp2
        refine bodyPost_ret (v := .agg (cCells ⟨fr, fg, fb, fq⟩)) (by simp [results, Try.results17, go_sem, z0, z1, z2, z3]) rfl ⟨rfl, ?_⟩
        have hk : w.heap.size ≤ B + 2 := by have := BB.out; omega
        repeat (first | refine Below.setCell ?_ (show w.heap.size ≤ B + 2 from hk) _ | exact HB3.out)
    · rw [show matteB x m how = x by unfold matteB; rw [if_neg h1, if_neg h2]]
      clear hu LU hx hm
      obtain ⟨xr, xg, xb, xq⟩ := x
      obtain ⟨mr, mg, mb, mq⟩ := m
      go_enter Try.func17, Try.ntmps17
      go_upto_region 1 with fail
      rw [HW.out]
      clear hB HW
      have a0 := HA.out.cell 0 _ rfl
      have a1 := HA.out.cell 1 _ rfl
      have a2 := HA.out.cell 2 _ rfl
      have a3 := HA.out.cell 3 _ rfl
      have fz := has_fro HR.out
      have z0 := HR.out.cell 0 _ rfl
      have z1 := HR.out.cell 1 _ rfl
      have z2 := HR.out.cell 2 _ rfl
      have z3 := HR.out.cell 3 _ rfl
      go_wp2
      refine bodyPost_ret (v := .agg (cCells ⟨xr, xg, xb, xq⟩)) (by simp [results, Try.results17, go_sem, z0, z1, z2, z3]) rfl ⟨rfl, ?_⟩
      have hk : w.heap.size ≤ B + 2 := by have := BB.out; omega
      repeat (first | refine Below.setCell ?_ (show w.heap.size ≤ B + 2 from hk) _ | exact HB.out)

set_option maxRecDepth 100000 in
set_option maxHeartbeats 4000000 in
theorem rb_matte (x m : Cr) (how : Int) (hx : x.Ok) (hm : m.Ok) (w : World) :
    Calls Try.prog 18 #[.agg (cCells x), .agg (cCells m), .int .i64 how] w fun e w' => e = .returned (.agg (cCells (matteB x m how))) ∧ Below w.heap.size w w' := by
  obtain ⟨B, hB⟩ : ∃ B, w.heap.size = B := ⟨_, rfl⟩
  obtain ⟨W, hW⟩ : ∃ W, ((w.alloc (.cells (cCells x) 25)).alloc (.cells (cCells m) 25)).alloc (.cells zPx 25) = W := ⟨_, rfl⟩
  have HA : Hid (Has W B (cCells x) 25) := Lib.hid (by rw [← hW]; exact ((has_new hB).alloc _).alloc _)
  have HM : Hid (Has W (B + 1) (cCells m) 25) := Lib.hid (by rw [← hW]; exact (has_new (by simp [hB])).alloc _)
  have HR : Hid (Has W (B + 2) zPx 25) := Lib.hid (by rw [← hW]; exact has_new (by simp [hB]))
  have HB : Hid (Below w.heap.size w W) := Lib.hid (by rw [← hW]; exact (((Below.refl _ _).alloc (Nat.le_refl _) _).alloc (by simp) _).alloc (by simp; omega) _)
  have HW := Lib.hid hW
  have BB : Hid (w.heap.size ≤ B) := Lib.hid (by omega)
  clear hW
  have LU := Lib.hid (fun w => r5_luma m w hm)
  obtain ⟨u, hu⟩ : ∃ u, luma m = u := ⟨_, rfl⟩
  rw [hu] at LU
  by_cases h1 : how = 1
  · subst h1
    have F1 := Lib.hid (fun w => rb_fade x m.q hx w)
    rw [show matteB x m 1 = fadeB x m.q from rfl]
    obtain ⟨⟨fr, fg, fb, fq⟩, hf⟩ : ∃ f, fadeB x m.q = f := ⟨_, rfl⟩
    rw [hf] at F1 ⊢
    clear hf hu LU hx
    obtain ⟨xr, xg, xb, xq⟩ := x
    obtain ⟨mr, mg, mb, mq⟩ := m
    obtain ⟨r0, r1, g0, g1, b0, b1, q0, q1⟩ := hm
    simp only at q0 q1 F1
    clear r0 r1 g0 g1 b0 b1
    go_enter Try.func18, Try.ntmps18
    go_upto_region 1 with fail
    rw [HW.out]
    clear hB HW
    have a0 := HA.out.cell 0 _ rfl
    have m0 := HM.out.cell 0 _ rfl
    have a1 := HA.out.cell 1 _ rfl
    have m1 := HM.out.cell 1 _ rfl
    have a2 := HA.out.cell 2 _ rfl
    have m2 := HM.out.cell 2 _ rfl
    have a3 := HA.out.cell 3 _ rfl
    have m3 := HM.out.cell 3 _ rfl
    go_wp2_with fail
    refine (F1.out _).mono ?_
    rintro e w3 ⟨rfl, hb3⟩
    clear a0 a1 a2 a3 m0 m1 m2 m3
    have hr3 := HR.out.below hb3 HR.out.lt
    have HB3 := Lib.hid (HB.out.trans (hb3.mono HB.out.size))
    have fz := has_fro hr3
    have z0 := hr3.cell 0 _ rfl
    have z1 := hr3.cell 1 _ rfl
    have z2 := hr3.cell 2 _ rfl
    have z3 := hr3.cell 3 _ rfl
    go_wp2
    refine bodyPost_ret (v := .agg (cCells ⟨fr, fg, fb, fq⟩)) (by simp [results, Try.results18, go_sem, z0, z1, z2, z3]) rfl ⟨rfl, ?_⟩
    have hk : w.heap.size ≤ B + 2 := by have := BB.out; omega
    repeat (first | refine Below.setCell ?_ (show w.heap.size ≤ B + 2 from hk) _ | exact HB3.out)
  · by_cases h2 : how = 2
    · subst h2
      have F1 := Lib.hid (fun w => rb_fade x u hx w)
      rw [show matteB x m 2 = fadeB x u by rw [← hu]; rfl]
      obtain ⟨⟨fr, fg, fb, fq⟩, hf⟩ : ∃ f, fadeB x u = f := ⟨_, rfl⟩
      rw [hf] at F1 ⊢
      clear hf hu hx hm h1
      obtain ⟨xr, xg, xb, xq⟩ := x
      obtain ⟨mr, mg, mb, mq⟩ := m
      go_enter Try.func18, Try.ntmps18
      go_upto_region 1 with fail
      rw [HW.out]
      clear hB HW
      go_wp2
      refine wp_region_make0 4 (by kernel_rfl) (by kernel_rfl) (by kernel_rfl) ?_
      apply Exists.intro
      refine ⟨fun R hR hN => ?_, ?_⟩
      · have a0 := fun z => LaterR.read (R := R) HA.out 0 _ rfl z
        have a1 := fun z => LaterR.read (R := R) HA.out 1 _ rfl z
        have a2 := fun z => LaterR.read (R := R) HA.out 2 _ rfl z
        have a3 := fun z => LaterR.read (R := R) HA.out 3 _ rfl z
        have m0 := fun z => LaterR.read (R := R) HM.out 0 _ rfl z
        have m1 := fun z => LaterR.read (R := R) HM.out 1 _ rfl z
        have m2 := fun z => LaterR.read (R := R) HM.out 2 _ rfl z
        have m3 := fun z => LaterR.read (R := R) HM.out 3 _ rfl z
        simp only [List.take_succ_cons, List.take_zero]
        repeat (go_big_quiet_step (first | (go_at_call 23; exact LaterR.calls hR (LU.out _)) | (go_at_call 14; exact LaterR.calls hR (F1.out _))))
        exact wpQuiet_nil rfl
      · intro w3 hb3
        simp only [List.drop_succ_cons, List.drop_zero]
        have hr3 := HR.out.below hb3 HR.out.lt
        have HB3 := Lib.hid (HB.out.trans (hb3.mono HB.out.size))
        have fz := has_fro hr3
        have z0 := hr3.cell 0 _ rfl
        have z1 := hr3.cell 1 _ rfl
        have z2 := hr3.cell 2 _ rfl
        have z3 := hr3.cell 3 _ rfl
        go_wp2
        refine bodyPost_ret (v := .agg (cCells ⟨fr, fg, fb, fq⟩)) (by simp [results, Try.results18, go_sem, z0, z1, z2, z3]) rfl ⟨rfl, ?_⟩
        have hk : w.heap.size ≤ B + 2 := by have := BB.out; omega
        repeat (first | refine Below.setCell ?_ (show w.heap.size ≤ B + 2 from hk) _ | exact HB3.out)
    · rw [show matteB x m how = x by unfold matteB; rw [if_neg h1, if_neg h2]]
      clear hu LU hx hm
      obtain ⟨xr, xg, xb, xq⟩ := x
      obtain ⟨mr, mg, mb, mq⟩ := m
      go_enter Try.func18, Try.ntmps18
      go_upto_region 1 with fail
      rw [HW.out]
      clear hB HW
      have a0 := HA.out.cell 0 _ rfl
      have a1 := HA.out.cell 1 _ rfl
      have a2 := HA.out.cell 2 _ rfl
      have a3 := HA.out.cell 3 _ rfl
      have fz := has_fro HR.out
      have z0 := HR.out.cell 0 _ rfl
      have z1 := HR.out.cell 1 _ rfl
      have z2 := HR.out.cell 2 _ rfl
      have z3 := HR.out.cell 3 _ rfl
      go_wp2
      refine bodyPost_ret (v := .agg (cCells ⟨xr, xg, xb, xq⟩)) (by simp [results, Try.results18, go_sem, z0, z1, z2, z3]) rfl ⟨rfl, ?_⟩
      have hk : w.heap.size ≤ B + 2 := by have := BB.out; omega
      repeat (first | refine Below.setCell ?_ (show w.heap.size ≤ B + 2 from hk) _ | exact HB.out)

end Go.Proofs.Ytibgilaeepmheaa
