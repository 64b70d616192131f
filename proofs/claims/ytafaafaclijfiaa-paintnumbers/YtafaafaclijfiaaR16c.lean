/- Contract of mutoscoperef15.Color: for all paints whose colours are bytes what the plain arithmetic says; of the memory nothing that was there turns. -/
import Derived.Test.YtafaafaclijfiaaR16
namespace Go.Proofs.Ytafaafaclijfiaa
open Go Go.RowKit
open M

set_option maxRecDepth 100000 in
set_option maxHeartbeats 4000000 in
theorem r15_color (c : Pa) (x y : Int) (ok : PaOk c) (w : World) : Calls Try.prog 17 #[.agg (paCells c), .int .i64 x, .int .i64 y] w fun e w' => e = .returned (.agg (cCells (colF c x y))) ∧ Below w.heap.size w w' := by
  obtain ⟨B, hB⟩ : ∃ B, w.heap.size = B := ⟨_, rfl⟩
  obtain ⟨W, hW⟩ : ∃ W, (w.alloc (.cells (paCells c) 27)).alloc (.cells #[.int .u8 0, .int .u8 0, .int .u8 0, .int .u8 0] 23) = W := ⟨_, rfl⟩
  have ha : Has W B (paCells c) 27 := by rw [← hW]; exact (has_new hB).alloc _
  have hr : Has W (B + 1) #[.int .u8 0, .int .u8 0, .int .u8 0, .int .u8 0] 23 := by rw [← hW]; exact has_new (by simp [hB])
  have hb : Below w.heap.size w W := by rw [← hW]; exact ((Below.refl _ _).alloc (Nat.le_refl _) _).alloc (by simp) _
  have HW := Lib.hid hW
  have HA := Lib.hid ha
  have HR := Lib.hid hr
  have HB := Lib.hid hb
  have BB : Hid (w.heap.size ≤ B + 1) := Lib.hid (by omega)
  have WC := Lib.hid (fun w => r15_way c x y w)
  have MC := Lib.hid (fun p w => r5_mix c.a c.b p w ok.1 ok.2)
  have EQ : Hid (mix c.a c.b (wayF c x y) = colF c x y) := Lib.hid rfl
  obtain ⟨v, hv⟩ : ∃ v, wayF c x y = v := ⟨_, rfl⟩
  rw [hv] at WC EQ
  have MV := Lib.hid (fun w => MC.out v w)
  rw [EQ.out] at MV
  obtain ⟨⟨fr, fg, fb, fq⟩, hF⟩ : ∃ f, colF c x y = f := ⟨_, rfl⟩
  rw [hF] at MV ⊢
  obtain ⟨k, ⟨a0, a1, a2, a3⟩, ⟨b0, b1, b2, b3⟩, ⟨px, py⟩, ⟨qx, qy⟩, r⟩ := c
  clear hW ha hr hb hv hF MC EQ ok
  go_enter Try.func17, Try.ntmps17
  go_upto_region 1 with fail
  rw [HW.out]
  clear hB
  refine wp_region_make0 9 (by kernel_rfl) (by kernel_rfl) (by kernel_rfl) ?_
  apply Exists.intro
  refine ⟨fun R hR hN => ?_, ?_⟩
  · have e0 := fun z => LaterR.read (R := R) HA.out 0 _ rfl z
    have e1 := fun z => LaterR.read (R := R) HA.out 1 _ rfl z
    have e2 := fun z => LaterR.read (R := R) HA.out 2 _ rfl z
    have e3 := fun z => LaterR.read (R := R) HA.out 3 _ rfl z
    have e4 := fun z => LaterR.read (R := R) HA.out 4 _ rfl z
    have e5 := fun z => LaterR.read (R := R) HA.out 5 _ rfl z
    have e6 := fun z => LaterR.read (R := R) HA.out 6 _ rfl z
    have e7 := fun z => LaterR.read (R := R) HA.out 7 _ rfl z
    have e8 := fun z => LaterR.read (R := R) HA.out 8 _ rfl z
    have e9 := fun z => LaterR.read (R := R) HA.out 9 _ rfl z
    have e10 := fun z => LaterR.read (R := R) HA.out 10 _ rfl z
    have e11 := fun z => LaterR.read (R := R) HA.out 11 _ rfl z
    have e12 := fun z => LaterR.read (R := R) HA.out 12 _ rfl z
    have e13 := fun z => LaterR.read (R := R) HA.out 13 _ rfl z
    simp only [List.take_succ_cons, List.take_zero]
    repeat (go_big_quiet_step (first | (go_at_call 16; exact LaterR.calls hR (WC.out _)) | (go_at_call 41; exact LaterR.calls hR (MV.out _))))
    exact wpQuiet_nil rfl
  · intro w3 hb3
    simp only [List.drop_succ_cons, List.drop_zero]
    have h3 := HR.out.below hb3 HR.out.lt
    have r0 := h3.cell 0 _ rfl
    have r1 := h3.cell 1 _ rfl
    have r2 := h3.cell 2 _ rfl
    have r3 := h3.cell 3 _ rfl
    have fz := has_fro h3
    have B3 := Lib.hid (HB.out.trans (hb3.mono HB.out.size))
    clear h3 hb3
    go_wp2
    refine bodyPost_ret (v := .agg #[.int .u8 fr, .int .u8 fg, .int .u8 fb, .int .u8 fq]) (by simp [results, Try.results17, go_sem, r0, r1, r2, r3]) rfl ⟨rfl, ?_⟩
    repeat (first | exact B3.out | refine Below.setCell ?_ (show w.heap.size ≤ B + 1 from BB.out) _)

end Go.Proofs.Ytafaafaclijfiaa
