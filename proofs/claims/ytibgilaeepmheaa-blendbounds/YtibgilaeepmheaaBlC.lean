/- Contracts of blend.Of and of mutoscoperef15.Of: for all colours and numbers what the plain arithmetic says; of the memory nothing that was there turns. Condition: the colour's parts are bytes. -/
import Derived.Test.YtibgilaeepmheaaBlF
import Derived.Test.YtibgilaeepmheaaT5
import Derived.Laws.Rows
import Derived.Deep.DeepCutAuto
import Derived.BigRegion
import Derived.Deep.RegionWith
namespace Go.Proofs.Ytibgilaeepmheaa
open Go Go.RowKit
open M

/-- A pixel that is nothing. -/
abbrev zPx : Array Value := #[.int .u8 0, .int .u8 0, .int .u8 0, .int .u8 0]
attribute [local go_sem] alloc_drewN setCell_drewN shape_drewN

set_option maxRecDepth 100000 in
set_option maxHeartbeats 2000000 in
theorem bl_of (x : Cr) (al co : Int) (hx : x.Ok) (w : World) :
    Calls Try.prog 15 #[.agg (cCells x), .int .i64 al, .int .i64 co] w fun e w' => e = .returned (.agg (cCells (ofB x al co))) ∧ Below w.heap.size w w' := by
  obtain ⟨B, hB⟩ : ∃ B, w.heap.size = B := ⟨_, rfl⟩
  obtain ⟨W, hW⟩ : ∃ W, (w.alloc (.cells (cCells x) 29)).alloc (.cells (zPx) 25) = W := ⟨_, rfl⟩
  have HA : Hid (Has W B (cCells x) 29) := Lib.hid (by rw [← hW]; exact (has_new hB).alloc _)
  have HR : Hid (Has W (B + 1) (zPx) 25) := Lib.hid (by rw [← hW]; exact has_new (by simp [hB]))
  have HB : Hid (Below w.heap.size w W) := Lib.hid (by rw [← hW]; exact ((Below.refl _ _).alloc (Nat.le_refl _) _).alloc (by simp) _)
  have HW := Lib.hid hW
  have BB : Hid (w.heap.size ≤ B) := Lib.hid (by omega)
  clear hW
  have C1 := Lib.hid (fun w => bl_by x.q al w)
  have C2 := Lib.hid (fun w => bl_strength co w)
  have C3 := Lib.hid (fun w => bl_by (byB x.q al) (strB co) w)
  have C4 := Lib.hid (fun w => bl_fade x (keyB x al co) hx w)
  obtain ⟨k0, k1⟩ := keyB_bd x al co
  rw [show byB (byB x.q al) (strB co) = keyB x al co from rfl] at C3
  unfold ofB
  obtain ⟨k, hk⟩ : ∃ k, keyB x al co = k := ⟨_, rfl⟩
  rw [hk] at C3 C4 k0 k1 ⊢
  clear hk
  obtain ⟨y, hy⟩ : ∃ k, byB x.q al = k := ⟨_, rfl⟩
  rw [hy] at C1 C3
  clear hy
  obtain ⟨s, hs⟩ : ∃ k, strB co = k := ⟨_, rfl⟩
  rw [hs] at C2 C3
  clear hs
  obtain ⟨⟨fr, fg, fb, fq⟩, hf⟩ : ∃ f, fadeB x k = f := ⟨_, rfl⟩
  rw [show byB x.r k = fr by have := congrArg Cr.r hf; exact this, show byB x.g k = fg by have := congrArg Cr.g hf; exact this, show byB x.b k = fb by have := congrArg Cr.b hf; exact this]
  rw [hf] at C4
  clear hf
  obtain ⟨xr, xg, xb, xq⟩ := x
  obtain ⟨r0, r1, g0, g1, b0, b1, q0, q1⟩ := hx
  simp only at r0 r1 g0 g1 b0 b1 q0 q1 C1
  go_enter Try.func15, Try.ntmps15
  go_upto_region 1 with fail
  rw [HW.out]
  clear hB
  have a0 := HA.out.cell 0 _ rfl
  have a1 := HA.out.cell 1 _ rfl
  have a2 := HA.out.cell 2 _ rfl
  have a3 := HA.out.cell 3 _ rfl
  go_wp2_with fail
  refine (C1.out _).mono ?_
  rintro e w' ⟨rfl, rfl⟩
  go_wp2_with fail
  refine (C2.out _).mono ?_
  rintro e w' ⟨rfl, rfl⟩
  go_wp2_with fail
  refine (C3.out _).mono ?_
  rintro e w' ⟨rfl, rfl⟩
  go_wp2_with fail
  refine (C4.out _).mono ?_
  rintro e w3 ⟨rfl, hb3⟩
  clear a0 a1 a2 a3
  obtain ⟨W1, hW1⟩ : ∃ V, w3.alloc (.cells #[.int .u8 fr, .int .u8 fg, .int .u8 fb, .int .u8 k] 25) = V := ⟨_, rfl⟩
  have HR1 : Hid (Has W1 (B + 1) (zPx) 25) := Lib.hid (by rw [← hW1]; exact (HR.out.below hb3 HR.out.lt).alloc _)
  have HN1 : Hid (Has W1 w3.heap.size #[.int .u8 fr, .int .u8 fg, .int .u8 fb, .int .u8 k] 25) := Lib.hid (by rw [← hW1]; exact has_new rfl)
  have HB1 : Hid (Below w.heap.size w W1) := Lib.hid (by
    have hs : w.heap.size ≤ w3.heap.size := Nat.le_trans HB.out.size hb3.size
    rw [← hW1]
    exact (HB.out.trans (hb3.mono HB.out.size)).alloc hs _)
  have HW1 := Lib.hid hW1
  clear hW1 hb3 HA HR HB HW C1 C2 C3 C4
  go_upto_region 4 with fail
  rw [HW1.out]
  clear HW1
  have fz := has_fro HR1.out
  have c0 := HN1.out.cell 0 _ rfl
  have c1 := HN1.out.cell 1 _ rfl
  have c2 := HN1.out.cell 2 _ rfl
  have c3 := HN1.out.cell 3 _ rfl
  have z0 := HR1.out.cell 0 _ rfl
  have z1 := HR1.out.cell 1 _ rfl
  have z2 := HR1.out.cell 2 _ rfl
  have z3 := HR1.out.cell 3 _ rfl
  go_wp2
  refine bodyPost_ret (v := .agg (cCells ⟨fr, fg, fb, k⟩)) (by simp [results, Try.results15, go_sem, z0, z1, z2, z3]) rfl ⟨rfl, ?_⟩
  have hk : w.heap.size ≤ B + 1 := by have := BB.out; omega
  repeat (first | refine Below.setCell ?_ (show w.heap.size ≤ B + 1 from hk) _ | exact HB1.out)

set_option maxRecDepth 100000 in
set_option maxHeartbeats 2000000 in
theorem rb_of (x : Cr) (al co : Int) (hx : x.Ok) (w : World) :
    Calls Try.prog 16 #[.agg (cCells x), .int .i64 al, .int .i64 co] w fun e w' => e = .returned (.agg (cCells (ofB x al co))) ∧ Below w.heap.size w w' := by
  have hc := ofB_ok x al co
  have C1 := Lib.hid (fun w => rb_by x.q al w)
  have C2 := Lib.hid (fun w => rb_strength co w)
  have C3 := Lib.hid (fun w => rb_by (byB x.q al) (strB co) w)
  rw [show byB (byB x.q al) (strB co) = keyB x al co from rfl] at C3
  have D0 := Lib.hid (fun w => rb_by x.r (keyB x al co) w)
  have D1 := Lib.hid (fun w => rb_by x.g (keyB x al co) w)
  have D2 := Lib.hid (fun w => rb_by x.b (keyB x al co) w)
  unfold ofB at hc ⊢
  obtain ⟨k, hk⟩ : ∃ k, keyB x al co = k := ⟨_, rfl⟩
  rw [hk] at C3 D0 D1 D2 hc ⊢
  clear hk
  obtain ⟨y, hy⟩ : ∃ k, byB x.q al = k := ⟨_, rfl⟩
  rw [hy] at C1 C3
  clear hy
  obtain ⟨s, hs⟩ : ∃ k, strB co = k := ⟨_, rfl⟩
  rw [hs] at C2 C3
  clear hs
  obtain ⟨fr, h⟩ : ∃ f, byB x.r k = f := ⟨_, rfl⟩
  rw [h] at D0 hc ⊢
  clear h
  obtain ⟨fg, h⟩ : ∃ f, byB x.g k = f := ⟨_, rfl⟩
  rw [h] at D1 hc ⊢
  clear h
  obtain ⟨fb, h⟩ : ∃ f, byB x.b k = f := ⟨_, rfl⟩
  rw [h] at D2 hc ⊢
  clear h
  obtain ⟨s0, s1, t0, t1, u0, u1, v0, v1⟩ := hc
  obtain ⟨xr, xg, xb, xq⟩ := x
  obtain ⟨r0, r1, g0, g1, b0, b1, q0, q1⟩ := hx
  simp only at r0 r1 g0 g1 b0 b1 q0 q1 s0 s1 t0 t1 u0 u1 v0 v1 C1 D0 D1 D2
  have hb : Below w.heap.size w ((w.alloc (.cells #[.int .u8 xr, .int .u8 xg, .int .u8 xb, .int .u8 xq] 29)).alloc (.cells (cCells ⟨fr, fg, fb, k⟩) 25)) := ((Below.refl _ _).alloc (Nat.le_refl _) _).alloc (by simp) _
  have HB := Lib.hid hb
  clear hb
  go_enter Try.func16, Try.ntmps16
  go_wp2_with fail
  refine (C1.out _).mono ?_
  rintro e w' ⟨rfl, rfl⟩
  go_wp2_with fail
  refine (C2.out _).mono ?_
  rintro e w' ⟨rfl, rfl⟩
  go_wp2_with fail
  refine (C3.out _).mono ?_
  rintro e w' ⟨rfl, rfl⟩
  go_wp2
  refine wp_region_draws_tail 21 (by kernel_rfl) (by kernel_rfl) (by kernel_rfl) (by kernel_rfl) ?_
  simp only [List.take_succ_cons, List.take_zero, List.drop_succ_cons, List.drop_zero]
  repeat (go_big_quiet_step (first | (go_at_call_of 8 xr; exact quiet1 (D0.out _)) | (go_at_call_of 8 xg; exact quiet1 (D1.out _)) | (go_at_call 8; exact quiet1 (D2.out _))))
  refine wpQuiet_nil ?_
  rintro _ ⟨nq, rfl⟩
  go_wp2
  refine bodyPost_ret (v := .agg (cCells ⟨fr, fg, fb, k⟩)) (by simp [results, Try.results16, go_sem]) rfl ⟨rfl, ?_⟩
  exact below_drewN HB.out _

end Go.Proofs.Ytibgilaeepmheaa
