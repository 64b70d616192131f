/- BlendBounds of the statements: for all colours and numbers the call returns true; of the memory nothing that was there turns. -/
import Derived.Test.YtibgilaeepmheaaK17
import Derived.Test.YtibgilaeepmheaaBlT
import Derived.Test.YtibgilaeepmheaaBWin
import Derived.Test.YtibgilaeepmheaaMake1
namespace Go.Proofs.Ytibgilaeepmheaa
open Go Go.RowKit
open M

abbrev ptr0 (g : Nat) : Value := .pointer (some ⟨g, 0, none⟩)
abbrev fourC (r g b q : Int) : Array Value := #[.int .u8 r, .int .u8 g, .int .u8 b, .int .u8 q]
theorem has_at {w : World} {g : Nat} {cs : Array Value} {t : TypeId} (h : w.heap[g]? = some (.cells cs t)) : Has w g cs t := h

attribute [local go_sem] eq_pixel
set_option maxRecDepth 100000 in
set_option maxHeartbeats 8000000 in
theorem blendBounds_walk {w : World} (va : Value) (a : Cr) (vb : Value) (b : Cr) (x y k : Int) (ha : va = .agg (cCells a) ∧ a.Ok) (hb : vb = .agg (cCells b) ∧ b.Ok) :
    Calls Try.prog 5 #[va, vb, .int .i64 x, .int .i64 y, .int .i64 k] w fun e w' => e = .returned (.bool true) ∧ Below w.heap.size w w' := by
  obtain ⟨rfl, oka⟩ := ha
  obtain ⟨rfl, okb⟩ := hb
  have W1 := Lib.hid (fun w => same_below (b_win x 0 16 (by decide) (by decide) (by decide) w))
  have W2 := Lib.hid (fun w => same_below (b_win y 0 255 (by decide) (by decide) (by decide) w))
  have W3 := Lib.hid (fun w => same_below (b_win k 0 255 (by decide) (by decide) (by decide) w))
  obtain ⟨x', hx'⟩ : ∃ t, winI x 0 16 = t := ⟨_, rfl⟩
  obtain ⟨y', hy'⟩ : ∃ t, winI y 0 255 = t := ⟨_, rfl⟩
  obtain ⟨k', hk'⟩ : ∃ t, winI k 0 255 = t := ⟨_, rfl⟩
  rw [hx'] at W1
  rw [hy'] at W2
  rw [hk'] at W3
  clear hx' hy' hk'
  have C1 := Lib.hid (fun w => bl_of a 255 x' oka w)
  have C2 := Lib.hid (fun w => bl_of b y' 16 okb w)
  obtain ⟨okp, pp⟩ := And.intro (ofB_ok a 255 x') (ofB_pre a 255 x')
  obtain ⟨oko, po⟩ := And.intro (ofB_ok b y' 16) (ofB_pre b y' 16)
  obtain ⟨p, hp⟩ : ∃ t, ofB a 255 x' = t := ⟨_, rfl⟩
  obtain ⟨o, ho⟩ : ∃ t, ofB b y' 16 = t := ⟨_, rfl⟩
  rw [hp] at C1 okp pp
  rw [ho] at C2 oko po
  clear hp ho
  have C3 := Lib.hid (fun w => bl_over p o okp oko w)
  obtain ⟨okq, pq⟩ := And.intro (overB_ok p oko) (overB_pre pp po)
  obtain ⟨q, hq⟩ : ∃ t, overB p o = t := ⟨_, rfl⟩
  rw [hq] at C3 okq pq
  clear hq
  have C4 := Lib.hid (fun w => bl_fade q k' okq w)
  have f0 := byB_left k' okq.r0
  have f1 := byB_left k' okq.g0
  have f2 := byB_left k' okq.b0
  have f3 := byB_left k' okq.q0
  have okf := fadeB_ok q k'
  obtain ⟨⟨fr, fg, fb, fq⟩, hf⟩ : ∃ t, fadeB q k' = t := ⟨_, rfl⟩
  rw [show byB q.r k' = fr from congrArg Cr.r hf] at f0
  rw [show byB q.g k' = fg from congrArg Cr.g hf] at f1
  rw [show byB q.b k' = fb from congrArg Cr.b hf] at f2
  rw [show byB q.q k' = fq from congrArg Cr.q hf] at f3
  rw [hf] at C4 okf
  clear hf
  have okF : (⟨b.r, b.g, b.b, 255⟩ : Cr).Ok := ⟨okb.r0, okb.r1, okb.g0, okb.g1, okb.b0, okb.b1, (show (0 : Int) ≤ 255 by decide), (show (255 : Int) ≤ 255 by decide)⟩
  have C5 := Lib.hid (fun w => ofB_full okb ▸ bl_of ⟨b.r, b.g, b.b, 255⟩ 255 16 okF w)
  have C6 := Lib.hid (fun w => overB_full p okF ▸ bl_over p ⟨b.r, b.g, b.b, 255⟩ okp okF w)
  have C7 := Lib.hid (fun w => overB_low okp ▸ bl_over ⟨0, 0, 0, 0⟩ p kn17z_ok okp w)
  have C8 := Lib.hid (fun w => fadeB_full okp ▸ bl_fade p 255 okp w)
  have KN := Lib.hid (fun w => known17 w)
  obtain ⟨A, hA⟩ : ∃ A, w.heap.size = A := ⟨_, rfl⟩
  obtain ⟨W, hW⟩ : ∃ W, (w.alloc (.cells (cCells a) 29)).alloc (.cells (cCells b) 29) = W := ⟨_, rfl⟩
  have HA : Hid (Has W A (cCells a) 29) := Lib.hid (by rw [← hW]; exact (has_new hA).alloc _)
  have HB : Hid (Has W (A + 1) (cCells b) 29) := Lib.hid (by rw [← hW]; exact has_new (by simp [hA]))
  have HS : Hid (W.heap.size = A + 2 ∧ w.heap.size ≤ A) := Lib.hid ⟨by rw [← hW]; simp [hA], by omega⟩
  have HB0 : Hid (Below w.heap.size w W) := Lib.hid (by rw [← hW]; exact ((Below.refl _ _).alloc (Nat.le_refl _) _).alloc (by simp) _)
  have HW := Lib.hid hW
  clear hW
  obtain ⟨a0, a1, a2, a3⟩ := a
  obtain ⟨b0, b1, b2, b3⟩ := b
  obtain ⟨p0, p1, p2, p3⟩ := p
  obtain ⟨o0, o1, o2, o3⟩ := o
  obtain ⟨q0, q1, q2, q3⟩ := q
  have FP : Hid (p0 ≤ p3 ∧ p1 ≤ p3 ∧ p2 ≤ p3) := Lib.hid ⟨pp.r, pp.g, pp.b⟩
  have FO : Hid (o0 ≤ o3 ∧ o1 ≤ o3 ∧ o2 ≤ o3) := Lib.hid ⟨po.r, po.g, po.b⟩
  have FQ : Hid (q0 ≤ q3 ∧ q1 ≤ q3 ∧ q2 ≤ q3) := Lib.hid ⟨pq.r, pq.g, pq.b⟩
  have FF : Hid (fr ≤ q0 ∧ fg ≤ q1 ∧ fb ≤ q2 ∧ fq ≤ q3) := Lib.hid ⟨f0, f1, f2, f3⟩
  have FK : Hid ((0 ≤ q0 ∧ q0 ≤ 255) ∧ (0 ≤ q1 ∧ q1 ≤ 255) ∧ (0 ≤ q2 ∧ q2 ≤ 255) ∧ (0 ≤ q3 ∧ q3 ≤ 255)) := Lib.hid ⟨⟨okq.r0, okq.r1⟩, ⟨okq.g0, okq.g1⟩, ⟨okq.b0, okq.b1⟩, ⟨okq.q0, okq.q1⟩⟩
  simp only at C5 C6
  clear pp po pq f0 f1 f2 f3 oka okb okp oko okq okf okF
  go_enter Try.func5, Try.ntmps5
  go_upto_region 1 with fail
  rw [HW.out]
  clear hA HW
  refine wp_region_make1 4 (.cells zPx 25) (by kernel_rfl) (by kernel_rfl) (by kernel_rfl) ⟨_, rfl, fun _ _ => rfl⟩ ?_
  apply Exists.intro
  refine ⟨fun R hR hN => ?_, ?_⟩
  · have h0 := fun z => LaterR.read (R := R) HA.out 0 _ rfl z
    have h1 := fun z => LaterR.read (R := R) HA.out 1 _ rfl z
    have h2 := fun z => LaterR.read (R := R) HA.out 2 _ rfl z
    have h3 := fun z => LaterR.read (R := R) HA.out 3 _ rfl z
    simp only [List.take_succ_cons, List.take_zero]
    repeat (go_big_quiet_step (first | (go_at_call 20; exact LaterR.calls hR (W1.out _)) | (go_at_call 15; exact LaterR.calls hR (C1.out _))))
    exact wpQuiet_nil rfl
  have HBW := HB
  have BW := HB0
  intro g1 w1 hb1 hg1 hl1
  simp only [List.drop_succ_cons, List.drop_zero]
  have hn := has_at hg1
  have fz := has_fro hn
  have z0 := hn.cell 0 _ rfl
  have z1 := hn.cell 1 _ rfl
  have z2 := hn.cell 2 _ rfl
  have z3 := hn.cell 3 _ rfl
  obtain ⟨V1, hV⟩ : ∃ V, (((w1.setCell ⟨g1, 0, none⟩ (.int .u8 p0)).setCell ⟨g1, 1, none⟩ (.int .u8 p1)).setCell ⟨g1, 2, none⟩ (.int .u8 p2)).setCell ⟨g1, 3, none⟩ (.int .u8 p3) = V := ⟨_, rfl⟩
  have NV1 : Hid (Has V1 g1 #[.int .u8 p0, .int .u8 p1, .int .u8 p2, .int .u8 p3] 25) := Lib.hid (by
    have := has_set (has_set (has_set (has_set hn 0 (.int .u8 p0)) 1 (.int .u8 p1)) 2 (.int .u8 p2)) 3 (.int .u8 p3)
    rw [hV] at this
    simpa using this)
  have HBV1 : Hid (Has V1 (A + 1) (fourC b0 b1 b2 b3) 29) := Lib.hid (by
    have hlt := HBW.out.lt
    rw [← hV]
    exact has_setQ (has_setQ (has_setQ (has_setQ (HBW.out.below hb1 hlt) (by omega) _ _) (by omega) _ _) (by omega) _ _) (by omega) _ _)
  have TV1 : Hid (w.heap.size ≤ g1 ∧ A + 1 < g1) := Lib.hid ⟨by have := BW.out.size; omega, by have := HBW.out.lt; omega⟩
  have BV1 : Hid (Below w.heap.size w V1) := Lib.hid (by
    have hk := TV1.out.1
    rw [← hV]
    exact ((((BW.out.trans (hb1.mono BW.out.size)).setCell hk _).setCell hk _).setCell hk _).setCell hk _)
  have RV1 := Lib.hid hV
  clear hV hn hb1 hg1 hl1
  have pV1 := NV1
  go_upto_region 2 with fail
  rw [RV1.out]
  clear RV1 fz z0 z1 z2 z3
  clear HA HB HBW BW HB0
  refine wp_region_make1 4 (.cells zPx 25) (by kernel_rfl) (by kernel_rfl) (by kernel_rfl) ⟨_, rfl, fun _ _ => rfl⟩ ?_
  apply Exists.intro
  refine ⟨fun R hR hN => ?_, ?_⟩
  · have h0 := fun z => LaterR.read (R := R) HBV1.out 0 _ rfl z
    have h1 := fun z => LaterR.read (R := R) HBV1.out 1 _ rfl z
    have h2 := fun z => LaterR.read (R := R) HBV1.out 2 _ rfl z
    have h3 := fun z => LaterR.read (R := R) HBV1.out 3 _ rfl z
    simp only [List.take_succ_cons, List.take_zero]
    repeat (go_big_quiet_step (first | (go_at_call 20; exact LaterR.calls hR (W2.out _)) | (go_at_call 15; exact LaterR.calls hR (C2.out _))))
    exact wpQuiet_nil rfl
  intro g2 w1 hb1 hg1 hl1
  simp only [List.drop_succ_cons, List.drop_zero]
  have hn := has_at hg1
  have fz := has_fro hn
  have z0 := hn.cell 0 _ rfl
  have z1 := hn.cell 1 _ rfl
  have z2 := hn.cell 2 _ rfl
  have z3 := hn.cell 3 _ rfl
  obtain ⟨V2, hV⟩ : ∃ V, (((w1.setCell ⟨g2, 0, none⟩ (.int .u8 o0)).setCell ⟨g2, 1, none⟩ (.int .u8 o1)).setCell ⟨g2, 2, none⟩ (.int .u8 o2)).setCell ⟨g2, 3, none⟩ (.int .u8 o3) = V := ⟨_, rfl⟩
  have NV2 : Hid (Has V2 g2 #[.int .u8 o0, .int .u8 o1, .int .u8 o2, .int .u8 o3] 25) := Lib.hid (by
    have := has_set (has_set (has_set (has_set hn 0 (.int .u8 o0)) 1 (.int .u8 o1)) 2 (.int .u8 o2)) 3 (.int .u8 o3)
    rw [hV] at this
    simpa using this)
  have HBV2 : Hid (Has V2 (A + 1) (fourC b0 b1 b2 b3) 29) := Lib.hid (by
    have hlt := HBV1.out.lt
    rw [← hV]
    exact has_setQ (has_setQ (has_setQ (has_setQ (HBV1.out.below hb1 hlt) (by omega) _ _) (by omega) _ _) (by omega) _ _) (by omega) _ _)
  have pV2 : Hid (Has V2 g1 (fourC p0 p1 p2 p3) 25) := Lib.hid (by
    have hlt := pV1.out.lt
    rw [← hV]
    exact has_setQ (has_setQ (has_setQ (has_setQ (pV1.out.below hb1 hlt) (by omega) _ _) (by omega) _ _) (by omega) _ _) (by omega) _ _)
  have TV2 : Hid (w.heap.size ≤ g2 ∧ A + 1 < g2) := Lib.hid ⟨by have := BV1.out.size; omega, by have := HBV1.out.lt; omega⟩
  have BV2 : Hid (Below w.heap.size w V2) := Lib.hid (by
    have hk := TV2.out.1
    rw [← hV]
    exact ((((BV1.out.trans (hb1.mono BV1.out.size)).setCell hk _).setCell hk _).setCell hk _).setCell hk _)
  have RV2 := Lib.hid hV
  clear hV hn hb1 hg1 hl1
  have oV2 := NV2
  go_upto_region 3 with fail
  rw [RV2.out]
  clear RV2 fz z0 z1 z2 z3
  clear HBV1 pV1 NV1 BV1 C2 W1 W2
  have h0 := pV2.out.cell 0 _ rfl
  have i0 := oV2.out.cell 0 _ rfl
  have h1 := pV2.out.cell 1 _ rfl
  have i1 := oV2.out.cell 1 _ rfl
  have h2 := pV2.out.cell 2 _ rfl
  have i2 := oV2.out.cell 2 _ rfl
  have h3 := pV2.out.cell 3 _ rfl
  have i3 := oV2.out.cell 3 _ rfl
  go_wp2_with fail
  refine (C3.out _).mono ?_
  rintro e w3 ⟨rfl, hb3⟩
  obtain ⟨g3, hg⟩ : ∃ g, w3.heap.size = g := ⟨_, rfl⟩
  obtain ⟨V3, hV⟩ : ∃ V, w3.alloc (.cells #[.int .u8 q0, .int .u8 q1, .int .u8 q2, .int .u8 q3] 25) = V := ⟨_, rfl⟩
  have NV3 : Hid (Has V3 g3 #[.int .u8 q0, .int .u8 q1, .int .u8 q2, .int .u8 q3] 25) := Lib.hid (by rw [← hV]; exact has_new hg)
  have HBV3 : Hid (Has V3 (A + 1) (fourC b0 b1 b2 b3) 29) := Lib.hid (by rw [← hV]; exact (HBV2.out.below hb3 HBV2.out.lt).alloc _)
  have pV3 : Hid (Has V3 g1 (fourC p0 p1 p2 p3) 25) := Lib.hid (by rw [← hV]; exact (pV2.out.below hb3 pV2.out.lt).alloc _)
  have oV3 : Hid (Has V3 g2 (fourC o0 o1 o2 o3) 25) := Lib.hid (by rw [← hV]; exact (oV2.out.below hb3 oV2.out.lt).alloc _)
  have TV3 : Hid (w.heap.size ≤ g3 ∧ A + 1 < g3) := Lib.hid ⟨by have := BV2.out.size; have := hb3.size; omega, by have := HBV2.out.lt; have := hb3.size; omega⟩
  have BV3 : Hid (Below w.heap.size w V3) := Lib.hid (by
    have hs : w.heap.size ≤ w3.heap.size := by have := TV3.out.1; omega
    rw [← hV]
    exact (BV2.out.trans (hb3.mono BV2.out.size)).alloc hs _)
  have RV3 := Lib.hid hV
  clear hV hb3
  have qV3 := NV3
  go_upto_region 4 with fail
  rw [RV3.out]
  clear RV3 h0 h1 h2 h3 i0 i1 i2 i3
  clear HBV2 pV2 oV2 NV2 BV2 C3
  refine wp_region_make1 4 (.cells zPx 25) (by kernel_rfl) (by kernel_rfl) (by kernel_rfl) ⟨_, rfl, fun _ _ => rfl⟩ ?_
  apply Exists.intro
  refine ⟨fun R hR hN => ?_, ?_⟩
  · have h0 := fun z => LaterR.read (R := R) qV3.out 0 _ rfl z
    have h1 := fun z => LaterR.read (R := R) qV3.out 1 _ rfl z
    have h2 := fun z => LaterR.read (R := R) qV3.out 2 _ rfl z
    have h3 := fun z => LaterR.read (R := R) qV3.out 3 _ rfl z
    simp only [List.take_succ_cons, List.take_zero]
    repeat (go_big_quiet_step (first | (go_at_call 20; exact LaterR.calls hR (W3.out _)) | (go_at_call 13; exact LaterR.calls hR (C4.out _))))
    exact wpQuiet_nil rfl
  intro g4 w1 hb1 hg1 hl1
  simp only [List.drop_succ_cons, List.drop_zero]
  have hn := has_at hg1
  have fz := has_fro hn
  have z0 := hn.cell 0 _ rfl
  have z1 := hn.cell 1 _ rfl
  have z2 := hn.cell 2 _ rfl
  have z3 := hn.cell 3 _ rfl
  obtain ⟨V4, hV⟩ : ∃ V, (((w1.setCell ⟨g4, 0, none⟩ (.int .u8 fr)).setCell ⟨g4, 1, none⟩ (.int .u8 fg)).setCell ⟨g4, 2, none⟩ (.int .u8 fb)).setCell ⟨g4, 3, none⟩ (.int .u8 fq) = V := ⟨_, rfl⟩
  have NV4 : Hid (Has V4 g4 #[.int .u8 fr, .int .u8 fg, .int .u8 fb, .int .u8 fq] 25) := Lib.hid (by
    have := has_set (has_set (has_set (has_set hn 0 (.int .u8 fr)) 1 (.int .u8 fg)) 2 (.int .u8 fb)) 3 (.int .u8 fq)
    rw [hV] at this
    simpa using this)
  have HBV4 : Hid (Has V4 (A + 1) (fourC b0 b1 b2 b3) 29) := Lib.hid (by
    have hlt := HBV3.out.lt
    rw [← hV]
    exact has_setQ (has_setQ (has_setQ (has_setQ (HBV3.out.below hb1 hlt) (by omega) _ _) (by omega) _ _) (by omega) _ _) (by omega) _ _)
  have pV4 : Hid (Has V4 g1 (fourC p0 p1 p2 p3) 25) := Lib.hid (by
    have hlt := pV3.out.lt
    rw [← hV]
    exact has_setQ (has_setQ (has_setQ (has_setQ (pV3.out.below hb1 hlt) (by omega) _ _) (by omega) _ _) (by omega) _ _) (by omega) _ _)
  have oV4 : Hid (Has V4 g2 (fourC o0 o1 o2 o3) 25) := Lib.hid (by
    have hlt := oV3.out.lt
    rw [← hV]
    exact has_setQ (has_setQ (has_setQ (has_setQ (oV3.out.below hb1 hlt) (by omega) _ _) (by omega) _ _) (by omega) _ _) (by omega) _ _)
  have qV4 : Hid (Has V4 g3 (fourC q0 q1 q2 q3) 25) := Lib.hid (by
    have hlt := qV3.out.lt
    rw [← hV]
    exact has_setQ (has_setQ (has_setQ (has_setQ (qV3.out.below hb1 hlt) (by omega) _ _) (by omega) _ _) (by omega) _ _) (by omega) _ _)
  have TV4 : Hid (w.heap.size ≤ g4 ∧ A + 1 < g4) := Lib.hid ⟨by have := BV3.out.size; omega, by have := HBV3.out.lt; omega⟩
  have BV4 : Hid (Below w.heap.size w V4) := Lib.hid (by
    have hk := TV4.out.1
    rw [← hV]
    exact ((((BV3.out.trans (hb1.mono BV3.out.size)).setCell hk _).setCell hk _).setCell hk _).setCell hk _)
  have RV4 := Lib.hid hV
  clear hV hn hb1 hg1 hl1
  have fV4 := NV4
  go_upto_region 5 with fail
  rw [RV4.out]
  clear RV4 fz z0 z1 z2 z3
  clear HBV3 pV3 oV3 qV3 NV3 BV3 NV4 C4 C1 W3
  have p0_ := Later.read pV4.out 0 (.int .u8 p0) rfl
  have p1_ := Later.read pV4.out 1 (.int .u8 p1) rfl
  have p2_ := Later.read pV4.out 2 (.int .u8 p2) rfl
  have p3_ := Later.read pV4.out 3 (.int .u8 p3) rfl
  have o0_ := Later.read oV4.out 0 (.int .u8 o0) rfl
  have o1_ := Later.read oV4.out 1 (.int .u8 o1) rfl
  have o2_ := Later.read oV4.out 2 (.int .u8 o2) rfl
  have o3_ := Later.read oV4.out 3 (.int .u8 o3) rfl
  have q0_ := Later.read qV4.out 0 (.int .u8 q0) rfl
  have q1_ := Later.read qV4.out 1 (.int .u8 q1) rfl
  have q2_ := Later.read qV4.out 2 (.int .u8 q2) rfl
  have q3_ := Later.read qV4.out 3 (.int .u8 q3) rfl
  have f0_ := Later.read fV4.out 0 (.int .u8 fr) rfl
  have f1_ := Later.read fV4.out 1 (.int .u8 fg) rfl
  have f2_ := Later.read fV4.out 2 (.int .u8 fb) rfl
  have f3_ := Later.read fV4.out 3 (.int .u8 fq) rfl
  go_wp2
  go_loopw [15] (fun i wr => ∃ n : Nat, n ≤ 4 ∧ i = .int .i64 n ∧ ∃ z : Later V4, wr = z.to) (fun i _ => 4 - (intOf i).toNat)
  case atStart => exact ⟨0, by omega, rfl, ⟨V4, Below.refl _ _⟩, rfl⟩
  case round =>
    obtain ⟨n, hn, rfl, z, rfl⟩ := hrel
    rcases (show n = 0 ∨ n = 1 ∨ n = 2 ∨ n = 3 ∨ n = 4 by omega) with rfl | rfl | rfl | rfl | rfl
    · have d0 : decide (p3 < p0) = false := decide_eq_false (by have := FP.out; omega)
      have d1 : decide (o3 < o0) = false := decide_eq_false (by have := FO.out; omega)
      have d2 : decide (q3 + 1 < q0) = false := decide_eq_false (by have := FQ.out; omega)
      have d3 : decide (q0 < fr) = false := decide_eq_false (by have := FF.out; omega)
      obtain ⟨⟨k0, k1⟩, ⟨k2, k3⟩, ⟨k4, k5⟩, ⟨k6, k7⟩⟩ := FK.out
      go_wp2
      refine wp_region_class (C := fun w' => ∃ z : Later V4, w' = z.to) (by kernel_rfl) (by kernel_rfl) ⟨⟨_, below_drew z.below⟩, rfl⟩ ?_
      repeat (go_big_quiet_step (fail))
      refine wpQuiet_nil ?_
      rintro _ ⟨z2, rfl⟩
      go_wp2
      go_roundw
      case rel => exact ⟨1, by omega, rfl, z2, rfl⟩
      case measure => simp [intOf]
    · have d0 : decide (p3 < p1) = false := decide_eq_false (by have := FP.out; omega)
      have d1 : decide (o3 < o1) = false := decide_eq_false (by have := FO.out; omega)
      have d2 : decide (q3 + 1 < q1) = false := decide_eq_false (by have := FQ.out; omega)
      have d3 : decide (q1 < fg) = false := decide_eq_false (by have := FF.out; omega)
      obtain ⟨⟨k0, k1⟩, ⟨k2, k3⟩, ⟨k4, k5⟩, ⟨k6, k7⟩⟩ := FK.out
      go_wp2
      refine wp_region_class (C := fun w' => ∃ z : Later V4, w' = z.to) (by kernel_rfl) (by kernel_rfl) ⟨⟨_, below_drew z.below⟩, rfl⟩ ?_
      repeat (go_big_quiet_step (fail))
      refine wpQuiet_nil ?_
      rintro _ ⟨z2, rfl⟩
      go_wp2
      go_roundw
      case rel => exact ⟨2, by omega, rfl, z2, rfl⟩
      case measure => simp [intOf]
    · have d0 : decide (p3 < p2) = false := decide_eq_false (by have := FP.out; omega)
      have d1 : decide (o3 < o2) = false := decide_eq_false (by have := FO.out; omega)
      have d2 : decide (q3 + 1 < q2) = false := decide_eq_false (by have := FQ.out; omega)
      have d3 : decide (q2 < fb) = false := decide_eq_false (by have := FF.out; omega)
      obtain ⟨⟨k0, k1⟩, ⟨k2, k3⟩, ⟨k4, k5⟩, ⟨k6, k7⟩⟩ := FK.out
      go_wp2
      refine wp_region_class (C := fun w' => ∃ z : Later V4, w' = z.to) (by kernel_rfl) (by kernel_rfl) ⟨⟨_, below_drew z.below⟩, rfl⟩ ?_
      repeat (go_big_quiet_step (fail))
      refine wpQuiet_nil ?_
      rintro _ ⟨z2, rfl⟩
      go_wp2
      go_roundw
      case rel => exact ⟨3, by omega, rfl, z2, rfl⟩
      case measure => simp [intOf]
    · have d0 : decide (p3 < p3) = false := decide_eq_false (by have := FP.out; omega)
      have d1 : decide (o3 < o3) = false := decide_eq_false (by have := FO.out; omega)
      have d2 : decide (q3 + 1 < q3) = false := decide_eq_false (by have := FQ.out; omega)
      have d3 : decide (q3 < fq) = false := decide_eq_false (by have := FF.out; omega)
      obtain ⟨⟨k0, k1⟩, ⟨k2, k3⟩, ⟨k4, k5⟩, ⟨k6, k7⟩⟩ := FK.out
      go_wp2
      refine wp_region_class (C := fun w' => ∃ z : Later V4, w' = z.to) (by kernel_rfl) (by kernel_rfl) ⟨⟨_, below_drew z.below⟩, rfl⟩ ?_
      repeat (go_big_quiet_step (fail))
      refine wpQuiet_nil ?_
      rintro _ ⟨z2, rfl⟩
      go_wp2
      go_roundw
      case rel => exact ⟨4, by omega, rfl, z2, rfl⟩
      case measure => simp [intOf]
    · clear p0_ p1_ p2_ p3_ o0_ o1_ o2_ o3_ q0_ q1_ q2_ q3_ f0_ f1_ f2_ f3_
      have hz := HBV4.out.below z.below HBV4.out.lt
      have fz := has_fro hz
      have z3 := hz.cell 3 _ rfl
      obtain ⟨V5, hV⟩ : ∃ V, z.to.setCell ⟨A + 1, 3, none⟩ (.int .u8 255) = V := ⟨_, rfl⟩
      have HBV5 : Hid (Has V5 (A + 1) (fourC b0 b1 b2 255) 29) := Lib.hid (by
        have := has_set hz 3 (.int .u8 255)
        rw [hV] at this
        simpa using this)
      have pV5 : Hid (Has V5 g1 (fourC p0 p1 p2 p3) 25) := Lib.hid (by
        rw [← hV]
        exact has_setQ (pV4.out.below z.below pV4.out.lt) (by have := TV1.out; omega) _ _)
      have BV5 : Hid (Below w.heap.size w V5) := Lib.hid (by
        have hk : w.heap.size ≤ A + 1 := by have := HS.out.2; omega
        rw [← hV]
        exact (BV4.out.trans (z.below.mono BV4.out.size)).setCell hk _)
      have RV5 := Lib.hid hV
      clear hV hz BV4 pV4 oV4 qV4 fV4 HBV4 FP FO FQ FF FK TV1 TV2 TV3 TV4
      go_upto_region 11 with fail
      rw [RV5.out]
      clear RV5 fz z3
      have h0 := HBV5.out.cell 0 (.int .u8 b0) rfl
      have h1 := HBV5.out.cell 1 (.int .u8 b1) rfl
      have h2 := HBV5.out.cell 2 (.int .u8 b2) rfl
      have h3 := HBV5.out.cell 3 (.int .u8 255) rfl
      go_wp2_with fail
      refine (C5.out _).mono ?_
      rintro e w3 ⟨rfl, hb3⟩
      clear h0 h1 h2 h3
      obtain ⟨g6, hg⟩ : ∃ g, w3.heap.size = g := ⟨_, rfl⟩
      obtain ⟨V6, hV⟩ : ∃ V, w3.alloc (.cells (fourC b0 b1 b2 255) 25) = V := ⟨_, rfl⟩
      have HBV6 : Hid (Has V6 (A + 1) (fourC b0 b1 b2 255) 29) := Lib.hid (by rw [← hV]; exact (HBV5.out.below hb3 HBV5.out.lt).alloc _)
      have pV6 : Hid (Has V6 g1 (fourC p0 p1 p2 p3) 25) := Lib.hid (by rw [← hV]; exact (pV5.out.below hb3 pV5.out.lt).alloc _)
      have NV6 : Hid (Has V6 g6 (fourC b0 b1 b2 255) 25) := Lib.hid (by rw [← hV]; exact has_new hg)
      have BV6 : Hid (Below w.heap.size w V6) := Lib.hid (by
        have hs : w.heap.size ≤ w3.heap.size := Nat.le_trans BV5.out.size hb3.size
        rw [← hV]
        exact (BV5.out.trans (hb3.mono BV5.out.size)).alloc hs _)
      have RV6 := Lib.hid hV
      clear hV hb3 HBV5 pV5 BV5 C5
      go_upto_region 12 with fail
      rw [RV6.out]
      clear RV6
      have h0 := Later.read HBV6.out 0 (.int .u8 b0) rfl
      have i0 := Later.read NV6.out 0 (.int .u8 b0) rfl
      have j0 := Later.read pV6.out 0 (.int .u8 p0) rfl
      have h1 := Later.read HBV6.out 1 (.int .u8 b1) rfl
      have i1 := Later.read NV6.out 1 (.int .u8 b1) rfl
      have j1 := Later.read pV6.out 1 (.int .u8 p1) rfl
      have h2 := Later.read HBV6.out 2 (.int .u8 b2) rfl
      have i2 := Later.read NV6.out 2 (.int .u8 b2) rfl
      have j2 := Later.read pV6.out 2 (.int .u8 p2) rfl
      have h3 := Later.read HBV6.out 3 (.int .u8 255) rfl
      have i3 := Later.read NV6.out 3 (.int .u8 255) rfl
      have j3 := Later.read pV6.out 3 (.int .u8 p3) rfl
      refine wp_region_class (C := fun w' => ∃ z : Later V6, w' = z.to) (by kernel_rfl) (by kernel_rfl) ⟨⟨_, below_drew (Below.refl _ _)⟩, rfl⟩ ?_
      repeat (go_big_quiet_step (first | (go_at_call_of 11 b0; exact Later.calls (C6.out _)) | (go_at_call 11; exact Later.calls (C7.out _)) | (go_at_call 13; exact Later.calls (C8.out _)) | (go_at_call 19; exact Later.calls (KN.out _))))
      refine wpQuiet_nil ?_
      rintro _ ⟨z2, rfl⟩
      go_wp2
      go_ret
      exact ⟨by simp, BV6.out.trans (z2.below.mono BV6.out.size)⟩

end Go.Proofs.Ytibgilaeepmheaa
