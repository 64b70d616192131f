/- Contracts of blend.Over and of mutoscoperef15.Over: for all pixels what the plain arithmetic says; of the memory nothing that was there turns. Condition: the pixels' parts are bytes. -/
import Derived.Test.YtibgilaeepmheaaBlF
namespace Go.Proofs.Ytibgilaeepmheaa
open Go Go.RowKit
open M

attribute [local go_sem] alloc_drewN setCell_drewN shape_drewN

def overing (w : World) (l h c : Cr) (n : Nat) : World := ((w.alloc (.cells (cCells l) 25)).alloc (.cells (parts h c n) 25)).alloc (.cells (cCells zCr) 25)
theorem overing_at (w : World) (l h c : Cr) (n : Nat) : overing w l h c n = ((w.alloc (.cells (cCells l) 25)).alloc (.cells (parts h c n) 25)).alloc (.cells (cCells zCr) 25) := rfl
def overR (w : World) (l h c : Cr) (n : Nat) : World := (((w.alloc (.cells (cCells l) 25)).alloc (.cells (cCells h) 25)).alloc (.cells (cCells zCr) 25)).alloc (.cells (parts zCr c n) 25)
theorem overR_at (w : World) (l h c : Cr) (n : Nat) : overR w l h c n = (((w.alloc (.cells (cCells l) 25)).alloc (.cells (cCells h) 25)).alloc (.cells (cCells zCr) 25)).alloc (.cells (parts zCr c n) 25) := rfl
theorem over_below (w : World) (o1 o2 o3 : Obj) : Below w.heap.size w (((w.alloc o1).alloc o2).alloc o3) := (((Below.refl _ _).alloc (Nat.le_refl _) _).alloc (by simp) _).alloc (by simp; omega) _
theorem overR_below (w : World) (o1 o2 o3 o4 : Obj) (m : Nat) : Below w.heap.size w (((((w.alloc o1).alloc o2).alloc o3).alloc o4).drewN m) :=
  below_drewN (((((Below.refl _ _).alloc (Nat.le_refl _) _).alloc (by simp) _).alloc (by simp; omega) _).alloc (by simp; omega) _) _

set_option maxHeartbeats 2000000 in
theorem bl_over (l h : Cr) (hl : l.Ok) (hh : h.Ok) (w : World) :
    Calls Try.prog 11 #[.agg (cCells l), .agg (cCells h)] w fun e w' => e = .returned (.agg (cCells (overB l h))) ∧ Below w.heap.size w w' := by
  have hc := overB_ok l hh
  have B0 := Lib.hid (fun w => bl_by l.r (255 - h.q) w)
  have B1 := Lib.hid (fun w => bl_by l.g (255 - h.q) w)
  have B2 := Lib.hid (fun w => bl_by l.b (255 - h.q) w)
  have B3 := Lib.hid (fun w => bl_by l.q (255 - h.q) w)
  have D0 := byB_bd l.r (255 - h.q)
  have D1 := byB_bd l.g (255 - h.q)
  have D2 := byB_bd l.b (255 - h.q)
  have D3 := byB_bd l.q (255 - h.q)
  obtain ⟨c, e⟩ : ∃ c, overB l h = c := ⟨_, rfl⟩
  have E0 : c.r = min (h.r + byB l.r (255 - h.q)) 255 := by rw [← e]; rfl
  have E1 : c.g = min (h.g + byB l.g (255 - h.q)) 255 := by rw [← e]; rfl
  have E2 : c.b = min (h.b + byB l.b (255 - h.q)) 255 := by rw [← e]; rfl
  have E3 : c.q = min (h.q + byB l.q (255 - h.q)) 255 := by rw [← e]; rfl
  rw [e] at hc ⊢
  clear e
  obtain ⟨y0, hy⟩ : ∃ y, byB l.r (255 - h.q) = y := ⟨_, rfl⟩
  rw [hy] at B0 D0 E0
  clear hy
  obtain ⟨y1, hy⟩ : ∃ y, byB l.g (255 - h.q) = y := ⟨_, rfl⟩
  rw [hy] at B1 D1 E1
  clear hy
  obtain ⟨y2, hy⟩ : ∃ y, byB l.b (255 - h.q) = y := ⟨_, rfl⟩
  rw [hy] at B2 D2 E2
  clear hy
  obtain ⟨y3, hy⟩ : ∃ y, byB l.q (255 - h.q) = y := ⟨_, rfl⟩
  rw [hy] at B3 D3 E3
  clear hy
  obtain ⟨lr, lg, lb, lq⟩ := l
  obtain ⟨hr, hg, hb, hq⟩ := h
  obtain ⟨cr, cg, cb, cq⟩ := c
  obtain ⟨l0, l1, l2, l3, l4, l5, l6, l7⟩ := hl
  obtain ⟨h0, h1, h2, h3, h4, h5, h6, h7⟩ := hh
  obtain ⟨s0, s1, t0, t1, u0, u1, v0, v1⟩ := hc
  simp only at l0 l1 l2 l3 l4 l5 l6 l7 h0 h1 h2 h3 h4 h5 h6 h7 s0 s1 t0 t1 u0 u1 v0 v1 B0 B1 B2 B3 D0 D1 D2 D3 E0 E1 E2 E3
  have F0 : Hid ((0 ≤ y0 ∧ y0 ≤ 255) ∧ ((255 < hr + y0 ∧ cr = 255) ∨ (hr + y0 ≤ 255 ∧ cr = hr + y0))) := Lib.hid ⟨D0, by omega⟩
  have F1 : Hid ((0 ≤ y1 ∧ y1 ≤ 255) ∧ ((255 < hg + y1 ∧ cg = 255) ∨ (hg + y1 ≤ 255 ∧ cg = hg + y1))) := Lib.hid ⟨D1, by omega⟩
  have F2 : Hid ((0 ≤ y2 ∧ y2 ≤ 255) ∧ ((255 < hb + y2 ∧ cb = 255) ∨ (hb + y2 ≤ 255 ∧ cb = hb + y2))) := Lib.hid ⟨D2, by omega⟩
  have F3 : Hid ((0 ≤ y3 ∧ y3 ≤ 255) ∧ ((255 < hq + y3 ∧ cq = 255) ∨ (hq + y3 ≤ 255 ∧ cq = hq + y3))) := Lib.hid ⟨D3, by omega⟩
  clear D0 D1 D2 D3 E0 E1 E2 E3
  have i0 : ∀ w : World, (Instr.index 25 (.agg #[.int .u8 hr, .int .u8 hg, .int .u8 hb, .int .u8 hq]) (.int .i64 0)).run Try.prog w = .ok (.int .u8 hr) w := fun _ => by kernel_rfl
  have i1 : ∀ w : World, (Instr.index 25 (.agg #[.int .u8 hr, .int .u8 hg, .int .u8 hb, .int .u8 hq]) (.int .i64 1)).run Try.prog w = .ok (.int .u8 hg) w := fun _ => by kernel_rfl
  have i2 : ∀ w : World, (Instr.index 25 (.agg #[.int .u8 hr, .int .u8 hg, .int .u8 hb, .int .u8 hq]) (.int .i64 2)).run Try.prog w = .ok (.int .u8 hb) w := fun _ => by kernel_rfl
  have i3 : ∀ w : World, (Instr.index 25 (.agg #[.int .u8 hr, .int .u8 hg, .int .u8 hb, .int .u8 hq]) (.int .i64 3)).run Try.prog w = .ok (.int .u8 hq) w := fun _ => by kernel_rfl
  go_enter Try.func11, Try.ntmps11
  go_wp2
  go_loopw [13] (fun i wr => ∃ n : Nat, n ≤ 4 ∧ i = .int .i64 n ∧ wr = overing w ⟨lr, lg, lb, lq⟩ ⟨hr, hg, hb, hq⟩ ⟨cr, cg, cb, cq⟩ n) (fun i _ => 4 - (intOf i).toNat)
  case atStart => exact ⟨0, by omega, rfl, rfl⟩
  case round =>
    obtain ⟨n, hn, rfl, rfl⟩ := hrel
    rcases (show n = 0 ∨ n = 1 ∨ n = 2 ∨ n = 3 ∨ n = 4 by omega) with rfl | rfl | rfl | rfl | rfl
    · rw [overing_at]
      simp only [parts]
      obtain ⟨⟨y0, y1⟩, hc⟩ := F0.out
      rcases hc with ⟨a, e⟩ | ⟨a, e⟩
      all_goals
        go_wp2_with (go_at_call 7; refine (B0.out _).mono ?_; rintro e w' ⟨rfl, rfl⟩)
        go_roundw
        case rel => exact ⟨1, by omega, rfl, by rw [e]; rfl⟩
        case measure => simp [intOf]
    · rw [overing_at]
      simp only [parts]
      obtain ⟨⟨y0, y1⟩, hc⟩ := F1.out
      rcases hc with ⟨a, e⟩ | ⟨a, e⟩
      all_goals
        go_wp2_with (go_at_call 7; refine (B1.out _).mono ?_; rintro e w' ⟨rfl, rfl⟩)
        go_roundw
        case rel => exact ⟨2, by omega, rfl, by rw [e]; rfl⟩
        case measure => simp [intOf]
    · rw [overing_at]
      simp only [parts]
      obtain ⟨⟨y0, y1⟩, hc⟩ := F2.out
      rcases hc with ⟨a, e⟩ | ⟨a, e⟩
      all_goals
        go_wp2_with (go_at_call 7; refine (B2.out _).mono ?_; rintro e w' ⟨rfl, rfl⟩)
        go_roundw
        case rel => exact ⟨3, by omega, rfl, by rw [e]; rfl⟩
        case measure => simp [intOf]
    · rw [overing_at]
      simp only [parts]
      obtain ⟨⟨y0, y1⟩, hc⟩ := F3.out
      rcases hc with ⟨a, e⟩ | ⟨a, e⟩
      all_goals
        go_wp2_with (go_at_call 7; refine (B3.out _).mono ?_; rintro e w' ⟨rfl, rfl⟩)
        go_roundw
        case rel => exact ⟨4, by omega, rfl, by rw [e]; rfl⟩
        case measure => simp [intOf]
    · rw [overing_at]
      simp only [parts]
      go_wp2
      refine bodyPost_ret (v := .agg (cCells ⟨cr, cg, cb, cq⟩)) (by simp [results, Try.results11, go_sem]) rfl ⟨rfl, ?_⟩
      exact over_below _ _ _ _
set_option maxHeartbeats 2000000 in
theorem rb_over (l h : Cr) (hl : l.Ok) (hh : h.Ok) (w : World) :
    Calls Try.prog 12 #[.agg (cCells l), .agg (cCells h)] w fun e w' => e = .returned (.agg (cCells (overB l h))) ∧ Below w.heap.size w w' := by
  have hc := overB_ok l hh
  have B0 := Lib.hid (fun w => rb_by l.r (255 - h.q) w)
  have B1 := Lib.hid (fun w => rb_by l.g (255 - h.q) w)
  have B2 := Lib.hid (fun w => rb_by l.b (255 - h.q) w)
  have B3 := Lib.hid (fun w => rb_by l.q (255 - h.q) w)
  have D0 := byB_bd l.r (255 - h.q)
  have D1 := byB_bd l.g (255 - h.q)
  have D2 := byB_bd l.b (255 - h.q)
  have D3 := byB_bd l.q (255 - h.q)
  obtain ⟨c, e⟩ : ∃ c, overB l h = c := ⟨_, rfl⟩
  have E0 : c.r = min (h.r + byB l.r (255 - h.q)) 255 := by rw [← e]; rfl
  have E1 : c.g = min (h.g + byB l.g (255 - h.q)) 255 := by rw [← e]; rfl
  have E2 : c.b = min (h.b + byB l.b (255 - h.q)) 255 := by rw [← e]; rfl
  have E3 : c.q = min (h.q + byB l.q (255 - h.q)) 255 := by rw [← e]; rfl
  rw [e] at hc ⊢
  clear e
  obtain ⟨y0, hy⟩ : ∃ y, byB l.r (255 - h.q) = y := ⟨_, rfl⟩
  rw [hy] at B0 D0 E0
  clear hy
  obtain ⟨y1, hy⟩ : ∃ y, byB l.g (255 - h.q) = y := ⟨_, rfl⟩
  rw [hy] at B1 D1 E1
  clear hy
  obtain ⟨y2, hy⟩ : ∃ y, byB l.b (255 - h.q) = y := ⟨_, rfl⟩
  rw [hy] at B2 D2 E2
  clear hy
  obtain ⟨y3, hy⟩ : ∃ y, byB l.q (255 - h.q) = y := ⟨_, rfl⟩
  rw [hy] at B3 D3 E3
  clear hy
  obtain ⟨lr, lg, lb, lq⟩ := l
  obtain ⟨hr, hg, hb, hq⟩ := h
  obtain ⟨cr, cg, cb, cq⟩ := c
  obtain ⟨l0, l1, l2, l3, l4, l5, l6, l7⟩ := hl
  obtain ⟨h0, h1, h2, h3, h4, h5, h6, h7⟩ := hh
  obtain ⟨s0, s1, t0, t1, u0, u1, v0, v1⟩ := hc
  simp only at l0 l1 l2 l3 l4 l5 l6 l7 h0 h1 h2 h3 h4 h5 h6 h7 s0 s1 t0 t1 u0 u1 v0 v1 B0 B1 B2 B3 D0 D1 D2 D3 E0 E1 E2 E3
  have F0 : Hid ((0 ≤ y0 ∧ y0 ≤ 255) ∧ ((255 < hr + y0 ∧ cr = 255) ∨ (hr + y0 ≤ 255 ∧ cr = hr + y0))) := Lib.hid ⟨D0, by omega⟩
  have F1 : Hid ((0 ≤ y1 ∧ y1 ≤ 255) ∧ ((255 < hg + y1 ∧ cg = 255) ∨ (hg + y1 ≤ 255 ∧ cg = hg + y1))) := Lib.hid ⟨D1, by omega⟩
  have F2 : Hid ((0 ≤ y2 ∧ y2 ≤ 255) ∧ ((255 < hb + y2 ∧ cb = 255) ∨ (hb + y2 ≤ 255 ∧ cb = hb + y2))) := Lib.hid ⟨D2, by omega⟩
  have F3 : Hid ((0 ≤ y3 ∧ y3 ≤ 255) ∧ ((255 < hq + y3 ∧ cq = 255) ∨ (hq + y3 ≤ 255 ∧ cq = hq + y3))) := Lib.hid ⟨D3, by omega⟩
  clear D0 D1 D2 D3 E0 E1 E2 E3
  go_enter Try.func12, Try.ntmps12
  go_wp2
  go_loopw [6] (fun i wr => ∃ n : Nat, n ≤ 4 ∧ i = .int .i64 n ∧ ∃ m, wr = (overR w ⟨lr, lg, lb, lq⟩ ⟨hr, hg, hb, hq⟩ ⟨cr, cg, cb, cq⟩ n).drewN m) (fun i _ => 4 - (intOf i).toNat)
  case atStart => exact ⟨0, by omega, rfl, 0, rfl⟩
  case round =>
    obtain ⟨n, hn, rfl, m, rfl⟩ := hrel
    rcases (show n = 0 ∨ n = 1 ∨ n = 2 ∨ n = 3 ∨ n = 4 by omega) with rfl | rfl | rfl | rfl | rfl
    · rw [overR_at]
      simp only [parts]
      obtain ⟨⟨y0, y1⟩, hc⟩ := F0.out
      rcases hc with ⟨a, e⟩ | ⟨a, e⟩
      all_goals
        go_wp2
        refine wp_region_draws_tail 18 (by kernel_rfl) (by kernel_rfl) (by kernel_rfl) (by kernel_rfl) ?_
        simp only [List.take_succ_cons, List.take_zero, List.drop_succ_cons, List.drop_zero]
        repeat (go_big_quiet_step (first | (go_at_call 8; exact quiet2 (B0.out _))))
        refine wpQuiet_nil ?_
        rintro _ ⟨nq, rfl⟩
        go_wp2
        go_roundw
        case rel => exact ⟨1, by omega, rfl, _, by rw [e]; rfl⟩
        case measure => simp [intOf]
    · rw [overR_at]
      simp only [parts]
      obtain ⟨⟨y0, y1⟩, hc⟩ := F1.out
      rcases hc with ⟨a, e⟩ | ⟨a, e⟩
      all_goals
        go_wp2
        refine wp_region_draws_tail 18 (by kernel_rfl) (by kernel_rfl) (by kernel_rfl) (by kernel_rfl) ?_
        simp only [List.take_succ_cons, List.take_zero, List.drop_succ_cons, List.drop_zero]
        repeat (go_big_quiet_step (first | (go_at_call 8; exact quiet2 (B1.out _))))
        refine wpQuiet_nil ?_
        rintro _ ⟨nq, rfl⟩
        go_wp2
        go_roundw
        case rel => exact ⟨2, by omega, rfl, _, by rw [e]; rfl⟩
        case measure => simp [intOf]
    · rw [overR_at]
      simp only [parts]
      obtain ⟨⟨y0, y1⟩, hc⟩ := F2.out
      rcases hc with ⟨a, e⟩ | ⟨a, e⟩
      all_goals
        go_wp2
        refine wp_region_draws_tail 18 (by kernel_rfl) (by kernel_rfl) (by kernel_rfl) (by kernel_rfl) ?_
        simp only [List.take_succ_cons, List.take_zero, List.drop_succ_cons, List.drop_zero]
        repeat (go_big_quiet_step (first | (go_at_call 8; exact quiet2 (B2.out _))))
        refine wpQuiet_nil ?_
        rintro _ ⟨nq, rfl⟩
        go_wp2
        go_roundw
        case rel => exact ⟨3, by omega, rfl, _, by rw [e]; rfl⟩
        case measure => simp [intOf]
    · rw [overR_at]
      simp only [parts]
      obtain ⟨⟨y0, y1⟩, hc⟩ := F3.out
      rcases hc with ⟨a, e⟩ | ⟨a, e⟩
      all_goals
        go_wp2
        refine wp_region_draws_tail 18 (by kernel_rfl) (by kernel_rfl) (by kernel_rfl) (by kernel_rfl) ?_
        simp only [List.take_succ_cons, List.take_zero, List.drop_succ_cons, List.drop_zero]
        repeat (go_big_quiet_step (first | (go_at_call 8; exact quiet2 (B3.out _))))
        refine wpQuiet_nil ?_
        rintro _ ⟨nq, rfl⟩
        go_wp2
        go_roundw
        case rel => exact ⟨4, by omega, rfl, _, by rw [e]; rfl⟩
        case measure => simp [intOf]
    · rw [overR_at]
      simp only [parts]
      go_wp2
      refine bodyPost_ret (v := .agg (cCells ⟨cr, cg, cb, cq⟩)) (by simp [results, Try.results12, go_sem]) rfl ⟨rfl, ?_⟩
      exact overR_below _ _ _ _ _ _

end Go.Proofs.Ytibgilaeepmheaa
