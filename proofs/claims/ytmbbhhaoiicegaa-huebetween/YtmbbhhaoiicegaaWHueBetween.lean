/- The walk of mutoscopelaw6.HueBetween: it returns true; of the memory nothing that was there turns. No condition. -/
import Derived.Test.YtmbbhhaoiicegaaS6
import Derived.Test.YtmbbhhaoiicegaaB6
import Derived.Deep.RegionWith
namespace Go.Proofs.Ytmbbhhaoiicegaa
open Go.RowKit
open M

attribute [local go_sem] eq_color alloc_drewN setCell_drewN shape_drewN

set_option maxHeartbeats 2000000 in
theorem hueBetween_walk {w : World} (v0 : Value) (x : Cr) (v1 : Value) (y : Cr) (p : Int) (h0 : v0 = .agg (cCells x) ∧ x.Ok) (h1 : v1 = .agg (cCells y) ∧ y.Ok) :
    Calls Try.prog 5 #[v0, v1, .int .i64 p] w fun r w' => r = .returned (.bool true) ∧ Below w.heap.size w w' := by
  obtain ⟨rfl, hx⟩ := h0
  obtain ⟨rfl, hy⟩ := h1
  obtain ⟨k0, k1⟩ := wone_bd p
  obtain ⟨k, hk⟩ : ∃ k, wone p = k := ⟨_, rfl⟩
  rw [hk] at k0 k1
  have HK := Lib.hid hk
  clear hk
  obtain ⟨c, hc⟩ : ∃ c, mix x y k = c := ⟨_, rfl⟩
  have hP : hold k = k := by unfold hold clamp; rw [if_neg (by omega), if_neg (by omega)]
  have b0 := mixh_in hx.r0 hx.r1 hy.r0 hy.r1 k0 k1
  have b1 := mixh_in hx.g0 hx.g1 hy.g0 hy.g1 k0 k1
  have b2 := mixh_in hx.b0 hx.b1 hy.b0 hy.b1 k0 k1
  have b3 := mixh_in hx.q0 hx.q1 hy.q0 hy.q1 k0 k1
  rw [show mixh x.r y.r k = c.r by rw [← hc]; unfold mix; rw [hP]] at b0
  rw [show mixh x.g y.g k = c.g by rw [← hc]; unfold mix; rw [hP]] at b1
  rw [show mixh x.b y.b k = c.b by rw [← hc]; unfold mix; rw [hP]] at b2
  rw [show mixh x.q y.q k = c.q by rw [← hc]; unfold mix; rw [hP]] at b3
  have HM := Lib.hid (fun w => hc ▸ h_mix x y k w hx hy)
  have M0 := Lib.hid (fun w => mix_zero y hx ▸ h_mix x y 0 w hx hy)
  have M1 := Lib.hid (fun w => mix_one x hy ▸ h_mix x y 65536 w hx hy)
  clear hx hy hc hP k0 k1
  obtain ⟨xr, xg, xb, xq⟩ := x
  obtain ⟨yr, yg, yb, yq⟩ := y
  obtain ⟨cr, cg, cb, cq⟩ := c
  simp only at b0 b1 b2 b3
  go_enter Try.func5, Try.ntmps5
  go_wp2_with fail
  refine (b_wone p _).mono ?_
  rintro e w1 ⟨rfl, rfl⟩
  rw [HK.out]
  go_wp2_with fail
  refine (HM.out _).mono ?_
  rintro e w1 ⟨rfl, hb1⟩
  have H0 : Has w1 w.heap.size (cCells ⟨xr, xg, xb, xq⟩) 24 := Has.below (has_new0.alloc _) hb1 (by simp; omega)
  have H1 : Has w1 (w.heap.size + 1) (cCells ⟨yr, yg, yb, yq⟩) 24 := Has.below (has_new (by simp)) hb1 (by simp)
  have HB1 : Below w.heap.size w w1 := (((Below.refl _ _).alloc (Nat.le_refl _) _).alloc (by simp) _).trans (hb1.mono (by simp; omega))
  have hs1 := HB1.size
  have HB2 : Below w.heap.size w (w1.alloc (.cells (cCells ⟨cr, cg, cb, cq⟩) 24)) := HB1.alloc hs1 _
  have H2 : Has (w1.alloc (.cells (cCells ⟨cr, cg, cb, cq⟩) 24)) w1.heap.size (cCells ⟨cr, cg, cb, cq⟩) 24 := has_new0
  replace H0 := H0.alloc (.cells (cCells ⟨cr, cg, cb, cq⟩) 24)
  replace H1 := H1.alloc (.cells (cCells ⟨cr, cg, cb, cq⟩) 24)
  obtain ⟨W, hW⟩ : ∃ W, w1.alloc (.cells (cCells ⟨cr, cg, cb, cq⟩) 24) = W := ⟨_, rfl⟩
  rw [hW] at H0 H1 H2 HB2
  have HW := Lib.hid hW
  have HBW := Lib.hid HB2
  clear HB1 HB2 hb1 hW HM HK hs1
  go_wp2_with fail
  rw [HW.out]
  have key : ∀ (wr : World), Below W.heap.size W wr → ∀ n : Nat, n < 4 → ∃ X Y T : Int, (∀ z : Later wr, z.to.cell? ⟨w.heap.size, n, none⟩ = some (.int .u8 X)) ∧ (∀ z : Later wr, z.to.cell? ⟨w.heap.size + 1, n, none⟩ = some (.int .u8 Y)) ∧ (∀ z : Later wr, z.to.cell? ⟨w1.heap.size, n, none⟩ = some (.int .u8 T)) ∧ min X Y ≤ T ∧ T ≤ max X Y := by
    intro wr hb n hn
    have G0 := H0.below hb H0.lt
    have G1 := H1.below hb H1.lt
    have G2 := H2.below hb H2.lt
    rcases (show n = 0 ∨ n = 1 ∨ n = 2 ∨ n = 3 by omega) with rfl | rfl | rfl | rfl
    · exact ⟨_, _, _, Later.read G0 0 _ rfl, Later.read G1 0 _ rfl, Later.read G2 0 _ rfl, b0.1, b0.2⟩
    · exact ⟨_, _, _, Later.read G0 1 _ rfl, Later.read G1 1 _ rfl, Later.read G2 1 _ rfl, b1.1, b1.2⟩
    · exact ⟨_, _, _, Later.read G0 2 _ rfl, Later.read G1 2 _ rfl, Later.read G2 2 _ rfl, b2.1, b2.2⟩
    · exact ⟨_, _, _, Later.read G0 3 _ rfl, Later.read G1 3 _ rfl, Later.read G2 3 _ rfl, b3.1, b3.2⟩
  have KEY := Lib.hid key
  have X0 := Lib.hid H0
  have X1 := Lib.hid H1
  clear H0 H1 H2 b0 b1 b2 b3 key
  go_loopw [9, 16] (fun _ i wr => ∃ n : Nat, n ≤ 4 ∧ i = .int .i64 n ∧ Below W.heap.size W wr) (fun _ i _ => 4 - (intOf i).toNat)
  case atStart => exact ⟨0, by omega, rfl, Below.refl _ _⟩
  case round =>
    obtain ⟨n, hn, rfl, hb⟩ := hrel
    by_cases hlt : n < 4
    · obtain ⟨X, Y, T, r0, r1, r2, t0, t1⟩ := KEY.out _ hb n hlt
      have o1 : (n : Int) < 4 := by omega
      have e1 : decide (T < min X Y) = false := decide_eq_false (by omega)
      have e2 : decide (max X Y < T) = false := decide_eq_false (by omega)
      have HB := Lib.hid hb
      clear hb X0 X1 KEY M0 M1 t0 t1
      go_wp2
      refine wp_region_class (C := fun w' => ∃ z : Later wr, w' = z.to) (by kernel_rfl) (by kernel_rfl) ⟨⟨_, below_drew (Below.refl _ _)⟩, rfl⟩ ?_
      repeat (go_big_quiet_step (first | fail))
      refine wpQuiet_nil ?_
      rintro _ ⟨z, rfl⟩
      go_wp2
      go_roundw
      case rel => exact ⟨n + 1, by omega, by go_num, HB.out.trans (z.below.mono HB.out.size)⟩
      case measure => simp [intOf]; omega
    · obtain rfl : n = 4 := by omega
      have G0 := X0.out.below hb X0.out.lt
      have G1 := X1.out.below hb X1.out.lt
      have r0 := Later.read G0 0 _ rfl
      have r1 := Later.read G0 1 _ rfl
      have r2 := Later.read G0 2 _ rfl
      have r3 := Later.read G0 3 _ rfl
      have s0 := Later.read G1 0 _ rfl
      have s1 := Later.read G1 1 _ rfl
      have s2 := Later.read G1 2 _ rfl
      have s3 := Later.read G1 3 _ rfl
      have HB := Lib.hid (HBW.out.trans (hb.mono HBW.out.size))
      clear G0 G1 X0 X1 hb KEY HBW
      go_wp2_with fail
      refine wp_region_class (C := fun w' => ∃ z : Later wr, w' = z.to) (by kernel_rfl) (by kernel_rfl) ⟨⟨_, below_drew (Below.refl _ _)⟩, rfl⟩ ?_
      repeat (go_big_quiet_step (first | (go_at_call_of 7 (0 : Int); exact Later.calls (M0.out _)) | (go_at_call_of 7 (65536 : Int); exact Later.calls (M1.out _)) | (go_at_call 12; exact Later.calls (known6 _))))
      refine wpQuiet_nil ?_
      rintro _ ⟨z, rfl⟩
      go_wp2
      go_ret
      exact ⟨rfl, HB.out.trans (z.below.mono HB.out.size)⟩

end Go.Proofs.Ytmbbhhaoiicegaa
