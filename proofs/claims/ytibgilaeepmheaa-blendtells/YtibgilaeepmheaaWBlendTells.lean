/- BlendTells of the statements: for all pixels, colours and numbers the call returns true; of the memory nothing that was there turns. -/
import Derived.Test.YtibgilaeepmheaaK17
namespace Go.Proofs.Ytibgilaeepmheaa
open Go Go.RowKit
open M

theorem eq_pixel_same (w : World) (x : Cr) : (Op.equalIn 10000 25 (.agg (cCells x)) (.agg (cCells x))).run Try.prog w = .ok true w := by
  rw [eq_pixel]; simp

attribute [local go_sem] eq_pixel_same
set_option maxRecDepth 100000 in
set_option maxHeartbeats 8000000 in
theorem blendTells_walk {w : World} (va : Value) (a : Cr) (vb : Value) (b : Cr) (vc : Value) (c : Cr) (al co k how : Int) (ha : va = .agg (cCells a) ∧ a.Ok) (hb : vb = .agg (cCells b) ∧ b.Ok) (hc : vc = .agg (cCells c) ∧ c.Ok) :
    Calls Try.prog 4 #[va, vb, vc, .int .i64 al, .int .i64 co, .int .i64 k, .int .i64 how] w fun e w' => e = .returned (.bool true) ∧ Below w.heap.size w w' := by
  obtain ⟨rfl, oka⟩ := ha
  obtain ⟨rfl, okb⟩ := hb
  obtain ⟨rfl, okc⟩ := hc
  obtain ⟨A, hA⟩ : ∃ A, w.heap.size = A := ⟨_, rfl⟩
  obtain ⟨W, hW⟩ : ∃ W, ((w.alloc (.cells (cCells a) 25)).alloc (.cells (cCells b) 25)).alloc (.cells (cCells c) 29) = W := ⟨_, rfl⟩
  have HA : Hid (Has W A (cCells a) 25) := Lib.hid (by rw [← hW]; exact ((has_new hA).alloc _).alloc _)
  have HB : Hid (Has W (A + 1) (cCells b) 25) := Lib.hid (by rw [← hW]; exact (has_new (by simp [hA])).alloc _)
  have HC : Hid (Has W (A + 2) (cCells c) 29) := Lib.hid (by rw [← hW]; exact has_new (by simp [hA]))
  have HB0 : Hid (Below w.heap.size w W) := Lib.hid (by rw [← hW]; exact (((Below.refl _ _).alloc (Nat.le_refl _) _).alloc (by simp) _).alloc (by simp; omega) _)
  have HW := Lib.hid hW
  clear hW
  have O1 := Lib.hid (fun w => bl_over a b oka okb w)
  have O2 := Lib.hid (fun w => rb_over a b oka okb w)
  have F1 := Lib.hid (fun k w => bl_fade a k oka w)
  have F2 := Lib.hid (fun k w => rb_fade a k oka w)
  have C1 := Lib.hid (fun x y w => bl_of c x y okc w)
  have C2 := Lib.hid (fun x y w => rb_of c x y okc w)
  have M1 := Lib.hid (fun h w => bl_matte a b h oka okb w)
  have M2 := Lib.hid (fun h w => rb_matte a b h oka okb w)
  have KN := Lib.hid (fun w => known17 w)
  obtain ⟨o, ho⟩ : ∃ o, overB a b = o := ⟨_, rfl⟩
  rw [ho] at O1 O2
  obtain ⟨f, hf⟩ : ∃ o, fadeB a = o := ⟨_, rfl⟩
  rw [hf] at F1 F2
  obtain ⟨g, hg⟩ : ∃ o, ofB c = o := ⟨_, rfl⟩
  rw [hg] at C1 C2
  obtain ⟨m, hm⟩ : ∃ o, matteB a b = o := ⟨_, rfl⟩
  rw [hm] at M1 M2
  clear ho hf hg hm oka okb okc
  obtain ⟨a0, a1, a2, a3⟩ := a
  obtain ⟨b0, b1, b2, b3⟩ := b
  obtain ⟨c0, c1, c2, c3⟩ := c
  go_enter Try.func4, Try.ntmps4
  go_upto_region 1 with fail
  rw [HW.out]
  clear hA HW
  have h0 := Later.read HA.out 0 _ rfl
  have h1 := Later.read HA.out 1 _ rfl
  have h2 := Later.read HA.out 2 _ rfl
  have h3 := Later.read HA.out 3 _ rfl
  have i0 := Later.read HB.out 0 _ rfl
  have i1 := Later.read HB.out 1 _ rfl
  have i2 := Later.read HB.out 2 _ rfl
  have i3 := Later.read HB.out 3 _ rfl
  have j0 := Later.read HC.out 0 _ rfl
  have j1 := Later.read HC.out 1 _ rfl
  have j2 := Later.read HC.out 2 _ rfl
  have j3 := Later.read HC.out 3 _ rfl
  refine wp_region_class (C := fun w' => ∃ z : Later W, w' = z.to) (by kernel_rfl) (by kernel_rfl) ⟨⟨_, below_drew (Below.refl _ _)⟩, rfl⟩ ?_
  simp only [List.append_eq, List.cons_append, List.nil_append]
  repeat (go_big_quiet_step (first | (go_at_call 11; exact Later.calls (O1.out _)) | (go_at_call 12; exact Later.calls (O2.out _)) | (go_at_call 15; exact Later.calls (C1.out _ _ _)) | (go_at_call 16; exact Later.calls (C2.out _ _ _)) | (go_at_call 13; exact Later.calls (F1.out _ _)) | (go_at_call 14; exact Later.calls (F2.out _ _)) | (go_at_call 17; exact Later.calls (M1.out _ _)) | (go_at_call 18; exact Later.calls (M2.out _ _)) | (go_at_call 19; exact Later.calls (KN.out _))))
  refine wpQuiet_nil ?_
  rintro _ ⟨z, rfl⟩
  go_wp2
  go_ret
  exact ⟨by simp, HB0.out.trans (z.below.mono HB0.out.size)⟩

end Go.Proofs.Ytibgilaeepmheaa
