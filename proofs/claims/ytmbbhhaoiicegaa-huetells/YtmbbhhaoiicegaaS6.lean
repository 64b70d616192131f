/- Contracts of mutoscopelaw6.same, .known: they return true, for all keys; of the memory nothing that was there turns. -/
import Derived.Test.YtmbbhhaoiicegaaHR
import Derived.Test.YtmbbhhaoiicegaaHD
import Derived.Test.YtmbbhhaoiicegaaEqC
namespace Go.Proofs.Ytmbbhhaoiicegaa
open Go.RowKit
open M

attribute [local go_sem] eq_color

theorem ok_byte {c : Cr} (h : decide (0 ≤ c.r ∧ c.r ≤ 255 ∧ 0 ≤ c.g ∧ c.g ≤ 255 ∧ 0 ≤ c.b ∧ c.b ≤ 255 ∧ 0 ≤ c.q ∧ c.q ≤ 255) = true) : c.Ok := by
  have := of_decide_eq_true h
  exact ⟨this.1, this.2.1, this.2.2.1, this.2.2.2.1, this.2.2.2.2.1, this.2.2.2.2.2.1, this.2.2.2.2.2.2.1, this.2.2.2.2.2.2.2⟩
set_option maxHeartbeats 1000000 in
theorem l6_same {v : Value} {ks : List Ck} {w : World} (h : Csl w v ks) (t : Int) (no : Cr) :
    Calls Try.prog 11 #[v, .int .i64 t, .agg (cCells no)] w fun r w' => r = .returned (.bool true) ∧ Below w.heap.size w w' := by
  have hb : Below w.heap.size w (w.alloc (.cells (cCells no) 24)) := (Below.refl _ _).alloc (Nat.le_refl _) _
  have hs := h.below hb
  have H0 : Has (w.alloc (.cells (cCells no) 24)) w.heap.size (cCells no) 24 := has_new0
  obtain ⟨W, hW⟩ : ∃ W, w.alloc (.cells (cCells no) 24) = W := ⟨_, rfl⟩
  rw [hW] at hb hs H0
  obtain ⟨R, hR⟩ : ∃ R, right (bares ks) = R := ⟨_, rfl⟩
  obtain ⟨c, hc⟩ : ∃ c, atc ks t no = c := ⟨_, rfl⟩
  have a1 := fun z : Later W => h_right (hs.below z.below)
  have a2 := fun z : Later W => r5_colors (hs.below z.below)
  have a3 := fun z : Later W => h_at (hs.below z.below) t no
  have a4 := fun z : Later W => r5_color (hs.below z.below) t no
  rw [hR] at a1 a2
  rw [hc] at a3 a4
  have A1 := Lib.hid a1
  have A2 := Lib.hid a2
  have A3 := Lib.hid a3
  have A4 := Lib.hid a4
  have r0 := Later.read H0 0 _ rfl
  have r1 := Later.read H0 1 _ rfl
  have r2 := Later.read H0 2 _ rfl
  have r3 := Later.read H0 3 _ rfl
  have HB := Lib.hid hb
  have HW := Lib.hid hW
  clear h hb hs H0 hW hR hc a1 a2 a3 a4
  obtain ⟨cr, cg, cb, cq⟩ := c
  cases R
  all_goals
    go_enter Try.func11, Try.ntmps11
    go_wp2_with fail
    rw [HW.out]
    refine wp_region_class (C := fun w' => ∃ z : Later W, w' = z.to) (by kernel_rfl) (by kernel_rfl) ⟨⟨_, below_drew (Below.refl _ _)⟩, rfl⟩ ?_
    repeat (go_big_quiet_step (first | (go_at_call 16; exact Later.calls (A1.out _)) | (go_at_call 21; exact Later.calls (A2.out _)) | (go_at_call 15; exact Later.calls (A3.out _)) | (go_at_call 22; exact Later.calls (A4.out _))))
    refine wpQuiet_nil ?_
    rintro _ ⟨z, rfl⟩
    go_wp2
    go_ret
    exact ⟨rfl, HB.out.trans (z.below.mono HB.out.size)⟩
theorem kn6_mix : mix ⟨0, 0, 0, 0⟩ ⟨255, 255, 255, 255⟩ 32768 = ⟨127, 127, 127, 127⟩ := by decide
theorem kn6_luma : luma ⟨255, 255, 255, 255⟩ = 255 := by decide
set_option maxHeartbeats 1000000 in
theorem known6 (w : World) :
    Calls Try.prog 12 #[] w fun r w' => r = .returned (.bool true) ∧ Below w.heap.size w w' := by
  go_enter Try.func12, Try.ntmps12
  go_wp2_with fail
  refine (h_mix ⟨0, 0, 0, 0⟩ ⟨255, 255, 255, 255⟩ 32768 _ (ok_byte rfl) (ok_byte rfl)).mono ?_
  rw [kn6_mix]
  rintro e w1 ⟨rfl, hq⟩
  have HB1 := Lib.hid hq
  clear hq
  go_wp2_with fail
  refine (h_at0 none 0 5 ⟨1, 2, 3, 4⟩ _).mono ?_
  rintro e w2 ⟨rfl, hq⟩
  have HB2 := Lib.hid (HB1.out.trans (hq.mono HB1.out.size))
  clear hq HB1
  go_wp2_with fail
  refine (h_luma ⟨255, 255, 255, 255⟩ _ (ok_byte rfl)).mono ?_
  rw [kn6_luma]
  rintro e w3 ⟨rfl, hq⟩
  have HB3 := Lib.hid (HB2.out.trans (hq.mono HB2.out.size))
  clear hq HB2
  go_wp2
  go_ret
  exact ⟨rfl, HB3.out⟩

end Go.Proofs.Ytmbbhhaoiicegaa
