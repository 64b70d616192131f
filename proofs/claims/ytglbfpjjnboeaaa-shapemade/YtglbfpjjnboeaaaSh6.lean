/- Contract of shape.At: for all shapes and ticks what the plain data says, in memory of the call's own; of the memory nothing that was there turns. -/
import Derived.Test.YtglbfpjjnboeaaaShD
import Derived.Test.YtglbfpjjnboeaaaSh2b
import Derived.Test.YtglbfpjjnboeaaaSh3
import Derived.Test.YtglbfpjjnboeaaaMake
import Derived.Test.YtglbfpjjnboeaaaSh4
namespace Go.Proofs.Ytglbfpjjnboeaaa
open Go Go.RowKit
open M

set_option maxRecDepth 100000 in
set_option maxHeartbeats 4000000 in
theorem sh_at {w : World} {s : Shp} (h : ShIn w s) (t : Int) (bW : -9223372036854775808 ≤ atk s.W t 0 ∧ atk s.W t 0 ≤ 9223372036854775807) (bH : -9223372036854775808 ≤ atk s.H t 0 ∧ atk s.H t 0 ≤ 9223372036854775807) :
    Calls Try.prog 7 #[.agg (shC s), .int .i64 t] w (Gives w (shCl s t) (shAt s t)) := by
  obtain ⟨B, hB⟩ : ∃ B, w.heap.size = B := ⟨_, rfl⟩
  obtain ⟨W0, hW0⟩ : ∃ W, w.alloc (.cells (shC s) 37) = W := ⟨_, rfl⟩
  obtain ⟨hi0, hk0, hb0⟩ := h.start hB hW0
  obtain ⟨W, hW⟩ : ∃ W, W0.alloc (.cells #[.bool false, .slice none 0 0] 41) = W := ⟨_, rfl⟩
  have hz0 : W0.heap.size = B + 1 := by rw [← hW0]; simp [hB]
  have hbW : Below W0.heap.size W0 W := by rw [← hW]; exact (Below.refl _ _).alloc (Nat.le_refl _) _
  have hi := hi0.below hbW
  have hk := hk0.below hbW hk0.lt
  have hr : Has W (B + 1) #[.bool false, .slice none 0 0] 41 := by rw [← hW]; exact has_new hz0
  have hb : Below B w W := hb0.trans (hbW.mono (by omega))
  obtain ⟨vw, hvw⟩ : ∃ v, s.vW = v := ⟨_, rfl⟩
  obtain ⟨vh, hvh⟩ : ∃ v, s.vH = v := ⟨_, rfl⟩
  have HVW := Lib.hid hvw
  have HVH := Lib.hid hvh
  clear hvw hvh
  obtain ⟨x, hx⟩ : ∃ x, atk s.W t 0 = x := ⟨_, rfl⟩
  obtain ⟨y, hy⟩ : ∃ x, atk s.H t 0 = x := ⟨_, rfl⟩
  have C1 : Hid (∀ w', Below W.heap.size W w' → Calls Try.prog 22 #[vw, .int .i64 t, .int .i64 0] w' fun e w'' => e = .returned (.int .i64 x) ∧ Below w'.heap.size w' w'') := Lib.hid (fun w' h' => by rw [← hx, ← HVW.out]; exact k_at (hi.below h').W t 0)
  have C2 : Hid (∀ w', Below W.heap.size W w' → Calls Try.prog 22 #[vh, .int .i64 t, .int .i64 0] w' fun e w'' => e = .returned (.int .i64 y) ∧ Below w'.heap.size w' w'') := Lib.hid (fun w' h' => by rw [← hy, ← HVH.out]; exact k_at (hi.below h').H t 0)
  have C3 : Hid (∀ w', Below W.heap.size W w' → Calls Try.prog 23 #[s.vP, .int .i64 t] w' (Gives w' (atcl s.P t) (atps s.P t))) := Lib.hid (fun w' h' => p_at (hi.below h').P t)
  have A0 : Hid (s.form = 0 → shAt s t = rectL x y ∧ shCl s t = true) := Lib.hid (fun e => by unfold shAt shCl; rw [hx, hy, e]; exact ⟨rfl, rfl⟩)
  have A1 : Hid (s.form = 1 → shAt s t = ovalL x y ∧ shCl s t = true) := Lib.hid (fun e => by unfold shAt shCl; rw [hx, hy, e]; exact ⟨rfl, rfl⟩)
  have A2 : Hid (s.form = 2 → shAt s t = starL s.n x y ∧ shCl s t = true) := Lib.hid (fun e => by unfold shAt shCl; rw [hx, hy, e]; exact ⟨rfl, rfl⟩)
  have A3 : Hid (s.form = 3 → shAt s t = atps s.P t ∧ shCl s t = atcl s.P t) := Lib.hid (fun e => by unfold shAt shCl; rw [e]; exact ⟨rfl, rfl⟩)
  have A4 : Hid (¬ s.form = 0 → ¬ s.form = 1 → ¬ s.form = 2 → ¬ s.form = 3 → shAt s t = [] ∧ shCl s t = false) := Lib.hid (fun a b c d => by unfold shAt shCl; rw [if_neg a, if_neg b, if_neg c, if_neg d, if_neg (by omega), if_neg d]; exact ⟨rfl, rfl⟩)
  rw [hx] at bW
  rw [hy] at bH
  have BW := Lib.hid bW
  have BH := Lib.hid bH
  have HBB := Lib.hid hB
  have HW0 := Lib.hid hW0
  have HW := Lib.hid hW
  have HR := Lib.hid hr
  have HBW := Lib.hid hb
  have R0 : Hid (Below W.heap.size W W) := Lib.hid (Below.refl _ _)
  have SZ : Hid (B ≤ W.heap.size) := Lib.hid (by have := hr.lt; omega)
  have HF := Lib.hid (show ∀ w', Below W.heap.size W w' → ∀ j u, (shC s)[j]? = some u → w'.cell? ⟨B, j, none⟩ = some u from fun w' h' j u hu => (hk.below h' hk.lt).cell j u hu)
  obtain ⟨R, hR⟩ : ∃ R, shAt s t = R := ⟨_, rfl⟩
  obtain ⟨c, hc⟩ : ∃ c, shCl s t = c := ⟨_, rfl⟩
  rw [hR, hc] at A0 A1 A2 A3 A4
  rw [hR, hc]
  clear hi0 hk0 hb0 hW0 hW hbW hi hk hr hb hx hy hR hc h bW bH
  by_cases e0 : s.form = 0
  · obtain ⟨er, ec⟩ := A0.out e0
    rw [er, ec]
    clear A0 A1 A2 A3 A4 er ec
    go_enter Try.func7, Try.ntmps7
    go_upto_region 1 with fail
    rw [HW0.out, HW.out]
    clear hB
    have f0 := HF.out W R0.out 0 _ rfl
    go_upto_region 3 with fail
    refine wp_region_make0 8 (by kernel_rfl) (by kernel_rfl) (by kernel_rfl) ?_
    apply Exists.intro
    refine ⟨fun R hR hN => ?_, ?_⟩
    · have A2 : ∀ z : LaterR W R, z.to.cell? ⟨B, 2, none⟩ = some vw := fun z => by rw [← HVW.out]; exact HF.out z.to z.below 2 _ rfl
      have A3 : ∀ z : LaterR W R, z.to.cell? ⟨B, 3, none⟩ = some vh := fun z => by rw [← HVH.out]; exact HF.out z.to z.below 3 _ rfl
      have DD1 := Lib.hid (fun (z : LaterR W R) => C1.out z.to z.below)
      have DD2 := Lib.hid (fun (z : LaterR W R) => C2.out z.to z.below)
      simp only [List.take_succ_cons, List.take_zero]
      repeat (go_big_quiet_step (first | (go_at_call_of 22 vw; exact LaterR.calls hR (DD1.out _)) | (go_at_call_of 22 vh; exact LaterR.calls hR (DD2.out _))))
      exact wpQuiet_nil rfl
    intro w2 hb2
    simp only [List.drop_succ_cons, List.drop_zero]
    have R2 := Lib.hid hb2
    clear hb2
    go_wp2_with fail
    refine (sh_rect x y _ BW.out BH.out).mono ?_
    rintro e w9 ⟨v, rfl, ho, hq⟩
    have GG := Lib.hid (gives_put (w := w) (r := B + 1) (c := true) HBB.out (ho.lower (B' := B) (by have := SZ.out; have := R2.out.size; omega)) (fun e => by have := (ho.base _ e).1; have := HR.out.lt; have := R2.out.size; omega) (by omega) (HBW.out.trans ((R2.out.trans (hq.mono R2.out.size)).mono SZ.out)) rfl (.bool true) _ rfl)
    have K := HR.out.below (R2.out.trans (hq.mono R2.out.size)) HR.out.lt
    obtain ⟨ao, cp, rfl⟩ := ho.len
    obtain ⟨LN, hLN⟩ : ∃ n, (rectL x y).length = n := ⟨_, rfl⟩
    rw [hLN] at GG ⊢
    have r0 := K.cell 0 _ rfl
    have r1 := K.cell 1 _ rfl
    have fz := has_fro K
    clear K ho hq hLN
    go_wp2
    refine bodyPost_ret (v := .agg #[.bool true, .slice ao LN cp]) (by simp [results, Try.results7, go_sem, r0, r1]) rfl ?_
    exact GG.out
  by_cases e1 : s.form = 1
  · obtain ⟨er, ec⟩ := A1.out e1
    rw [er, ec]
    clear A0 A1 A2 A3 A4 er ec
    go_enter Try.func7, Try.ntmps7
    go_upto_region 1 with fail
    rw [HW0.out, HW.out]
    clear hB
    have f0 := HF.out W R0.out 0 _ rfl
    go_upto_region 5 with fail
    refine wp_region_make0 8 (by kernel_rfl) (by kernel_rfl) (by kernel_rfl) ?_
    apply Exists.intro
    refine ⟨fun R hR hN => ?_, ?_⟩
    · have A2 : ∀ z : LaterR W R, z.to.cell? ⟨B, 2, none⟩ = some vw := fun z => by rw [← HVW.out]; exact HF.out z.to z.below 2 _ rfl
      have A3 : ∀ z : LaterR W R, z.to.cell? ⟨B, 3, none⟩ = some vh := fun z => by rw [← HVH.out]; exact HF.out z.to z.below 3 _ rfl
      have DD1 := Lib.hid (fun (z : LaterR W R) => C1.out z.to z.below)
      have DD2 := Lib.hid (fun (z : LaterR W R) => C2.out z.to z.below)
      simp only [List.take_succ_cons, List.take_zero]
      repeat (go_big_quiet_step (first | (go_at_call_of 22 vw; exact LaterR.calls hR (DD1.out _)) | (go_at_call_of 22 vh; exact LaterR.calls hR (DD2.out _))))
      exact wpQuiet_nil rfl
    intro w2 hb2
    simp only [List.drop_succ_cons, List.drop_zero]
    have R2 := Lib.hid hb2
    clear hb2
    go_wp2_with fail
    refine (sh_oval x y _ BW.out BH.out).mono ?_
    rintro e w9 ⟨v, rfl, ho, hq⟩
    have GG := Lib.hid (gives_put (w := w) (r := B + 1) (c := true) HBB.out (ho.lower (B' := B) (by have := SZ.out; have := R2.out.size; omega)) (fun e => by have := (ho.base _ e).1; have := HR.out.lt; have := R2.out.size; omega) (by omega) (HBW.out.trans ((R2.out.trans (hq.mono R2.out.size)).mono SZ.out)) rfl (.bool true) _ rfl)
    have K := HR.out.below (R2.out.trans (hq.mono R2.out.size)) HR.out.lt
    obtain ⟨ao, cp, rfl⟩ := ho.len
    obtain ⟨LN, hLN⟩ : ∃ n, (ovalL x y).length = n := ⟨_, rfl⟩
    rw [hLN] at GG ⊢
    have r0 := K.cell 0 _ rfl
    have r1 := K.cell 1 _ rfl
    have fz := has_fro K
    clear K ho hq hLN
    go_wp2
    refine bodyPost_ret (v := .agg #[.bool true, .slice ao LN cp]) (by simp [results, Try.results7, go_sem, r0, r1]) rfl ?_
    exact GG.out
  by_cases e2 : s.form = 2
  · obtain ⟨er, ec⟩ := A2.out e2
    rw [er, ec]
    clear A0 A1 A2 A3 A4 er ec
    go_enter Try.func7, Try.ntmps7
    go_upto_region 1 with fail
    rw [HW0.out, HW.out]
    clear hB
    have f0 := HF.out W R0.out 0 _ rfl
    go_upto_region 7 with fail
    refine wp_region_make0 10 (by kernel_rfl) (by kernel_rfl) (by kernel_rfl) ?_
    apply Exists.intro
    refine ⟨fun R hR hN => ?_, ?_⟩
    · have A2 : ∀ z : LaterR W R, z.to.cell? ⟨B, 2, none⟩ = some vw := fun z => by rw [← HVW.out]; exact HF.out z.to z.below 2 _ rfl
      have A3 : ∀ z : LaterR W R, z.to.cell? ⟨B, 3, none⟩ = some vh := fun z => by rw [← HVH.out]; exact HF.out z.to z.below 3 _ rfl
      have A1 := fun (z : LaterR W R) => HF.out z.to z.below 1 _ rfl
      have DD1 := Lib.hid (fun (z : LaterR W R) => C1.out z.to z.below)
      have DD2 := Lib.hid (fun (z : LaterR W R) => C2.out z.to z.below)
      simp only [List.take_succ_cons, List.take_zero]
      repeat (go_big_quiet_step (first | (go_at_call_of 22 vw; exact LaterR.calls hR (DD1.out _)) | (go_at_call_of 22 vh; exact LaterR.calls hR (DD2.out _))))
      exact wpQuiet_nil rfl
    intro w2 hb2
    simp only [List.drop_succ_cons, List.drop_zero]
    have R2 := Lib.hid hb2
    clear hb2
    go_wp2_with fail
    refine (sh_star s.n x y _).mono ?_
    rintro e w9 ⟨v, rfl, ho, hq⟩
    have GG := Lib.hid (gives_put (w := w) (r := B + 1) (c := true) HBB.out (ho.lower (B' := B) (by have := SZ.out; have := R2.out.size; omega)) (fun e => by have := (ho.base _ e).1; have := HR.out.lt; have := R2.out.size; omega) (by omega) (HBW.out.trans ((R2.out.trans (hq.mono R2.out.size)).mono SZ.out)) rfl (.bool true) _ rfl)
    have K := HR.out.below (R2.out.trans (hq.mono R2.out.size)) HR.out.lt
    obtain ⟨ao, cp, rfl⟩ := ho.len
    obtain ⟨LN, hLN⟩ : ∃ n, (starL s.n x y).length = n := ⟨_, rfl⟩
    rw [hLN] at GG ⊢
    have r0 := K.cell 0 _ rfl
    have r1 := K.cell 1 _ rfl
    have fz := has_fro K
    clear K ho hq hLN
    go_wp2
    refine bodyPost_ret (v := .agg #[.bool true, .slice ao LN cp]) (by simp [results, Try.results7, go_sem, r0, r1]) rfl ?_
    exact GG.out
  by_cases e3 : s.form = 3
  · obtain ⟨er, ec⟩ := A3.out e3
    rw [er, ec]
    clear A0 A1 A2 A3 A4 er ec
    go_enter Try.func7, Try.ntmps7
    go_upto_region 1 with fail
    rw [HW0.out, HW.out]
    clear hB
    have f0 := HF.out W R0.out 0 _ rfl
    have f4 := HF.out W R0.out 4 _ rfl
    go_wp2_with fail
    refine (C3.out _ R0.out).mono ?_
    rintro e w9 ⟨v, rfl, ho, hq⟩
    have GG := Lib.hid (gives_put (w := w) (r := B + 1) (c := (atcl s.P t)) HBB.out (ho.lower (B' := B) (by have := SZ.out; have := R0.out.size; omega)) (fun e => by have := (ho.base _ e).1; have := HR.out.lt; have := R0.out.size; omega) (by omega) (HBW.out.trans ((R0.out.trans (hq.mono R0.out.size)).mono SZ.out)) rfl (.bool (atcl s.P t)) _ rfl)
    have K := HR.out.below (R0.out.trans (hq.mono R0.out.size)) HR.out.lt
    obtain ⟨ao, cp, rfl⟩ := ho.len
    obtain ⟨LN, hLN⟩ : ∃ n, (atps s.P t).length = n := ⟨_, rfl⟩
    rw [hLN] at GG ⊢
    have r0 := K.cell 0 _ rfl
    have r1 := K.cell 1 _ rfl
    have fz := has_fro K
    clear K ho hq hLN
    go_wp2
    refine bodyPost_ret (v := .agg #[.bool (atcl s.P t), .slice ao LN cp]) (by simp [results, Try.results7, go_sem, r0, r1]) rfl ?_
    exact GG.out
  obtain ⟨er, ec⟩ := A4.out e0 e1 e2 e3
  rw [er, ec]
  clear A0 A1 A2 A3 A4 er ec
  have n0 : (s.form == 0) = false := by simp; omega
  have n1 : (s.form == 1) = false := by simp; omega
  have n2 : (s.form == 2) = false := by simp; omega
  have n3 : (s.form == 3) = false := by simp; omega
  go_enter Try.func7, Try.ntmps7
  go_upto_region 1 with fail
  rw [HW0.out, HW.out]
  clear hB
  have f0 := HF.out W R0.out 0 _ rfl
  have K := HR.out.below R0.out HR.out.lt
  have G := Lib.hid (gives_put (w := w) (r := B + 1) (c := false) HBB.out (Pown.nil W B) (by simp [Value.ownBlock]) (by omega) (HBW.out.trans (R0.out.mono SZ.out)) rfl (.bool false) _ rfl)
  have r0 := K.cell 0 _ rfl
  have r1 := K.cell 1 _ rfl
  have fz := has_fro K
  clear K
  go_wp2
  refine bodyPost_ret (v := .agg #[.bool false, .slice none 0 0]) (by simp [results, Try.results7, go_sem, r0, r1]) rfl ?_
  exact G.out

end Go.Proofs.Ytglbfpjjnboeaaa
