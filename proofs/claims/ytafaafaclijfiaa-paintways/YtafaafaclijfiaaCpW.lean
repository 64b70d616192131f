/- Contracts of paint.Right, .Way and .At: for all paints what the plain arithmetic says; of the memory nothing that was there turns. Condition: that the colours are bytes, where they are mixed. -/
import Derived.Test.YtafaafaclijfiaaCpA
import Derived.Test.YtafaafaclijfiaaHM
import Derived.Test.YtafaafaclijfiaaTK5
namespace Go.Proofs.Ytafaafaclijfiaa
open Go Go.RowKit
open M

set_option maxRecDepth 100000 in
set_option maxHeartbeats 4000000 in
theorem p_rightP (c : Pa) (w : World) : Calls Try.prog 12 #[.agg (paCells c)] w fun e w' => e = .returned (.bool (rightP c)) ∧ Below w.heap.size w w' := by
  obtain ⟨k, a, b, ⟨px, py⟩, ⟨qx, qy⟩, r⟩ := c
  unfold rightP
  simp only
  have N0 := Lib.hid (fun w => p_nearPoint px py w)
  have N1 := Lib.hid (fun w => p_nearPoint qx qy w)
  have N2 := Lib.hid (fun w => p_near r w)
  rw [show (nearN px && nearN py && nearN qx && nearN qy && nearN r) = ((nearN px && nearN py) && (nearN qx && nearN qy) && nearN r) by simp [Bool.and_assoc]]
  obtain ⟨n0, h0⟩ : ∃ x, (nearN px && nearN py) = x := ⟨_, rfl⟩
  obtain ⟨n1, h1⟩ : ∃ x, (nearN qx && nearN qy) = x := ⟨_, rfl⟩
  obtain ⟨n2, h2⟩ : ∃ x, nearN r = x := ⟨_, rfl⟩
  rw [h0] at N0 ⊢
  rw [h1] at N1 ⊢
  rw [h2] at N2 ⊢
  clear h0 h1 h2
  obtain ⟨B, hB⟩ : ∃ B, w.heap.size = B := ⟨_, rfl⟩
  by_cases hk : k = 0 ∨ k = 1 ∨ k = 2
  · rw [decide_eq_true hk]
    obtain ⟨W, hW⟩ : ∃ W, w.alloc (.cells (paC k a b ⟨px, py⟩ ⟨qx, qy⟩ r) 27) = W := ⟨_, rfl⟩
    have hkk : Has W B (paC k a b ⟨px, py⟩ ⟨qx, qy⟩ r) 27 := by rw [← hW]; exact has_new hB
    have hb : Below B w W := by rw [← hW]; exact (Below.refl _ _).alloc (by omega) _
    have HF := Lib.hid (show ∀ w', Below W.heap.size W w' → ∀ j u, (paC k a b ⟨px, py⟩ ⟨qx, qy⟩ r)[j]? = some u → w'.cell? ⟨B, j, none⟩ = some u from fun w' h' j u hu => (hkk.below h' hkk.lt).cell j u hu)
    have R0 : Hid (Below W.heap.size W W) := Lib.hid (Below.refl _ _)
    have FIN := Lib.hid (show ∀ w', Below W.heap.size W w' → Below w.heap.size w w' from fun w' h' => by rw [hB]; exact hb.trans (h'.mono (by have := hkk.lt; omega)))
    have HW := Lib.hid hW
    clear hkk hb hW
    rcases hk with rfl | rfl | rfl
    all_goals
      go_enter Try.func12, Try.ntmps12
      go_wp2_with fail
      rw [HW.out]
      clear hB
      refine (N0.out _).mono ?_
      rintro e w1 ⟨rfl, q1⟩
      have R1 := Lib.hid (R0.out.trans (q1.mono R0.out.size))
      clear q1
      have g11 := HF.out w1 R1.out 11 _ rfl
      have g12 := HF.out w1 R1.out 12 _ rfl
      have g13 := HF.out w1 R1.out 13 _ rfl
      cases n0
      · go_wp2
        go_ret
        exact ⟨rfl, FIN.out _ R1.out⟩
      go_wp2_with fail
      refine (N1.out _).mono ?_
      rintro e w2 ⟨rfl, q2⟩
      have R2 := Lib.hid (R1.out.trans (q2.mono R1.out.size))
      clear q2 g11 g12 g13
      have g13 := HF.out w2 R2.out 13 _ rfl
      cases n1
      · go_wp2
        go_ret
        exact ⟨rfl, FIN.out _ R2.out⟩
      go_wp2_with fail
      refine (N2.out _).mono ?_
      rintro e w' ⟨rfl, rfl⟩
      go_wp2
      go_ret
      exact ⟨by simp, FIN.out _ R2.out⟩
  · rw [decide_eq_false hk]
    clear hB
    rcases (show k < 0 ∨ (0 ≤ k ∧ 2 < k) by omega) with h0 | ⟨h0, h1⟩
    all_goals
      go_enter Try.func12, Try.ntmps12
      go_wp2
      go_ret
      exact ⟨by first | (simp; done) | (simp; omega), (Below.refl _ _).alloc (Nat.le_refl _) _⟩

set_option maxRecDepth 100000 in
set_option maxHeartbeats 4000000 in
theorem p_wayP (c : Pa) (x y : Int) (w : World) : Calls Try.prog 10 #[.agg (paCells c), .int .i64 x, .int .i64 y] w fun e w' => e = .returned (.int .i64 (wayF c x y)) ∧ Below w.heap.size w w' := by
  obtain ⟨B, hB⟩ : ∃ B, w.heap.size = B := ⟨_, rfl⟩
  obtain ⟨W, hW⟩ : ∃ W, w.alloc (.cells (paCells c) 27) = W := ⟨_, rfl⟩
  have hk : Has W B (paCells c) 27 := by rw [← hW]; exact has_new hB
  have hb : Below w.heap.size w W := by rw [← hW]; exact (Below.refl _ _).alloc (Nat.le_refl _) _
  have HW := Lib.hid hW
  have HK := Lib.hid hk
  have HB := Lib.hid hb
  have RES : Hid (∀ t, rawW c.k (midX x - place c.p.x) (midX y - place c.p.y) (place c.q.x - place c.p.x) (place c.q.y - place c.p.y) c.r = t → wayF c x y = clamp t 0 65536) := Lib.hid (fun t h => by unfold wayF; rw [h])
  obtain ⟨R, hR⟩ : ∃ R, wayF c x y = R := ⟨_, rfl⟩
  rw [hR] at RES ⊢
  obtain ⟨k, a, b, ⟨px, py⟩, ⟨qx, qy⟩, r⟩ := c
  simp only at RES
  have MX := Lib.hid (fun w => p_middle x w)
  have MY := Lib.hid (fun w => p_middle y w)
  have ix := midX_in x
  have iy := midX_in y
  obtain ⟨mx, hmx⟩ : ∃ m, midX x = m := ⟨_, rfl⟩
  obtain ⟨my, hmy⟩ : ∃ m, midX y = m := ⟨_, rfl⟩
  rw [hmx] at MX ix RES
  rw [hmy] at MY iy RES
  have p0 := place_lo px
  have p1 := place_hi px
  have p2 := place_lo py
  have p3 := place_hi py
  have q0 := place_lo qx
  have q1 := place_hi qx
  have q2 := place_lo qy
  have q3 := place_hi qy
  have HP := Lib.hid (fun w => p_held px py w)
  have HQ := Lib.hid (fun w => p_held qx qy w)
  obtain ⟨ux, hux⟩ : ∃ m, place px = m := ⟨_, rfl⟩
  obtain ⟨uy, huy⟩ : ∃ m, place py = m := ⟨_, rfl⟩
  obtain ⟨vx, hvx⟩ : ∃ m, place qx = m := ⟨_, rfl⟩
  obtain ⟨vy, hvy⟩ : ∃ m, place qy = m := ⟨_, rfl⟩
  rw [hux] at HP RES p0 p1
  rw [huy] at HP RES p2 p3
  rw [hvx] at HQ RES q0 q1
  rw [hvy] at HQ RES q2 q3
  have L1 := Lib.hid (fun w => p_less (a := mx) (b := my) (c := ux) (d := uy) (by omega) (by omega) (by omega) (by omega) p0 p1 p2 p3 w)
  have L2 := Lib.hid (fun w => p_less (a := vx) (b := vy) (c := ux) (d := uy) q0 q1 q2 q3 p0 p1 p2 p3 w)
  have DI : -1073741824 ≤ mx - ux ∧ mx - ux ≤ 1073741824 := by omega
  have DJ : -1073741824 ≤ my - uy ∧ my - uy ≤ 1073741824 := by omega
  have EI : -1073741824 ≤ vx - ux ∧ vx - ux ≤ 1073741824 := by omega
  have EJ : -1073741824 ≤ vy - uy ∧ vy - uy ≤ 1073741824 := by omega
  obtain ⟨dx, hdx⟩ : ∃ d, mx - ux = d := ⟨_, rfl⟩
  obtain ⟨dy, hdy⟩ : ∃ d, my - uy = d := ⟨_, rfl⟩
  obtain ⟨ex, hex⟩ : ∃ d, vx - ux = d := ⟨_, rfl⟩
  obtain ⟨ey, hey⟩ : ∃ d, vy - uy = d := ⟨_, rfl⟩
  rw [hdx, hdy] at L1
  rw [hex, hey] at L2
  rw [hdx, hdy, hex, hey] at RES
  rw [hdx] at DI
  rw [hdy] at DJ
  rw [hex] at EI
  rw [hey] at EJ
  have AL := Lib.hid (fun w => p_along DI.1 DI.2 DJ.1 DJ.2 EI.1 EI.2 EJ.1 EJ.2 w)
  have RO := Lib.hid (fun w => p_round dx dy r w)
  have KL : Hid (k = 1 → R = clamp (dv (linD dx dy ex ey) (linD ex ey ex ey)) 0 65536) := Lib.hid (fun e => by
    refine RES.out _ ?_
    rw [e, rawW_lin]
    split
    · rename_i h; rw [h]; unfold dv hold clamp; simp
    · rfl)
  have KR : Hid (k = 2 → R = clamp (if 0 < r then dv (hyp dx dy) r else 65536) 0 65536) := Lib.hid (fun e => RES.out _ (by rw [e, rawW_rad]))
  have KN : Hid (k ≠ 1 → k ≠ 2 → R = 0) := Lib.hid (fun e f => by rw [RES.out _ (rawW_no _ _ _ _ _ e f)]; rfl)
  obtain ⟨s, hs⟩ : ∃ d, dv (linD dx dy ex ey) (linD ex ey ex ey) = d := ⟨_, rfl⟩
  obtain ⟨t, ht⟩ : ∃ d, (if 0 < r then dv (hyp dx dy) r else 65536) = d := ⟨_, rfl⟩
  rw [hs] at AL KL
  rw [ht] at RO KR
  clear RES hW hk hb hR hmx hmy hux huy hvx hvy hdx hdy hex hey hs ht DI DJ EI EJ p0 p1 p2 p3 q0 q1 q2 q3 ix iy
  go_enter Try.func10, Try.ntmps10
  go_upto_region 1 with fail
  rw [HW.out]
  clear hB
  have c9 := HK.out.cell 9 _ rfl
  have c10 := HK.out.cell 10 _ rfl
  go_wp2_with fail
  refine (HP.out _).mono ?_
  rintro e w1 ⟨rfl, b1⟩
  clear c9 c10
  have HB1 := Lib.hid (HB.out.trans (b1.mono HB.out.size))
  have HK1 := Lib.hid (HK.out.below b1 HK.out.lt)
  clear b1
  go_upto_region 2 with fail
  obtain ⟨F, hF⟩ : ∃ F, w1.heap.size = F := ⟨_, rfl⟩
  obtain ⟨W2, hW2⟩ : ∃ V, w1.alloc (.cells #[.int .i64 ux, .int .i64 uy] 25) = V := ⟨_, rfl⟩
  have HP2 := Lib.hid (show Has W2 F #[.int .i64 ux, .int .i64 uy] 25 by rw [← hW2]; exact has_new hF)
  have HK2 := Lib.hid (show Has W2 B _ 27 by rw [← hW2]; exact HK1.out.alloc _)
  have HB2 := Lib.hid (show Below w.heap.size w W2 by rw [← hW2]; exact HB1.out.alloc HB1.out.size _)
  rw [hF, hW2]
  clear hF hW2
  refine wp_region_make 7 1 (fun _ => .cells #[.int .i64 0, .int .i64 0] 25) (by kernel_rfl) (by kernel_rfl) (by kernel_rfl) (fun k hk => ?_) ?_
  · obtain rfl : k = 0 := by omega
    exact ⟨_, rfl, fun x w => by simp [execOp, go_sem, ptr]⟩
  apply Exists.intro
  refine ⟨fun R hR hN => ?_, ?_⟩
  · have d0 := fun z => LaterR.read (R := R) HP2.out 0 _ rfl z
    have d1 := fun z => LaterR.read (R := R) HP2.out 1 _ rfl z
    simp only [List.take_succ_cons, List.take_zero]
    repeat (go_big_quiet_step (first | (go_at_call_of 22 x; exact LaterR.calls hR (below_of (MX.out _))) | (go_at_call_of 22 y; exact LaterR.calls hR (below_of (MY.out _))) | (go_at_call 21; exact LaterR.calls hR (L1.out _))))
    exact wpQuiet_nil rfl
  intro G w3 hb3 hReg hG
  obtain ⟨g, eg⟩ := hG 0 (by omega)
  have hg : Has w3 g #[.int .i64 0, .int .i64 0] 25 := hReg.has 0 g (by omega) eg
  have lo := hReg.lo 0 g (by omega) eg
  simp only [putG, eg, ptr, Nat.add_zero, List.drop_succ_cons, List.drop_zero]
  clear hReg hG eg
  obtain ⟨W3, hW3⟩ : ∃ V, (w3.setCell ⟨g, 0, none⟩ (.int .i64 dx)).setCell ⟨g, 1, none⟩ (.int .i64 dy) = V := ⟨_, rfl⟩
  have z0 := hg.cell 0 _ rfl
  have z1 := hg.cell 1 _ rfl
  have fz := has_fro hg
  have HD3 := Lib.hid (show Has W3 g #[.int .i64 dx, .int .i64 dy] 25 by
    have := has_set (has_set hg 0 (.int .i64 dx)) 1 (.int .i64 dy)
    rw [hW3] at this
    simpa using this)
  have HP3 := Lib.hid (show Has W3 F #[.int .i64 ux, .int .i64 uy] 25 by
    rw [← hW3]
    exact has_setO (has_setO (HP2.out.below hb3 HP2.out.lt) (by have := HP2.out.lt; omega) _ _) (by have := HP2.out.lt; omega) _ _)
  have HK3 := Lib.hid (show Has W3 B (paCells ⟨k, a, b, ⟨px, py⟩, ⟨qx, qy⟩, r⟩) 27 by
    rw [← hW3]
    exact has_setO (has_setO (HK2.out.below hb3 HK2.out.lt) (by have := HK2.out.lt; omega) _ _) (by have := HK2.out.lt; omega) _ _)
  have HB3 := Lib.hid (show Below w.heap.size w W3 by
    have hk : w.heap.size ≤ g := by have := HB2.out.size; omega
    rw [← hW3]
    exact ((HB2.out.trans (hb3.mono HB2.out.size)).setCell hk _).setCell hk _)
  have HW3 := Lib.hid hW3
  clear hW3 hg lo hb3 HK2 HP2 HB2 HK1 HB1 HK HB
  go_upto_region 3 with fail
  rw [HW3.out]
  clear z0 z1 fz HW3
  have c0 := HK3.out.cell 0 _ rfl
  go_upto_region 4 with fail
  by_cases h1 : k = 1
  · subst h1
    have KL1 : Hid (R = clamp s 0 65536) := Lib.hid (KL.out rfl)
    go_upto_region 5 with fail
    clear c0
    have d0 := Later.read HD3.out 0 _ rfl
    have d1 := Later.read HD3.out 1 _ rfl
    have e0 := Later.read HP3.out 0 _ rfl
    have e1 := Later.read HP3.out 1 _ rfl
    have c11 := Later.read HK3.out 11 _ rfl
    have c12 := Later.read HK3.out 12 _ rfl
    refine wp_region_class (C := fun w' => ∃ z : Later W3, w' = z.to) (by kernel_rfl) (by kernel_rfl) ⟨⟨_, below_drew (Below.refl _ _)⟩, rfl⟩ ?_
    repeat (go_big_quiet_step (first | (go_at_call 20; exact Later.calls (HQ.out _)) | (go_at_call 21; exact Later.calls (L2.out _)) | (go_at_call 24; exact Later.calls (AL.out _)) | (go_at_call 23; exact Later.calls (below_of (p_share _ _)))))
    refine wpQuiet_nil ?_
    rintro _ ⟨z, rfl⟩
    go_wp2
    go_ret
    exact ⟨by rw [KL1.out]; rfl, HB3.out.trans (z.below.mono HB3.out.size)⟩
  · by_cases h2 : k = 2
    · subst h2
      have KR1 : Hid (R = clamp t 0 65536) := Lib.hid (KR.out rfl)
      have d0 := HD3.out.cell 0 _ rfl
      have d1 := HD3.out.cell 1 _ rfl
      have c13 := HK3.out.cell 13 _ rfl
      go_upto_region 7 with fail
      go_wp2_with fail
      refine (RO.out _).mono ?_
      rintro e w4 ⟨rfl, b4⟩
      go_wp2_with fail
      refine (p_share _ _).mono ?_
      rintro e w' ⟨rfl, rfl⟩
      go_wp2
      go_ret
      exact ⟨by rw [KR1.out]; rfl, HB3.out.trans (b4.mono HB3.out.size)⟩
    · go_wp2
      go_ret
      exact ⟨by rw [KN.out h1 h2]; rfl, HB3.out⟩

set_option maxRecDepth 100000 in
set_option maxHeartbeats 4000000 in
theorem p_atP (c : Pa) (x y : Int) (ok : PaOk c) (w : World) : Calls Try.prog 11 #[.agg (paCells c), .int .i64 x, .int .i64 y] w fun e w' => e = .returned (.agg (cCells (colF c x y))) ∧ Below w.heap.size w w' := by
  obtain ⟨B, hB⟩ : ∃ B, w.heap.size = B := ⟨_, rfl⟩
  obtain ⟨W, hW⟩ : ∃ W, (w.alloc (.cells (paCells c) 27)).alloc (.cells #[.int .u8 0, .int .u8 0, .int .u8 0, .int .u8 0] 23) = W := ⟨_, rfl⟩
  have ha : Has W B (paCells c) 27 := by rw [← hW]; exact (has_new hB).alloc _
  have hr : Has W (B + 1) #[.int .u8 0, .int .u8 0, .int .u8 0, .int .u8 0] 23 := by rw [← hW]; exact has_new (by simp [hB])
  have hb : Below w.heap.size w W := by rw [← hW]; exact ((Below.refl _ _).alloc (Nat.le_refl _) _).alloc (by simp) _
  have HW := Lib.hid hW
  have HA := Lib.hid ha
  have HR := Lib.hid hr
  have HB := Lib.hid hb
  have BB : Hid (w.heap.size ≤ B + 1) := Lib.hid (by omega)
  have WC := Lib.hid (fun w => p_wayP c x y w)
  have MC := Lib.hid (fun p w => h_mix c.a c.b p w ok.1 ok.2)
  have EQ : Hid (mix c.a c.b (wayF c x y) = colF c x y) := Lib.hid rfl
  obtain ⟨v, hv⟩ : ∃ v, wayF c x y = v := ⟨_, rfl⟩
  rw [hv] at WC EQ
  have MV := Lib.hid (fun w => MC.out v w)
  rw [EQ.out] at MV
  obtain ⟨⟨fr, fg, fb, fq⟩, hF⟩ : ∃ f, colF c x y = f := ⟨_, rfl⟩
  rw [hF] at MV ⊢
  obtain ⟨k, ⟨a0, a1, a2, a3⟩, ⟨b0, b1, b2, b3⟩, ⟨px, py⟩, ⟨qx, qy⟩, r⟩ := c
  clear hW ha hr hb hv hF MC EQ ok
  go_enter Try.func11, Try.ntmps11
  go_upto_region 1 with fail
  rw [HW.out]
  clear hB
  refine wp_region_make0 9 (by kernel_rfl) (by kernel_rfl) (by kernel_rfl) ?_
  apply Exists.intro
  refine ⟨fun R hR hN => ?_, ?_⟩
  · have e0 := fun z => LaterR.read (R := R) HA.out 0 _ rfl z
    have e1 := fun z => LaterR.read (R := R) HA.out 1 _ rfl z
    have e2 := fun z => LaterR.read (R := R) HA.out 2 _ rfl z
    have e3 := fun z => LaterR.read (R := R) HA.out 3 _ rfl z
    have e4 := fun z => LaterR.read (R := R) HA.out 4 _ rfl z
    have e5 := fun z => LaterR.read (R := R) HA.out 5 _ rfl z
    have e6 := fun z => LaterR.read (R := R) HA.out 6 _ rfl z
    have e7 := fun z => LaterR.read (R := R) HA.out 7 _ rfl z
    have e8 := fun z => LaterR.read (R := R) HA.out 8 _ rfl z
    have e9 := fun z => LaterR.read (R := R) HA.out 9 _ rfl z
    have e10 := fun z => LaterR.read (R := R) HA.out 10 _ rfl z
    have e11 := fun z => LaterR.read (R := R) HA.out 11 _ rfl z
    have e12 := fun z => LaterR.read (R := R) HA.out 12 _ rfl z
    have e13 := fun z => LaterR.read (R := R) HA.out 13 _ rfl z
    simp only [List.take_succ_cons, List.take_zero]
    repeat (go_big_quiet_step (first | (go_at_call 10; exact LaterR.calls hR (WC.out _)) | (go_at_call 26; exact LaterR.calls hR (MV.out _))))
    exact wpQuiet_nil rfl
  · intro w3 hb3
    simp only [List.drop_succ_cons, List.drop_zero]
    have h3 := HR.out.below hb3 HR.out.lt
    have r0 := h3.cell 0 _ rfl
    have r1 := h3.cell 1 _ rfl
    have r2 := h3.cell 2 _ rfl
    have r3 := h3.cell 3 _ rfl
    have fz := has_fro h3
    have B3 := Lib.hid (HB.out.trans (hb3.mono HB.out.size))
    clear h3 hb3
    go_wp2
    refine bodyPost_ret (v := .agg #[.int .u8 fr, .int .u8 fg, .int .u8 fb, .int .u8 fq]) (by simp [results, Try.results11, go_sem, r0, r1, r2, r3]) rfl ⟨rfl, ?_⟩
    repeat (first | exact B3.out | refine Below.setCell ?_ (show w.heap.size ≤ B + 1 from BB.out) _)

end Go.Proofs.Ytafaafaclijfiaa
