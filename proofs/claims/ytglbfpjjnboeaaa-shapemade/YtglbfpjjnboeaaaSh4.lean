/- Contract of shape.Right: for all shapes what the plain data says; of the memory nothing that was there turns. -/
import Derived.Test.YtglbfpjjnboeaaaShD
namespace Go.Proofs.Ytglbfpjjnboeaaa
open Go Go.RowKit
open M

theorem int0 (n : Nat) : ((n : Int) == 0) = decide (n = 0) := by by_cases h : n = 0 <;> simp [h]

set_option maxRecDepth 100000 in
set_option maxHeartbeats 4000000 in
theorem sh_form {w : World} {s : Shp} (h : ShIn w s) : Calls Try.prog 24 #[.agg (shC s)] w fun e w' => e = .returned (.bool (formOk s)) ∧ Below w.heap.size w w' := by
  obtain ⟨lW, aW, cW, eW⟩ := h.W.len
  obtain ⟨lH, aH, cH, eH⟩ := h.H.len
  obtain ⟨lP, aP, cP, eP⟩ := h.P.len
  clear h
  obtain ⟨form, n, W, vW, H, vH, P, vP, fill, rule, kind, a, b, p, q, r, C, vC, stroke, Wd, vWd, line, cap, D, vD, F, vF, T, vT⟩ := s
  simp only at eW eH eP lW lH lP
  subst eW eH eP
  obtain ⟨K, hK⟩ : ∃ K, formOk ⟨form, n, W, .slice aW W.length cW, H, .slice aH H.length cH, P, .slice aP P.length cP, fill, rule, kind, a, b, p, q, r, C, vC, stroke, Wd, vWd, line, cap, D, vD, F, vF, T, vT⟩ = K := ⟨_, rfl⟩
  have EK := Lib.hid hK
  rw [hK]
  clear hK
  go_enter Try.func24, Try.ntmps24
  go_wp2_with fail
  all_goals
    go_ret
    refine ⟨?_, (Below.refl _ _).alloc (Nat.le_refl _) _⟩
    rw [← EK.out]
    clear EK
    unfold formOk
    have zP : ((P.length : Int) == 0) = decide (P.length = 0) := int0 _
    have zW : ((W.length : Int) == 0) = decide (W.length = 0) := int0 _
    have zH : ((H.length : Int) == 0) = decide (H.length = 0) := int0 _
    first
      | (simp_all; done)
      | (simp_all; omega; done)
      | (rw [zP]; simp_all; done)
      | (rw [zH]; simp_all; done)
      | (rw [zW]; simp_all; done)

/-- A shape that a call has by value lies in a block of its own. -/
theorem ShIn.start {w W : World} {B : Nat} {s : Shp} (h : ShIn w s) (hB : w.heap.size = B) (hW : w.alloc (.cells (shC s) 37) = W) : ShIn W s ∧ Has W B (shC s) 37 ∧ Below B w W := by
  have hb : Below w.heap.size w W := by rw [← hW]; exact (Below.refl _ _).alloc (Nat.le_refl _) _
  exact ⟨h.below hb, by rw [← hW]; exact has_new hB, by rw [← hB]; exact hb⟩

set_option maxRecDepth 100000 in
set_option maxHeartbeats 4000000 in
theorem sh_outline {w : World} {s : Shp} (h : ShIn w s) : Calls Try.prog 25 #[.agg (shC s)] w fun e w' => e = .returned (.bool (lineOk s)) ∧ Below w.heap.size w w' := by
  obtain ⟨B, hB⟩ : ∃ B, w.heap.size = B := ⟨_, rfl⟩
  obtain ⟨W, hW⟩ : ∃ W, w.alloc (.cells (shC s) 37) = W := ⟨_, rfl⟩
  obtain ⟨hi, hk, hb⟩ := h.start hB hW
  have HBB := Lib.hid hB
  have HW := Lib.hid hW
  obtain ⟨x, hx⟩ : ∃ x, right s.W = x := ⟨_, rfl⟩
  obtain ⟨y, hy⟩ : ∃ x, right s.H = x := ⟨_, rfl⟩
  obtain ⟨z, hz⟩ : ∃ x, keysOk s.P = x := ⟨_, rfl⟩
  have C1 : Hid (∀ w', Below W.heap.size W w' → Calls Try.prog 44 #[s.vW] w' fun e w'' => e = .returned (.bool x) ∧ Below w'.heap.size w' w'') := Lib.hid (fun w' h' => by rw [← hx]; exact k_right (hi.below h').W)
  have C2 : Hid (∀ w', Below W.heap.size W w' → Calls Try.prog 44 #[s.vH] w' fun e w'' => e = .returned (.bool y) ∧ Below w'.heap.size w' w'') := Lib.hid (fun w' h' => by rw [← hy]; exact k_right (hi.below h').H)
  have C3 : Hid (∀ w', Below W.heap.size W w' → Calls Try.prog 45 #[s.vP] w' fun e w'' => e = .returned (.bool z) ∧ Below w'.heap.size w' w'') := Lib.hid (fun w' h' => by rw [← hz]; exact p_keysG (hi.below h').P)
  have E : lineOk s = (x && y && z) := by unfold lineOk; rw [hx, hy, hz]
  rw [E]
  clear E
  have F : ∀ w', Below W.heap.size W w' → ∀ j u, (shC s)[j]? = some u → w'.cell? ⟨B, j, none⟩ = some u := fun w' h' j u hu => (hk.below h' hk.lt).cell j u hu
  have HF := Lib.hid F
  have R0 : Hid (Below W.heap.size W W) := Lib.hid (Below.refl _ _)
  have hFin : ∀ w', Below W.heap.size W w' → Below w.heap.size w w' := fun w' h' => by rw [hB]; exact hb.trans (h'.mono (by have := hk.lt; omega))
  have FIN := Lib.hid hFin
  clear hi hk hb hW hx hy hz F h hFin
  go_enter Try.func25, Try.ntmps25
  have f2 := HF.out W R0.out 2 _ rfl
  go_wp2_with fail
  rw [HW.out]
  clear hB
  refine (C1.out _ R0.out).mono ?_
  rintro e w1 ⟨rfl, q1⟩
  have R1 := Lib.hid (R0.out.trans (q1.mono R0.out.size))
  clear q1 f2
  cases x
  · go_wp2
    go_ret
    exact ⟨rfl, FIN.out _ R1.out⟩
  have f3 := HF.out w1 R1.out 3 _ rfl
  go_wp2_with fail
  refine (C2.out _ R1.out).mono ?_
  rintro e w2 ⟨rfl, q2⟩
  have R2 := Lib.hid (R1.out.trans (q2.mono R1.out.size))
  clear q2 f3
  cases y
  · go_wp2
    go_ret
    exact ⟨rfl, FIN.out _ R2.out⟩
  have f4 := HF.out w2 R2.out 4 _ rfl
  go_wp2_with fail
  refine (C3.out _ R2.out).mono ?_
  rintro e w3 ⟨rfl, q3⟩
  have R3 := Lib.hid (R2.out.trans (q3.mono R2.out.size))
  clear q3 f4
  go_wp2
  go_ret
  exact ⟨by simp, FIN.out _ R3.out⟩

theorem sh_near (a : Int) (w : World) : Calls Try.prog 63 #[.int .i64 a] w fun e w' => e = .returned (.bool (nearN a)) ∧ Below w.heap.size w w' := by
  obtain ⟨K, hK⟩ : ∃ K, nearN a = K := ⟨_, rfl⟩
  have EK := Lib.hid hK
  rw [hK]
  clear hK
  go_enter Try.func63, Try.ntmps63
  go_wp2
  all_goals
    go_ret
    refine ⟨?_, Below.refl _ _⟩
    rw [← EK.out]
    clear EK
    unfold nearN
    first | (simp_all; done) | (simp_all; omega; done)
set_option maxRecDepth 100000 in
set_option maxHeartbeats 4000000 in
theorem sh_paint (k : Int) (a b : Cr) (p q : Pt) (r : Int) (w : World) : Calls Try.prog 46 #[.agg (paC k a b p q r)] w fun e w' => e = .returned (.bool (decide (k = 0 ∨ k = 1 ∨ k = 2) && (nearN p.x && nearN p.y && nearN q.x && nearN q.y && nearN r))) ∧ Below w.heap.size w w' := by
  obtain ⟨px, py⟩ := p
  obtain ⟨qx, qy⟩ := q
  simp only
  obtain ⟨n0, h0⟩ : ∃ x, nearN px = x := ⟨_, rfl⟩
  have N0 : Hid (∀ w, Calls Try.prog 63 #[.int .i64 px] w fun e w' => e = .returned (.bool n0) ∧ Below w.heap.size w w') := Lib.hid (fun w => by rw [← h0]; exact sh_near _ w)
  obtain ⟨n1, h1⟩ : ∃ x, nearN py = x := ⟨_, rfl⟩
  have N1 : Hid (∀ w, Calls Try.prog 63 #[.int .i64 py] w fun e w' => e = .returned (.bool n1) ∧ Below w.heap.size w w') := Lib.hid (fun w => by rw [← h1]; exact sh_near _ w)
  obtain ⟨n2, h2⟩ : ∃ x, nearN qx = x := ⟨_, rfl⟩
  have N2 : Hid (∀ w, Calls Try.prog 63 #[.int .i64 qx] w fun e w' => e = .returned (.bool n2) ∧ Below w.heap.size w w') := Lib.hid (fun w => by rw [← h2]; exact sh_near _ w)
  obtain ⟨n3, h3⟩ : ∃ x, nearN qy = x := ⟨_, rfl⟩
  have N3 : Hid (∀ w, Calls Try.prog 63 #[.int .i64 qy] w fun e w' => e = .returned (.bool n3) ∧ Below w.heap.size w w') := Lib.hid (fun w => by rw [← h3]; exact sh_near _ w)
  obtain ⟨n4, h4⟩ : ∃ x, nearN r = x := ⟨_, rfl⟩
  have N4 : Hid (∀ w, Calls Try.prog 63 #[.int .i64 r] w fun e w' => e = .returned (.bool n4) ∧ Below w.heap.size w w') := Lib.hid (fun w => by rw [← h4]; exact sh_near _ w)
  rw [h0, h1, h2, h3, h4]
  clear h0 h1 h2 h3 h4
  obtain ⟨B, hB⟩ : ∃ B, w.heap.size = B := ⟨_, rfl⟩
  by_cases hk : k = 0 ∨ k = 1 ∨ k = 2
  · rw [decide_eq_true hk]
    obtain ⟨W, hW⟩ : ∃ W, w.alloc (.cells (paC k a b ⟨px, py⟩ ⟨qx, qy⟩ r) 33) = W := ⟨_, rfl⟩
    have hkk : Has W B (paC k a b ⟨px, py⟩ ⟨qx, qy⟩ r) 33 := by rw [← hW]; exact has_new hB
    have hb : Below B w W := by rw [← hW]; exact (Below.refl _ _).alloc (by omega) _
    have HF := Lib.hid (show ∀ w', Below W.heap.size W w' → ∀ j u, (paC k a b ⟨px, py⟩ ⟨qx, qy⟩ r)[j]? = some u → w'.cell? ⟨B, j, none⟩ = some u from fun w' h' j u hu => (hkk.below h' hkk.lt).cell j u hu)
    have R0 : Hid (Below W.heap.size W W) := Lib.hid (Below.refl _ _)
    have FIN := Lib.hid (show ∀ w', Below W.heap.size W w' → Below w.heap.size w w' from fun w' h' => by rw [hB]; exact hb.trans (h'.mono (by have := hkk.lt; omega)))
    have HW := Lib.hid hW
    clear hkk hb hW
    rcases hk with rfl | rfl | rfl
    all_goals
      go_enter Try.func46, Try.ntmps46
      go_wp2_with fail
      rw [HW.out]
      clear hB
      refine (N0.out _).mono ?_
      rintro e w1 ⟨rfl, q1⟩
      have R1 := Lib.hid (R0.out.trans (q1.mono R0.out.size))
      clear q1
      cases n0
      · go_wp2
        go_ret
        exact ⟨rfl, FIN.out _ R1.out⟩
      have g10 := HF.out w1 R1.out 10 _ rfl
      go_wp2_with fail
      refine (N1.out _).mono ?_
      rintro e w2 ⟨rfl, q2⟩
      have R2 := Lib.hid (R1.out.trans (q2.mono R1.out.size))
      clear q2
      cases n1
      · go_wp2
        go_ret
        exact ⟨rfl, FIN.out _ R2.out⟩
      have g11 := HF.out w2 R2.out 11 _ rfl
      go_wp2_with fail
      refine (N2.out _).mono ?_
      rintro e w3 ⟨rfl, q3⟩
      have R3 := Lib.hid (R2.out.trans (q3.mono R2.out.size))
      clear q3
      cases n2
      · go_wp2
        go_ret
        exact ⟨rfl, FIN.out _ R3.out⟩
      have g12 := HF.out w3 R3.out 12 _ rfl
      go_wp2_with fail
      refine (N3.out _).mono ?_
      rintro e w4 ⟨rfl, q4⟩
      have R4 := Lib.hid (R3.out.trans (q4.mono R3.out.size))
      clear q4
      cases n3
      · go_wp2
        go_ret
        exact ⟨rfl, FIN.out _ R4.out⟩
      have g13 := HF.out w4 R4.out 13 _ rfl
      go_wp2_with fail
      refine (N4.out _).mono ?_
      rintro e w5 ⟨rfl, q5⟩
      have R5 := Lib.hid (R4.out.trans (q5.mono R4.out.size))
      clear q5
      go_wp2
      go_ret
      exact ⟨by simp, FIN.out _ R5.out⟩
  · rw [decide_eq_false hk]
    have h0 : (k == 0) = false := by simp; omega
    have h1 : (k == 1) = false := by simp; omega
    have h2 : (k == 2) = false := by simp; omega
    clear hB
    go_enter Try.func46, Try.ntmps46
    go_wp2
    go_ret
    exact ⟨rfl, (Below.refl _ _).alloc (Nat.le_refl _) _⟩

set_option maxRecDepth 100000 in
set_option maxHeartbeats 4000000 in
theorem sh_fill {w : World} {s : Shp} (h : ShIn w s) : Calls Try.prog 26 #[.agg (shC s)] w fun e w' => e = .returned (.bool (fillOk s)) ∧ Below w.heap.size w w' := by
  obtain ⟨B, hB⟩ : ∃ B, w.heap.size = B := ⟨_, rfl⟩
  obtain ⟨W, hW⟩ : ∃ W, w.alloc (.cells (shC s) 37) = W := ⟨_, rfl⟩
  obtain ⟨hi, hk, hb⟩ := h.start hB hW
  have HBB := Lib.hid hB
  have HW := Lib.hid hW
  obtain ⟨y, hy⟩ : ∃ x, paintOk s = x := ⟨_, rfl⟩
  obtain ⟨z, hz⟩ : ∃ x, right (bares s.C) = x := ⟨_, rfl⟩
  have C1 : Hid (∀ w', Below W.heap.size W w' → Calls Try.prog 46 #[.agg (paC s.kind s.a s.b s.p s.q s.r)] w' fun e w'' => e = .returned (.bool y) ∧ Below w'.heap.size w' w'') := Lib.hid (fun w' h' => by rw [← hy]; exact sh_paint s.kind s.a s.b s.p s.q s.r w')
  have C2 : Hid (∀ w', Below W.heap.size W w' → Calls Try.prog 47 #[s.vC] w' fun e w'' => e = .returned (.bool z) ∧ Below w'.heap.size w' w'') := Lib.hid (fun w' h' => by rw [← hz]; exact h_right (hi.below h').C)
  have E : fillOk s = (decide (s.rule = 0 ∨ s.rule = 1) && y && z) := by unfold fillOk; rw [hy, hz]
  rw [E]
  clear E
  have F : ∀ w', Below W.heap.size W w' → ∀ j u, (shC s)[j]? = some u → w'.cell? ⟨B, j, none⟩ = some u := fun w' h' j u hu => (hk.below h' hk.lt).cell j u hu
  have HF := Lib.hid F
  have R0 : Hid (Below W.heap.size W W) := Lib.hid (Below.refl _ _)
  have hFin : ∀ w', Below W.heap.size W w' → Below w.heap.size w w' := fun w' h' => by rw [hB]; exact hb.trans (h'.mono (by have := hk.lt; omega))
  have FIN := Lib.hid hFin
  clear hi hk hb hW hy hz F h hFin
  by_cases hr : s.rule = 0 ∨ s.rule = 1
  · rw [decide_eq_true hr]
    have f6 := HF.out W R0.out 6 _ rfl
    rcases hr with hr | hr
    all_goals
      go_enter Try.func26, Try.ntmps26
      have f7 := HF.out W R0.out 7 _ rfl
      have f8 := HF.out W R0.out 8 _ rfl
      have f9 := HF.out W R0.out 9 _ rfl
      have f10 := HF.out W R0.out 10 _ rfl
      have f11 := HF.out W R0.out 11 _ rfl
      have f12 := HF.out W R0.out 12 _ rfl
      have f13 := HF.out W R0.out 13 _ rfl
      have f14 := HF.out W R0.out 14 _ rfl
      have f15 := HF.out W R0.out 15 _ rfl
      have f16 := HF.out W R0.out 16 _ rfl
      have f17 := HF.out W R0.out 17 _ rfl
      have f18 := HF.out W R0.out 18 _ rfl
      have f19 := HF.out W R0.out 19 _ rfl
      have f20 := HF.out W R0.out 20 _ rfl
      go_wp2_with fail
      rw [HW.out]
      clear hB
      refine (C1.out _ R0.out).mono ?_
      rintro e w1 ⟨rfl, q1⟩
      have R1 := Lib.hid (R0.out.trans (q1.mono R0.out.size))
      clear q1 f7 f8 f9 f10 f11 f12 f13 f14 f15 f16 f17 f18 f19 f20
      cases y
      · go_wp2
        go_ret
        exact ⟨rfl, FIN.out _ R1.out⟩
      have f21 := HF.out w1 R1.out 21 _ rfl
      go_wp2_with fail
      refine (C2.out _ R1.out).mono ?_
      rintro e w2 ⟨rfl, q2⟩
      have R2 := Lib.hid (R1.out.trans (q2.mono R1.out.size))
      clear q2 f21
      go_wp2
      go_ret
      exact ⟨by simp, FIN.out _ R2.out⟩
  · rw [decide_eq_false hr]
    have f6 := HF.out W R0.out 6 _ rfl
    have h0 : (s.rule == 0) = false := by simp; omega
    have h1 : (s.rule == 1) = false := by simp; omega
    go_enter Try.func26, Try.ntmps26
    go_wp2
    go_ret
    refine ⟨rfl, ?_⟩
    rw [HW.out]
    exact FIN.out _ R0.out

set_option maxRecDepth 100000 in
set_option maxHeartbeats 4000000 in
theorem sh_line {w : World} {s : Shp} (h : ShIn w s) : Calls Try.prog 27 #[.agg (shC s)] w fun e w' => e = .returned (.bool (drawOk s)) ∧ Below w.heap.size w w' := by
  obtain ⟨B, hB⟩ : ∃ B, w.heap.size = B := ⟨_, rfl⟩
  obtain ⟨W, hW⟩ : ∃ W, w.alloc (.cells (shC s) 37) = W := ⟨_, rfl⟩
  obtain ⟨hi, hk, hb⟩ := h.start hB hW
  have HBB := Lib.hid hB
  have HW := Lib.hid hW
  obtain ⟨x1, hx1⟩ : ∃ x, right s.Wd = x := ⟨_, rfl⟩
  obtain ⟨x2, hx2⟩ : ∃ x, right s.F = x := ⟨_, rfl⟩
  obtain ⟨x3, hx3⟩ : ∃ x, right s.T = x := ⟨_, rfl⟩
  obtain ⟨x4, hx4⟩ : ∃ x, okD s.D = x := ⟨_, rfl⟩
  have C1 : Hid (∀ w', Below W.heap.size W w' → Calls Try.prog 44 #[s.vWd] w' fun e w'' => e = .returned (.bool x1) ∧ Below w'.heap.size w' w'') := Lib.hid (fun w' h' => by rw [← hx1]; exact k_right (hi.below h').Wd)
  have C2 : Hid (∀ w', Below W.heap.size W w' → Calls Try.prog 44 #[s.vF] w' fun e w'' => e = .returned (.bool x2) ∧ Below w'.heap.size w' w'') := Lib.hid (fun w' h' => by rw [← hx2]; exact k_right (hi.below h').F)
  have C3 : Hid (∀ w', Below W.heap.size W w' → Calls Try.prog 44 #[s.vT] w' fun e w'' => e = .returned (.bool x3) ∧ Below w'.heap.size w' w'') := Lib.hid (fun w' h' => by rw [← hx3]; exact k_right (hi.below h').T)
  have C4 : Hid (∀ w', Below W.heap.size W w' → Calls Try.prog 48 #[s.vD] w' fun e w'' => e = .returned (.bool x4) ∧ Below w'.heap.size w' w'') := Lib.hid (fun w' h' => by rw [← hx4]; exact below_of (d_right (hi.below h').D))
  obtain ⟨cp, hcp⟩ : ∃ x, decide (s.cap = 0 ∨ s.cap = 1) = x := ⟨_, rfl⟩
  have E : drawOk s = (x1 && x2 && x3 && cp && x4) := by unfold drawOk; rw [hx1, hx2, hx3, hx4, hcp]
  have HCP := Lib.hid hcp
  clear hcp
  rw [E]
  clear E
  have F : ∀ w', Below W.heap.size W w' → ∀ j u, (shC s)[j]? = some u → w'.cell? ⟨B, j, none⟩ = some u := fun w' h' j u hu => (hk.below h' hk.lt).cell j u hu
  have HF := Lib.hid F
  have R0 : Hid (Below W.heap.size W W) := Lib.hid (Below.refl _ _)
  have hFin : ∀ w', Below W.heap.size W w' → Below w.heap.size w w' := fun w' h' => by rw [hB]; exact hb.trans (h'.mono (by have := hk.lt; omega))
  have FIN := Lib.hid hFin
  clear hi hk hb hW hx1 hx2 hx3 hx4 F h hFin
  go_enter Try.func27, Try.ntmps27
  have f23 := HF.out W R0.out 23 _ rfl
  go_wp2_with fail
  rw [HW.out]
  clear hB
  refine (C1.out _ R0.out).mono ?_
  rintro e w1 ⟨rfl, q1⟩
  have R1 := Lib.hid (R0.out.trans (q1.mono R0.out.size))
  clear q1 f23
  cases x1
  · go_wp2
    go_ret
    exact ⟨rfl, FIN.out _ R1.out⟩
  have f30 := HF.out w1 R1.out 30 _ rfl
  go_wp2_with fail
  refine (C2.out _ R1.out).mono ?_
  rintro e w2 ⟨rfl, q2⟩
  have R2 := Lib.hid (R1.out.trans (q2.mono R1.out.size))
  clear q2 f30
  cases x2
  · go_wp2
    go_ret
    exact ⟨rfl, FIN.out _ R2.out⟩
  have f31 := HF.out w2 R2.out 31 _ rfl
  go_wp2_with fail
  refine (C3.out _ R2.out).mono ?_
  rintro e w3 ⟨rfl, q3⟩
  have R3 := Lib.hid (R2.out.trans (q3.mono R2.out.size))
  clear q3 f31
  cases x3
  · go_wp2
    go_ret
    exact ⟨rfl, FIN.out _ R3.out⟩
  have f28 := HF.out w3 R3.out 28 _ rfl
  by_cases hc : s.cap = 0 ∨ s.cap = 1
  · obtain rfl : cp = true := by rw [← HCP.out]; exact decide_eq_true hc
    rcases hc with hc | hc
    all_goals
      have f29 := HF.out w3 R3.out 29 _ rfl
      go_wp2_with fail
      refine (C4.out _ R3.out).mono ?_
      rintro e w4 ⟨rfl, q4⟩
      have R4 := Lib.hid (R3.out.trans (q4.mono R3.out.size))
      clear q4 f29
      go_wp2
      go_ret
      exact ⟨rfl, FIN.out _ R4.out⟩
  · obtain rfl : cp = false := by rw [← HCP.out]; exact decide_eq_false hc
    have h0 : (s.cap == 0) = false := by simp; omega
    have h1 : (s.cap == 1) = false := by simp; omega
    go_wp2
    go_ret
    exact ⟨rfl, FIN.out _ R3.out⟩

end Go.Proofs.Ytglbfpjjnboeaaa
