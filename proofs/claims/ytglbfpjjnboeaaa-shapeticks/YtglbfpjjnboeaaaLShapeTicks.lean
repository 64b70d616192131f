/- ShapeTicks of the statements: whatever the numbers are, the call returns true and each argument reads as it did; no condition. -/
import Derived.Test.YtglbfpjjnboeaaaTV
import Derived.Laws.Rows
import Derived.Test.YtglbfpjjnboeaaaSh2b
import Derived.Test.YtglbfpjjnboeaaaSh3
import Derived.Test.YtglbfpjjnboeaaaMake
import Derived.Test.YtglbfpjjnboeaaaQ8
import Derived.Test.YtglbfpjjnboeaaaTB7
import Derived.Deep.RegionHeld3
import Derived.Great.Frames
import Derived.Test.YtglbfpjjnboeaaaT5
import Derived.Deep.Slices
import Derived.ChangeSame
import Derived.Test.YtglbfpjjnboeaaaRows
import Derived.WalkKit
import Derived.ProofKit
import Derived.OpenShut
import Derived.Carry
namespace Go.Proofs.Ytglbfpjjnboeaaa
open Go Go.RowKit
open M

theorem int0 (n : Nat) : ((n : Int) == 0) = decide (n = 0) := by by_cases h : n = 0 <;> simp [h]

set_option maxRecDepth 100000 in
set_option maxHeartbeats 4000000 in
theorem sh_form {w : World} {s : Shp} (h : ShIn w s) : Calls Try.prog 24 #[.agg (shC s)] w fun e w' => e = .returned (.bool (formOk s)) ∧ Below w.heap.size w w' := by
  obtain ⟨lW, aW, cW, eW⟩ := h.W.len
  obtain ⟨lH, aH, cH, eH⟩ := h.H.len
  obtain ⟨lP, aP, cP, eP⟩ := h.P.len
  clear h
  obtain ⟨form, n, W, vW, H, vH, P, vP, fill, rule, kind, a, b, p, q, r, C, vC, stroke, Wd, vWd, line, cap, D, vD, F, vF, T, vT⟩ := s
  simp only at eW eH eP lW lH lP
  subst eW eH eP
  obtain ⟨K, hK⟩ : ∃ K, formOk ⟨form, n, W, .slice aW W.length cW, H, .slice aH H.length cH, P, .slice aP P.length cP, fill, rule, kind, a, b, p, q, r, C, vC, stroke, Wd, vWd, line, cap, D, vD, F, vF, T, vT⟩ = K := ⟨_, rfl⟩
  have EK := Lib.hid hK
  rw [hK]
  clear hK
  go_enter Try.func24, Try.ntmps24
  go_wp2_with fail
  all_goals
    go_ret
    refine ⟨?_, (Below.refl _ _).alloc (Nat.le_refl _) _⟩
    rw [← EK.out]
    clear EK
    unfold formOk
    have zP : ((P.length : Int) == 0) = decide (P.length = 0) := int0 _
    have zW : ((W.length : Int) == 0) = decide (W.length = 0) := int0 _
    have zH : ((H.length : Int) == 0) = decide (H.length = 0) := int0 _
    first
      | (simp_all; done)
      | (simp_all; omega; done)
      | (rw [zP]; simp_all; done)
      | (rw [zH]; simp_all; done)
      | (rw [zW]; simp_all; done)

/-- A shape that a call has by value lies in a block of its own. -/
theorem ShIn.start {w W : World} {B : Nat} {s : Shp} (h : ShIn w s) (hB : w.heap.size = B) (hW : w.alloc (.cells (shC s) 37) = W) : ShIn W s ∧ Has W B (shC s) 37 ∧ Below B w W := by
  have hb : Below w.heap.size w W := by rw [← hW]; exact (Below.refl _ _).alloc (Nat.le_refl _) _
  exact ⟨h.below hb, by rw [← hW]; exact has_new hB, by rw [← hB]; exact hb⟩

set_option maxRecDepth 100000 in
set_option maxHeartbeats 4000000 in
theorem sh_outline {w : World} {s : Shp} (h : ShIn w s) : Calls Try.prog 25 #[.agg (shC s)] w fun e w' => e = .returned (.bool (lineOk s)) ∧ Below w.heap.size w w' := by
  obtain ⟨B, hB⟩ : ∃ B, w.heap.size = B := ⟨_, rfl⟩
  obtain ⟨W, hW⟩ : ∃ W, w.alloc (.cells (shC s) 37) = W := ⟨_, rfl⟩
  obtain ⟨hi, hk, hb⟩ := h.start hB hW
  have HBB := Lib.hid hB
  have HW := Lib.hid hW
  obtain ⟨x, hx⟩ : ∃ x, right s.W = x := ⟨_, rfl⟩
  obtain ⟨y, hy⟩ : ∃ x, right s.H = x := ⟨_, rfl⟩
  obtain ⟨z, hz⟩ : ∃ x, keysOk s.P = x := ⟨_, rfl⟩
  have C1 : Hid (∀ w', Below W.heap.size W w' → Calls Try.prog 44 #[s.vW] w' fun e w'' => e = .returned (.bool x) ∧ Below w'.heap.size w' w'') := Lib.hid (fun w' h' => by rw [← hx]; exact k_right (hi.below h').W)
  have C2 : Hid (∀ w', Below W.heap.size W w' → Calls Try.prog 44 #[s.vH] w' fun e w'' => e = .returned (.bool y) ∧ Below w'.heap.size w' w'') := Lib.hid (fun w' h' => by rw [← hy]; exact k_right (hi.below h').H)
  have C3 : Hid (∀ w', Below W.heap.size W w' → Calls Try.prog 45 #[s.vP] w' fun e w'' => e = .returned (.bool z) ∧ Below w'.heap.size w' w'') := Lib.hid (fun w' h' => by rw [← hz]; exact p_keysG (hi.below h').P)
  have E : lineOk s = (x && y && z) := by unfold lineOk; rw [hx, hy, hz]
  rw [E]
  clear E
  have F : ∀ w', Below W.heap.size W w' → ∀ j u, (shC s)[j]? = some u → w'.cell? ⟨B, j, none⟩ = some u := fun w' h' j u hu => (hk.below h' hk.lt).cell j u hu
  have HF := Lib.hid F
  have R0 : Hid (Below W.heap.size W W) := Lib.hid (Below.refl _ _)
  have hFin : ∀ w', Below W.heap.size W w' → Below w.heap.size w w' := fun w' h' => by rw [hB]; exact hb.trans (h'.mono (by have := hk.lt; omega))
  have FIN := Lib.hid hFin
  clear hi hk hb hW hx hy hz F h hFin
  go_enter Try.func25, Try.ntmps25
  have f2 := HF.out W R0.out 2 _ rfl
  go_wp2_with fail
  rw [HW.out]
  clear hB
  refine (C1.out _ R0.out).mono ?_
  rintro e w1 ⟨rfl, q1⟩
  have R1 := Lib.hid (R0.out.trans (q1.mono R0.out.size))
  clear q1 f2
  cases x
  · go_wp2
    go_ret
    exact ⟨rfl, FIN.out _ R1.out⟩
  have f3 := HF.out w1 R1.out 3 _ rfl
  go_wp2_with fail
  refine (C2.out _ R1.out).mono ?_
  rintro e w2 ⟨rfl, q2⟩
  have R2 := Lib.hid (R1.out.trans (q2.mono R1.out.size))
  clear q2 f3
  cases y
  · go_wp2
    go_ret
    exact ⟨rfl, FIN.out _ R2.out⟩
  have f4 := HF.out w2 R2.out 4 _ rfl
  go_wp2_with fail
  refine (C3.out _ R2.out).mono ?_
  rintro e w3 ⟨rfl, q3⟩
  have R3 := Lib.hid (R2.out.trans (q3.mono R2.out.size))
  clear q3 f4
  go_wp2
  go_ret
  exact ⟨by simp, FIN.out _ R3.out⟩

theorem sh_near (a : Int) (w : World) : Calls Try.prog 63 #[.int .i64 a] w fun e w' => e = .returned (.bool (nearN a)) ∧ Below w.heap.size w w' := by
  obtain ⟨K, hK⟩ : ∃ K, nearN a = K := ⟨_, rfl⟩
  have EK := Lib.hid hK
  rw [hK]
  clear hK
  go_enter Try.func63, Try.ntmps63
  go_wp2
  all_goals
    go_ret
    refine ⟨?_, Below.refl _ _⟩
    rw [← EK.out]
    clear EK
    unfold nearN
    first | (simp_all; done) | (simp_all; omega; done)
set_option maxRecDepth 100000 in
set_option maxHeartbeats 4000000 in
theorem sh_paint (k : Int) (a b : Cr) (p q : Pt) (r : Int) (w : World) : Calls Try.prog 46 #[.agg (paC k a b p q r)] w fun e w' => e = .returned (.bool (decide (k = 0 ∨ k = 1 ∨ k = 2) && (nearN p.x && nearN p.y && nearN q.x && nearN q.y && nearN r))) ∧ Below w.heap.size w w' := by
  obtain ⟨px, py⟩ := p
  obtain ⟨qx, qy⟩ := q
  simp only
  obtain ⟨n0, h0⟩ : ∃ x, nearN px = x := ⟨_, rfl⟩
  have N0 : Hid (∀ w, Calls Try.prog 63 #[.int .i64 px] w fun e w' => e = .returned (.bool n0) ∧ Below w.heap.size w w') := Lib.hid (fun w => by rw [← h0]; exact sh_near _ w)
  obtain ⟨n1, h1⟩ : ∃ x, nearN py = x := ⟨_, rfl⟩
  have N1 : Hid (∀ w, Calls Try.prog 63 #[.int .i64 py] w fun e w' => e = .returned (.bool n1) ∧ Below w.heap.size w w') := Lib.hid (fun w => by rw [← h1]; exact sh_near _ w)
  obtain ⟨n2, h2⟩ : ∃ x, nearN qx = x := ⟨_, rfl⟩
  have N2 : Hid (∀ w, Calls Try.prog 63 #[.int .i64 qx] w fun e w' => e = .returned (.bool n2) ∧ Below w.heap.size w w') := Lib.hid (fun w => by rw [← h2]; exact sh_near _ w)
  obtain ⟨n3, h3⟩ : ∃ x, nearN qy = x := ⟨_, rfl⟩
  have N3 : Hid (∀ w, Calls Try.prog 63 #[.int .i64 qy] w fun e w' => e = .returned (.bool n3) ∧ Below w.heap.size w w') := Lib.hid (fun w => by rw [← h3]; exact sh_near _ w)
  obtain ⟨n4, h4⟩ : ∃ x, nearN r = x := ⟨_, rfl⟩
  have N4 : Hid (∀ w, Calls Try.prog 63 #[.int .i64 r] w fun e w' => e = .returned (.bool n4) ∧ Below w.heap.size w w') := Lib.hid (fun w => by rw [← h4]; exact sh_near _ w)
  rw [h0, h1, h2, h3, h4]
  clear h0 h1 h2 h3 h4
  obtain ⟨B, hB⟩ : ∃ B, w.heap.size = B := ⟨_, rfl⟩
  by_cases hk : k = 0 ∨ k = 1 ∨ k = 2
  · rw [decide_eq_true hk]
    obtain ⟨W, hW⟩ : ∃ W, w.alloc (.cells (paC k a b ⟨px, py⟩ ⟨qx, qy⟩ r) 33) = W := ⟨_, rfl⟩
    have hkk : Has W B (paC k a b ⟨px, py⟩ ⟨qx, qy⟩ r) 33 := by rw [← hW]; exact has_new hB
    have hb : Below B w W := by rw [← hW]; exact (Below.refl _ _).alloc (by omega) _
    have HF := Lib.hid (show ∀ w', Below W.heap.size W w' → ∀ j u, (paC k a b ⟨px, py⟩ ⟨qx, qy⟩ r)[j]? = some u → w'.cell? ⟨B, j, none⟩ = some u from fun w' h' j u hu => (hkk.below h' hkk.lt).cell j u hu)
    have R0 : Hid (Below W.heap.size W W) := Lib.hid (Below.refl _ _)
    have FIN := Lib.hid (show ∀ w', Below W.heap.size W w' → Below w.heap.size w w' from fun w' h' => by rw [hB]; exact hb.trans (h'.mono (by have := hkk.lt; omega)))
    have HW := Lib.hid hW
    clear hkk hb hW
    rcases hk with rfl | rfl | rfl
    all_goals
      go_enter Try.func46, Try.ntmps46
      go_wp2_with fail
      rw [HW.out]
      clear hB
      refine (N0.out _).mono ?_
      rintro e w1 ⟨rfl, q1⟩
      have R1 := Lib.hid (R0.out.trans (q1.mono R0.out.size))
      clear q1
      cases n0
      · go_wp2
        go_ret
        exact ⟨rfl, FIN.out _ R1.out⟩
      have g10 := HF.out w1 R1.out 10 _ rfl
      go_wp2_with fail
      refine (N1.out _).mono ?_
      rintro e w2 ⟨rfl, q2⟩
      have R2 := Lib.hid (R1.out.trans (q2.mono R1.out.size))
      clear q2
      cases n1
      · go_wp2
        go_ret
        exact ⟨rfl, FIN.out _ R2.out⟩
      have g11 := HF.out w2 R2.out 11 _ rfl
      go_wp2_with fail
      refine (N2.out _).mono ?_
      rintro e w3 ⟨rfl, q3⟩
      have R3 := Lib.hid (R2.out.trans (q3.mono R2.out.size))
      clear q3
      cases n2
      · go_wp2
        go_ret
        exact ⟨rfl, FIN.out _ R3.out⟩
      have g12 := HF.out w3 R3.out 12 _ rfl
      go_wp2_with fail
      refine (N3.out _).mono ?_
      rintro e w4 ⟨rfl, q4⟩
      have R4 := Lib.hid (R3.out.trans (q4.mono R3.out.size))
      clear q4
      cases n3
      · go_wp2
        go_ret
        exact ⟨rfl, FIN.out _ R4.out⟩
      have g13 := HF.out w4 R4.out 13 _ rfl
      go_wp2_with fail
      refine (N4.out _).mono ?_
      rintro e w5 ⟨rfl, q5⟩
      have R5 := Lib.hid (R4.out.trans (q5.mono R4.out.size))
      clear q5
      go_wp2
      go_ret
      exact ⟨by simp, FIN.out _ R5.out⟩
  · rw [decide_eq_false hk]
    have h0 : (k == 0) = false := by simp; omega
    have h1 : (k == 1) = false := by simp; omega
    have h2 : (k == 2) = false := by simp; omega
    clear hB
    go_enter Try.func46, Try.ntmps46
    go_wp2
    go_ret
    exact ⟨rfl, (Below.refl _ _).alloc (Nat.le_refl _) _⟩

set_option maxRecDepth 100000 in
set_option maxHeartbeats 4000000 in
theorem sh_fill {w : World} {s : Shp} (h : ShIn w s) : Calls Try.prog 26 #[.agg (shC s)] w fun e w' => e = .returned (.bool (fillOk s)) ∧ Below w.heap.size w w' := by
  obtain ⟨B, hB⟩ : ∃ B, w.heap.size = B := ⟨_, rfl⟩
  obtain ⟨W, hW⟩ : ∃ W, w.alloc (.cells (shC s) 37) = W := ⟨_, rfl⟩
  obtain ⟨hi, hk, hb⟩ := h.start hB hW
  have HBB := Lib.hid hB
  have HW := Lib.hid hW
  obtain ⟨y, hy⟩ : ∃ x, paintOk s = x := ⟨_, rfl⟩
  obtain ⟨z, hz⟩ : ∃ x, right (bares s.C) = x := ⟨_, rfl⟩
  have C1 : Hid (∀ w', Below W.heap.size W w' → Calls Try.prog 46 #[.agg (paC s.kind s.a s.b s.p s.q s.r)] w' fun e w'' => e = .returned (.bool y) ∧ Below w'.heap.size w' w'') := Lib.hid (fun w' h' => by rw [← hy]; exact sh_paint s.kind s.a s.b s.p s.q s.r w')
  have C2 : Hid (∀ w', Below W.heap.size W w' → Calls Try.prog 47 #[s.vC] w' fun e w'' => e = .returned (.bool z) ∧ Below w'.heap.size w' w'') := Lib.hid (fun w' h' => by rw [← hz]; exact h_right (hi.below h').C)
  have E : fillOk s = (decide (s.rule = 0 ∨ s.rule = 1) && y && z) := by unfold fillOk; rw [hy, hz]
  rw [E]
  clear E
  have F : ∀ w', Below W.heap.size W w' → ∀ j u, (shC s)[j]? = some u → w'.cell? ⟨B, j, none⟩ = some u := fun w' h' j u hu => (hk.below h' hk.lt).cell j u hu
  have HF := Lib.hid F
  have R0 : Hid (Below W.heap.size W W) := Lib.hid (Below.refl _ _)
  have hFin : ∀ w', Below W.heap.size W w' → Below w.heap.size w w' := fun w' h' => by rw [hB]; exact hb.trans (h'.mono (by have := hk.lt; omega))
  have FIN := Lib.hid hFin
  clear hi hk hb hW hy hz F h hFin
  by_cases hr : s.rule = 0 ∨ s.rule = 1
  · rw [decide_eq_true hr]
    have f6 := HF.out W R0.out 6 _ rfl
    rcases hr with hr | hr
    all_goals
      go_enter Try.func26, Try.ntmps26
      have f7 := HF.out W R0.out 7 _ rfl
      have f8 := HF.out W R0.out 8 _ rfl
      have f9 := HF.out W R0.out 9 _ rfl
      have f10 := HF.out W R0.out 10 _ rfl
      have f11 := HF.out W R0.out 11 _ rfl
      have f12 := HF.out W R0.out 12 _ rfl
      have f13 := HF.out W R0.out 13 _ rfl
      have f14 := HF.out W R0.out 14 _ rfl
      have f15 := HF.out W R0.out 15 _ rfl
      have f16 := HF.out W R0.out 16 _ rfl
      have f17 := HF.out W R0.out 17 _ rfl
      have f18 := HF.out W R0.out 18 _ rfl
      have f19 := HF.out W R0.out 19 _ rfl
      have f20 := HF.out W R0.out 20 _ rfl
      go_wp2_with fail
      rw [HW.out]
      clear hB
      refine (C1.out _ R0.out).mono ?_
      rintro e w1 ⟨rfl, q1⟩
      have R1 := Lib.hid (R0.out.trans (q1.mono R0.out.size))
      clear q1 f7 f8 f9 f10 f11 f12 f13 f14 f15 f16 f17 f18 f19 f20
      cases y
      · go_wp2
        go_ret
        exact ⟨rfl, FIN.out _ R1.out⟩
      have f21 := HF.out w1 R1.out 21 _ rfl
      go_wp2_with fail
      refine (C2.out _ R1.out).mono ?_
      rintro e w2 ⟨rfl, q2⟩
      have R2 := Lib.hid (R1.out.trans (q2.mono R1.out.size))
      clear q2 f21
      go_wp2
      go_ret
      exact ⟨by simp, FIN.out _ R2.out⟩
  · rw [decide_eq_false hr]
    have f6 := HF.out W R0.out 6 _ rfl
    have h0 : (s.rule == 0) = false := by simp; omega
    have h1 : (s.rule == 1) = false := by simp; omega
    go_enter Try.func26, Try.ntmps26
    go_wp2
    go_ret
    refine ⟨rfl, ?_⟩
    rw [HW.out]
    exact FIN.out _ R0.out

set_option maxRecDepth 100000 in
set_option maxHeartbeats 4000000 in
theorem sh_line {w : World} {s : Shp} (h : ShIn w s) : Calls Try.prog 27 #[.agg (shC s)] w fun e w' => e = .returned (.bool (drawOk s)) ∧ Below w.heap.size w w' := by
  obtain ⟨B, hB⟩ : ∃ B, w.heap.size = B := ⟨_, rfl⟩
  obtain ⟨W, hW⟩ : ∃ W, w.alloc (.cells (shC s) 37) = W := ⟨_, rfl⟩
  obtain ⟨hi, hk, hb⟩ := h.start hB hW
  have HBB := Lib.hid hB
  have HW := Lib.hid hW
  obtain ⟨x1, hx1⟩ : ∃ x, right s.Wd = x := ⟨_, rfl⟩
  obtain ⟨x2, hx2⟩ : ∃ x, right s.F = x := ⟨_, rfl⟩
  obtain ⟨x3, hx3⟩ : ∃ x, right s.T = x := ⟨_, rfl⟩
  obtain ⟨x4, hx4⟩ : ∃ x, okD s.D = x := ⟨_, rfl⟩
  have C1 : Hid (∀ w', Below W.heap.size W w' → Calls Try.prog 44 #[s.vWd] w' fun e w'' => e = .returned (.bool x1) ∧ Below w'.heap.size w' w'') := Lib.hid (fun w' h' => by rw [← hx1]; exact k_right (hi.below h').Wd)
  have C2 : Hid (∀ w', Below W.heap.size W w' → Calls Try.prog 44 #[s.vF] w' fun e w'' => e = .returned (.bool x2) ∧ Below w'.heap.size w' w'') := Lib.hid (fun w' h' => by rw [← hx2]; exact k_right (hi.below h').F)
  have C3 : Hid (∀ w', Below W.heap.size W w' → Calls Try.prog 44 #[s.vT] w' fun e w'' => e = .returned (.bool x3) ∧ Below w'.heap.size w' w'') := Lib.hid (fun w' h' => by rw [← hx3]; exact k_right (hi.below h').T)
  have C4 : Hid (∀ w', Below W.heap.size W w' → Calls Try.prog 48 #[s.vD] w' fun e w'' => e = .returned (.bool x4) ∧ Below w'.heap.size w' w'') := Lib.hid (fun w' h' => by rw [← hx4]; exact below_of (d_right (hi.below h').D))
  obtain ⟨cp, hcp⟩ : ∃ x, decide (s.cap = 0 ∨ s.cap = 1) = x := ⟨_, rfl⟩
  have E : drawOk s = (x1 && x2 && x3 && cp && x4) := by unfold drawOk; rw [hx1, hx2, hx3, hx4, hcp]
  have HCP := Lib.hid hcp
  clear hcp
  rw [E]
  clear E
  have F : ∀ w', Below W.heap.size W w' → ∀ j u, (shC s)[j]? = some u → w'.cell? ⟨B, j, none⟩ = some u := fun w' h' j u hu => (hk.below h' hk.lt).cell j u hu
  have HF := Lib.hid F
  have R0 : Hid (Below W.heap.size W W) := Lib.hid (Below.refl _ _)
  have hFin : ∀ w', Below W.heap.size W w' → Below w.heap.size w w' := fun w' h' => by rw [hB]; exact hb.trans (h'.mono (by have := hk.lt; omega))
  have FIN := Lib.hid hFin
  clear hi hk hb hW hx1 hx2 hx3 hx4 F h hFin
  go_enter Try.func27, Try.ntmps27
  have f23 := HF.out W R0.out 23 _ rfl
  go_wp2_with fail
  rw [HW.out]
  clear hB
  refine (C1.out _ R0.out).mono ?_
  rintro e w1 ⟨rfl, q1⟩
  have R1 := Lib.hid (R0.out.trans (q1.mono R0.out.size))
  clear q1 f23
  cases x1
  · go_wp2
    go_ret
    exact ⟨rfl, FIN.out _ R1.out⟩
  have f30 := HF.out w1 R1.out 30 _ rfl
  go_wp2_with fail
  refine (C2.out _ R1.out).mono ?_
  rintro e w2 ⟨rfl, q2⟩
  have R2 := Lib.hid (R1.out.trans (q2.mono R1.out.size))
  clear q2 f30
  cases x2
  · go_wp2
    go_ret
    exact ⟨rfl, FIN.out _ R2.out⟩
  have f31 := HF.out w2 R2.out 31 _ rfl
  go_wp2_with fail
  refine (C3.out _ R2.out).mono ?_
  rintro e w3 ⟨rfl, q3⟩
  have R3 := Lib.hid (R2.out.trans (q3.mono R2.out.size))
  clear q3 f31
  cases x3
  · go_wp2
    go_ret
    exact ⟨rfl, FIN.out _ R3.out⟩
  have f28 := HF.out w3 R3.out 28 _ rfl
  by_cases hc : s.cap = 0 ∨ s.cap = 1
  · obtain rfl : cp = true := by rw [← HCP.out]; exact decide_eq_true hc
    rcases hc with hc | hc
    all_goals
      have f29 := HF.out w3 R3.out 29 _ rfl
      go_wp2_with fail
      refine (C4.out _ R3.out).mono ?_
      rintro e w4 ⟨rfl, q4⟩
      have R4 := Lib.hid (R3.out.trans (q4.mono R3.out.size))
      clear q4 f29
      go_wp2
      go_ret
      exact ⟨rfl, FIN.out _ R4.out⟩
  · obtain rfl : cp = false := by rw [← HCP.out]; exact decide_eq_false hc
    have h0 : (s.cap == 0) = false := by simp; omega
    have h1 : (s.cap == 1) = false := by simp; omega
    go_wp2
    go_ret
    exact ⟨rfl, FIN.out _ R3.out⟩

end Go.Proofs.Ytglbfpjjnboeaaa

namespace Go.Proofs.Ytglbfpjjnboeaaa
open Go Go.RowKit
open M

set_option maxRecDepth 100000 in
set_option maxHeartbeats 4000000 in
theorem sh_right {w : World} {s : Shp} (h : ShIn w s) : Calls Try.prog 8 #[.agg (shC s)] w fun e w' => e = .returned (.bool (okS s)) ∧ Below w.heap.size w w' := by
  obtain ⟨B, hB⟩ : ∃ B, w.heap.size = B := ⟨_, rfl⟩
  obtain ⟨W, hW⟩ : ∃ W, w.alloc (.cells (shC s) 37) = W := ⟨_, rfl⟩
  obtain ⟨hi, hk, hb⟩ := h.start hB hW
  have HBB := Lib.hid hB
  have HW := Lib.hid hW
  obtain ⟨y1, hy1⟩ : ∃ x, formOk s = x := ⟨_, rfl⟩
  obtain ⟨y2, hy2⟩ : ∃ x, lineOk s = x := ⟨_, rfl⟩
  obtain ⟨y3, hy3⟩ : ∃ x, fillOk s = x := ⟨_, rfl⟩
  obtain ⟨y4, hy4⟩ : ∃ x, drawOk s = x := ⟨_, rfl⟩
  have C1 : Hid (∀ w', Below W.heap.size W w' → Calls Try.prog 24 #[.agg (shC s)] w' fun e w'' => e = .returned (.bool y1) ∧ Below w'.heap.size w' w'') := Lib.hid (fun w' h' => by rw [← hy1]; exact sh_form (hi.below h'))
  have C2 : Hid (∀ w', Below W.heap.size W w' → Calls Try.prog 25 #[.agg (shC s)] w' fun e w'' => e = .returned (.bool y2) ∧ Below w'.heap.size w' w'') := Lib.hid (fun w' h' => by rw [← hy2]; exact sh_outline (hi.below h'))
  have C3 : Hid (∀ w', Below W.heap.size W w' → Calls Try.prog 26 #[.agg (shC s)] w' fun e w'' => e = .returned (.bool y3) ∧ Below w'.heap.size w' w'') := Lib.hid (fun w' h' => by rw [← hy3]; exact sh_fill (hi.below h'))
  have C4 : Hid (∀ w', Below W.heap.size W w' → Calls Try.prog 27 #[.agg (shC s)] w' fun e w'' => e = .returned (.bool y4) ∧ Below w'.heap.size w' w'') := Lib.hid (fun w' h' => by rw [← hy4]; exact sh_line (hi.below h'))
  have E : okS s = (y1 && y2 && y3 && y4) := by unfold okS; rw [hy1, hy2, hy3, hy4]
  rw [E]
  clear E
  have HG := Lib.hid (show ∀ w', Below W.heap.size W w' → Has w' B (shC s) 37 from fun w' h' => hk.below h' hk.lt)
  have R0 : Hid (Below W.heap.size W W) := Lib.hid (Below.refl _ _)
  have hFin : ∀ w', Below W.heap.size W w' → Below w.heap.size w w' := fun w' h' => by rw [hB]; exact hb.trans (h'.mono (by have := hk.lt; omega))
  have FIN := Lib.hid hFin
  clear hi hk hb hW hy1 hy2 hy3 hy4 h hFin
  go_enter Try.func8, Try.ntmps8
  go_upto_region 1 with fail
  rw [HW.out]
  clear hB
  have hg := HG.out W R0.out
  go_wp2_with (first | (refine wpList_load_row rfl 37 _ rfl B rfl 37 _ (0, 0) _ hg Try.underlying37 rfl (by kernel_rfl) ?_) | (refine BigFrame.wpList_want (by rfl) (fun K hK => wp_load_row 37 _ rfl B rfl 37 _ (0, 0) _ hg Try.underlying37 rfl (by kernel_rfl) (hK _ _ ?_))))
  refine (C1.out _ R0.out).mono ?_
  rintro e w1 ⟨rfl, q1⟩
  have R1 := Lib.hid (R0.out.trans (q1.mono R0.out.size))
  clear q1 hg
  cases y1
  · go_wp2
    go_ret
    exact ⟨rfl, FIN.out _ R1.out⟩
  have hg := HG.out w1 R1.out
  go_wp2_with (first | (refine wpList_load_row rfl 37 _ rfl B rfl 37 _ (0, 0) _ hg Try.underlying37 rfl (by kernel_rfl) ?_) | (refine BigFrame.wpList_want (by rfl) (fun K hK => wp_load_row 37 _ rfl B rfl 37 _ (0, 0) _ hg Try.underlying37 rfl (by kernel_rfl) (hK _ _ ?_))))
  refine (C2.out _ R1.out).mono ?_
  rintro e w2 ⟨rfl, q2⟩
  have R2 := Lib.hid (R1.out.trans (q2.mono R1.out.size))
  clear q2 hg
  cases y2
  · go_wp2
    go_ret
    exact ⟨rfl, FIN.out _ R2.out⟩
  have hg := HG.out w2 R2.out
  go_wp2_with (first | (refine wpList_load_row rfl 37 _ rfl B rfl 37 _ (0, 0) _ hg Try.underlying37 rfl (by kernel_rfl) ?_) | (refine BigFrame.wpList_want (by rfl) (fun K hK => wp_load_row 37 _ rfl B rfl 37 _ (0, 0) _ hg Try.underlying37 rfl (by kernel_rfl) (hK _ _ ?_))))
  refine (C3.out _ R2.out).mono ?_
  rintro e w3 ⟨rfl, q3⟩
  have R3 := Lib.hid (R2.out.trans (q3.mono R2.out.size))
  clear q3 hg
  cases y3
  · go_wp2
    go_ret
    exact ⟨rfl, FIN.out _ R3.out⟩
  have hg := HG.out w3 R3.out
  go_wp2_with (first | (refine wpList_load_row rfl 37 _ rfl B rfl 37 _ (0, 0) _ hg Try.underlying37 rfl (by kernel_rfl) ?_) | (refine BigFrame.wpList_want (by rfl) (fun K hK => wp_load_row 37 _ rfl B rfl 37 _ (0, 0) _ hg Try.underlying37 rfl (by kernel_rfl) (hK _ _ ?_))))
  refine (C4.out _ R3.out).mono ?_
  rintro e w4 ⟨rfl, q4⟩
  have R4 := Lib.hid (R3.out.trans (q4.mono R3.out.size))
  clear q4 hg
  go_wp2
  go_ret
  exact ⟨by simp, FIN.out _ R4.out⟩

end Go.Proofs.Ytglbfpjjnboeaaa

namespace Go.Proofs.Ytglbfpjjnboeaaa
open Go Go.RowKit
open M

set_option maxRecDepth 100000 in
set_option maxHeartbeats 4000000 in
theorem sh_at {w : World} {s : Shp} (h : ShIn w s) (t : Int) (bW : -9223372036854775808 ≤ atk s.W t 0 ∧ atk s.W t 0 ≤ 9223372036854775807) (bH : -9223372036854775808 ≤ atk s.H t 0 ∧ atk s.H t 0 ≤ 9223372036854775807) :
    Calls Try.prog 7 #[.agg (shC s), .int .i64 t] w (Gives w (shCl s t) (shAt s t)) := by
  obtain ⟨B, hB⟩ : ∃ B, w.heap.size = B := ⟨_, rfl⟩
  obtain ⟨W0, hW0⟩ : ∃ W, w.alloc (.cells (shC s) 37) = W := ⟨_, rfl⟩
  obtain ⟨hi0, hk0, hb0⟩ := h.start hB hW0
  obtain ⟨W, hW⟩ : ∃ W, W0.alloc (.cells #[.bool false, .slice none 0 0] 41) = W := ⟨_, rfl⟩
  have hz0 : W0.heap.size = B + 1 := by rw [← hW0]; simp [hB]
  have hbW : Below W0.heap.size W0 W := by rw [← hW]; exact (Below.refl _ _).alloc (Nat.le_refl _) _
  have hi := hi0.below hbW
  have hk := hk0.below hbW hk0.lt
  have hr : Has W (B + 1) #[.bool false, .slice none 0 0] 41 := by rw [← hW]; exact has_new hz0
  have hb : Below B w W := hb0.trans (hbW.mono (by omega))
  obtain ⟨vw, hvw⟩ : ∃ v, s.vW = v := ⟨_, rfl⟩
  obtain ⟨vh, hvh⟩ : ∃ v, s.vH = v := ⟨_, rfl⟩
  have HVW := Lib.hid hvw
  have HVH := Lib.hid hvh
  clear hvw hvh
  obtain ⟨x, hx⟩ : ∃ x, atk s.W t 0 = x := ⟨_, rfl⟩
  obtain ⟨y, hy⟩ : ∃ x, atk s.H t 0 = x := ⟨_, rfl⟩
  have C1 : Hid (∀ w', Below W.heap.size W w' → Calls Try.prog 22 #[vw, .int .i64 t, .int .i64 0] w' fun e w'' => e = .returned (.int .i64 x) ∧ Below w'.heap.size w' w'') := Lib.hid (fun w' h' => by rw [← hx, ← HVW.out]; exact k_at (hi.below h').W t 0)
  have C2 : Hid (∀ w', Below W.heap.size W w' → Calls Try.prog 22 #[vh, .int .i64 t, .int .i64 0] w' fun e w'' => e = .returned (.int .i64 y) ∧ Below w'.heap.size w' w'') := Lib.hid (fun w' h' => by rw [← hy, ← HVH.out]; exact k_at (hi.below h').H t 0)
  have C3 : Hid (∀ w', Below W.heap.size W w' → Calls Try.prog 23 #[s.vP, .int .i64 t] w' (Gives w' (atcl s.P t) (atps s.P t))) := Lib.hid (fun w' h' => p_at (hi.below h').P t)
  have A0 : Hid (s.form = 0 → shAt s t = rectL x y ∧ shCl s t = true) := Lib.hid (fun e => by unfold shAt shCl; rw [hx, hy, e]; exact ⟨rfl, rfl⟩)
  have A1 : Hid (s.form = 1 → shAt s t = ovalL x y ∧ shCl s t = true) := Lib.hid (fun e => by unfold shAt shCl; rw [hx, hy, e]; exact ⟨rfl, rfl⟩)
  have A2 : Hid (s.form = 2 → shAt s t = starL s.n x y ∧ shCl s t = true) := Lib.hid (fun e => by unfold shAt shCl; rw [hx, hy, e]; exact ⟨rfl, rfl⟩)
  have A3 : Hid (s.form = 3 → shAt s t = atps s.P t ∧ shCl s t = atcl s.P t) := Lib.hid (fun e => by unfold shAt shCl; rw [e]; exact ⟨rfl, rfl⟩)
  have A4 : Hid (¬ s.form = 0 → ¬ s.form = 1 → ¬ s.form = 2 → ¬ s.form = 3 → shAt s t = [] ∧ shCl s t = false) := Lib.hid (fun a b c d => by unfold shAt shCl; rw [if_neg a, if_neg b, if_neg c, if_neg d, if_neg (by omega), if_neg d]; exact ⟨rfl, rfl⟩)
  rw [hx] at bW
  rw [hy] at bH
  have BW := Lib.hid bW
  have BH := Lib.hid bH
  have HBB := Lib.hid hB
  have HW0 := Lib.hid hW0
  have HW := Lib.hid hW
  have HR := Lib.hid hr
  have HBW := Lib.hid hb
  have R0 : Hid (Below W.heap.size W W) := Lib.hid (Below.refl _ _)
  have SZ : Hid (B ≤ W.heap.size) := Lib.hid (by have := hr.lt; omega)
  have HF := Lib.hid (show ∀ w', Below W.heap.size W w' → ∀ j u, (shC s)[j]? = some u → w'.cell? ⟨B, j, none⟩ = some u from fun w' h' j u hu => (hk.below h' hk.lt).cell j u hu)
  obtain ⟨R, hR⟩ : ∃ R, shAt s t = R := ⟨_, rfl⟩
  obtain ⟨c, hc⟩ : ∃ c, shCl s t = c := ⟨_, rfl⟩
  rw [hR, hc] at A0 A1 A2 A3 A4
  rw [hR, hc]
  clear hi0 hk0 hb0 hW0 hW hbW hi hk hr hb hx hy hR hc h bW bH
  by_cases e0 : s.form = 0
  · obtain ⟨er, ec⟩ := A0.out e0
    rw [er, ec]
    clear A0 A1 A2 A3 A4 er ec
    go_enter Try.func7, Try.ntmps7
    go_upto_region 1 with fail
    rw [HW0.out, HW.out]
    clear hB
    have f0 := HF.out W R0.out 0 _ rfl
    go_upto_region 3 with fail
    refine wp_region_make0 8 (by kernel_rfl) (by kernel_rfl) (by kernel_rfl) ?_
    apply Exists.intro
    refine ⟨fun R hR hN => ?_, ?_⟩
    · have A2 : ∀ z : LaterR W R, z.to.cell? ⟨B, 2, none⟩ = some vw := fun z => by rw [← HVW.out]; exact HF.out z.to z.below 2 _ rfl
      have A3 : ∀ z : LaterR W R, z.to.cell? ⟨B, 3, none⟩ = some vh := fun z => by rw [← HVH.out]; exact HF.out z.to z.below 3 _ rfl
      have DD1 := Lib.hid (fun (z : LaterR W R) => C1.out z.to z.below)
      have DD2 := Lib.hid (fun (z : LaterR W R) => C2.out z.to z.below)
      simp only [List.take_succ_cons, List.take_zero]
      repeat (go_big_quiet_step (first | (go_at_call_of 22 vw; exact LaterR.calls hR (DD1.out _)) | (go_at_call_of 22 vh; exact LaterR.calls hR (DD2.out _))))
      exact wpQuiet_nil rfl
    intro w2 hb2
    simp only [List.drop_succ_cons, List.drop_zero]
    have R2 := Lib.hid hb2
    clear hb2
    go_wp2_with fail
    refine (sh_rect x y _ BW.out BH.out).mono ?_
    rintro e w9 ⟨v, rfl, ho, hq⟩
    have GG := Lib.hid (gives_put (w := w) (r := B + 1) (c := true) HBB.out (ho.lower (B' := B) (by have := SZ.out; have := R2.out.size; omega)) (fun e => by have := (ho.base _ e).1; have := HR.out.lt; have := R2.out.size; omega) (by omega) (HBW.out.trans ((R2.out.trans (hq.mono R2.out.size)).mono SZ.out)) rfl (.bool true) _ rfl)
    have K := HR.out.below (R2.out.trans (hq.mono R2.out.size)) HR.out.lt
    obtain ⟨ao, cp, rfl⟩ := ho.len
    obtain ⟨LN, hLN⟩ : ∃ n, (rectL x y).length = n := ⟨_, rfl⟩
    rw [hLN] at GG ⊢
    have r0 := K.cell 0 _ rfl
    have r1 := K.cell 1 _ rfl
    have fz := has_fro K
    clear K ho hq hLN
    go_wp2
    refine bodyPost_ret (v := .agg #[.bool true, .slice ao LN cp]) (by simp [results, Try.results7, go_sem, r0, r1]) rfl ?_
    exact GG.out
  by_cases e1 : s.form = 1
  · obtain ⟨er, ec⟩ := A1.out e1
    rw [er, ec]
    clear A0 A1 A2 A3 A4 er ec
    go_enter Try.func7, Try.ntmps7
    go_upto_region 1 with fail
    rw [HW0.out, HW.out]
    clear hB
    have f0 := HF.out W R0.out 0 _ rfl
    go_upto_region 5 with fail
    refine wp_region_make0 8 (by kernel_rfl) (by kernel_rfl) (by kernel_rfl) ?_
    apply Exists.intro
    refine ⟨fun R hR hN => ?_, ?_⟩
    · have A2 : ∀ z : LaterR W R, z.to.cell? ⟨B, 2, none⟩ = some vw := fun z => by rw [← HVW.out]; exact HF.out z.to z.below 2 _ rfl
      have A3 : ∀ z : LaterR W R, z.to.cell? ⟨B, 3, none⟩ = some vh := fun z => by rw [← HVH.out]; exact HF.out z.to z.below 3 _ rfl
      have DD1 := Lib.hid (fun (z : LaterR W R) => C1.out z.to z.below)
      have DD2 := Lib.hid (fun (z : LaterR W R) => C2.out z.to z.below)
      simp only [List.take_succ_cons, List.take_zero]
      repeat (go_big_quiet_step (first | (go_at_call_of 22 vw; exact LaterR.calls hR (DD1.out _)) | (go_at_call_of 22 vh; exact LaterR.calls hR (DD2.out _))))
      exact wpQuiet_nil rfl
    intro w2 hb2
    simp only [List.drop_succ_cons, List.drop_zero]
    have R2 := Lib.hid hb2
    clear hb2
    go_wp2_with fail
    refine (sh_oval x y _ BW.out BH.out).mono ?_
    rintro e w9 ⟨v, rfl, ho, hq⟩
    have GG := Lib.hid (gives_put (w := w) (r := B + 1) (c := true) HBB.out (ho.lower (B' := B) (by have := SZ.out; have := R2.out.size; omega)) (fun e => by have := (ho.base _ e).1; have := HR.out.lt; have := R2.out.size; omega) (by omega) (HBW.out.trans ((R2.out.trans (hq.mono R2.out.size)).mono SZ.out)) rfl (.bool true) _ rfl)
    have K := HR.out.below (R2.out.trans (hq.mono R2.out.size)) HR.out.lt
    obtain ⟨ao, cp, rfl⟩ := ho.len
    obtain ⟨LN, hLN⟩ : ∃ n, (ovalL x y).length = n := ⟨_, rfl⟩
    rw [hLN] at GG ⊢
    have r0 := K.cell 0 _ rfl
    have r1 := K.cell 1 _ rfl
    have fz := has_fro K
    clear K ho hq hLN
    go_wp2
    refine bodyPost_ret (v := .agg #[.bool true, .slice ao LN cp]) (by simp [results, Try.results7, go_sem, r0, r1]) rfl ?_
    exact GG.out
  by_cases e2 : s.form = 2
  · obtain ⟨er, ec⟩ := A2.out e2
    rw [er, ec]
    clear A0 A1 A2 A3 A4 er ec
    go_enter Try.func7, Try.ntmps7
    go_upto_region 1 with fail
    rw [HW0.out, HW.out]
    clear hB
    have f0 := HF.out W R0.out 0 _ rfl
    go_upto_region 7 with fail
    refine wp_region_make0 10 (by kernel_rfl) (by kernel_rfl) (by kernel_rfl) ?_
    apply Exists.intro
    refine ⟨fun R hR hN => ?_, ?_⟩
    · have A2 : ∀ z : LaterR W R, z.to.cell? ⟨B, 2, none⟩ = some vw := fun z => by rw [← HVW.out]; exact HF.out z.to z.below 2 _ rfl
      have A3 : ∀ z : LaterR W R, z.to.cell? ⟨B, 3, none⟩ = some vh := fun z => by rw [← HVH.out]; exact HF.out z.to z.below 3 _ rfl
      have A1 := fun (z : LaterR W R) => HF.out z.to z.below 1 _ rfl
      have DD1 := Lib.hid (fun (z : LaterR W R) => C1.out z.to z.below)
      have DD2 := Lib.hid (fun (z : LaterR W R) => C2.out z.to z.below)
      simp only [List.take_succ_cons, List.take_zero]
      repeat (go_big_quiet_step (first | (go_at_call_of 22 vw; exact LaterR.calls hR (DD1.out _)) | (go_at_call_of 22 vh; exact LaterR.calls hR (DD2.out _))))
      exact wpQuiet_nil rfl
    intro w2 hb2
    simp only [List.drop_succ_cons, List.drop_zero]
    have R2 := Lib.hid hb2
    clear hb2
    go_wp2_with fail
    refine (sh_star s.n x y _).mono ?_
    rintro e w9 ⟨v, rfl, ho, hq⟩
    have GG := Lib.hid (gives_put (w := w) (r := B + 1) (c := true) HBB.out (ho.lower (B' := B) (by have := SZ.out; have := R2.out.size; omega)) (fun e => by have := (ho.base _ e).1; have := HR.out.lt; have := R2.out.size; omega) (by omega) (HBW.out.trans ((R2.out.trans (hq.mono R2.out.size)).mono SZ.out)) rfl (.bool true) _ rfl)
    have K := HR.out.below (R2.out.trans (hq.mono R2.out.size)) HR.out.lt
    obtain ⟨ao, cp, rfl⟩ := ho.len
    obtain ⟨LN, hLN⟩ : ∃ n, (starL s.n x y).length = n := ⟨_, rfl⟩
    rw [hLN] at GG ⊢
    have r0 := K.cell 0 _ rfl
    have r1 := K.cell 1 _ rfl
    have fz := has_fro K
    clear K ho hq hLN
    go_wp2
    refine bodyPost_ret (v := .agg #[.bool true, .slice ao LN cp]) (by simp [results, Try.results7, go_sem, r0, r1]) rfl ?_
    exact GG.out
  by_cases e3 : s.form = 3
  · obtain ⟨er, ec⟩ := A3.out e3
    rw [er, ec]
    clear A0 A1 A2 A3 A4 er ec
    go_enter Try.func7, Try.ntmps7
    go_upto_region 1 with fail
    rw [HW0.out, HW.out]
    clear hB
    have f0 := HF.out W R0.out 0 _ rfl
    have f4 := HF.out W R0.out 4 _ rfl
    go_wp2_with fail
    refine (C3.out _ R0.out).mono ?_
    rintro e w9 ⟨v, rfl, ho, hq⟩
    have GG := Lib.hid (gives_put (w := w) (r := B + 1) (c := (atcl s.P t)) HBB.out (ho.lower (B' := B) (by have := SZ.out; have := R0.out.size; omega)) (fun e => by have := (ho.base _ e).1; have := HR.out.lt; have := R0.out.size; omega) (by omega) (HBW.out.trans ((R0.out.trans (hq.mono R0.out.size)).mono SZ.out)) rfl (.bool (atcl s.P t)) _ rfl)
    have K := HR.out.below (R0.out.trans (hq.mono R0.out.size)) HR.out.lt
    obtain ⟨ao, cp, rfl⟩ := ho.len
    obtain ⟨LN, hLN⟩ : ∃ n, (atps s.P t).length = n := ⟨_, rfl⟩
    rw [hLN] at GG ⊢
    have r0 := K.cell 0 _ rfl
    have r1 := K.cell 1 _ rfl
    have fz := has_fro K
    clear K ho hq hLN
    go_wp2
    refine bodyPost_ret (v := .agg #[.bool (atcl s.P t), .slice ao LN cp]) (by simp [results, Try.results7, go_sem, r0, r1]) rfl ?_
    exact GG.out
  obtain ⟨er, ec⟩ := A4.out e0 e1 e2 e3
  rw [er, ec]
  clear A0 A1 A2 A3 A4 er ec
  have n0 : (s.form == 0) = false := by simp; omega
  have n1 : (s.form == 1) = false := by simp; omega
  have n2 : (s.form == 2) = false := by simp; omega
  have n3 : (s.form == 3) = false := by simp; omega
  go_enter Try.func7, Try.ntmps7
  go_upto_region 1 with fail
  rw [HW0.out, HW.out]
  clear hB
  have f0 := HF.out W R0.out 0 _ rfl
  have K := HR.out.below R0.out HR.out.lt
  have G := Lib.hid (gives_put (w := w) (r := B + 1) (c := false) HBB.out (Pown.nil W B) (by simp [Value.ownBlock]) (by omega) (HBW.out.trans (R0.out.mono SZ.out)) rfl (.bool false) _ rfl)
  have r0 := K.cell 0 _ rfl
  have r1 := K.cell 1 _ rfl
  have fz := has_fro K
  clear K
  go_wp2
  refine bodyPost_ret (v := .agg #[.bool false, .slice none 0 0]) (by simp [results, Try.results7, go_sem, r0, r1]) rfl ?_
  exact G.out

end Go.Proofs.Ytglbfpjjnboeaaa

namespace Go.Proofs.Ytglbfpjjnboeaaa
open Go Go.RowKit
open M

def sh0 (f : Int) : Shp := ⟨f, 0, [], .slice none 0 0, [], .slice none 0 0, [], .slice none 0 0, false, 0, 0, ⟨0, 0, 0, 0⟩, ⟨0, 0, 0, 0⟩, ⟨0, 0⟩, ⟨0, 0⟩, 0, [], .slice none 0 0, false, [], .slice none 0 0, ⟨0, 0, 0, 0⟩, 0, [], .slice none 0 0, [], .slice none 0 0, [], .slice none 0 0⟩
theorem sh0_in (f : Int) (w : World) : ShIn w (sh0 f) :=
  ⟨Or.inl ⟨rfl, _, _, rfl⟩, Or.inl ⟨rfl, _, _, rfl⟩, ⟨none, 0, rfl, by simp [sh0], fun h => by simp [sh0] at h⟩, Or.inl ⟨rfl, _, _, rfl⟩, Or.inl ⟨rfl, _, _, rfl⟩, ⟨none, 0, rfl, by simp [sh0], fun h => by simp [sh0] at h⟩, Or.inl ⟨rfl, _, _, rfl⟩, Or.inl ⟨rfl, _, _, rfl⟩⟩
theorem sh0_ok : okS (sh0 0) = true := by decide
theorem sh4_ok : okS (sh0 4) = false := by decide
theorem star99 : (starL 99 5 6).length = 97 := by unfold starL; rw [straightL_length, starN_length]; rfl
theorem oval_length (w h : Int) : (ovalL w h).length = 13 := rfl
theorem rect_length (w h : Int) : (rectL w h).length = 13 := by unfold rectL; rw [straightL_length]; rfl
theorem rect_first : pt (rectL 131072 131072) 0 = ⟨-65536, -65536⟩ := by decide

set_option maxRecDepth 100000 in
set_option maxHeartbeats 4000000 in
theorem known13 (w : World) : Calls Try.prog 10 #[] w fun e w' => e = .returned (.bool true) ∧ Below w.heap.size w w' := by
  go_enter Try.func10, Try.ntmps10
  go_wp2_with fail
  refine (sh_rect 131072 131072 w ⟨by decide, by decide⟩ ⟨by decide, by decide⟩).mono ?_
  rintro e w1 ⟨v, rfl, ho, hq⟩
  obtain ⟨g, cap, rfl⟩ := ho.shape (by rw [rect_length]; decide)
  rw [rect_length]
  have row := (ho.sl (by rw [rect_length]; decide))
  obtain ⟨V, hV⟩ : ∃ V, w1.alloc (.cells #[.bool true, .slice (some ⟨g, 0, none⟩) 13 cap] 41) = V := ⟨_, rfl⟩
  have bV : Below w1.heap.size w1 V := by rw [← hV]; exact (Below.refl _ _).alloc (Nat.le_refl _) _
  have kV : Has V w1.heap.size #[.bool true, .slice (some ⟨g, 0, none⟩) 13 cap] 41 := by rw [← hV]; exact has_new rfl
  rw [rect_length] at row
  have rV := psl_row (row.below bV (Nat.le_refl _)) (by rw [rect_length]; decide)
  have p0 := rV.c0 0 (by rw [rect_length]; decide)
  have p1 := rV.c1 0 (by rw [rect_length]; decide)
  rw [rect_first] at p0 p1
  simp only [Nat.zero_mul, Nat.add_zero] at p0 p1
  obtain ⟨B, hB⟩ : ∃ B, w1.heap.size = B := ⟨_, rfl⟩
  rw [hB] at kV
  have a0 := kV.cell 0 _ rfl
  have a1 := kV.cell 1 _ rfl
  have QV := Lib.hid (hq.trans (bV.mono hq.size))
  have HV := Lib.hid hV
  clear ho hq row bV kV rV hV
  go_upto_region 2 with fail
  rw [HV.out]
  go_wp2_with fail
  refine (sh_star 99 5 6 _).mono ?_
  rintro e w2 ⟨v2, rfl, ho2, hq2⟩
  obtain ⟨ao, cp, rfl⟩ := ho2.len
  rw [star99]
  have fd : ∀ w, (Instr.field 41 (.agg #[.bool true, .slice ao 97 cp]) 1).run Try.prog w = .ok (.slice ao 97 cp) w := fun _ => by kernel_rfl
  have Q2 := Lib.hid (QV.out.trans (hq2.mono QV.out.size))
  clear ho2 hq2 p0 p1 a0 a1 QV hB HV
  go_wp2_with fail
  refine (sh_oval 1 1 _ ⟨by decide, by decide⟩ ⟨by decide, by decide⟩).mono ?_
  rintro e w3 ⟨v3, rfl, ho3, hq3⟩
  obtain ⟨ao3, cp3, rfl⟩ := ho3.len
  rw [oval_length]
  have fd3 : ∀ w, (Instr.field 41 (.agg #[.bool true, .slice ao3 13 cp3]) 1).run Try.prog w = .ok (.slice ao3 13 cp3) w := fun _ => by kernel_rfl
  have Q3 := Lib.hid (Q2.out.trans (hq3.mono Q2.out.size))
  clear ho3 hq3 Q2 fd
  go_wp2_with fail
  refine (sh_right (sh0_in 0 _)).mono ?_
  rw [sh0_ok]
  rintro e w4 ⟨rfl, hq4⟩
  have Q4 := Lib.hid (Q3.out.trans (hq4.mono Q3.out.size))
  clear hq4 Q3 fd3
  go_wp2_with fail
  refine (sh_right (sh0_in 4 _)).mono ?_
  rw [sh4_ok]
  rintro e w5 ⟨rfl, hq5⟩
  have Q5 := Lib.hid (Q4.out.trans (hq5.mono Q4.out.size))
  clear hq5 Q4
  go_wp2
  go_ret
  exact ⟨rfl, Q5.out⟩

end Go.Proofs.Ytglbfpjjnboeaaa

namespace Go.Proofs.Ytglbfpjjnboeaaa
open Go Go.RowKit
open M

/-- A tape's shape, stored whole in a block of its own behind the call: it lies there with its lists. -/
theorem shape_lies {w W w1 : World} {B S : Nat} {s : Shp} {z : Array Value} (hb : Below w.heap.size w W) (hB : w.heap.size = B) (hz : W.heap.size = B + 1) (hg : W.grownBy w1 (some B)) (hi : ShIn w1 s) (hS : w1.heap.size = S) :
    ShIn ((w1.alloc (.cells z 37)).setRow S (shC s)) s ∧ Has ((w1.alloc (.cells z 37)).setRow S (shC s)) S (shC s) 37 ∧ Below w.heap.size w ((w1.alloc (.cells z 37)).setRow S (shC s)) := by
  have b1 : Below w1.heap.size w1 ((w1.alloc (.cells z 37)).setRow S (shC s)) := below_setRow ((Below.refl _ _).alloc (Nat.le_refl _) _) (by omega)
  have b0 : Below w.heap.size w w1 := by rw [hB]; exact below_on (by rw [← hB]; exact hb) hg (by omega) (by omega)
  exact ⟨hi.below b1, has_setRow (has_new hS), b0.trans (b1.mono b0.size)⟩

set_option maxRecDepth 100000 in
set_option maxHeartbeats 8000000 in
theorem shapeMade_walk {w : World} (l1 : Value) (_ : Unit) (t : Int) (hN1 : Nums w l1) :
    Calls Try.prog 3 #[l1, .int .i64 t] w fun r w' => r = .returned (.bool true) ∧ Below w.heap.size w w' := by
  obtain ⟨B, hB⟩ : ∃ B, w.heap.size = B := ⟨_, rfl⟩
  obtain ⟨W, hW⟩ : ∃ W, w.alloc (.cells #[l1, .int .i64 0] 25) = W := ⟨_, rfl⟩
  have hb0 : Below w.heap.size w W := by rw [← hW]; exact (Below.refl _ _).alloc (Nat.le_refl _) _
  have T1 : Tp W B l1 := tp_start hN1 (by rw [← hW]; exact has_new hB) hb0 (by omega)
  have sz0 : W.heap.size = B + 1 := by rw [← hW]; simp [hB]
  obtain ⟨a1, n1, c1, rfl⟩ := hN1.shape
  have HB := Lib.hid hB
  have HW := Lib.hid hW
  have HB0 := Lib.hid hb0
  have SZ := Lib.hid sz0
  have TS := Lib.hid (t_shape _ _ _ T1)
  clear hb0 T1 hW hN1 sz0
  go_enter Try.func3, Try.ntmps3
  go_upto_region 2 with fail
  rw [HW.out]
  clear hB
  apply wp_region_lit
  refine wpList_plain rfl fun K hK => ?_
  have HK := Lib.hid hK
  clear hK
  go_wp2_with fail
  refine HK.out _ _ ?_
  clear HK
  refine wpList_plain rfl fun K hK => ?_
  have HK := Lib.hid hK
  clear hK
  go_wp2_with fail
  refine TS.out.mono ?_
  rintro e w1 ⟨s, rfl, md, hi, -, hg⟩
  have MD := Lib.hid md
  have HI := Lib.hid hi
  have HG := Lib.hid hg
  clear md hi hg TS
  refine HK.out _ _ ?_
  clear HK
  obtain ⟨S, hS⟩ : ∃ S, w1.heap.size = S := ⟨_, rfl⟩
  refine wpList_plain rfl fun K hK => ?_
  have HK := Lib.hid hK
  clear hK
  go_wp2_with fail
  refine HK.out _ _ ?_
  clear HK
  refine wpList_store_row rfl 37 _ _ rfl S (shC s) rfl rfl 37 _ (has_new hS) (by kernel_rfl) rfl HI.out.ones ?_
  apply wpList_nil
  have LS := shape_lies (z := shC (shF 0 0)) HB0.out HB.out SZ.out HG.out HI.out hS
  obtain ⟨X, hX⟩ : ∃ X, (w1.alloc (.cells (shC (shF 0 0)) 37)).setRow S (shC s) = X := ⟨_, rfl⟩
  rw [hX] at LS
  try rw [hX]
  obtain ⟨hi, hk, hb⟩ := LS
  have HX := Lib.hid hi
  have KX := Lib.hid hk
  have BX := Lib.hid hb
  clear hi hb hX hS HI HG HB0 SZ HW HB
  obtain ⟨u, hu⟩ : ∃ u, bits .and .i64 t 63 = u := ⟨_, rfl⟩
  obtain ⟨ps, hps⟩ : ∃ x, shAt s u = x := ⟨_, rfl⟩
  obtain ⟨c, hc⟩ : ∃ x, shCl s u = x := ⟨_, rfl⟩
  have tl := MD.out.tells u
  have C := Lib.hid (sh_at HX.out u ⟨by omega, by omega⟩ ⟨by omega, by omega⟩)
  have pa := MD.out.path u
  rw [hps, hc] at C pa
  have PA := Lib.hid pa
  clear tl pa hps hc
  go_wp2_with (refine wpList_load_row rfl 37 _ rfl S rfl 37 _ (0, 0) _ hk Try.underlying37 rfl (by kernel_rfl) ?_)
  clear hu
  refine C.out.mono ?_
  rintro e w2 ⟨l, rfl, hol, hbb⟩
  obtain ⟨ao, cap, rfl⟩ := hol.len
  obtain ⟨N, hN⟩ : ∃ N, ps.length = N := ⟨_, rfl⟩
  rw [hN] at hol ⊢
  obtain ⟨P, hP⟩ : ∃ g, w2.heap.size = g := ⟨_, rfl⟩
  obtain ⟨Y, hY⟩ : ∃ Y, w2.alloc (.cells #[.bool c, .slice ao N cap] 41) = Y := ⟨_, rfl⟩
  have bY : Below X.heap.size X Y := by rw [← hY]; exact hbb.alloc hbb.size _
  have kP : Has Y P #[.bool c, .slice ao N cap] 41 := by rw [← hY]; exact has_new hP
  have sl : Psl Y (.slice ao N cap) ps := by rw [← hY]; exact (hol.alloc _).sl (by have := PA.out; omega)
  have BY := Lib.hid (BX.out.trans (bY.mono BX.out.size))
  have KY := Lib.hid (KX.out.below bY KX.out.lt)
  have RT := Lib.hid (sh_right (HX.out.below bY))
  have RP := Lib.hid (fun w' (h : Below Y.heap.size Y w') => r8_right c (sl.below h (Nat.le_refl _)))
  rw [MD.out.ok] at RT
  simp only [PA.out.1] at RP
  have HY := Lib.hid hY
  have KP := Lib.hid kP
  have NP : Hid (0 < N) := Lib.hid (by rw [← hN]; exact PA.out.2.1)
  have ky := KY.out
  have NI : (0 : Int) < N := by have := NP.out; omega
  clear hol hbb hY bY kP sl C hk
  go_upto_region 4 with fail
  rw [HY.out]
  clear hN hP
  go_wp2_with (refine wpList_load_row rfl 37 _ rfl S rfl 37 _ (0, 0) _ ky Try.underlying37 rfl (by kernel_rfl) ?_)
  refine RT.out.mono ?_
  rintro e w3 ⟨rfl, q3⟩
  have kp := KP.out.below q3 KP.out.lt
  have p0 := kp.cell 0 _ rfl
  have p1 := kp.cell 1 _ rfl
  have B3 := Lib.hid q3
  clear q3 kp ky
  go_wp2_with fail
  refine (RP.out _ B3.out).mono ?_
  rintro e w4 ⟨rfl, q4⟩
  have B4 := Lib.hid (B3.out.trans (q4.mono B3.out.size))
  have kp := KP.out.below B4.out KP.out.lt
  have kk := KY.out.below B4.out KY.out.lt
  clear p0 p1 q4
  have p0 := kp.cell 0 _ rfl
  have p1 := kp.cell 1 _ rfl
  have f0 := kk.cell 0 (.int .i64 s.form) rfl
  have KN := Lib.hid (known13 w4)
  obtain ⟨fo, hfo⟩ : ∃ fo, s.form = fo := ⟨_, rfl⟩
  rw [hfo] at f0
  have FC : Hid (fo = 3 ∨ c = true) := Lib.hid (by rw [← hfo]; exact PA.out.2.2.2)
  have FIN := Lib.hid (fun w' (h : Below w4.heap.size w4 w') => BY.out.trans ((B4.out.trans (h.mono B4.out.size)).mono BY.out.size))
  clear kp kk hfo
  by_cases e3 : fo = 3
  · subst e3
    go_wp2_with fail
    refine KN.out.mono ?_
    rintro e w5 ⟨rfl, q5⟩
    have R := Lib.hid (FIN.out _ q5)
    clear q5
    go_wp2
    go_ret
    exact ⟨rfl, R.out⟩
  · have e3' : (fo == 3) = false := by simp [e3]
    obtain rfl : c = true := FC.out.resolve_left e3
    go_wp2_with fail
    refine KN.out.mono ?_
    rintro e w5 ⟨rfl, q5⟩
    have R := Lib.hid (FIN.out _ q5)
    clear q5
    go_wp2
    go_ret
    exact ⟨rfl, R.out⟩

end Go.Proofs.Ytglbfpjjnboeaaa

namespace Go.Proofs.Ytglbfpjjnboeaaa
open Go Go.RowKit

section
variable {P : Program} {ρ : Operand → Value} {o : Oper}
theorem run1_move {x : Operand} {v : Value} (ho : o.op = .move x) (hx : ρ x = v) (w : World) : (execOp ρ o).run P w = .ok (.value v) w := by
  simp [execOp, ho, hx, go_sem]
theorem run1_assign {x : Operand} {v : Value} (ho : o.op = .assign x) (hx : ρ x = v) (w : World) : (execOp ρ o).run P w = .ok (.value v) w := by
  simp [execOp, ho, hx, go_sem]
theorem run1_pick {x y z : Operand} {b : Bool} {u v : Value} (ho : o.op = .pick x y z) (hx : ρ x = .bool b) (hy : ρ y = u) (hz : ρ z = v) (w : World) : (execOp ρ o).run P w = .ok (.value (if b then u else v)) w := by
  cases b <;> simp [execOp, ho, hx, hy, hz, go_sem]
theorem run1_load_row {x : Operand} {ty t : TypeId} {g : Nat} {cs : Array Value} {d : TypeDesc} {w : World} (ho : o.op = .load ty x) (hx : ρ x = .pointer (some ⟨g, 0, none⟩)) (h : Has w g cs t)
    (hu : P.underlying ty = some d) (hd : (match d with | .struct _ | .array _ _ => true | _ => false) = true) (hi : (P.info? ty).map (·.size) = some cs.size) : (execOp ρ o).run P w = .ok (.value (.agg cs)) w := by
  unfold execOp
  simp only [ho, hx, Instr.loadAt, Instr.sureAddr, Sem.run_bind, Sem.run_pure, Result.andThen_ok, run_loadVar_row w g t ty cs (0, 0) d h hu hd hi]
theorem run1_call0 {f : FuncId} {ts : Array TypeId} (ho : o.op = .call { callee := .value (.func f), args := #[], argTypes := ts }) (hf : ρ (.func f) = .func (.func f) #[] #[]) (w : World) (hc : (callFunc f #[]).run P w = .ok (.enter f #[]) w) : (execOp ρ o).run P w = .ok (.enter f #[]) w := by
  simp [execOp, ho, hf, hc, go_sem]
theorem run1_call2 {f : FuncId} {ts : Array TypeId} {x y : Operand} {u v : Value} (ho : o.op = .call { callee := .value (.func f), args := #[x, y], argTypes := ts }) (hf : ρ (.func f) = .func (.func f) #[] #[]) (hx : ρ x = u) (hy : ρ y = v) (w : World) (hc : (callFunc f #[u, v]).run P w = .ok (.enter f #[u, v]) w) : (execOp ρ o).run P w = .ok (.enter f #[u, v]) w := by
  simp [execOp, ho, hf, hx, hy, hc, go_sem]
end

section
variable {P : Program} {ops : Array Oper} {Q : Exit → Act → World → Prop} {S : World → Prop} {md : Region.Mode} {i fuel : Nat} {listed : Array Bool} {a : Act} {w : World} {dst : Option Tmp} {ty : TypeId} {pos : String} {after : Array Edge} {gd : Option (Nat × Bool)}
theorem takeH_run {o : Oper} {v : Value} (hi : ops[i]? = some o) (hs : Region.noSelect ops = true) (hf : Region.free md ops listed i = true) (hr : (Region.ready md ops listed).contains i = true) (hQ : ∀ c a w, Q (.panic c) (a.put o.dst v) w → Q (.panic c) a w)
    (hw : Region.wanted o (yielded ops a.tmps) = true) (hx : ∀ w, S w → (execOp a.eval o).run P w = .ok (.value v) w) (hS : S w) (h : wpAnyH P md ops Q S fuel (listed.setIfInBounds i true) (a.put o.dst v) w) : wpAnyH P md ops Q S (fuel + 1) listed a w :=
  wpAnyH_take hi hs hf hr hQ (Or.inl ⟨hw, hx⟩) hS h
theorem takeH_move (x : Operand) (v : Value) (hi : ops[i]? = some { dst := dst, op := .move x, type := ty, pos := pos, after := after, guard := gd }) (hs : Region.noSelect ops = true) (hf : Region.free md ops listed i = true) (hr : (Region.ready md ops listed).contains i = true) (hQ : ∀ c (a : Act) (d : Option Tmp) v w, Q (.panic c) (a.put d v) w → Q (.panic c) a w)
    (hw : Region.wanted { dst := dst, op := .move x, type := ty, pos := pos, after := after, guard := gd } (yielded ops a.tmps) = true) (hx : a.eval x = v) (hS : S w) (h : wpAnyH P md ops Q S fuel (listed.setIfInBounds i true) (a.put dst v) w) : wpAnyH P md ops Q S (fuel + 1) listed a w :=
  takeH_run hi hs hf hr (fun c a w => hQ c a _ _ w) hw (fun w _ => run1_move rfl hx w) hS h
theorem takeH_assign (x : Operand) (v : Value) (hi : ops[i]? = some { dst := dst, op := .assign x, type := ty, pos := pos, after := after, guard := gd }) (hs : Region.noSelect ops = true) (hf : Region.free md ops listed i = true) (hr : (Region.ready md ops listed).contains i = true) (hQ : ∀ c (a : Act) (d : Option Tmp) v w, Q (.panic c) (a.put d v) w → Q (.panic c) a w)
    (hw : Region.wanted { dst := dst, op := .assign x, type := ty, pos := pos, after := after, guard := gd } (yielded ops a.tmps) = true) (hx : a.eval x = v) (hS : S w) (h : wpAnyH P md ops Q S fuel (listed.setIfInBounds i true) (a.put dst v) w) : wpAnyH P md ops Q S (fuel + 1) listed a w :=
  takeH_run hi hs hf hr (fun c a w => hQ c a _ _ w) hw (fun w _ => run1_assign rfl hx w) hS h
theorem takeH_pick (x y z : Operand) (u v : Value) (hi : ops[i]? = some { dst := dst, op := .pick x y z, type := ty, pos := pos, after := after, guard := gd }) (hs : Region.noSelect ops = true) (hf : Region.free md ops listed i = true) (hr : (Region.ready md ops listed).contains i = true) (hQ : ∀ c (a : Act) (d : Option Tmp) v w, Q (.panic c) (a.put d v) w → Q (.panic c) a w)
    (hw : Region.wanted { dst := dst, op := .pick x y z, type := ty, pos := pos, after := after, guard := gd } (yielded ops a.tmps) = true) (hx : a.eval x = .bool true) (hy : a.eval y = u) (hz : a.eval z = v) (hS : S w) (h : wpAnyH P md ops Q S fuel (listed.setIfInBounds i true) (a.put dst u) w) : wpAnyH P md ops Q S (fuel + 1) listed a w :=
  takeH_run hi hs hf hr (fun c a w => hQ c a _ _ w) hw (fun w _ => run1_pick (b := true) rfl hx hy hz w) hS h
theorem takeH_load {t tl : TypeId} {cs : Array Value} {d : TypeDesc} (x : Operand) (g : Nat) (hi : ops[i]? = some { dst := dst, op := .load tl x, type := ty, pos := pos, after := after, guard := gd }) (hs : Region.noSelect ops = true) (hf : Region.free md ops listed i = true) (hr : (Region.ready md ops listed).contains i = true) (hQ : ∀ c (a : Act) (d : Option Tmp) v w, Q (.panic c) (a.put d v) w → Q (.panic c) a w)
    (hw : Region.wanted { dst := dst, op := .load tl x, type := ty, pos := pos, after := after, guard := gd } (yielded ops a.tmps) = true) (hx : a.eval x = .pointer (some ⟨g, 0, none⟩)) (hh : ∀ w, S w → Has w g cs t) (hu : P.underlying tl = some d) (hd : (match d with | .struct _ | .array _ _ => true | _ => false) = true) (hz : (P.info? tl).map (·.size) = some cs.size)
    (hS : S w) (h : wpAnyH P md ops Q S fuel (listed.setIfInBounds i true) (a.put dst (.agg cs)) w) : wpAnyH P md ops Q S (fuel + 1) listed a w :=
  takeH_run hi hs hf hr (fun c a w => hQ c a _ _ w) hw (fun w hw => run1_load_row rfl hx (hh w hw) hu hd hz) hS h
/-- A call of two arguments, the only one that may come up. -/
theorem stepH_call2 {f : FuncId} {ts : Array TypeId} (x y : Operand) (u v : Value) (hi : ops[i]? = some { dst := dst, op := .call { callee := .value (.func f), args := #[x, y], argTypes := ts }, type := ty, pos := pos, after := after, guard := gd }) (hr : Region.ready md ops listed = [i])
    (hw : Region.wanted { dst := dst, op := .call { callee := .value (.func f), args := #[x, y], argTypes := ts }, type := ty, pos := pos, after := after, guard := gd } (yielded ops a.tmps) = true) (hx : a.eval x = u) (hy : a.eval y = v) (hc : (callFunc f #[u, v]).run P w = .ok (.enter f #[u, v]) w)
    (h : Calls P f #[u, v] w fun e w' => ∃ r, e = .returned r ∧ S w' ∧ (S w' → wpAnyH P md ops Q S fuel (listed.setIfInBounds i true) (a.put dst r) w')) : wpAnyH P md ops Q S (fuel + 1) listed a w := by
  refine wpAnyH_ready hr (by simp) ?_
  refine AllReadyH.cons hi (fun K hK => ?_) AllReadyH.nil
  rw [if_pos hw]
  unfold Oper.wp
  rw [run1_call2 rfl rfl hx hy _ hc]
  refine Calls.mono h ?_
  rintro e w' ⟨r, rfl, s', h'⟩
  exact hK.out _ _ s' h'
theorem stepH_call0 {f : FuncId} {ts : Array TypeId} (hi : ops[i]? = some { dst := dst, op := .call { callee := .value (.func f), args := #[], argTypes := ts }, type := ty, pos := pos, after := after, guard := gd }) (hr : Region.ready md ops listed = [i])
    (hw : Region.wanted { dst := dst, op := .call { callee := .value (.func f), args := #[], argTypes := ts }, type := ty, pos := pos, after := after, guard := gd } (yielded ops a.tmps) = true) (hc : (callFunc f #[]).run P w = .ok (.enter f #[]) w)
    (h : Calls P f #[] w fun e w' => ∃ r, e = .returned r ∧ S w' ∧ (S w' → wpAnyH P md ops Q S fuel (listed.setIfInBounds i true) (a.put dst r) w')) : wpAnyH P md ops Q S (fuel + 1) listed a w := by
  refine wpAnyH_ready hr (by simp) ?_
  refine AllReadyH.cons hi (fun K hK => ?_) AllReadyH.nil
  rw [if_pos hw]
  unfold Oper.wp
  rw [run1_call0 rfl rfl _ hc]
  refine Calls.mono h ?_
  rintro e w' ⟨r, rfl, s', h'⟩
  exact hK.out _ _ s' h'
end

end Go.Proofs.Ytglbfpjjnboeaaa

namespace Go.Proofs.Ytglbfpjjnboeaaa
open Go Go.RowKit
open M

theorem and_1023 (c : Int) : bits .and .i64 c 1023 = c % 1024 := by
  show IntKind.i64.wrap ((BitVec.ofInt 64 c &&& BitVec.ofInt 64 (1023 : Int)).toNat : Int) = _
  have e0 : (BitVec.ofInt 64 (1023 : Int)).toNat = 1023 := by decide
  have e1 : (BitVec.ofInt 64 c).toNat = (c % 18446744073709551616).toNat := by rw [BitVec.toNat_ofInt]; rfl
  have e2 : ∀ n : Nat, n &&& 1023 = n % 1024 := fun n => Nat.and_two_pow_sub_one_eq_mod n 10
  rw [BitVec.toNat_and, e0, e1, e2, IntKind.wrap_i64]
  omega
theorem run1_sub {ρ : Operand → Value} {o : Oper} {x y : Operand} {a b c : Int} (ho : o.op = .binOp .sub 2 x y 2) (hx : ρ x = .int .i64 a) (hy : ρ y = .int .i64 b) (hc : IntKind.i64.wrap (a - b) = c) (w : World) : (execOp ρ o).run Try.prog w = .ok (.value (.int .i64 c)) w := by
  simp [execOp, ho, hx, hy, hc, go_sem]
theorem run1_add {ρ : Operand → Value} {o : Oper} {x y : Operand} {a b c : Int} (ho : o.op = .binOp .add 2 x y 2) (hx : ρ x = .int .i64 a) (hy : ρ y = .int .i64 b) (hc : IntKind.i64.wrap (a + b) = c) (w : World) : (execOp ρ o).run Try.prog w = .ok (.value (.int .i64 c)) w := by
  simp [execOp, ho, hx, hy, hc, go_sem]
section
variable {ops : Array Oper} {Q : Exit → Act → World → Prop} {S : World → Prop} {md : Region.Mode} {i fuel : Nat} {listed : Array Bool} {a : Act} {w : World} {dst : Option Tmp} {ty : TypeId} {pos : String} {after : Array Edge} {gd : Option (Nat × Bool)}
theorem takeH_sub (x y : Operand) (p q c : Int) (hi : ops[i]? = some { dst := dst, op := .binOp .sub 2 x y 2, type := ty, pos := pos, after := after, guard := gd }) (hs : Region.noSelect ops = true) (hf : Region.free md ops listed i = true) (hr : (Region.ready md ops listed).contains i = true) (hQ : ∀ c (a : Act) (d : Option Tmp) v w, Q (.panic c) (a.put d v) w → Q (.panic c) a w)
    (hw : Region.wanted { dst := dst, op := .binOp .sub 2 x y 2, type := ty, pos := pos, after := after, guard := gd } (yielded ops a.tmps) = true) (hx : a.eval x = .int .i64 p) (hy : a.eval y = .int .i64 q) (hc : IntKind.i64.wrap (p - q) = c) (hS : S w) (h : wpAnyH Try.prog md ops Q S fuel (listed.setIfInBounds i true) (a.put dst (.int .i64 c)) w) : wpAnyH Try.prog md ops Q S (fuel + 1) listed a w :=
  takeH_run hi hs hf hr (fun c a w => hQ c a _ _ w) hw (fun w _ => run1_sub rfl hx hy hc w) hS h
theorem takeH_add (x y : Operand) (p q c : Int) (hi : ops[i]? = some { dst := dst, op := .binOp .add 2 x y 2, type := ty, pos := pos, after := after, guard := gd }) (hs : Region.noSelect ops = true) (hf : Region.free md ops listed i = true) (hr : (Region.ready md ops listed).contains i = true) (hQ : ∀ c (a : Act) (d : Option Tmp) v w, Q (.panic c) (a.put d v) w → Q (.panic c) a w)
    (hw : Region.wanted { dst := dst, op := .binOp .add 2 x y 2, type := ty, pos := pos, after := after, guard := gd } (yielded ops a.tmps) = true) (hx : a.eval x = .int .i64 p) (hy : a.eval y = .int .i64 q) (hc : IntKind.i64.wrap (p + q) = c) (hS : S w) (h : wpAnyH Try.prog md ops Q S fuel (listed.setIfInBounds i true) (a.put dst (.int .i64 c)) w) : wpAnyH Try.prog md ops Q S (fuel + 1) listed a w :=
  takeH_run hi hs hf hr (fun c a w => hQ c a _ _ w) hw (fun w _ => run1_add rfl hx hy hc w) hS h
end
theorem call_at (u v : Value) (w : World) : (callFunc 7 #[u, v]).run Try.prog w = .ok (.enter 7 #[u, v]) w := by
  simp [go_sem]
theorem call_same (u v : Value) (w : World) : (callFunc 14 #[u, v]).run Try.prog w = .ok (.enter 14 #[u, v]) w := by
  simp [go_sem]
theorem call_known (w : World) : (callFunc 10 #[]).run Try.prog w = .ok (.enter 10 #[]) w := by
  simp [go_sem]
/-- The path at two ticks, of the same closing and the same places: the same. -/
theorem same_ps {w : World} {u v : Value} {c : Bool} {ps : List Pt} (h : Psl w u ps) (h2 : Psl w v ps) :
    Calls Try.prog 14 #[.agg #[.bool c, u], .agg #[.bool c, v]] w fun e w' => e = .returned (.bool true) ∧ Below w.heap.size w w' := by
  have := r8_same c c h h2
  simpa using this

set_option maxRecDepth 100000 in
set_option maxHeartbeats 8000000 in
theorem shapeTicks_walk {w : World} (l1 : Value) (_ : Unit) (t : Int) (hN1 : Nums w l1) :
    Calls Try.prog 5 #[l1, .int .i64 t] w fun r w' => r = .returned (.bool true) ∧ Below w.heap.size w w' := by
  obtain ⟨B, hB⟩ : ∃ B, w.heap.size = B := ⟨_, rfl⟩
  obtain ⟨W, hW⟩ : ∃ W, w.alloc (.cells #[l1, .int .i64 0] 25) = W := ⟨_, rfl⟩
  have hb0 : Below w.heap.size w W := by rw [← hW]; exact (Below.refl _ _).alloc (Nat.le_refl _) _
  have T1 : Tp W B l1 := tp_start hN1 (by rw [← hW]; exact has_new hB) hb0 (by omega)
  have sz0 : W.heap.size = B + 1 := by rw [← hW]; simp [hB]
  obtain ⟨a1, n1, c1, rfl⟩ := hN1.shape
  have HB := Lib.hid hB
  have HW := Lib.hid hW
  have HB0 := Lib.hid hb0
  have SZ := Lib.hid sz0
  have TS := Lib.hid (t_shape _ _ _ T1)
  clear hb0 T1 hW hN1 sz0
  go_enter Try.func5, Try.ntmps5
  go_upto_region 2 with fail
  rw [HW.out]
  clear hB
  apply wp_region_lit
  refine wpList_plain rfl fun K hK => ?_
  have HK := Lib.hid hK
  clear hK
  go_wp2_with fail
  refine HK.out _ _ ?_
  clear HK
  refine wpList_plain rfl fun K hK => ?_
  have HK := Lib.hid hK
  clear hK
  go_wp2_with fail
  refine TS.out.mono ?_
  rintro e w1 ⟨s, rfl, md, hi, -, hg⟩
  have MD := Lib.hid md
  have HI := Lib.hid hi
  have HG := Lib.hid hg
  clear md hi hg TS
  refine HK.out _ _ ?_
  clear HK
  obtain ⟨S, hS⟩ : ∃ S, w1.heap.size = S := ⟨_, rfl⟩
  refine wpList_plain rfl fun K hK => ?_
  have HK := Lib.hid hK
  clear hK
  go_wp2_with fail
  refine HK.out _ _ ?_
  clear HK
  refine wpList_store_row rfl 37 _ _ rfl S (shC s) rfl rfl 37 _ (has_new hS) (by kernel_rfl) rfl HI.out.ones ?_
  apply wpList_nil
  have LS := shape_lies (z := shC (shF 0 0)) HB0.out HB.out SZ.out HG.out HI.out hS
  obtain ⟨X, hX⟩ : ∃ X, (w1.alloc (.cells (shC (shF 0 0)) 37)).setRow S (shC s) = X := ⟨_, rfl⟩
  rw [hX] at LS
  try rw [hX]
  obtain ⟨hi, hk, hb⟩ := LS
  have HX := Lib.hid hi
  have KX := Lib.hid hk
  have BX := Lib.hid hb
  clear hi hb hX hS HI HG HB0 SZ HW HB
  obtain ⟨u, hu, u0, u1⟩ : ∃ u, bits .and .i64 t 1023 = u ∧ 0 ≤ u ∧ u ≤ 1023 := ⟨_, rfl, by rw [and_1023]; omega, by rw [and_1023]; omega⟩
  have e1 : IntKind.i64.wrap (-1 - u) = -1 - u := IntWalk.i64_in _ (by omega)
  have e2 : IntKind.i64.wrap (60 + u) = 60 + u := IntWalk.i64_in _ (by omega)
  obtain ⟨p1, hp1⟩ : ∃ x, shAt s (-1) = x := ⟨_, rfl⟩
  obtain ⟨c1', hc1⟩ : ∃ x, shCl s (-1) = x := ⟨_, rfl⟩
  obtain ⟨p2, hp2⟩ : ∃ x, shAt s 60 = x := ⟨_, rfl⟩
  obtain ⟨c2', hc2⟩ : ∃ x, shCl s 60 = x := ⟨_, rfl⟩
  have AT : ∀ (q : Int) (w' : World), Below X.heap.size X w' → Calls Try.prog 7 #[.agg (shC s), .int .i64 q] w' (Gives w' (shCl s q) (shAt s q)) := fun q w' h => by
    have tl := MD.out.tells q
    exact sh_at (HX.out.below h) q ⟨by omega, by omega⟩ ⟨by omega, by omega⟩
  have CA : Hid (∀ w', Below X.heap.size X w' → Calls Try.prog 7 #[.agg (shC s), .int .i64 (-1 - u)] w' (Gives w' c1' p1)) := Lib.hid (fun w' h => by
    have e := MD.out.ahead (t := -1 - u) (u := -1) (by omega) (by omega)
    have := AT (-1 - u) w' h
    rw [e.1, e.2, hp1, hc1] at this
    exact this)
  have CB : Hid (∀ w', Below X.heap.size X w' → Calls Try.prog 7 #[.agg (shC s), .int .i64 (-1)] w' (Gives w' c1' p1)) := Lib.hid (fun w' h => by
    have := AT (-1) w' h
    rw [hp1, hc1] at this
    exact this)
  have CC : Hid (∀ w', Below X.heap.size X w' → Calls Try.prog 7 #[.agg (shC s), .int .i64 (60 + u)] w' (Gives w' c2' p2)) := Lib.hid (fun w' h => by
    have e := MD.out.behind (t := 60 + u) (u := 60) (by omega) (by omega)
    have := AT (60 + u) w' h
    rw [e.1, e.2, hp2, hc2] at this
    exact this)
  have CD : Hid (∀ w', Below X.heap.size X w' → Calls Try.prog 7 #[.agg (shC s), .int .i64 60] w' (Gives w' c2' p2)) := Lib.hid (fun w' h => by
    have := AT 60 w' h
    rw [hp2, hc2] at this
    exact this)
  have L1 : Hid (p1.length ≤ 8796093022208) := Lib.hid (by rw [← hp1]; have := (MD.out.path (-1)).2.2.1; omega)
  have L2 : Hid (p2.length ≤ 8796093022208) := Lib.hid (by rw [← hp2]; have := (MD.out.path 60).2.2.1; omega)
  have KB : ∀ w', Below X.heap.size X w' → Has w' S (shC s) 37 := fun w' h => KX.out.below h KX.out.lt
  have HKB := Lib.hid KB
  have E1 := Lib.hid e1
  have E2 := Lib.hid e2
  clear AT KB hp1 hc1 hp2 hc2 e1 e2
  go_upto_region 4 with fail
  clear hu u0 u1 hk
  refine wp_region_held_drew (S := fun w' => Below X.heap.size X w') (by kernel_rfl) (below_drew (Below.refl _ _)) (fun hH => ?_)
  obtain ⟨V, hV⟩ : ∃ V, X.drew = V := ⟨_, rfl⟩
  rw [hV] at hH ⊢
  clear hV
  refine takeH_move (i := 1) (.tmp 7) (.int .i64 u) rfl (by kernel_rfl) (by kernel_rfl) (by kernel_rfl) (fun c a d v w h => by first | exact h | (cases d <;> exact h)) (by rfl) rfl hH ?_
  simp only [Act.put, List.setIfInBounds_toArray, List.set_cons_zero, List.set_cons_succ]
  refine takeH_sub (i := 2) (.const (.int .i64 (-1))) (.tmp 16) (-1) u (-1 - u) rfl (by kernel_rfl) (by kernel_rfl) (by kernel_rfl) (fun c a d v w h => by first | exact h | (cases d <;> exact h)) (by rfl) rfl rfl E1.out hH ?_
  simp only [Act.put, List.setIfInBounds_toArray, List.set_cons_zero, List.set_cons_succ]
  refine takeH_load (i := 0) (.tmp 6) S rfl (by kernel_rfl) (by kernel_rfl) (by kernel_rfl) (fun c a d v w h => by first | exact h | (cases d <;> exact h)) (by rfl) rfl HKB.out Try.underlying37 rfl (by kernel_rfl) hH ?_
  simp only [Act.put, List.setIfInBounds_toArray, List.set_cons_zero, List.set_cons_succ]
  refine takeH_load (i := 4) (.tmp 6) S rfl (by kernel_rfl) (by kernel_rfl) (by kernel_rfl) (fun c a d v w h => by first | exact h | (cases d <;> exact h)) (by rfl) rfl HKB.out Try.underlying37 rfl (by kernel_rfl) hH ?_
  simp only [Act.put, List.setIfInBounds_toArray, List.set_cons_zero, List.set_cons_succ]
  refine stepH_call2 (i := 3) (.tmp 15) (.tmp 17) (.agg (shC s)) (.int .i64 (-1 - u)) rfl (by kernel_rfl) (by rfl) rfl rfl (call_at _ _ _) ?_
  refine Calls.mono (CA.out _ hH) ?_
  rintro e wa ⟨la, rfl, oo, qq⟩
  have sa := oo.sl L1.out
  refine ⟨_, rfl, hH.trans (qq.mono hH.size), fun hH' => ?_⟩
  clear hH oo
  have hH := hH'
  clear hH'
  clear qq
  simp only [Act.put, List.setIfInBounds_toArray, List.set_cons_zero, List.set_cons_succ]
  refine stepH_call2 (i := 5) (.tmp 19) (.const (.int .i64 (-1))) (.agg (shC s)) (.int .i64 (-1)) rfl (by kernel_rfl) (by rfl) rfl rfl (call_at _ _ _) ?_
  refine Calls.mono (CB.out _ hH) ?_
  rintro e wb ⟨lb, rfl, oo, qq⟩
  have sb := oo.sl L1.out
  refine ⟨_, rfl, hH.trans (qq.mono hH.size), fun hH' => ?_⟩
  clear hH oo
  have hH := hH'
  clear hH'
  have sa2 := sa.below qq (Nat.le_refl _)
  clear sa qq
  simp only [Act.put, List.setIfInBounds_toArray, List.set_cons_zero, List.set_cons_succ]
  refine stepH_call2 (i := 6) (.tmp 18) (.tmp 20) (.agg #[.bool c1', la]) (.agg #[.bool c1', lb]) rfl (by kernel_rfl) (by rfl) rfl rfl (call_same _ _ _) ?_
  refine Calls.mono (same_ps sa2 sb) ?_
  rintro e w4 ⟨rfl, qq⟩
  refine ⟨_, rfl, hH.trans (qq.mono hH.size), fun hH' => ?_⟩
  clear hH qq sa2 sb
  have hH := hH'
  clear hH'
  simp only [Act.put, List.setIfInBounds_toArray, List.set_cons_zero, List.set_cons_succ]
  refine takeH_move (i := 7) (.tmp 21) (.bool true) rfl (by kernel_rfl) (by kernel_rfl) (by kernel_rfl) (fun c a d v w h => by first | exact h | (cases d <;> exact h)) (by rfl) rfl hH ?_
  simp only [Act.put, List.setIfInBounds_toArray, List.set_cons_zero, List.set_cons_succ]
  refine takeH_load (i := 8) (.tmp 6) S rfl (by kernel_rfl) (by kernel_rfl) (by kernel_rfl) (fun c a d v w h => by first | exact h | (cases d <;> exact h)) (by rfl) rfl HKB.out Try.underlying37 rfl (by kernel_rfl) hH ?_
  simp only [Act.put, List.setIfInBounds_toArray, List.set_cons_zero, List.set_cons_succ]
  refine takeH_move (i := 9) (.tmp 7) (.int .i64 u) rfl (by kernel_rfl) (by kernel_rfl) (by kernel_rfl) (fun c a d v w h => by first | exact h | (cases d <;> exact h)) (by rfl) rfl hH ?_
  simp only [Act.put, List.setIfInBounds_toArray, List.set_cons_zero, List.set_cons_succ]
  refine takeH_add (i := 10) (.const (.int .i64 60)) (.tmp 24) 60 u (60 + u) rfl (by kernel_rfl) (by kernel_rfl) (by kernel_rfl) (fun c a d v w h => by first | exact h | (cases d <;> exact h)) (by rfl) rfl rfl E2.out hH ?_
  simp only [Act.put, List.setIfInBounds_toArray, List.set_cons_zero, List.set_cons_succ]
  refine takeH_load (i := 12) (.tmp 6) S rfl (by kernel_rfl) (by kernel_rfl) (by kernel_rfl) (fun c a d v w h => by first | exact h | (cases d <;> exact h)) (by rfl) rfl HKB.out Try.underlying37 rfl (by kernel_rfl) hH ?_
  simp only [Act.put, List.setIfInBounds_toArray, List.set_cons_zero, List.set_cons_succ]
  refine stepH_call2 (i := 11) (.tmp 23) (.tmp 25) (.agg (shC s)) (.int .i64 (60 + u)) rfl (by kernel_rfl) (by rfl) rfl rfl (call_at _ _ _) ?_
  refine Calls.mono (CC.out _ hH) ?_
  rintro e wc ⟨lc, rfl, oo, qq⟩
  have sc := oo.sl L2.out
  refine ⟨_, rfl, hH.trans (qq.mono hH.size), fun hH' => ?_⟩
  clear hH oo
  have hH := hH'
  clear hH'
  clear qq
  simp only [Act.put, List.setIfInBounds_toArray, List.set_cons_zero, List.set_cons_succ]
  refine stepH_call2 (i := 13) (.tmp 27) (.const (.int .i64 60)) (.agg (shC s)) (.int .i64 60) rfl (by kernel_rfl) (by rfl) rfl rfl (call_at _ _ _) ?_
  refine Calls.mono (CD.out _ hH) ?_
  rintro e wd ⟨ld, rfl, oo, qq⟩
  have sd := oo.sl L2.out
  refine ⟨_, rfl, hH.trans (qq.mono hH.size), fun hH' => ?_⟩
  clear hH oo
  have hH := hH'
  clear hH'
  have sc2 := sc.below qq (Nat.le_refl _)
  clear sc qq
  simp only [Act.put, List.setIfInBounds_toArray, List.set_cons_zero, List.set_cons_succ]
  refine stepH_call2 (i := 14) (.tmp 26) (.tmp 28) (.agg #[.bool c2', lc]) (.agg #[.bool c2', ld]) rfl (by kernel_rfl) (by rfl) rfl rfl (call_same _ _ _) ?_
  refine Calls.mono (same_ps sc2 sd) ?_
  rintro e w7 ⟨rfl, qq⟩
  refine ⟨_, rfl, hH.trans (qq.mono hH.size), fun hH' => ?_⟩
  clear hH qq sc2 sd
  have hH := hH'
  clear hH'
  simp only [Act.put, List.setIfInBounds_toArray, List.set_cons_zero, List.set_cons_succ]
  refine takeH_pick (i := 15) (.tmp 22) (.tmp 29) (.const (.bool false)) (.bool true) (.bool false) rfl (by kernel_rfl) (by kernel_rfl) (by kernel_rfl) (fun c a d v w h => by first | exact h | (cases d <;> exact h)) (by rfl) rfl rfl rfl hH ?_
  simp only [Act.put, List.setIfInBounds_toArray, List.set_cons_zero, List.set_cons_succ]
  refine takeH_move (i := 16) (.tmp 30) (.bool true) rfl (by kernel_rfl) (by kernel_rfl) (by kernel_rfl) (fun c a d v w h => by first | exact h | (cases d <;> exact h)) (by rfl) rfl hH ?_
  simp only [Act.put, List.setIfInBounds_toArray, List.set_cons_zero, List.set_cons_succ]
  refine stepH_call0 (i := 17) rfl (by kernel_rfl) (by rfl) (call_known _) ?_
  refine Calls.mono (known13 _) ?_
  rintro e w8 ⟨rfl, qq⟩
  refine ⟨_, rfl, hH.trans (qq.mono hH.size), fun hH' => ?_⟩
  clear hH qq
  have hH := hH'
  clear hH'
  simp only [Act.put, List.setIfInBounds_toArray, List.set_cons_zero, List.set_cons_succ]
  refine takeH_pick (i := 18) (.tmp 31) (.tmp 32) (.const (.bool false)) (.bool true) (.bool false) rfl (by kernel_rfl) (by kernel_rfl) (by kernel_rfl) (fun c a d v w h => by first | exact h | (cases d <;> exact h)) (by rfl) rfl rfl rfl hH ?_
  simp only [Act.put, List.setIfInBounds_toArray, List.set_cons_zero, List.set_cons_succ]
  refine takeH_assign (i := 19) (.tmp 33) (.bool true) rfl (by kernel_rfl) (by kernel_rfl) (by kernel_rfl) (fun c a d v w h => by first | exact h | (cases d <;> exact h)) (by rfl) rfl hH ?_
  simp only [Act.put, List.setIfInBounds_toArray, List.set_cons_zero, List.set_cons_succ]
  refine wpAnyH_done (by kernel_rfl) ?_ _
  have R := Lib.hid (BX.out.trans (hH.mono BX.out.size))
  clear hH
  go_wp2
  go_ret
  exact ⟨rfl, R.out⟩

end Go.Proofs.Ytglbfpjjnboeaaa

namespace Go.Proofs.Ytglbfpjjnboeaaa
open Go.RowKit Go.ChangeShapes Go.WideShapes Go.Deep
open M

section
variable {H : Type} {enc : TypeId × Value → H} {w : World} {base : Nat} {held : Bool}
theorem cell_int : Try.prog.cellsOf 3 = 1 := by kernel_rfl
set_option maxRecDepth 100000 in
theorem open_tape {r : Reach} {b0 : Nat} {v : Value} {d : DataW H} {p : List MemPlace} (hv : Value.okWide Try.prog w r b0 22 v) (h : DataW.Trod enc Try.prog w base (fun _ => true) held 22 v d p) : ∃ _ : Unit, Nums w v := by
  refine ⟨(), ?_⟩
  obtain ⟨a0, len0, cap0, rfl⟩ := okWide_slice Try.underlying22 hv
  obtain ⟨fuel, hf⟩ := h
  rcases open_slice1 Try.underlying22 cell_int hf with ⟨hc, _⟩ | ⟨a, len, cap, m, n, V, D, Pl, hc, _, hl, hm, hmm, _, hi⟩
  · simp [Value.cells] at hc
    obtain ⟨rfl, rfl, rfl⟩ := hc
    exact Or.inl ⟨_, _, rfl⟩
  · simp [Value.cells] at hc
    obtain ⟨rfl, rfl, rfl⟩ := hc
    rw [if_pos rfl] at hmm
    subst hmm
    by_cases h0 : len0 = 0
    · subst h0
      exact Or.inl ⟨_, _, rfl⟩
    · have hspot : a.spot = none := by
        have := (hi 0 (by omega)).1
        simpa [Addr.add] using World.cell?_spot this
      obtain ⟨b, o, sp⟩ := a
      simp only at hspot
      subst hspot
      have h63 : len0 ≤ 9223372036854775807 := by
        have h := hm
        simp [maxLen] at h
        omega
      refine Or.inr ⟨b, o, len0, _, rfl, by omega, h63, fun i hil => ?_⟩
      obtain ⟨h1, h2⟩ := hi i (by omega)
      obtain ⟨k, hk, _⟩ := DataW.trod_int Try.underlying3 h2
      rw [Addr.add_lit] at h1
      refine ⟨k, h1.trans ?_⟩
      simpa using hk
end

end Go.Proofs.Ytglbfpjjnboeaaa

namespace Go.Proofs.Ytglbfpjjnboeaaa.shapeTicks
open Go.ChangeShapes Go.WideShapes Go.ChangeAt Go.RowKit

theorem post_below {H : Type} {enc : TypeId × Value → H} {P : Program} {f : Func} {s : ChangeSpec} {apart fresh handsOn : Bool} {W V : World} {args : Array Value} {v : Value} {ds gs : List (DataW H)} {before pa pv : List MemPlace}
    (hW : DataW.Whole enc P f.params.toList s.vars apart W args.toList ds gs before)
    (hres : ∀ (b : Nat) (sp : Nat → Bool) (hd : Bool), DataW.TrodAll enc P V b sp hd f.resultTypes.toList (v.resultList f.resultTypes.size) (s.fn H (ds ++ gs)).results [])
    (hargs : ∀ sp : Nat → Bool, (∀ p ∈ before, sp p.block = true) → DataW.TrodAll enc P V 0 sp true f.params.toList args.toList (s.fn H (ds ++ gs)).args pa)
    (hvars : ∀ sp : Nat → Bool, (∀ p ∈ before, sp p.block = true) → DataW.TrodVars enc P V sp s.vars (s.fn H (ds ++ gs)).vars pv)
    (hps : before = pa ++ pv) (hb : Below W.heap.size W V) : s.post enc P f apart fresh handsOn false W args v V := by
  have hl : ∀ p ∈ before, (fun b => decide (b < W.heap.size)) p.block = true := fun p hp => by simpa using hW.lt p hp
  refine ⟨ds, gs, before, [], pa, pv, hW, hres _ _ _, hargs _ hl, hvars _ hl, World.keptBut_mono (fun p hp => ⟨hp, ?_⟩) (hb.frame (· ∈ before)), fun h => by cases h⟩
  rw [hps, List.mem_append] at hp
  exact Or.inr hp

theorem own : ownKnob Try.prog.godebug = none := by kernel_rfl
theorem laid : laidOutB Try.prog = true := by kernel_rfl

set_option maxRecDepth 100000 in
theorem lifted (os : Os) (started : os.Started) (H : Type) (enc : TypeId × Value → H) :
    ReturnsInHanded {} Try.checked os 5 .any (Rows.shapeTicksSpec.pre6 enc Try.prog Try.f5 Rows.shapeTicksRow.domain false) (Rows.shapeTicksSpec.post enc Try.prog Try.f5 false true false false) := by
  refine returnsInHanded_of_change (C := Try.checked) own started (by kernel_rfl) Try.func5
    (ChangeSpec.witness6 (enc := enc) (C := Try.checked) false ⟨#[], #[.slice none 0 0, .int .i64 0], []⟩ 8 (by kernel_rfl) (by kernel_rfl) (by kernel_rfl) (by kernel_rfl)) ?_
  intro W base args ds gs before hval0 hW hcnd _
  have hval : ∀ (j : Nat) t v, Try.f5.params[j]? = some t → args[j]? = some v → Value.okWide Try.prog W .any base t v := hval0
  have hW' := hW
  obtain ⟨p, q, hA0, hV, rfl, hfz, hnd⟩ := hW
  have hA : DataW.TrodAll enc Try.prog W 0 (fun _ => true) true Try.f5.params.toList args.toList ds p := hA0
  rw [Try.params5] at hA hval
  obtain ⟨v0, vs0, d0, ds0, p0, q0, hargs, rfl, rfl, h0, r0⟩ := trodAll_cons hA
  obtain ⟨v1, vs1, d1, ds1, p1, q1, rfl, rfl, rfl, h1, r1⟩ := trodAll_cons r0
  obtain ⟨rfl, rfl, rfl⟩ := trodAll_nil r1
  obtain rfl : args = #[v0, v1] := by cases args; simp_all
  obtain ⟨rfl, rfl⟩ := trodVars_none hV
  obtain ⟨a0, w0⟩ := open_tape (hval 0 22 v0 rfl rfl) h0
  obtain ⟨a1, rfl, rfl, rfl, w1⟩ := open_int Try.underlying2 (hval 1 2 v1 rfl rfl) h1
  clear hA0 hval0
  simp only [List.append_nil] at hW'
  refine (shapeTicks_walk (w := W) v0 a0 a1 w0).mono fun e W' ⟨he, hg⟩ => ?_
  subst he
  exact ⟨_, rfl, post_below (pv := []) hW' (fun _ _ _ => (trodAll_cons_mk (shut_bool Try.underlying4 _) trodAll_mk0)) (fun sp hsp => (trodAll_cons_mk (WideElems.Trod_stays laid (by kernel_rfl) (of_decide_eq_true (by kernel_rfl)) h0 (fun x hx => hg.same (by simpa using hW'.lt x (by simp [hx]))) (fun x hx => hsp x (by simp [hx]))) (trodAll_cons_mk (shut_int Try.underlying2 w1) trodAll_mk0))) (fun _ _ => rfl) (by simp) hg⟩

theorem over : Rows.shapeTicksRow.holds Try.pinned (OpenSpec.ofChange Rows.shapeTicksSpec) :=
  OpenClaim.holds_of_wide 5 Try.f5 rfl rfl rfl rfl rfl rfl rfl ⟨rfl, rfl, rfl, rfl, rfl⟩ rfl rfl rfl rfl rfl (by kernel_rfl) Try.func5 (by kernel_rfl)
    (of_decide_eq_true (by kernel_rfl)) (by unfold Func.isWrapper; first | (rw [if_pos (by decide +kernel)]; kernel_rfl) | (rw [if_neg (by decide +kernel)]; exact ⟨rfl, rfl⟩))
    (fun os started H enc _ => lifted os started H enc)

end Go.Proofs.Ytglbfpjjnboeaaa.shapeTicks
namespace Go.Proofs.Ytglbfpjjnboeaaa
theorem shapeTicks_holds : Rows.ShapeTicksSaid := shapeTicks.over
#print axioms shapeTicks_holds
end Go.Proofs.Ytglbfpjjnboeaaa
