/- ShapeMade of the statements: whatever the numbers are, the call returns true and each argument reads as it did; no condition. -/
import Derived.Test.YtglbfpjjnboeaaaTV
import Derived.Laws.Rows
import Derived.Test.YtglbfpjjnboeaaaPM
import Derived.Test.YtglbfpjjnboeaaaPC
import Derived.Test.YtglbfpjjnboeaaaTK5
import Derived.Deep.DeepCutAuto
import Derived.BigRegion
import Derived.Test.YtglbfpjjnboeaaaC
import Derived.Test.YtglbfpjjnboeaaaT
import Derived.Test.YtglbfpjjnboeaaaE4
import Derived.Test.YtglbfpjjnboeaaaTail
import Derived.Test.YtglbfpjjnboeaaaQ8
import Derived.Test.YtglbfpjjnboeaaaTB7
import Derived.Test.YtglbfpjjnboeaaaT5
import Derived.Deep.Slices
import Derived.ChangeSame
import Derived.Test.YtglbfpjjnboeaaaRows
import Derived.WalkKit
import Derived.ProofKit
import Derived.OpenShut
import Derived.Carry
namespace Go.Proofs.Ytglbfpjjnboeaaa
open Go Go.RowKit
open M

theorem int0 (n : Nat) : ((n : Int) == 0) = decide (n = 0) := by by_cases h : n = 0 <;> simp [h]

set_option maxRecDepth 100000 in
set_option maxHeartbeats 4000000 in
theorem sh_form {w : World} {s : Shp} (h : ShIn w s) : Calls Try.prog 24 #[.agg (shC s)] w fun e w' => e = .returned (.bool (formOk s)) ∧ Below w.heap.size w w' := by
  obtain ⟨lW, aW, cW, eW⟩ := h.W.len
  obtain ⟨lH, aH, cH, eH⟩ := h.H.len
  obtain ⟨lP, aP, cP, eP⟩ := h.P.len
  clear h
  obtain ⟨form, n, W, vW, H, vH, P, vP, fill, rule, kind, a, b, p, q, r, C, vC, stroke, Wd, vWd, line, cap, D, vD, F, vF, T, vT⟩ := s
  simp only at eW eH eP lW lH lP
  subst eW eH eP
  obtain ⟨K, hK⟩ : ∃ K, formOk ⟨form, n, W, .slice aW W.length cW, H, .slice aH H.length cH, P, .slice aP P.length cP, fill, rule, kind, a, b, p, q, r, C, vC, stroke, Wd, vWd, line, cap, D, vD, F, vF, T, vT⟩ = K := ⟨_, rfl⟩
  have EK := Lib.hid hK
  rw [hK]
  clear hK
  go_enter Try.func24, Try.ntmps24
  go_wp2_with fail
  all_goals
    go_ret
    refine ⟨?_, (Below.refl _ _).alloc (Nat.le_refl _) _⟩
    rw [← EK.out]
    clear EK
    unfold formOk
    have zP : ((P.length : Int) == 0) = decide (P.length = 0) := int0 _
    have zW : ((W.length : Int) == 0) = decide (W.length = 0) := int0 _
    have zH : ((H.length : Int) == 0) = decide (H.length = 0) := int0 _
    first
      | (simp_all; done)
      | (simp_all; omega; done)
      | (rw [zP]; simp_all; done)
      | (rw [zH]; simp_all; done)
      | (rw [zW]; simp_all; done)

/-- A shape that a call has by value lies in a block of its own. -/
theorem ShIn.start {w W : World} {B : Nat} {s : Shp} (h : ShIn w s) (hB : w.heap.size = B) (hW : w.alloc (.cells (shC s) 37) = W) : ShIn W s ∧ Has W B (shC s) 37 ∧ Below B w W := by
  have hb : Below w.heap.size w W := by rw [← hW]; exact (Below.refl _ _).alloc (Nat.le_refl _) _
  exact ⟨h.below hb, by rw [← hW]; exact has_new hB, by rw [← hB]; exact hb⟩

set_option maxRecDepth 100000 in
set_option maxHeartbeats 4000000 in
theorem sh_outline {w : World} {s : Shp} (h : ShIn w s) : Calls Try.prog 25 #[.agg (shC s)] w fun e w' => e = .returned (.bool (lineOk s)) ∧ Below w.heap.size w w' := by
  obtain ⟨B, hB⟩ : ∃ B, w.heap.size = B := ⟨_, rfl⟩
  obtain ⟨W, hW⟩ : ∃ W, w.alloc (.cells (shC s) 37) = W := ⟨_, rfl⟩
  obtain ⟨hi, hk, hb⟩ := h.start hB hW
  have HBB := Lib.hid hB
  have HW := Lib.hid hW
  obtain ⟨x, hx⟩ : ∃ x, right s.W = x := ⟨_, rfl⟩
  obtain ⟨y, hy⟩ : ∃ x, right s.H = x := ⟨_, rfl⟩
  obtain ⟨z, hz⟩ : ∃ x, keysOk s.P = x := ⟨_, rfl⟩
  have C1 : Hid (∀ w', Below W.heap.size W w' → Calls Try.prog 44 #[s.vW] w' fun e w'' => e = .returned (.bool x) ∧ Below w'.heap.size w' w'') := Lib.hid (fun w' h' => by rw [← hx]; exact k_right (hi.below h').W)
  have C2 : Hid (∀ w', Below W.heap.size W w' → Calls Try.prog 44 #[s.vH] w' fun e w'' => e = .returned (.bool y) ∧ Below w'.heap.size w' w'') := Lib.hid (fun w' h' => by rw [← hy]; exact k_right (hi.below h').H)
  have C3 : Hid (∀ w', Below W.heap.size W w' → Calls Try.prog 45 #[s.vP] w' fun e w'' => e = .returned (.bool z) ∧ Below w'.heap.size w' w'') := Lib.hid (fun w' h' => by rw [← hz]; exact p_keysG (hi.below h').P)
  have E : lineOk s = (x && y && z) := by unfold lineOk; rw [hx, hy, hz]
  rw [E]
  clear E
  have F : ∀ w', Below W.heap.size W w' → ∀ j u, (shC s)[j]? = some u → w'.cell? ⟨B, j, none⟩ = some u := fun w' h' j u hu => (hk.below h' hk.lt).cell j u hu
  have HF := Lib.hid F
  have R0 : Hid (Below W.heap.size W W) := Lib.hid (Below.refl _ _)
  have hFin : ∀ w', Below W.heap.size W w' → Below w.heap.size w w' := fun w' h' => by rw [hB]; exact hb.trans (h'.mono (by have := hk.lt; omega))
  have FIN := Lib.hid hFin
  clear hi hk hb hW hx hy hz F h hFin
  go_enter Try.func25, Try.ntmps25
  have f2 := HF.out W R0.out 2 _ rfl
  go_wp2_with fail
  rw [HW.out]
  clear hB
  refine (C1.out _ R0.out).mono ?_
  rintro e w1 ⟨rfl, q1⟩
  have R1 := Lib.hid (R0.out.trans (q1.mono R0.out.size))
  clear q1 f2
  cases x
  · go_wp2
    go_ret
    exact ⟨rfl, FIN.out _ R1.out⟩
  have f3 := HF.out w1 R1.out 3 _ rfl
  go_wp2_with fail
  refine (C2.out _ R1.out).mono ?_
  rintro e w2 ⟨rfl, q2⟩
  have R2 := Lib.hid (R1.out.trans (q2.mono R1.out.size))
  clear q2 f3
  cases y
  · go_wp2
    go_ret
    exact ⟨rfl, FIN.out _ R2.out⟩
  have f4 := HF.out w2 R2.out 4 _ rfl
  go_wp2_with fail
  refine (C3.out _ R2.out).mono ?_
  rintro e w3 ⟨rfl, q3⟩
  have R3 := Lib.hid (R2.out.trans (q3.mono R2.out.size))
  clear q3 f4
  go_wp2
  go_ret
  exact ⟨by simp, FIN.out _ R3.out⟩

theorem sh_near (a : Int) (w : World) : Calls Try.prog 63 #[.int .i64 a] w fun e w' => e = .returned (.bool (nearN a)) ∧ Below w.heap.size w w' := by
  obtain ⟨K, hK⟩ : ∃ K, nearN a = K := ⟨_, rfl⟩
  have EK := Lib.hid hK
  rw [hK]
  clear hK
  go_enter Try.func63, Try.ntmps63
  go_wp2
  all_goals
    go_ret
    refine ⟨?_, Below.refl _ _⟩
    rw [← EK.out]
    clear EK
    unfold nearN
    first | (simp_all; done) | (simp_all; omega; done)
set_option maxRecDepth 100000 in
set_option maxHeartbeats 4000000 in
theorem sh_paint (k : Int) (a b : Cr) (p q : Pt) (r : Int) (w : World) : Calls Try.prog 46 #[.agg (paC k a b p q r)] w fun e w' => e = .returned (.bool (decide (k = 0 ∨ k = 1 ∨ k = 2) && (nearN p.x && nearN p.y && nearN q.x && nearN q.y && nearN r))) ∧ Below w.heap.size w w' := by
  obtain ⟨px, py⟩ := p
  obtain ⟨qx, qy⟩ := q
  simp only
  obtain ⟨n0, h0⟩ : ∃ x, nearN px = x := ⟨_, rfl⟩
  have N0 : Hid (∀ w, Calls Try.prog 63 #[.int .i64 px] w fun e w' => e = .returned (.bool n0) ∧ Below w.heap.size w w') := Lib.hid (fun w => by rw [← h0]; exact sh_near _ w)
  obtain ⟨n1, h1⟩ : ∃ x, nearN py = x := ⟨_, rfl⟩
  have N1 : Hid (∀ w, Calls Try.prog 63 #[.int .i64 py] w fun e w' => e = .returned (.bool n1) ∧ Below w.heap.size w w') := Lib.hid (fun w => by rw [← h1]; exact sh_near _ w)
  obtain ⟨n2, h2⟩ : ∃ x, nearN qx = x := ⟨_, rfl⟩
  have N2 : Hid (∀ w, Calls Try.prog 63 #[.int .i64 qx] w fun e w' => e = .returned (.bool n2) ∧ Below w.heap.size w w') := Lib.hid (fun w => by rw [← h2]; exact sh_near _ w)
  obtain ⟨n3, h3⟩ : ∃ x, nearN qy = x := ⟨_, rfl⟩
  have N3 : Hid (∀ w, Calls Try.prog 63 #[.int .i64 qy] w fun e w' => e = .returned (.bool n3) ∧ Below w.heap.size w w') := Lib.hid (fun w => by rw [← h3]; exact sh_near _ w)
  obtain ⟨n4, h4⟩ : ∃ x, nearN r = x := ⟨_, rfl⟩
  have N4 : Hid (∀ w, Calls Try.prog 63 #[.int .i64 r] w fun e w' => e = .returned (.bool n4) ∧ Below w.heap.size w w') := Lib.hid (fun w => by rw [← h4]; exact sh_near _ w)
  rw [h0, h1, h2, h3, h4]
  clear h0 h1 h2 h3 h4
  obtain ⟨B, hB⟩ : ∃ B, w.heap.size = B := ⟨_, rfl⟩
  by_cases hk : k = 0 ∨ k = 1 ∨ k = 2
  · rw [decide_eq_true hk]
    obtain ⟨W, hW⟩ : ∃ W, w.alloc (.cells (paC k a b ⟨px, py⟩ ⟨qx, qy⟩ r) 33) = W := ⟨_, rfl⟩
    have hkk : Has W B (paC k a b ⟨px, py⟩ ⟨qx, qy⟩ r) 33 := by rw [← hW]; exact has_new hB
    have hb : Below B w W := by rw [← hW]; exact (Below.refl _ _).alloc (by omega) _
    have HF := Lib.hid (show ∀ w', Below W.heap.size W w' → ∀ j u, (paC k a b ⟨px, py⟩ ⟨qx, qy⟩ r)[j]? = some u → w'.cell? ⟨B, j, none⟩ = some u from fun w' h' j u hu => (hkk.below h' hkk.lt).cell j u hu)
    have R0 : Hid (Below W.heap.size W W) := Lib.hid (Below.refl _ _)
    have FIN := Lib.hid (show ∀ w', Below W.heap.size W w' → Below w.heap.size w w' from fun w' h' => by rw [hB]; exact hb.trans (h'.mono (by have := hkk.lt; omega)))
    have HW := Lib.hid hW
    clear hkk hb hW
    rcases hk with rfl | rfl | rfl
    all_goals
      go_enter Try.func46, Try.ntmps46
      go_wp2_with fail
      rw [HW.out]
      clear hB
      refine (N0.out _).mono ?_
      rintro e w1 ⟨rfl, q1⟩
      have R1 := Lib.hid (R0.out.trans (q1.mono R0.out.size))
      clear q1
      cases n0
      · go_wp2
        go_ret
        exact ⟨rfl, FIN.out _ R1.out⟩
      have g10 := HF.out w1 R1.out 10 _ rfl
      go_wp2_with fail
      refine (N1.out _).mono ?_
      rintro e w2 ⟨rfl, q2⟩
      have R2 := Lib.hid (R1.out.trans (q2.mono R1.out.size))
      clear q2
      cases n1
      · go_wp2
        go_ret
        exact ⟨rfl, FIN.out _ R2.out⟩
      have g11 := HF.out w2 R2.out 11 _ rfl
      go_wp2_with fail
      refine (N2.out _).mono ?_
      rintro e w3 ⟨rfl, q3⟩
      have R3 := Lib.hid (R2.out.trans (q3.mono R2.out.size))
      clear q3
      cases n2
      · go_wp2
        go_ret
        exact ⟨rfl, FIN.out _ R3.out⟩
      have g12 := HF.out w3 R3.out 12 _ rfl
      go_wp2_with fail
      refine (N3.out _).mono ?_
      rintro e w4 ⟨rfl, q4⟩
      have R4 := Lib.hid (R3.out.trans (q4.mono R3.out.size))
      clear q4
      cases n3
      · go_wp2
        go_ret
        exact ⟨rfl, FIN.out _ R4.out⟩
      have g13 := HF.out w4 R4.out 13 _ rfl
      go_wp2_with fail
      refine (N4.out _).mono ?_
      rintro e w5 ⟨rfl, q5⟩
      have R5 := Lib.hid (R4.out.trans (q5.mono R4.out.size))
      clear q5
      go_wp2
      go_ret
      exact ⟨by simp, FIN.out _ R5.out⟩
  · rw [decide_eq_false hk]
    have h0 : (k == 0) = false := by simp; omega
    have h1 : (k == 1) = false := by simp; omega
    have h2 : (k == 2) = false := by simp; omega
    clear hB
    go_enter Try.func46, Try.ntmps46
    go_wp2
    go_ret
    exact ⟨rfl, (Below.refl _ _).alloc (Nat.le_refl _) _⟩

set_option maxRecDepth 100000 in
set_option maxHeartbeats 4000000 in
theorem sh_fill {w : World} {s : Shp} (h : ShIn w s) : Calls Try.prog 26 #[.agg (shC s)] w fun e w' => e = .returned (.bool (fillOk s)) ∧ Below w.heap.size w w' := by
  obtain ⟨B, hB⟩ : ∃ B, w.heap.size = B := ⟨_, rfl⟩
  obtain ⟨W, hW⟩ : ∃ W, w.alloc (.cells (shC s) 37) = W := ⟨_, rfl⟩
  obtain ⟨hi, hk, hb⟩ := h.start hB hW
  have HBB := Lib.hid hB
  have HW := Lib.hid hW
  obtain ⟨y, hy⟩ : ∃ x, paintOk s = x := ⟨_, rfl⟩
  obtain ⟨z, hz⟩ : ∃ x, right (bares s.C) = x := ⟨_, rfl⟩
  have C1 : Hid (∀ w', Below W.heap.size W w' → Calls Try.prog 46 #[.agg (paC s.kind s.a s.b s.p s.q s.r)] w' fun e w'' => e = .returned (.bool y) ∧ Below w'.heap.size w' w'') := Lib.hid (fun w' h' => by rw [← hy]; exact sh_paint s.kind s.a s.b s.p s.q s.r w')
  have C2 : Hid (∀ w', Below W.heap.size W w' → Calls Try.prog 47 #[s.vC] w' fun e w'' => e = .returned (.bool z) ∧ Below w'.heap.size w' w'') := Lib.hid (fun w' h' => by rw [← hz]; exact h_right (hi.below h').C)
  have E : fillOk s = (decide (s.rule = 0 ∨ s.rule = 1) && y && z) := by unfold fillOk; rw [hy, hz]
  rw [E]
  clear E
  have F : ∀ w', Below W.heap.size W w' → ∀ j u, (shC s)[j]? = some u → w'.cell? ⟨B, j, none⟩ = some u := fun w' h' j u hu => (hk.below h' hk.lt).cell j u hu
  have HF := Lib.hid F
  have R0 : Hid (Below W.heap.size W W) := Lib.hid (Below.refl _ _)
  have hFin : ∀ w', Below W.heap.size W w' → Below w.heap.size w w' := fun w' h' => by rw [hB]; exact hb.trans (h'.mono (by have := hk.lt; omega))
  have FIN := Lib.hid hFin
  clear hi hk hb hW hy hz F h hFin
  by_cases hr : s.rule = 0 ∨ s.rule = 1
  · rw [decide_eq_true hr]
    have f6 := HF.out W R0.out 6 _ rfl
    rcases hr with hr | hr
    all_goals
      go_enter Try.func26, Try.ntmps26
      have f7 := HF.out W R0.out 7 _ rfl
      have f8 := HF.out W R0.out 8 _ rfl
      have f9 := HF.out W R0.out 9 _ rfl
      have f10 := HF.out W R0.out 10 _ rfl
      have f11 := HF.out W R0.out 11 _ rfl
      have f12 := HF.out W R0.out 12 _ rfl
      have f13 := HF.out W R0.out 13 _ rfl
      have f14 := HF.out W R0.out 14 _ rfl
      have f15 := HF.out W R0.out 15 _ rfl
      have f16 := HF.out W R0.out 16 _ rfl
      have f17 := HF.out W R0.out 17 _ rfl
      have f18 := HF.out W R0.out 18 _ rfl
      have f19 := HF.out W R0.out 19 _ rfl
      have f20 := HF.out W R0.out 20 _ rfl
      go_wp2_with fail
      rw [HW.out]
      clear hB
      refine (C1.out _ R0.out).mono ?_
      rintro e w1 ⟨rfl, q1⟩
      have R1 := Lib.hid (R0.out.trans (q1.mono R0.out.size))
      clear q1 f7 f8 f9 f10 f11 f12 f13 f14 f15 f16 f17 f18 f19 f20
      cases y
      · go_wp2
        go_ret
        exact ⟨rfl, FIN.out _ R1.out⟩
      have f21 := HF.out w1 R1.out 21 _ rfl
      go_wp2_with fail
      refine (C2.out _ R1.out).mono ?_
      rintro e w2 ⟨rfl, q2⟩
      have R2 := Lib.hid (R1.out.trans (q2.mono R1.out.size))
      clear q2 f21
      go_wp2
      go_ret
      exact ⟨by simp, FIN.out _ R2.out⟩
  · rw [decide_eq_false hr]
    have f6 := HF.out W R0.out 6 _ rfl
    have h0 : (s.rule == 0) = false := by simp; omega
    have h1 : (s.rule == 1) = false := by simp; omega
    go_enter Try.func26, Try.ntmps26
    go_wp2
    go_ret
    refine ⟨rfl, ?_⟩
    rw [HW.out]
    exact FIN.out _ R0.out

set_option maxRecDepth 100000 in
set_option maxHeartbeats 4000000 in
theorem sh_line {w : World} {s : Shp} (h : ShIn w s) : Calls Try.prog 27 #[.agg (shC s)] w fun e w' => e = .returned (.bool (drawOk s)) ∧ Below w.heap.size w w' := by
  obtain ⟨B, hB⟩ : ∃ B, w.heap.size = B := ⟨_, rfl⟩
  obtain ⟨W, hW⟩ : ∃ W, w.alloc (.cells (shC s) 37) = W := ⟨_, rfl⟩
  obtain ⟨hi, hk, hb⟩ := h.start hB hW
  have HBB := Lib.hid hB
  have HW := Lib.hid hW
  obtain ⟨x1, hx1⟩ : ∃ x, right s.Wd = x := ⟨_, rfl⟩
  obtain ⟨x2, hx2⟩ : ∃ x, right s.F = x := ⟨_, rfl⟩
  obtain ⟨x3, hx3⟩ : ∃ x, right s.T = x := ⟨_, rfl⟩
  obtain ⟨x4, hx4⟩ : ∃ x, okD s.D = x := ⟨_, rfl⟩
  have C1 : Hid (∀ w', Below W.heap.size W w' → Calls Try.prog 44 #[s.vWd] w' fun e w'' => e = .returned (.bool x1) ∧ Below w'.heap.size w' w'') := Lib.hid (fun w' h' => by rw [← hx1]; exact k_right (hi.below h').Wd)
  have C2 : Hid (∀ w', Below W.heap.size W w' → Calls Try.prog 44 #[s.vF] w' fun e w'' => e = .returned (.bool x2) ∧ Below w'.heap.size w' w'') := Lib.hid (fun w' h' => by rw [← hx2]; exact k_right (hi.below h').F)
  have C3 : Hid (∀ w', Below W.heap.size W w' → Calls Try.prog 44 #[s.vT] w' fun e w'' => e = .returned (.bool x3) ∧ Below w'.heap.size w' w'') := Lib.hid (fun w' h' => by rw [← hx3]; exact k_right (hi.below h').T)
  have C4 : Hid (∀ w', Below W.heap.size W w' → Calls Try.prog 48 #[s.vD] w' fun e w'' => e = .returned (.bool x4) ∧ Below w'.heap.size w' w'') := Lib.hid (fun w' h' => by rw [← hx4]; exact below_of (d_right (hi.below h').D))
  obtain ⟨cp, hcp⟩ : ∃ x, decide (s.cap = 0 ∨ s.cap = 1) = x := ⟨_, rfl⟩
  have E : drawOk s = (x1 && x2 && x3 && cp && x4) := by unfold drawOk; rw [hx1, hx2, hx3, hx4, hcp]
  have HCP := Lib.hid hcp
  clear hcp
  rw [E]
  clear E
  have F : ∀ w', Below W.heap.size W w' → ∀ j u, (shC s)[j]? = some u → w'.cell? ⟨B, j, none⟩ = some u := fun w' h' j u hu => (hk.below h' hk.lt).cell j u hu
  have HF := Lib.hid F
  have R0 : Hid (Below W.heap.size W W) := Lib.hid (Below.refl _ _)
  have hFin : ∀ w', Below W.heap.size W w' → Below w.heap.size w w' := fun w' h' => by rw [hB]; exact hb.trans (h'.mono (by have := hk.lt; omega))
  have FIN := Lib.hid hFin
  clear hi hk hb hW hx1 hx2 hx3 hx4 F h hFin
  go_enter Try.func27, Try.ntmps27
  have f23 := HF.out W R0.out 23 _ rfl
  go_wp2_with fail
  rw [HW.out]
  clear hB
  refine (C1.out _ R0.out).mono ?_
  rintro e w1 ⟨rfl, q1⟩
  have R1 := Lib.hid (R0.out.trans (q1.mono R0.out.size))
  clear q1 f23
  cases x1
  · go_wp2
    go_ret
    exact ⟨rfl, FIN.out _ R1.out⟩
  have f30 := HF.out w1 R1.out 30 _ rfl
  go_wp2_with fail
  refine (C2.out _ R1.out).mono ?_
  rintro e w2 ⟨rfl, q2⟩
  have R2 := Lib.hid (R1.out.trans (q2.mono R1.out.size))
  clear q2 f30
  cases x2
  · go_wp2
    go_ret
    exact ⟨rfl, FIN.out _ R2.out⟩
  have f31 := HF.out w2 R2.out 31 _ rfl
  go_wp2_with fail
  refine (C3.out _ R2.out).mono ?_
  rintro e w3 ⟨rfl, q3⟩
  have R3 := Lib.hid (R2.out.trans (q3.mono R2.out.size))
  clear q3 f31
  cases x3
  · go_wp2
    go_ret
    exact ⟨rfl, FIN.out _ R3.out⟩
  have f28 := HF.out w3 R3.out 28 _ rfl
  by_cases hc : s.cap = 0 ∨ s.cap = 1
  · obtain rfl : cp = true := by rw [← HCP.out]; exact decide_eq_true hc
    rcases hc with hc | hc
    all_goals
      have f29 := HF.out w3 R3.out 29 _ rfl
      go_wp2_with fail
      refine (C4.out _ R3.out).mono ?_
      rintro e w4 ⟨rfl, q4⟩
      have R4 := Lib.hid (R3.out.trans (q4.mono R3.out.size))
      clear q4 f29
      go_wp2
      go_ret
      exact ⟨rfl, FIN.out _ R4.out⟩
  · obtain rfl : cp = false := by rw [← HCP.out]; exact decide_eq_false hc
    have h0 : (s.cap == 0) = false := by simp; omega
    have h1 : (s.cap == 1) = false := by simp; omega
    go_wp2
    go_ret
    exact ⟨rfl, FIN.out _ R3.out⟩

end Go.Proofs.Ytglbfpjjnboeaaa

namespace Go.Proofs.Ytglbfpjjnboeaaa
open Go Go.RowKit
open M

set_option maxRecDepth 100000 in
set_option maxHeartbeats 4000000 in
theorem sh_right {w : World} {s : Shp} (h : ShIn w s) : Calls Try.prog 8 #[.agg (shC s)] w fun e w' => e = .returned (.bool (okS s)) ∧ Below w.heap.size w w' := by
  obtain ⟨B, hB⟩ : ∃ B, w.heap.size = B := ⟨_, rfl⟩
  obtain ⟨W, hW⟩ : ∃ W, w.alloc (.cells (shC s) 37) = W := ⟨_, rfl⟩
  obtain ⟨hi, hk, hb⟩ := h.start hB hW
  have HBB := Lib.hid hB
  have HW := Lib.hid hW
  obtain ⟨y1, hy1⟩ : ∃ x, formOk s = x := ⟨_, rfl⟩
  obtain ⟨y2, hy2⟩ : ∃ x, lineOk s = x := ⟨_, rfl⟩
  obtain ⟨y3, hy3⟩ : ∃ x, fillOk s = x := ⟨_, rfl⟩
  obtain ⟨y4, hy4⟩ : ∃ x, drawOk s = x := ⟨_, rfl⟩
  have C1 : Hid (∀ w', Below W.heap.size W w' → Calls Try.prog 24 #[.agg (shC s)] w' fun e w'' => e = .returned (.bool y1) ∧ Below w'.heap.size w' w'') := Lib.hid (fun w' h' => by rw [← hy1]; exact sh_form (hi.below h'))
  have C2 : Hid (∀ w', Below W.heap.size W w' → Calls Try.prog 25 #[.agg (shC s)] w' fun e w'' => e = .returned (.bool y2) ∧ Below w'.heap.size w' w'') := Lib.hid (fun w' h' => by rw [← hy2]; exact sh_outline (hi.below h'))
  have C3 : Hid (∀ w', Below W.heap.size W w' → Calls Try.prog 26 #[.agg (shC s)] w' fun e w'' => e = .returned (.bool y3) ∧ Below w'.heap.size w' w'') := Lib.hid (fun w' h' => by rw [← hy3]; exact sh_fill (hi.below h'))
  have C4 : Hid (∀ w', Below W.heap.size W w' → Calls Try.prog 27 #[.agg (shC s)] w' fun e w'' => e = .returned (.bool y4) ∧ Below w'.heap.size w' w'') := Lib.hid (fun w' h' => by rw [← hy4]; exact sh_line (hi.below h'))
  have E : okS s = (y1 && y2 && y3 && y4) := by unfold okS; rw [hy1, hy2, hy3, hy4]
  rw [E]
  clear E
  have HG := Lib.hid (show ∀ w', Below W.heap.size W w' → Has w' B (shC s) 37 from fun w' h' => hk.below h' hk.lt)
  have R0 : Hid (Below W.heap.size W W) := Lib.hid (Below.refl _ _)
  have hFin : ∀ w', Below W.heap.size W w' → Below w.heap.size w w' := fun w' h' => by rw [hB]; exact hb.trans (h'.mono (by have := hk.lt; omega))
  have FIN := Lib.hid hFin
  clear hi hk hb hW hy1 hy2 hy3 hy4 h hFin
  go_enter Try.func8, Try.ntmps8
  go_upto_region 1 with fail
  rw [HW.out]
  clear hB
  have hg := HG.out W R0.out
  go_wp2_with (first | (refine wpList_load_row rfl 37 _ rfl B rfl 37 _ (0, 0) _ hg Try.underlying37 rfl (by kernel_rfl) ?_) | (refine BigFrame.wpList_want (by rfl) (fun K hK => wp_load_row 37 _ rfl B rfl 37 _ (0, 0) _ hg Try.underlying37 rfl (by kernel_rfl) (hK _ _ ?_))))
  refine (C1.out _ R0.out).mono ?_
  rintro e w1 ⟨rfl, q1⟩
  have R1 := Lib.hid (R0.out.trans (q1.mono R0.out.size))
  clear q1 hg
  cases y1
  · go_wp2
    go_ret
    exact ⟨rfl, FIN.out _ R1.out⟩
  have hg := HG.out w1 R1.out
  go_wp2_with (first | (refine wpList_load_row rfl 37 _ rfl B rfl 37 _ (0, 0) _ hg Try.underlying37 rfl (by kernel_rfl) ?_) | (refine BigFrame.wpList_want (by rfl) (fun K hK => wp_load_row 37 _ rfl B rfl 37 _ (0, 0) _ hg Try.underlying37 rfl (by kernel_rfl) (hK _ _ ?_))))
  refine (C2.out _ R1.out).mono ?_
  rintro e w2 ⟨rfl, q2⟩
  have R2 := Lib.hid (R1.out.trans (q2.mono R1.out.size))
  clear q2 hg
  cases y2
  · go_wp2
    go_ret
    exact ⟨rfl, FIN.out _ R2.out⟩
  have hg := HG.out w2 R2.out
  go_wp2_with (first | (refine wpList_load_row rfl 37 _ rfl B rfl 37 _ (0, 0) _ hg Try.underlying37 rfl (by kernel_rfl) ?_) | (refine BigFrame.wpList_want (by rfl) (fun K hK => wp_load_row 37 _ rfl B rfl 37 _ (0, 0) _ hg Try.underlying37 rfl (by kernel_rfl) (hK _ _ ?_))))
  refine (C3.out _ R2.out).mono ?_
  rintro e w3 ⟨rfl, q3⟩
  have R3 := Lib.hid (R2.out.trans (q3.mono R2.out.size))
  clear q3 hg
  cases y3
  · go_wp2
    go_ret
    exact ⟨rfl, FIN.out _ R3.out⟩
  have hg := HG.out w3 R3.out
  go_wp2_with (first | (refine wpList_load_row rfl 37 _ rfl B rfl 37 _ (0, 0) _ hg Try.underlying37 rfl (by kernel_rfl) ?_) | (refine BigFrame.wpList_want (by rfl) (fun K hK => wp_load_row 37 _ rfl B rfl 37 _ (0, 0) _ hg Try.underlying37 rfl (by kernel_rfl) (hK _ _ ?_))))
  refine (C4.out _ R3.out).mono ?_
  rintro e w4 ⟨rfl, q4⟩
  have R4 := Lib.hid (R3.out.trans (q4.mono R3.out.size))
  clear q4 hg
  go_wp2
  go_ret
  exact ⟨by simp, FIN.out _ R4.out⟩

end Go.Proofs.Ytglbfpjjnboeaaa

namespace Go.Proofs.Ytglbfpjjnboeaaa
open Go Go.RowKit
open M

theorem wp_append_pl {W : World} {base : Nat} {l : Value} {rs : List Pt} {op : Oper} {a : Act} {K : Act → World → Prop} {Q : Exit → Act → World → Prop} (s x : Operand)
    (hop : op.op = .call { callee := .builtin .append, args := #[s, x], argTypes := #[39, 39] }) (N : Nat) (hN : rs.length = N) (hs : a.eval s = l) (H o m c2 : Nat) (hx : a.eval x = .slice (some ⟨H, o, none⟩) m c2)
    (news : List Pt) (hm : news.length = m) (hm0 : 0 < m) (hf : N + m ≤ 8796093022208) (hr : Prow W H o news) (hT : Pown W base l rs) (hb : base ≤ W.heap.size)
    (h : ∀ g' cap' w', Pown w' base (.slice (some ⟨g', 0, none⟩) (N + m) cap') (rs ++ news) → W.grownBy w' l.ownBlock → (l.ownBlock = some g' ∨ W.heap.size ≤ g') → K (a.put op.dst (.slice (some ⟨g', 0, none⟩) (N + m) cap')) w') : op.wp Try.prog a W K Q := by
  obtain ⟨i0, hi, hz0, hz1, hz2⟩ := info_parts Try.infoPt
  subst hN
  refine wp_append_lies W s x 39 hop base 31 i0 _ 2 16 Try.underlying39 hi hz0 hz1 hz2 rfl (by decide) l rs.length (pls rs) hs hT ⟨H, o, none⟩ m c2 (pls news) hx (by rw [pls_length, hm]) ?_ (ones_pls news) hm0 (by unfold maxLen; omega) (by omega) hb _ rfl ?_
  · intro j u hu
    rw [Addr.add_lit]
    exact hr.at j u hu
  intro g' cap' w' hown' hg hat _
  refine h g' cap' w' ?_ hg (hat.imp id (fun e => by omega))
  unfold Pown
  rw [List.length_append, hm, pls_append]
  exact hown'
theorem wpList_append_pl {W : World} {base : Nat} {l : Value} {rs : List Pt} {ops : Array Oper} {rest : List Oper} {op : Oper} {a : Act} {Q : Exit → Act → World → Prop} (hgd : op.guard = none) (s x : Operand)
    (hop : op.op = .call { callee := .builtin .append, args := #[s, x], argTypes := #[39, 39] }) (N : Nat) (hN : rs.length = N) (hs : a.eval s = l) (H o m c2 : Nat) (hx : a.eval x = .slice (some ⟨H, o, none⟩) m c2)
    (news : List Pt) (hm : news.length = m) (hm0 : 0 < m) (hf : N + m ≤ 8796093022208) (hr : Prow W H o news) (hT : Pown W base l rs) (hb : base ≤ W.heap.size)
    (h : ∀ g' cap' w', Pown w' base (.slice (some ⟨g', 0, none⟩) (N + m) cap') (rs ++ news) → W.grownBy w' l.ownBlock → (l.ownBlock = some g' ∨ W.heap.size ≤ g') → wpList Try.prog ops Q rest (a.put op.dst (.slice (some ⟨g', 0, none⟩) (N + m) cap')) w') : wpList Try.prog ops Q (op :: rest) a W :=
  wpList_plain hgd fun _ hK => wp_append_pl s x hop N hN hs H o m c2 hx news hm hm0 hf hr hT hb fun g' cap' w' h1 h2 h3 => hK _ _ (h g' cap' w' h1 h2 h3)
theorem step_append_pl {W : World} {base : Nat} {l : Value} {rs : List Pt} {ops : Array Oper} {op : Oper} {a : Act} {K : Act → World → Prop} {Q : Exit → Act → World → Prop} {E : Prop} (hw : Region.wanted op (yielded ops a.tmps) = true) (s x : Operand)
    (hop : op.op = .call { callee := .builtin .append, args := #[s, x], argTypes := #[39, 39] }) (N : Nat) (hN : rs.length = N) (hs : a.eval s = l) (H o m c2 : Nat) (hx : a.eval x = .slice (some ⟨H, o, none⟩) m c2)
    (news : List Pt) (hm : news.length = m) (hm0 : 0 < m) (hf : N + m ≤ 8796093022208) (hr : Prow W H o news) (hT : Pown W base l rs) (hb : base ≤ W.heap.size)
    (h : ∀ g' cap' w', Pown w' base (.slice (some ⟨g', 0, none⟩) (N + m) cap') (rs ++ news) → W.grownBy w' l.ownBlock → (l.ownBlock = some g' ∨ W.heap.size ≤ g') → K (a.put op.dst (.slice (some ⟨g', 0, none⟩) (N + m) cap')) w') :
    if Region.wanted op (yielded ops a.tmps) = true then Oper.wp Try.prog op a W K Q else E := by
  rw [if_pos hw]
  exact wp_append_pl s x hop N hN hs H o m c2 hx news hm hm0 hf hr hT hb h
theorem prow_one {w : World} (p : Pt) (t : TypeId) : Prow (w.alloc (.cells (pCells p) t)) w.heap.size 0 [p] := prow_has (cs := pCells p) (by simp) (has_new rfl) rfl

end Go.Proofs.Ytglbfpjjnboeaaa

namespace Go.Proofs.Ytglbfpjjnboeaaa
open Go Go.RowKit
open M

/-- A path that grows: in block go, its list in other blocks behind r; the result's block is r. -/
structure Grp3 (w1 : World) (r go : Nat) (c : Bool) (rs : List Pt) (l : Value) (wr : World) : Prop where
  own : Pown wr (r + 1) l rs
  out : Has wr go #[.bool c, l] 41
  res : Has wr r #[.bool false, .slice none 0 0] 41
  ne : ∀ k, l.ownBlock = some k → k ≠ go
  below : Below w1.heap.size w1 wr
  lr : w1.heap.size ≤ r
  lo : r < go
section
variable {w1 W w' : World} {r go : Nat} {c : Bool} {rs qs : List Pt} {l l' : Value}
theorem Grp3.later (h : Grp3 w1 r go c rs l W) (hq : Below W.heap.size W w') : Grp3 w1 r go c rs l w' :=
  ⟨h.own.below hq (Nat.le_refl _), h.out.below hq h.out.lt, h.res.below hq h.res.lt, h.ne, h.below.trans (hq.mono h.below.size), h.lr, h.lo⟩
theorem Grp3.away (h : Grp3 w1 r go c rs l W) : l.ownBlock ≠ some go ∧ l.ownBlock ≠ some r := ⟨fun e => h.ne _ e rfl, fun e => by have := (h.own.base r e).1; omega⟩
/-- The list has grown, and is stored. -/
theorem Grp3.put {g' n cap' : Nat} (h : Grp3 w1 r go c rs l W) (ho : Pown w' (r + 1) (.slice (some ⟨g', 0, none⟩) n cap') qs) (hg : W.grownBy w' l.ownBlock) (hat : l.ownBlock = some g' ∨ W.heap.size ≤ g') : Grp3 w1 r go c qs (.slice (some ⟨g', 0, none⟩) n cap') (w'.setCell ⟨go, 1, none⟩ (.slice (some ⟨g', 0, none⟩) n cap')) := by
  have hk : Has w' go #[.bool c, l] 41 := (hg.block go h.out.lt (fun e => h.away.1 e.symm)).trans h.out
  have hr : Has w' r #[.bool false, .slice none 0 0] 41 := (hg.block r h.res.lt (fun e => h.away.2 e.symm)).trans h.res
  have hs := h.below.size
  have h1 := h.lr
  have h2 := h.lo
  have hne : ∀ k, Value.ownBlock (.slice (some ⟨g', 0, none⟩) n cap') = some k → k ≠ go := fun k hk => by
    have e : some g' = some k := hk
    simp at e
    rcases hat with ha | ha
    · rw [← e]; exact h.ne _ ha
    · have := h.out.lt; omega
  refine ⟨ho.kept (grownBy_set (World.grownBy.refl _ _) _ _) (fun k hk e => by simp at hk; exact hne k e hk.symm), ?_, has_grown hr (grownBy_set (World.grownBy.refl _ _) _ _) (by omega), hne, ?_, h1, h2⟩
  · have := has_set hk 1 (.slice (some ⟨g', 0, none⟩) n cap')
    simpa using this
  · exact (h.below.grown hg (by omega) (fun k e => by have := (h.own.base k e).1; omega)).setCell (show w1.heap.size ≤ go by omega) _
theorem Grp3.alloc (h : Grp3 w1 r go c rs l W) (o : Obj) : Grp3 w1 r go c rs l (W.alloc o) := h.later ((Below.refl _ _).alloc (Nat.le_refl _) _)
theorem Grp3.big (h : Grp3 w1 r go c rs l W) : r + 1 ≤ W.heap.size := by have := h.out.lt; have := h.lo; omega
theorem Grp3.gives (h : Grp3 w1 r go c rs l W) (hB : w1.heap.size = r) : Gives w1 c rs (.returned (.agg #[.bool c, l])) ((W.setCell ⟨r, 0, none⟩ (.bool c)).setCell ⟨r, 1, none⟩ l) := by
  have hs : W.grownBy ((W.setCell ⟨r, 0, none⟩ (.bool c)).setCell ⟨r, 1, none⟩ l) (some r) := grownBy_set (grownBy_set (World.grownBy.refl _ _) _ _) _ _
  have lr := h.lr
  refine ⟨_, rfl, ?_, ?_⟩
  · exact (h.own.kept hs (fun k hk e => by simp at hk; exact h.away.2 (by rw [e, hk]))).lower (by omega)
  · exact (h.below.setCell (by simp; omega) _).setCell (by simp; omega) _
theorem Grp3.fine (h : Grp3 w1 r go c rs l W) (hg : W.grownBy w' l.ownBlock) : w'.cell? ⟨go, 1, none⟩ = some l ∧ w'.frozen? ⟨go, 1, none⟩ = false := by
  have hk : Has w' go #[.bool c, l] 41 := (hg.block go h.out.lt (fun e => h.away.1 e.symm)).trans h.out
  exact ⟨hk.cell 1 _ rfl, has_fro hk 1⟩
end

theorem psl_row {w : World} {g o n c : Nat} {ps : List Pt} (h : Psl w (.slice (some ⟨g, o, none⟩) n c) ps) (h0 : 0 < ps.length) : Prow w g o ps := by
  obtain ⟨_, _, hv, _, hr⟩ := h
  simp at hv
  obtain ⟨rfl, _, _⟩ := hv
  obtain ⟨_, _, e, r⟩ := hr h0
  simp at e
  obtain ⟨rfl, rfl⟩ := e
  exact r

set_option maxRecDepth 100000 in
set_option maxHeartbeats 2000000 in
theorem sh_straight {v : Value} {ps : List Pt} {w : World} (h : Psl w v ps) (h0 : 0 < ps.length) (h1 : ps.length ≤ 100) : Calls Try.prog 29 #[v] w (Gives w true (straightL ps)) := by
  obtain ⟨B, hB⟩ : ∃ B, w.heap.size = B := ⟨_, rfl⟩
  obtain ⟨W, hW⟩ : ∃ W, w.alloc (.cells #[.bool false, .slice none 0 0] 41) = W := ⟨_, rfl⟩
  have hr0 : Has W B #[.bool false, .slice none 0 0] 41 := by rw [← hW]; exact has_new hB
  have hb0 : Below B w W := by rw [← hW]; exact (Below.refl _ _).alloc (by omega) _
  have hz0 : W.heap.size = B + 1 := by rw [← hW]; simp [hB]
  have HS := Lib.hid h
  have hs := h.below hb0 (by omega)
  obtain ⟨ao, cap, rfl, hf, hr⟩ := hs
  obtain ⟨g, o, rfl, r⟩ := hr h0
  obtain ⟨N, hN⟩ : ∃ N, ps.length = N := ⟨_, rfl⟩
  have HR := Lib.hid r
  have HN := Lib.hid hN
  have HB := Lib.hid hB
  have HW := Lib.hid hW
  have p0 := r.c0 0 h0
  have p1 := r.c1 0 h0
  rw [hN] at h0 h1 ⊢
  simp only [Nat.zero_mul, Nat.add_zero] at p0 p1
  obtain ⟨p, hp⟩ : ∃ p, pt ps 0 = p := ⟨_, rfl⟩
  rw [hp] at p0 p1
  obtain ⟨V, hV⟩ : ∃ V, (W.alloc (.cells (pCells p) 31)).alloc (.cells #[.bool true, .slice (some ⟨B + 1, 0, none⟩) 1 1] 41) = V := ⟨_, rfl⟩
  have G0 : Hid (Grp3 w B (B + 1 + 1) true (strN ps 0) (.slice (some ⟨B + 1, 0, none⟩) 1 1) V) := Lib.hid (by
    have ho : Pown (W.alloc (.cells (pCells p) 31)) (B + 1) (.slice (some ⟨B + 1, 0, none⟩) 1 1) [p] := by
      have := World.ownsRow_lit (e := 31) (size := 2) (base := B + 1) W (pCells p) 1 (by omega) (by unfold maxLen; omega) rfl
      rw [hz0] at this
      exact this
    show Grp3 w B (B + 1 + 1) true [pt ps 0] _ V
    rw [hp, ← hV]
    exact ⟨ho.alloc _, has_new (by simp [hz0]), (hr0.alloc _).alloc _, fun k hk e => by have e' : some (B + 1) = some k := hk; simp at e'; omega, by rw [hB]; exact (hb0.alloc (by omega) _).alloc (by simp; omega) _, by omega, by omega⟩)
  have HV := Lib.hid hV
  have HZ := Lib.hid hz0
  have o1 : (0 : Int) < N := by omega
  have o2 : (N : Int) ≤ 100 := by omega
  clear hf r hr hN hb0 hr0 hW hV h hp
  obtain ⟨px, py⟩ := p
  simp only at p0 p1
  go_enter Try.func29, Try.ntmps29
  go_upto_region 1 with fail
  rw [HW.out]
  clear hB
  go_upto_region 2 with fail
  rw [HV.out]
  clear p0 p1 hz0
  go_wp2
  go_loopw [14] (fun i wr => ∃ (n : Nat) (l : Value), n ≤ N ∧ i = .int .i64 n ∧ Grp3 w B (B + 1 + 1) true (strN ps n) l wr) (fun i _ => N - (intOf i).toNat)
  case atStart => exact ⟨0, _, by omega, rfl, G0.out⟩
  case round =>
    clear G0
    obtain ⟨n, l, hn, rfl, hG⟩ := hrel
    have GH := Lib.hid hG
    have bw := Lib.hid hG.below
    by_cases hlt : n < N
    · have o3 : (n : Int) < N := by omega
      obtain ⟨m, hm⟩ : ∃ m : Nat, (n + 1) % N = m := ⟨_, rfl⟩
      have hmN : m < N := by rw [← hm]; exact Nat.mod_lt _ h0
      have e1 : ((n : Int) + 1) % (N : Int) = (m : Int) := by rw [← hm]; rfl
      have o4 : (m : Int) < N := by omega
      have o5 : ¬ (N : Int) = 0 := by omega
      have o6 : ¬ N = 0 := by omega
      obtain ⟨V1, hV1⟩ : ∃ V1, wr.alloc (.cells (pCells (pt ps n)) 31) = V1 := ⟨_, rfl⟩
      have rr : Prow wr g o ps := psl_row (HS.out.below bw.out (Nat.le_refl _)) (by have := HN.out; omega)
      have r1 : Prow V1 g o ps := psl_row ((HS.out.below bw.out (Nat.le_refl _)).below (B := wr.heap.size) (w' := V1) (by rw [← hV1]; exact (Below.refl _ _).alloc (Nat.le_refl _) _) (Nat.le_refl _)) (by have := HN.out; omega)
      have c0 := rr.c0 n (by have := HN.out; omega)
      have c1 := rr.c1 n (by have := HN.out; omega)
      have d0 := r1.c0 m (by have := HN.out; omega)
      have d1 := r1.c1 m (by have := HN.out; omega)
      have HM := Lib.hid hm
      obtain ⟨q, hq⟩ : ∃ q, pt ps n = q := ⟨_, rfl⟩
      obtain ⟨t, ht⟩ : ∃ q, pt ps m = q := ⟨_, rfl⟩
      rw [hq] at c0 c1 hV1
      rw [ht] at d0 d1
      have HQ := Lib.hid hq
      have HT := Lib.hid ht
      obtain ⟨V2, hV2⟩ : ∃ V2, V1.alloc (.cells (pCells t) 31) = V2 := ⟨_, rfl⟩
      obtain ⟨A, hA⟩ : ∃ A, wr.heap.size = A := ⟨_, rfl⟩
      have hA1 : V1.heap.size = A + 1 := by rw [← hV1]; simp [hA]
      have kA : Has V2 A (pCells q) 31 := by rw [← hV2, ← hV1]; exact (has_new hA).alloc _
      have kB : Has V2 (A + 1) (pCells t) 31 := by rw [← hV2]; exact has_new hA1
      have b2 : Below wr.heap.size wr V2 := by rw [← hV2, ← hV1]; exact ((Below.refl _ _).alloc (Nat.le_refl _) _).alloc (by simp) _
      have G2 := Lib.hid (hG.later b2)
      have f1 := (hG.later b2).out.cell 1 _ rfl
      have a0 := kA.cell 0 _ rfl
      have a1 := kA.cell 1 _ rfl
      have b0 := kB.cell 0 _ rfl
      have b1 := kB.cell 1 _ rfl
      have HV1 := Lib.hid hV1
      have HV2 := Lib.hid hV2
      have HA1 := Lib.hid hA1
      obtain ⟨gl, cl, hl⟩ := hG.own.shape (by rw [strN_length]; omega)
      obtain ⟨LN, hLN⟩ : ∃ LN, (strN ps n).length = LN := ⟨_, rfl⟩
      rw [hLN] at hl
      subst hl
      have HLN := Lib.hid hLN
      have BN : Hid (LN + 3 ≤ 8796093022208) := Lib.hid (by rw [← hLN, strN_length]; omega)
      have ST : Hid (strN ps n ++ [q, t, t] = strN ps (n + 1)) := Lib.hid (by rw [← hq, ← ht, ← hm, ← HN.out]; rfl)
      clear hm hq ht rr r1 hG hV1 hV2 b2 kA kB hA1 hLN
      obtain ⟨qx, qy⟩ := q
      obtain ⟨tx, ty⟩ := t
      simp only at c0 c1 d0 d1 a0 a1 b0 b1
      go_upto_region 5 with fail
      rw [HV1.out]
      clear hA
      go_upto_region 6 with fail
      rw [HA1.out, HV2.out]
      clear c0 c1 d0 d1
      go_wp2_with (at_builtin; refine wpList_append_pl rfl _ _ rfl LN HLN.out rfl V2.heap.size 0 3 3 rfl [⟨qx, qy⟩, ⟨tx, ty⟩, ⟨tx, ty⟩] rfl (by decide) BN.out (prow_has (cs := #[.int .i64 qx, .int .i64 qy, .int .i64 tx, .int .i64 ty, .int .i64 tx, .int .i64 ty]) (by simp) (has_new rfl) rfl) (G2.out.alloc _).own (G2.out.alloc _).big ?_)
      intro g' cap' w4 ho hg hat
      have fi := (G2.out.alloc _).fine hg
      have f0 := fi.1
      have f2 := fi.2
      have G4 := Lib.hid ((G2.out.alloc _).put ho hg (hat.imp id (fun h => by simpa using h)))
      rw [ST.out] at G4
      clear ho hg hat fi f1 a0 a1 b0 b1
      go_wp2
      go_roundw
      case rel => exact ⟨n + 1, _, by omega, by go_num, G4.out⟩
      case measure => simp [intOf]; omega
    · obtain rfl : n = N := by omega
      have R := Lib.hid (hG.gives HB.out)
      have q0 := hG.out.cell 0 _ rfl
      have q1 := hG.out.cell 1 _ rfl
      have r0 := hG.res.cell 0 _ rfl
      have r1 := hG.res.cell 1 _ rfl
      have fz := has_fro hG.res
      have e1 : strN ps n = straightL ps := by unfold straightL; rw [HN.out]
      rw [e1] at R
      obtain ⟨ao, cp, rfl⟩ := hG.own.len
      have HL := Lib.hid (strN_length ps n)
      have o3 : (n : Int) ≤ n := by omega
      clear hG GH bw e1
      go_wp2
      refine bodyPost_ret (v := .agg #[.bool true, .slice ao (strN ps n).length cp]) (by simp [results, Try.results29, go_sem, r0, r1]) rfl ?_
      exact R.out

end Go.Proofs.Ytglbfpjjnboeaaa

namespace Go.Proofs.Ytglbfpjjnboeaaa
open Go Go.RowKit
open M

theorem sh_point (x y : Int) (w : World) : Calls Try.prog 30 #[.int .i64 x, .int .i64 y] w fun e w' => e = .returned (.agg (pCells ⟨x, y⟩)) ∧ Below w.heap.size w w' := by
  go_enter Try.func30, Try.ntmps30
  go_wp2
  refine bodyPost_ret (v := .agg (pCells ⟨x, y⟩)) (by simp [results, Try.results30, go_sem]) rfl ⟨rfl, ?_⟩
  exact (Below.refl _ _).alloc (Nat.le_refl _) _
/-- What a call has answered is a call's own answer, put into the block of its result. -/
theorem gives_tail {w w1 w2 : World} {B : Nat} {c : Bool} {ps : List Pt} {v : Value} (hB : w.heap.size = B) (hr : Has w1 B #[.bool false, .slice none 0 0] 41) (hb : Below B w w1) (ho : Pown w2 w1.heap.size v ps) (hq : Below w1.heap.size w1 w2) :
    Gives w c ps (.returned (.agg #[.bool c, v])) ((w2.setCell ⟨B, 0, none⟩ (.bool c)).setCell ⟨B, 1, none⟩ v) ∧ Has w2 B #[.bool false, .slice none 0 0] 41 := by
  have lt := hr.lt
  exact ⟨gives_put (w := w) hB (ho.lower (by omega)) (fun e => by have := (ho.base _ e).1; omega) (Nat.le_refl _) (hb.trans (hq.mono (by omega))) rfl _ _ rfl, hr.below hq hr.lt⟩

set_option maxRecDepth 100000 in
set_option maxHeartbeats 2000000 in
theorem sh_rect (x y : Int) (w : World) (wx : -9223372036854775808 ≤ x ∧ x ≤ 9223372036854775807) (wy : -9223372036854775808 ≤ y ∧ y ≤ 9223372036854775807) : Calls Try.prog 11 #[.int .i64 x, .int .i64 y] w (Gives w true (rectL x y)) := by
  obtain ⟨B, hB⟩ : ∃ B, w.heap.size = B := ⟨_, rfl⟩
  obtain ⟨W, hW⟩ : ∃ W, w.alloc (.cells #[.bool false, .slice none 0 0] 41) = W := ⟨_, rfl⟩
  have hr0 : Has W B #[.bool false, .slice none 0 0] 41 := by rw [← hW]; exact has_new hB
  have hb0 : Below B w W := by rw [← hW]; exact (Below.refl _ _).alloc (by omega) _
  have HR := Lib.hid hr0
  have HB := Lib.hid hB
  have HW := Lib.hid hW
  have HBW := Lib.hid hb0
  have SZ : Hid (B ≤ W.heap.size) := Lib.hid (Nat.le_of_lt hr0.lt)
  have ER : Hid (rectL x y = straightL [⟨-(x / 2), -(y / 2)⟩, ⟨x - x / 2, -(y / 2)⟩, ⟨x - x / 2, y - y / 2⟩, ⟨-(x / 2), y - y / 2⟩]) := Lib.hid rfl
  obtain ⟨R, hR⟩ : ∃ R, rectL x y = R := ⟨_, rfl⟩
  rw [hR] at ER ⊢
  clear hr0 hb0 hW hR
  go_enter Try.func11, Try.ntmps11
  go_wp2_with fail
  rw [HW.out]
  clear hB
  refine (sh_point _ _ _).mono ?_
  rintro e w1 ⟨rfl, q1⟩
  have Q1 := Lib.hid q1
  clear q1
  go_wp2_with fail
  refine (sh_point _ _ _).mono ?_
  rintro e w2 ⟨rfl, q2⟩
  have Q2 := Lib.hid (Q1.out.trans (q2.mono Q1.out.size))
  clear q2 Q1
  go_wp2_with fail
  refine (sh_point _ _ _).mono ?_
  rintro e w3 ⟨rfl, q3⟩
  have Q3 := Lib.hid (Q2.out.trans (q3.mono Q2.out.size))
  clear q3 Q2
  go_wp2_with fail
  refine (sh_point _ _ _).mono ?_
  rintro e w4 ⟨rfl, q4⟩
  have Q4 := Lib.hid (Q3.out.trans (q4.mono Q3.out.size))
  clear q4 Q3
  go_wp2_with fail
  obtain ⟨V, hV⟩ : ∃ V, w4.alloc (.cells #[.int .i64 (-(x / 2)), .int .i64 (-(y / 2)), .int .i64 (x - x / 2), .int .i64 (-(y / 2)), .int .i64 (x - x / 2), .int .i64 (y - y / 2), .int .i64 (-(x / 2)), .int .i64 (y - y / 2)] 31) = V := ⟨_, rfl⟩
  have PS : Psl V (.slice (some ⟨w4.heap.size, 0, none⟩) 4 4) [⟨-(x / 2), -(y / 2)⟩, ⟨x - x / 2, -(y / 2)⟩, ⟨x - x / 2, y - y / 2⟩, ⟨-(x / 2), y - y / 2⟩] := by rw [← hV]; exact psl_lit 4 4 rfl (by decide) (has_new rfl) rfl
  have QV : Below W.heap.size W V := by rw [← hV]; exact Q4.out.alloc Q4.out.size _
  have QW := Lib.hid QV
  rw [hV]
  have ST := sh_straight PS (by simp) (by simp)
  rw [← ER.out] at ST
  clear hV Q4 PS QV
  refine ST.mono ?_
  rintro e w5 ⟨v, rfl, ho, hq⟩
  obtain ⟨G, K⟩ := gives_tail (c := true) HB.out (HR.out.below QW.out HR.out.lt) (HBW.out.trans (QW.out.mono SZ.out)) ho hq
  have GG := Lib.hid G
  obtain ⟨ao, cp, rfl⟩ := ho.len
  obtain ⟨LN, hLN⟩ : ∃ n, R.length = n := ⟨_, rfl⟩
  rw [hLN] at GG ⊢
  have r0 := K.cell 0 _ rfl
  have r1 := K.cell 1 _ rfl
  have fz := has_fro K
  clear ST G K ho hq hLN
  go_wp2
  refine bodyPost_ret (v := .agg #[.bool true, .slice ao LN cp]) (by simp [results, Try.results11, go_sem, r0, r1]) rfl ?_
  exact GG.out

end Go.Proofs.Ytglbfpjjnboeaaa

namespace Go.Proofs.Ytglbfpjjnboeaaa
open Go Go.RowKit
open M

/-- A literal of places in a block of its own. -/
theorem pown_new {w : World} {B n : Nat} {cs : Array Value} {ps : List Pt} (hb : B ≤ w.heap.size) (hn : ps.length = n) (hm : n ≤ 1000) (hcs : cs.toList = pls ps) : Pown (w.alloc (.cells cs 31)) B (.slice (some ⟨w.heap.size, 0, none⟩) n n) ps := by
  subst hn
  have hsz : cs.size = ps.length * 2 := by rw [← Array.length_toList, hcs, pls_length]
  have := World.ownsRow_lit (e := 31) (size := 2) (base := B) w cs ps.length hb (by unfold maxLen; omega) hsz
  unfold Pown
  rw [← hcs]
  exact this

set_option maxRecDepth 100000 in
set_option maxHeartbeats 4000000 in
theorem sh_oval (x y : Int) (w : World) (wx : -9223372036854775808 ≤ x ∧ x ≤ 9223372036854775807) (wy : -9223372036854775808 ≤ y ∧ y ≤ 9223372036854775807) : Calls Try.prog 12 #[.int .i64 x, .int .i64 y] w (Gives w true (ovalL x y)) := by
  obtain ⟨B, hB⟩ : ∃ B, w.heap.size = B := ⟨_, rfl⟩
  obtain ⟨W, hW⟩ : ∃ W, w.alloc (.cells #[.bool false, .slice none 0 0] 41) = W := ⟨_, rfl⟩
  have hr0 : Has W B #[.bool false, .slice none 0 0] 41 := by rw [← hW]; exact has_new hB
  have hb0 : Below B w W := by rw [← hW]; exact (Below.refl _ _).alloc (by omega) _
  have HR := Lib.hid hr0
  have HB := Lib.hid hB
  have HW := Lib.hid hW
  have HBW := Lib.hid hb0
  have SZ : Hid (B ≤ W.heap.size) := Lib.hid (Nat.le_of_lt hr0.lt)
  obtain ⟨R, hR⟩ : ∃ R, ovalL x y = R := ⟨_, rfl⟩
  have ER : Hid (ovalN (x / 2) (y / 2) (mul (x / 2) 36195) (mul (y / 2) 36195) = R) := Lib.hid hR
  rw [hR]
  obtain ⟨a, ha⟩ : ∃ a, x / 2 = a := ⟨_, rfl⟩
  obtain ⟨b, hb⟩ : ∃ b, y / 2 = b := ⟨_, rfl⟩
  have a0 : -4611686018427387904 ≤ a ∧ a ≤ 4611686018427387903 := by omega
  have b0 : -4611686018427387904 ≤ b ∧ b ≤ 4611686018427387903 := by omega
  have M1 : Hid (∀ w : World, Calls Try.prog 31 #[.int .i64 a, .int .i64 36195] w fun e w' => e = .returned (.int .i64 (mul a 36195)) ∧ w = w') := Lib.hid (fun w => q_mul a 36195 w)
  have M2 : Hid (∀ w : World, Calls Try.prog 31 #[.int .i64 b, .int .i64 36195] w fun e w' => e = .returned (.int .i64 (mul b 36195)) ∧ w = w') := Lib.hid (fun w => q_mul b 36195 w)
  have k0 : -1099511627776 ≤ mul a 36195 ∧ mul a 36195 ≤ 1099511627776 := ⟨hold_lo _, hold_hi _⟩
  have l0 : -1099511627776 ≤ mul b 36195 ∧ mul b 36195 ≤ 1099511627776 := ⟨hold_lo _, hold_hi _⟩
  rw [ha, hb] at ER
  obtain ⟨k, hk⟩ : ∃ k, mul a 36195 = k := ⟨_, rfl⟩
  obtain ⟨l, hl⟩ : ∃ l, mul b 36195 = l := ⟨_, rfl⟩
  rw [hk] at M1 k0 ER
  rw [hl] at M2 l0 ER
  clear hr0 hb0 hW hR hk hl
  go_enter Try.func12, Try.ntmps12
  go_wp2_with fail
  rw [HW.out]
  clear hB
  clear ha hb wx wy
  refine (M1.out _).mono ?_
  rintro e w' ⟨rfl, rfl⟩
  go_wp2_with fail
  refine (M2.out _).mono ?_
  rintro e w' ⟨rfl, rfl⟩
  clear M1 M2
  have M2 : Hid (Below W.heap.size W W) := Lib.hid (Below.refl _ _)
  go_wp2_with fail
  refine (sh_point _ _ _).mono ?_
  rintro e w1 ⟨rfl, q1⟩
  have Q1 := Lib.hid (M2.out.trans (q1.mono M2.out.size))
  clear q1 M2
  go_wp2_with fail
  refine (sh_point _ _ _).mono ?_
  rintro e w2 ⟨rfl, q2⟩
  have Q2 := Lib.hid (Q1.out.trans (q2.mono Q1.out.size))
  clear q2 Q1
  go_wp2_with fail
  refine (sh_point _ _ _).mono ?_
  rintro e w3 ⟨rfl, q3⟩
  have Q3 := Lib.hid (Q2.out.trans (q3.mono Q2.out.size))
  clear q3 Q2
  go_wp2_with fail
  refine (sh_point _ _ _).mono ?_
  rintro e w4 ⟨rfl, q4⟩
  have Q4 := Lib.hid (Q3.out.trans (q4.mono Q3.out.size))
  clear q4 Q3
  go_wp2_with fail
  refine (sh_point _ _ _).mono ?_
  rintro e w5 ⟨rfl, q5⟩
  have Q5 := Lib.hid (Q4.out.trans (q5.mono Q4.out.size))
  clear q5 Q4
  go_wp2_with fail
  refine (sh_point _ _ _).mono ?_
  rintro e w6 ⟨rfl, q6⟩
  have Q6 := Lib.hid (Q5.out.trans (q6.mono Q5.out.size))
  clear q6 Q5
  go_wp2_with fail
  refine (sh_point _ _ _).mono ?_
  rintro e w7 ⟨rfl, q7⟩
  have Q7 := Lib.hid (Q6.out.trans (q7.mono Q6.out.size))
  clear q7 Q6
  go_wp2_with fail
  refine (sh_point _ _ _).mono ?_
  rintro e w8 ⟨rfl, q8⟩
  have Q8 := Lib.hid (Q7.out.trans (q8.mono Q7.out.size))
  clear q8 Q7
  go_wp2_with fail
  refine (sh_point _ _ _).mono ?_
  rintro e w9 ⟨rfl, q9⟩
  have Q9 := Lib.hid (Q8.out.trans (q9.mono Q8.out.size))
  clear q9 Q8
  go_wp2_with fail
  refine (sh_point _ _ _).mono ?_
  rintro e w10 ⟨rfl, q10⟩
  have Q10 := Lib.hid (Q9.out.trans (q10.mono Q9.out.size))
  clear q10 Q9
  go_wp2_with fail
  refine (sh_point _ _ _).mono ?_
  rintro e w11 ⟨rfl, q11⟩
  have Q11 := Lib.hid (Q10.out.trans (q11.mono Q10.out.size))
  clear q11 Q10
  go_wp2_with fail
  refine (sh_point _ _ _).mono ?_
  rintro e w12 ⟨rfl, q12⟩
  have Q12 := Lib.hid (Q11.out.trans (q12.mono Q11.out.size))
  clear q12 Q11
  go_wp2_with fail
  refine (sh_point _ _ _).mono ?_
  rintro e w13 ⟨rfl, q13⟩
  have Q13 := Lib.hid (Q12.out.trans (q13.mono Q12.out.size))
  clear q13 Q12
  obtain ⟨V, hV⟩ : ∃ V, w13.alloc (.cells #[.int .i64 a, .int .i64 0, .int .i64 a, .int .i64 l, .int .i64 k, .int .i64 b, .int .i64 0, .int .i64 b, .int .i64 (-k), .int .i64 b, .int .i64 (-a), .int .i64 l, .int .i64 (-a), .int .i64 0, .int .i64 (-a), .int .i64 (-l), .int .i64 (-k), .int .i64 (-b), .int .i64 0, .int .i64 (-b), .int .i64 k, .int .i64 (-b), .int .i64 a, .int .i64 (-l), .int .i64 a, .int .i64 0] 31) = V := ⟨_, rfl⟩
  have QV : Below W.heap.size W V := by rw [← hV]; exact Q13.out.alloc Q13.out.size _
  have K := HR.out.below QV HR.out.lt
  have PO : Pown V B (.slice (some ⟨w13.heap.size, 0, none⟩) 13 13) R := by rw [← hV, ← ER.out]; exact pown_new (Nat.le_trans SZ.out Q13.out.size) rfl (by decide) rfl
  have G := Lib.hid (gives_put (w := w) (r := B) (c := true) HB.out PO (fun e => by have e' : some w13.heap.size = some B := e; simp at e'; have := HR.out.lt; have := Q13.out.size; omega) (Nat.le_refl _) (HBW.out.trans (QV.mono SZ.out)) rfl (.bool true) _ rfl)
  have K13 := HR.out.below Q13.out HR.out.lt
  have r0 := fun o => (K13.alloc o).cell 0 _ rfl
  have r1 := fun o => (K13.alloc o).cell 1 _ rfl
  have fz := fun o j => has_fro (K13.alloc o) j
  rw [← hV] at G
  clear hV QV K PO Q13 K13
  go_wp2
  refine bodyPost_ret (v := .agg #[.bool true, .slice (some ⟨w13.heap.size, 0, none⟩) 13 13]) (by simp [results, Try.results12, go_sem, r0, r1]) rfl ?_
  exact G.out

end Go.Proofs.Ytglbfpjjnboeaaa

namespace Go.Proofs.Ytglbfpjjnboeaaa
open Go Go.RowKit
open M

set_option maxRecDepth 100000 in
theorem sh_around (a f : Int) (w : World) : Calls Try.prog 33 #[.int .i64 a, .int .i64 f] w fun e w' => e = .returned (.agg (pCells ⟨mul f (cos a), mul f (sin a)⟩)) ∧ Below w.heap.size w w' := by
  obtain ⟨c, hc⟩ : ∃ c, cos a = c := ⟨_, rfl⟩
  obtain ⟨d, hd⟩ : ∃ d, sin a = d := ⟨_, rfl⟩
  have TC : Hid (∀ w, Calls Try.prog 51 #[.int .i64 a] w (Drawn (.int .i64 c) w)) := Lib.hid (fun w => by have := t_cos a w; rw [hc] at this; exact this)
  have TS : Hid (∀ w, Calls Try.prog 52 #[.int .i64 a] w (Drawn (.int .i64 d) w)) := Lib.hid (fun w => by have := t_sin a w; rw [hd] at this; exact this)
  rw [hc, hd]
  clear hc hd
  go_enter Try.func33, Try.ntmps33
  obtain ⟨B, hB⟩ : ∃ B, w.heap.size = B := ⟨_, rfl⟩
  obtain ⟨W, hW⟩ : ∃ W, w.alloc (.cells #[.int .i64 0, .int .i64 0] 31) = W := ⟨_, rfl⟩
  have hr0 : Has W B #[.int .i64 0, .int .i64 0] 31 := by rw [← hW]; exact has_new hB
  have hb0 : Below B w W := by rw [← hW]; exact (Below.refl _ _).alloc (by omega) _
  have HR := Lib.hid hr0
  have HB := Lib.hid hB
  have HW := Lib.hid hW
  have HBW := Lib.hid hb0
  have SZ : Hid (B ≤ W.heap.size) := Lib.hid (Nat.le_of_lt hr0.lt)
  clear hr0 hb0 hW
  go_wp2_with fail
  rw [HW.out]
  clear hB
  refine (TC.out _).mono ?_
  rintro e w1 ⟨rfl, n1, rfl⟩
  go_wp2_with fail
  refine (q_mul _ _ _).mono ?_
  rintro e w' ⟨rfl, rfl⟩
  go_wp2_with fail
  refine (TS.out _).mono ?_
  rintro e w2 ⟨rfl, n2, rfl⟩
  go_wp2_with fail
  refine (q_mul _ _ _).mono ?_
  rintro e w' ⟨rfl, rfl⟩
  obtain ⟨V, hV⟩ : ∃ V, W.drewN (n1 + n2) = V := ⟨_, rfl⟩
  have bV : Below W.heap.size W V := by rw [← hV]; exact below_drewN (Below.refl _ _) _
  have BV := Lib.hid bV
  clear bV
  rw [hV]
  clear hV
  go_wp2_with fail
  refine (sh_point _ _ _).mono ?_
  rintro e w3 ⟨rfl, q3⟩
  have Q3 := BV.out.trans (q3.mono BV.out.size)
  have K := HR.out.below Q3 HR.out.lt
  have r0 := K.cell 0 _ rfl
  have r1 := K.cell 1 _ rfl
  have fz := has_fro K
  have QQ : Hid (Below w.heap.size w w3) := Lib.hid (by rw [HB.out]; exact HBW.out.trans (Q3.mono SZ.out))
  have HBB : Hid (w.heap.size ≤ B) := Lib.hid (by rw [HB.out]; exact Nat.le_refl _)
  clear K Q3 q3
  go_wp2
  refine bodyPost_ret (v := .agg (pCells ⟨mul f c, mul f d⟩)) (by simp [results, Try.results33, go_sem, r0, r1]) rfl ⟨rfl, ?_⟩
  exact (QQ.out.setCell HBB.out _).setCell HBB.out _

theorem angle_of {c : Int} {j : Nat} (c0 : 2 ≤ c) (c1 : c ≤ 16) (hj : j ≤ 32) : -5898240 ≤ angle c j ∧ angle c j ≤ 400000000 := by
  unfold angle
  have h0 : 0 ≤ ((j : Int) * 11796480) / c := Int.ediv_nonneg (by omega) (by omega)
  have h1 : ((j : Int) * 11796480) / c ≤ (j : Int) * 11796480 := Int.ediv_le_self _ (by omega)
  omega

set_option maxRecDepth 100000 in
set_option maxHeartbeats 2000000 in
theorem sh_star (n r s : Int) (w : World) : Calls Try.prog 13 #[.int .i64 n, .int .i64 r, .int .i64 s] w (Gives w true (starL n r s)) := by
  obtain ⟨c, hc⟩ : ∃ c, points n = c := ⟨_, rfl⟩
  have QC : Hid (∀ w, Calls Try.prog 32 #[.int .i64 n, .int .i64 2, .int .i64 16] w fun e w' => e = .returned (.int .i64 c) ∧ w = w') := Lib.hid (fun w => by have := q_clamp n 2 16 w; unfold points at hc; rw [hc] at this; exact this)
  have c2 : 2 ≤ c ∧ c ≤ 16 := by rw [← hc]; unfold points clamp; split <;> (try split) <;> omega
  obtain ⟨C, rfl⟩ : ∃ C : Nat, c = (C : Int) := ⟨c.toNat, by omega⟩
  have ES : Hid (straightL (starN C r s (2 * C)) = starL n r s) := Lib.hid (by unfold starL; rw [hc, Int.toNat_natCast])
  obtain ⟨R, hR⟩ : ∃ R, starL n r s = R := ⟨_, rfl⟩
  rw [hR] at ES ⊢
  obtain ⟨B, hB⟩ : ∃ B, w.heap.size = B := ⟨_, rfl⟩
  obtain ⟨W, hW⟩ : ∃ W, w.alloc (.cells #[.bool false, .slice none 0 0] 41) = W := ⟨_, rfl⟩
  have hr0 : Has W B #[.bool false, .slice none 0 0] 41 := by rw [← hW]; exact has_new hB
  have hb0 : Below B w W := by rw [← hW]; exact (Below.refl _ _).alloc (by omega) _
  have HR := Lib.hid hr0
  have HB := Lib.hid hB
  have HW := Lib.hid hW
  have HBW := Lib.hid hb0
  have SZ : Hid (B ≤ W.heap.size) := Lib.hid (Nat.le_of_lt hr0.lt)
  have o1 : (2 : Int) ≤ C := c2.1
  have o2 : (C : Int) ≤ 16 := c2.2
  have o3 : ¬ (C : Int) = 0 := by omega
  have o4 : ¬ C = 0 := by omega
  have o5 : wrap64 (2 * (C : Int)) = 2 * (C : Int) := by unfold wrap64; omega
  clear hr0 hb0 hW hR hc c2
  go_enter Try.func13, Try.ntmps13
  go_wp2_with fail
  rw [HW.out]
  clear hB
  refine (QC.out _).mono ?_
  rintro e w' ⟨rfl, rfl⟩
  go_wp2_with fail
  go_loopw [8, 15] (fun lv i wr => ∃ (m : Nat), m ≤ 2 * C ∧ i = .int .i64 m ∧ Pown wr W.heap.size lv (starN C r s m) ∧ Below W.heap.size W wr) (fun _ i _ => 2 * C - (intOf i).toNat)
  case atStart => exact ⟨0, by omega, rfl, Pown.nil _ _, Below.refl _ _⟩
  case round =>
    obtain ⟨m, hm, rfl, ho, hb⟩ := hrel
    by_cases hlt : m < 2 * C
    · obtain ⟨A, hA, A0, A1⟩ : ∃ A, angle C m = A ∧ -5898240 ≤ A ∧ A ≤ 400000000 := ⟨_, rfl, angle_of o1 o2 (by omega)⟩
      have HA : Hid ((m : Int) * 11796480 / C - 5898240 = A) := Lib.hid hA
      have oA : (m : Int) * 11796480 / C = A + 5898240 := by have := HA.out; omega
      have o6 : (m : Int) < 2 * C := by omega
      have o7 : (m : Int) ≤ 32 := by omega
      have o8 : 0 ≤ (m : Int) * 11796480 := by omega
      have HO := Lib.hid ho
      have HQ := Lib.hid hb
      have NX := Lib.hid (starN_snoc C r s m)
      obtain ⟨p, hp⟩ : ∃ p, starP C r s m = p := ⟨_, rfl⟩
      rw [hp] at NX
      obtain ⟨f, hf⟩ : ∃ f, (if m % 2 = 1 then s else r) = f := ⟨_, rfl⟩
      have EP : Hid (p = ⟨mul f (cos A), mul f (sin A)⟩) := Lib.hid (by rw [← hp]; unfold starP; rw [hf, hA])
      obtain ⟨rs, hrs⟩ : ∃ rs, starN C r s m = rs := ⟨_, rfl⟩
      have HN : Hid (rs.length = m) := Lib.hid (by rw [← hrs, starN_length])
      rw [hrs] at HO NX
      have FF : Hid (∀ w, Calls Try.prog 33 #[.int .i64 A, .int .i64 f] w fun e w' => e = .returned (.agg (pCells p)) ∧ Below w.heap.size w w') := Lib.hid (fun w => by rw [EP.out]; exact sh_around A f w)
      obtain ⟨aol, capl, el⟩ := ho.len
      rw [hrs, HN.out] at el
      clear hA hp hrs ho hb
      subst el
      rcases (show m % 2 = 0 ∨ m % 2 = 1 by omega) with hm2 | hm2
      all_goals
        first | rw [if_neg (by omega)] at hf | rw [if_pos hm2] at hf
        subst hf
        have om : (m : Int) % 2 = ((m % 2 : Nat) : Int) := by omega
        rw [hm2] at om
        clear hm2
        go_wp2_with fail
        refine (FF.out _).mono ?_
        rintro e w3 ⟨rfl, q3⟩
        have Q3 := Lib.hid (HQ.out.trans (q3.mono HQ.out.size))
        have O3 := Lib.hid (HO.out.below q3 (Nat.le_refl _))
        clear q3
        go_wp2_with (at_builtin; refine wpList_append_pl rfl _ _ rfl m HN.out rfl w3.heap.size 0 1 1 rfl [p] rfl (by decide) (by omega) (prow_one _ _) (O3.out.alloc _) (Nat.le_trans Q3.out.size (by simp)) ?_)
        intro g' cap' w4 ho4 hg4 _
        have B4 : Below W.heap.size W w4 := ((Q3.out.alloc Q3.out.size _).grown hg4 (by have := Q3.out.size; simp; omega) (fun k hk => (O3.out.base k hk).1))
        have HB4 := Lib.hid B4
        rw [← NX.out] at ho4
        have HO4 := Lib.hid ho4
        clear ho4 hg4 B4
        go_wp2
        go_roundw
        case rel => exact ⟨m + 1, by omega, by go_num, HO4.out, HB4.out⟩
        case measure => simp [intOf]; omega
    · obtain rfl : m = 2 * C := by omega
      have o6 : ((2 * C : Nat) : Int) = 2 * (C : Int) := by omega
      have HL : Hid ((starN C r s (2 * C)).length = 2 * C) := Lib.hid (starN_length _ _ _ _)
      have ST := sh_straight (ho.sl (by rw [HL.out]; omega)) (by rw [HL.out]; omega) (by rw [HL.out]; omega)
      rw [ES.out] at ST
      have HS := Lib.hid ST
      have HQ := Lib.hid hb
      obtain ⟨aol, capl, rfl⟩ := ho.len
      clear ho hb ST
      go_wp2_with fail
      refine HS.out.mono ?_
      rintro e w5 ⟨v, rfl, ho, hq⟩
      obtain ⟨G, K⟩ := gives_tail (c := true) HB.out (HR.out.below HQ.out HR.out.lt) (HBW.out.trans (HQ.out.mono SZ.out)) ho hq
      have GG := Lib.hid G
      obtain ⟨ao, cp, rfl⟩ := ho.len
      obtain ⟨LN, hLN⟩ : ∃ n, R.length = n := ⟨_, rfl⟩
      rw [hLN] at GG ⊢
      have r0 := K.cell 0 _ rfl
      have r1 := K.cell 1 _ rfl
      have fz := has_fro K
      clear G K ho hq hLN
      go_wp2
      refine bodyPost_ret (v := .agg #[.bool true, .slice ao LN cp]) (by simp [results, Try.results13, go_sem, r0, r1]) rfl ?_
      exact GG.out

end Go.Proofs.Ytglbfpjjnboeaaa

namespace Go.Proofs.Ytglbfpjjnboeaaa
open Go Go.RowKit

/-- What stays where only new blocks are laid. -/
def Stays (R : World → Prop) : Prop := ∀ w w' : World, R w → Below w.heap.size w w' → R w'
/-- Whatever world keeps what was in W, and of which R holds. -/
structure LaterR (W : World) (R : World → Prop) where
  to : World
  below : Below W.heap.size W to
  reg : R to
abbrev Cls (W : World) (R : World → Prop) : World → Prop := fun w' => ∃ z : LaterR W R, w' = z.to
theorem LaterR.calls {P : Program} {f : FuncId} {args : Array Value} {W : World} {R : World → Prop} (hR : Stays R) {z : LaterR W R} {v : Value} (h : Calls P f args z.to fun e w' => e = .returned v ∧ Below z.to.heap.size z.to w') :
    Calls P f args z.to fun e w'' => e = .returned v ∧ ∃ z' : LaterR W R, w'' = z'.to :=
  h.mono fun _ w' ⟨he, hb⟩ => ⟨he, ⟨w', z.below.trans (hb.mono z.below.size), hR _ _ z.reg hb⟩, rfl⟩
theorem LaterR.read {W : World} {R : World → Prop} {g : Nat} {cs : Array Value} {t : TypeId} (h : Has W g cs t) (k : Nat) (v : Value) (hv : cs[k]? = some v) (z : LaterR W R) : z.to.cell? ⟨g, k, none⟩ = some v :=
  (h.below z.below h.lt).cell k v hv

section
variable {P : Program}

def ptr (g : Nat) : Value := .pointer (some ⟨g, 0, none⟩)
/-- The frame with the new variables that are there. -/
def putG (D : Nat → Option Tmp) (G : Nat → Option Nat) : Nat → Act → Act
  | 0, a => a
  | m + 1, a => match G m with
    | some g => (putG D G m a).put (D m) (ptr g)
    | none => putG D G m a
def upd (G : Nat → Option Nat) (k g : Nat) : Nat → Option Nat := fun j => if j = k then some g else G j

theorem put_put (a : Act) (y : Option Tmp) (u v : Value) : (a.put y u).put y v = a.put y v := by
  cases y with
  | none => rfl
  | some d => simp [Act.put]
theorem putG_put {D : Nat → Option Tmp} {G : Nat → Option Nat} {y : Option Tmp} (u : Value) (a : Act) : ∀ m, (∀ k, k < m → ∀ d, D k = some d → y ≠ some d) → putG D G m (a.put y u) = (putG D G m a).put y u
  | 0, _ => rfl
  | m + 1, h => by
    have ih := putG_put (G := G) u a m (fun k hk => h k (by omega))
    unfold putG
    cases hg : G m with
    | none => exact ih
    | some g =>
      simp only
      rw [ih]
      exact (Act.put_comm _ _ _ (h m (by omega))).symm
theorem putG_out {D : Nat → Option Tmp} {G : Nat → Option Nat} {k g : Nat} (a : Act) : ∀ m, m ≤ k → putG D (upd G k g) m a = putG D G m a
  | 0, _ => rfl
  | m + 1, h => by
    have ih := putG_out (D := D) (G := G) (k := k) (g := g) a m (by omega)
    have e : upd G k g m = G m := by unfold upd; rw [if_neg (by omega)]
    unfold putG
    rw [e, ih]
theorem putG_upd {D : Nat → Option Tmp} {G : Nat → Option Nat} {k g : Nat} (a : Act) (hG : G k = none) : ∀ m, k < m → (∀ i j, i < m → j < m → i ≠ j → ∀ d, D i = some d → D j ≠ some d) → putG D (upd G k g) m a = (putG D G m a).put (D k) (ptr g)
  | 0, h, _ => by omega
  | m + 1, h, hD => by
    by_cases e : k = m
    · subst e
      unfold putG
      rw [putG_out a k (Nat.le_refl _), hG]
      simp [upd]
    · have ih := putG_upd (D := D) (g := g) a hG m (by omega) (fun i j hi hj => hD i j (by omega) (by omega))
      have e1 : upd G k g m = G m := by unfold upd; rw [if_neg (by omega)]
      unfold putG
      rw [e1, ih]
      cases hg : G m with
      | none => rfl
      | some g' => exact Act.put_comm _ _ _ (hD k m (by omega) (by omega) e)
theorem putG_none {D : Nat → Option Tmp} {G : Nat → Option Nat} {k : Nat} (u : Value) (a : Act) (hG : G k = none) : ∀ m, (∀ j, j < m → j ≠ k → ∀ d, D j = some d → D k ≠ some d) → putG D G m (a.put (D k) u) = (putG D G m a).put (D k) u
  | 0, _ => rfl
  | m + 1, h => by
    have ih := putG_none u a hG m (fun j hj => h j (by omega))
    unfold putG
    cases hg : G m with
    | none => exact ih
    | some g =>
      simp only
      rw [ih]
      exact (Act.put_comm _ _ _ (h m (by omega) (fun e => by rw [e, hG] at hg; cases hg))).symm
theorem putG_set {D : Nat → Option Tmp} {G : Nat → Option Nat} {k g : Nat} (u : Value) (a : Act) (hG : G k = some g) : ∀ m, k < m → (∀ i j, i < m → j < m → i ≠ j → ∀ d, D i = some d → D j ≠ some d) → putG D G m (a.put (D k) u) = putG D G m a
  | 0, h, _ => by omega
  | m + 1, h, hD => by
    by_cases e : k = m
    · subst e
      unfold putG
      rw [hG]
      simp only
      rw [putG_put u a k (fun j hj => hD j k (by omega) (by omega) (by omega)), put_put]
    · unfold putG
      rw [putG_set u a hG m (by omega) (fun i j hi hj => hD i j (by omega) (by omega))]
theorem exec_putG {ops : Array Oper} {D : Nat → Option Tmp} {G : Nat → Option Nat} (o : Oper) (hs : ∀ cs b, o.op ≠ .select cs b) (a : Act) : ∀ m, (∀ k, k < m → ∀ d, D k = some d → d ∉ o.looksAt ops) → execOp (putG D G m a).eval o = execOp a.eval o
  | 0, _ => rfl
  | m + 1, h => by
    have ih := exec_putG (G := G) o hs a m (fun k hk => h k (by omega))
    unfold putG
    cases hg : G m with
    | none => exact ih
    | some g =>
      simp only
      rw [execOp_put (ops := ops) o hs _ _ _ (h m (by omega)), ih]
theorem wanted_putG {ops : Array Oper} {D : Nat → Option Tmp} {G : Nat → Option Nat} (o : Oper) (a : Act) : ∀ m, (∀ k, k < m → ∀ d, D k = some d → d ∉ o.looksAt ops) → Region.wanted o (yielded ops (putG D G m a).tmps) = Region.wanted o (yielded ops a.tmps)
  | 0, _ => rfl
  | m + 1, h => by
    have ih := wanted_putG (G := G) o a m (fun k hk => h k (by omega))
    unfold putG
    cases hg : G m with
    | none => exact ih
    | some g =>
      simp only
      rw [wanted_put (ops := ops) o _ _ _ (h m (by omega)), ih]

/-- The new variables that are there: each in a block of its own, new. -/
structure Reg (obj : Nat → Obj) (m : Nat) (G : Nat → Option Nat) (B : Nat) (w : World) : Prop where
  has : ∀ k g, k < m → G k = some g → w.heap[g]? = some (obj k)
  lo : ∀ k g, k < m → G k = some g → B ≤ g
  ne : ∀ j k g, j < m → k < m → G j = some g → G k = some g → j = k
theorem Reg.stays (obj : Nat → Obj) (m : Nat) (G : Nat → Option Nat) (B : Nat) : Stays (Reg obj m G B) := fun w w' h hb =>
  ⟨fun k g hk hg => by have := h.has k g hk hg; rw [hb.block g (Array.getElem?_eq_some_iff.1 this).1]; exact this, h.lo, h.ne⟩
theorem Reg.add {obj : Nat → Obj} {m : Nat} {G : Nat → Option Nat} {B : Nat} {w : World} (h : Reg obj m G B w) {k : Nat} (hB : B ≤ w.heap.size) : Reg obj m (upd G k w.heap.size) B (w.alloc (obj k)) := by
  have hlt : ∀ j g, j < m → G j = some g → g < w.heap.size := fun j g hj hg => (Array.getElem?_eq_some_iff.1 (h.has j g hj hg)).1
  refine ⟨fun j g hj hg => ?_, fun j g hj hg => ?_, fun i j g hi hj h1 h2 => ?_⟩
  · unfold upd at hg
    by_cases e : j = k
    · rw [if_pos e] at hg; cases hg; subst e; exact (MapKept.heap_alloc w _).1
    · rw [if_neg e] at hg; rw [(MapKept.heap_alloc w _).2 g (hlt j g hj hg)]; exact h.has j g hj hg
  · unfold upd at hg
    by_cases e : j = k
    · rw [if_pos e] at hg; cases hg; exact hB
    · rw [if_neg e] at hg; exact h.lo j g hj hg
  · unfold upd at h1 h2
    by_cases e : i = k
    · by_cases e2 : j = k
      · omega
      · rw [if_pos e] at h1; rw [if_neg e2] at h2; cases h1; have := hlt j _ hj h2; omega
    · by_cases e2 : j = k
      · rw [if_neg e] at h1; rw [if_pos e2] at h2; cases h2; have := hlt i _ hi h1; omega
      · rw [if_neg e] at h1; rw [if_neg e2] at h2; exact h.ne i j g hi hj h1 h2

def bindsOn (o : Oper) (i : Nat) : Bool := o.after.any fun e => Region.binds .any e && e.on == i
/-- Each of the first i operations is waited for by one of 'acc', or by one that is waited for (or is one of 'sk'). -/
def coverGo (sk : List Nat) (L : List Oper) : Nat → List Oper → Bool
  | 0, _ => true
  | i + 1, acc => (sk.contains i || acc.any (fun o => bindsOn o i)) && (match L[i]? with | some o => coverGo sk L i (if sk.contains i then acc else o :: acc) | none => false)
/-- What has come up had all come up that it waits for. -/
def Closed (L : List Oper) (listed : Array Bool) : Prop := ∀ j o, L[j]? = some o → listed.getD j false = true → ∀ e ∈ o.after, Region.binds .any e = true → listed.getD e.on false = true
theorem cover {sk : List Nat} {L : List Oper} {listed : Array Bool} (hc : Closed L listed) (hsk : ∀ i, i ∈ sk → listed.getD i false = true) : ∀ i acc, coverGo sk L i acc = true → (∀ o ∈ acc, ∀ e ∈ o.after, Region.binds .any e = true → listed.getD e.on false = true) → ∀ k, k < i → listed.getD k false = true
  | 0, _, _, _, k, hk => by omega
  | i + 1, acc, h, ha, k, hk => by
    unfold coverGo at h
    rw [Bool.and_eq_true] at h
    obtain ⟨h1, h2⟩ := h
    have hi : listed.getD i false = true := by
      rcases Bool.or_eq_true _ _ ▸ h1 with h1 | h1
      · exact hsk i (by simpa using h1)
      · obtain ⟨o, ho, hb⟩ := List.any_eq_true.1 h1
        unfold bindsOn at hb
        obtain ⟨e, he, h5⟩ := Array.any_eq_true'.1 hb
        simp only [Bool.and_eq_true, beq_iff_eq] at h5
        have := ha o ho e he h5.1
        rw [h5.2] at this
        exact this
    cases hL : L[i]? with
    | none => rw [hL] at h2; cases h2
    | some o' =>
      rw [hL] at h2
      by_cases ek : k = i
      · rw [ek]; exact hi
      · refine cover hc hsk i _ h2 (fun x hx => ?_) k (by omega)
        split at hx
        · exact ha x hx
        · rcases List.mem_cons.1 hx with rfl | hx
          · exact hc i x hL hi
          · exact ha x hx
theorem getD_up {listed : Array Bool} {i j : Nat} (h : listed.getD j false = true) : (listed.setIfInBounds i true).getD j false = true := by
  by_cases e : i = j
  · subst e
    have hs : i < listed.size := by
      rcases Nat.lt_or_ge i listed.size with g | g
      · exact g
      · simp [Array.getElem?_eq_none g] at h
    simp [hs]
  · rw [getD_set_ne false e]; exact h
theorem Closed.set {L : List Oper} {listed : Array Bool} (hc : Closed L listed) {i : Nat} (hr : i ∈ Region.ready .any L.toArray listed) : Closed L (listed.setIfInBounds i true) := by
  obtain ⟨_, o, ho, hall⟩ := mem_ready.1 hr
  intro j o' hj hl e he hb
  by_cases h : i = j
  · subst h
    rw [show L.toArray[i]? = L[i]? by simp] at ho
    rw [hj] at ho
    cases ho
    exact getD_up (hall e he hb)
  · rw [getD_set_ne false h] at hl
    exact getD_up (hc j o' hj hl e he hb)
theorem ready_some {L : List Oper} {listed : Array Bool} (hsz : listed.size = L.length) (ho : ∀ i o, L[i]? = some o → ∀ e ∈ o.after, Region.binds .any e = true → e.on < i) :
    ∀ (n : Nat), n < L.length → listed.getD n true = false → Region.ready .any L.toArray listed ≠ [] := by
  intro n
  induction n using Nat.strongRecOn with
  | _ n ih =>
    intro hn hu
    by_cases hall : ∀ m, m < n → listed.getD m true = true
    · obtain ⟨o, hoe⟩ : ∃ o, L[n]? = some o := ⟨_, List.getElem?_eq_getElem hn⟩
      have hr : n ∈ Region.ready .any L.toArray listed := by
        refine mem_ready.2 ⟨hu, o, by simpa using hoe, fun e he hb => ?_⟩
        have hlt := ho n o hoe e he hb
        exact getD_of' (by omega) (hall _ hlt)
      intro h0
      rw [h0] at hr
      cases hr
    · have : ∃ m, m < n ∧ listed.getD m true = false := by
        apply Classical.byContradiction
        intro hno
        exact hall fun m hm => by
          cases hb : listed.getD m true
          · exact absurd ⟨m, hm, hb⟩ hno
          · rfl
      obtain ⟨m, hm, hu'⟩ := this
      exact ih m hm (by omega) hu'

/-- An operation with nothing to do and no slot. -/
def mute (s : Oper) : Oper := { s with op := .move (.const undef), dst := none }
/-- The region with its new variables and its tail idle. -/
def lame (n m : Nat) (L : List Oper) : List Oper := L.take n ++ (((L.drop n).take m).map idle ++ (L.drop (n + m)).map mute)
section
variable {n m : Nat} {L : List Oper}
theorem lame_lt {i : Nat} (h : i < n) : (lame n m L)[i]? = L[i]? := by
  unfold lame
  rcases Nat.lt_or_ge i L.length with g | g
  · rw [List.getElem?_append_left (by simp; omega), List.getElem?_take, if_pos h]
  · rw [List.getElem?_eq_none (by simp; omega), List.getElem?_eq_none g]
theorem lame_mid {i : Nat} (hn : n + m ≤ L.length) (h : n ≤ i) (h2 : i < n + m) : (lame n m L)[i]? = (L[i]?).map idle := by
  unfold lame
  rw [List.getElem?_append_right (by simp; omega), List.getElem?_append_left (by simp; omega), List.getElem?_map, List.getElem?_take, if_pos (by simp; omega), List.getElem?_drop]
  congr 2
  simp; omega
theorem lame_ge {i : Nat} (hn : n + m ≤ L.length) (h : n + m ≤ i) : (lame n m L)[i]? = (L[i]?).map mute := by
  unfold lame
  rw [List.getElem?_append_right (by simp; omega), List.getElem?_append_right (by simp; omega), List.getElem?_map, List.getElem?_drop]
  congr 2
  simp; omega
theorem lame_all {β : Type} (hn : n + m ≤ L.length) (f : Oper → β) (hf : ∀ o, f (idle o) = f o) (hg : ∀ o, f (mute o) = f o) (i : Nat) : ((lame n m L)[i]?).map f = (L[i]?).map f := by
  rcases Nat.lt_or_ge i n with h | h
  · rw [lame_lt h]
  · rcases Nat.lt_or_ge i (n + m) with h2 | h2
    · rw [lame_mid hn h h2]
      cases L[i]? with
      | none => rfl
      | some o => simp [hf]
    · rw [lame_ge hn h2]
      cases L[i]? with
      | none => rfl
      | some o => simp [hg]
theorem lame_dst (hn : n + m ≤ L.length) {i : Nat} (hi : i < n + m) : ((lame n m L)[i]?).map (·.dst) = (L[i]?).map (·.dst) := by
  rcases Nat.lt_or_ge i n with h | h
  · rw [lame_lt h]
  · rw [lame_mid hn h hi]
    cases L[i]? with
    | none => rfl
    | some o => rfl
theorem lame_wanted (hn : n + m ≤ L.length) (o : Oper) (hg : ∀ g b, o.guard = some (g, b) → g < n + m) (t : Array Value) : Region.wanted o (yielded (lame n m L).toArray t) = Region.wanted o (yielded L.toArray t) := by
  unfold Region.wanted
  cases h : o.guard with
  | none => rfl
  | some gb =>
    obtain ⟨g, b⟩ := gb
    have hl := lame_dst hn (hg g b h)
    simp only
    congr 1
    unfold yielded
    simp only [List.getElem?_toArray]
    cases h1 : (lame n m L)[g]? <;> cases h2 : L[g]? <;> simp [h1, h2] at hl ⊢
    rw [hl]
theorem lame_size (hn : n + m ≤ L.length) : (lame n m L).length = L.length := by
  unfold lame
  simp; omega
theorem lame_ready (hn : n + m ≤ L.length) (listed : Array Bool) : Region.ready .any (lame n m L).toArray listed = Region.ready .any L.toArray listed := by
  unfold Region.ready
  have hs : (lame n m L).toArray.size = L.toArray.size := by simp [lame_size hn]
  rw [hs]
  congr 1
  funext i
  have h := lame_all hn (·.after) (fun _ => rfl) (fun _ => rfl) i
  simp only [List.getElem?_toArray]
  cases h1 : (lame n m L)[i]? <;> cases h2 : L[i]? <;> simp [h1, h2] at h ⊢
  rw [h]
end
section
variable {C : World → Prop} {e : Act}
theorem keeps {ops : Array Oper} {d : Tmp} : ∀ (fuel : Nat) (listed : Array Bool) (x : Act), (∀ j o, ops[j]? = some o → listed.getD j true = false → o.dst ≠ some d) → wpAnyQ P .any ops C (fun x => x = e) fuel listed x → x.tmps[d]? = e.tmps[d]?
  | 0, _, x, _, h => by rw [show x = e from h.2]
  | fuel + 1, listed, x, hd, h => by
    cases hr : Region.ready .any ops listed with
    | nil => rw [show x = e from h.1 hr]
    | cons i r =>
      have hi : i ∈ Region.ready .any ops listed := by rw [hr]; exact List.mem_cons_self
      obtain ⟨hu, o, ho, _⟩ := mem_ready.1 hi
      have hne := hd i o ho hu
      have on : ∀ v, wpAnyQ P .any ops C (fun x => x = e) fuel (listed.setIfInBounds i true) (x.put o.dst v) → x.tmps[d]? = e.tmps[d]? := fun v hv => by
        have := keeps fuel _ _ (fun j o' hj hl => hd j o' hj (by
          by_cases ij : i = j
          · rw [← ij]; exact hu
          · rw [getD_set_ne true ij] at hl; exact hl)) hv
        rw [← this]
        cases hdst : o.dst with
        | none => rfl
        | some d' =>
          rw [hdst] at hne
          have : d' ≠ d := fun e => hne (by rw [e])
          simp [Act.put, this]
      have hq := h.2 i hi
      unfold qOp at hq
      rw [ho] at hq
      simp only at hq
      split at hq
      · obtain ⟨v, _, hk⟩ := hq; exact on v hk
      · exact on _ hq
theorem fins {ops : Array Oper} : ∀ (fuel : Nat) (listed : Array Bool) (x : Act), (∀ j o, ops[j]? = some o → listed.getD j true = false → o.dst = none) → wpAnyQ P .any ops C (fun x => x = e) fuel listed x → x = e
  | 0, _, x, _, h => h.2
  | fuel + 1, listed, x, hd, h => by
    cases hr : Region.ready .any ops listed with
    | nil => exact h.1 hr
    | cons i r =>
      have hi : i ∈ Region.ready .any ops listed := by rw [hr]; exact List.mem_cons_self
      obtain ⟨hu, o, ho, _⟩ := mem_ready.1 hi
      have hn := hd i o ho hu
      have on : ∀ v, wpAnyQ P .any ops C (fun x => x = e) fuel (listed.setIfInBounds i true) (x.put o.dst v) → x = e := fun v hv => by
        have := fins fuel _ _ (fun j o' hj hl => hd j o' hj (by
          by_cases ij : i = j
          · rw [← ij]; exact hu
          · rw [getD_set_ne true ij] at hl; exact hl)) hv
        rw [hn] at this
        exact this
      have hq := h.2 i hi
      unfold qOp at hq
      rw [ho] at hq
      simp only at hq
      split at hq
      · obtain ⟨v, _, hk⟩ := hq; exact on v hk
      · exact on _ hq
end
theorem put_eq {x : Act} {y : Option Tmp} {v v' : Value} (h : ∀ d, y = some d → (x.put y v).tmps[d]? = (x.put y v').tmps[d]?) : x.put y v = x.put y v' := by
  cases y with
  | none => rfl
  | some d =>
    have := h d rfl
    rcases Nat.lt_or_ge d x.tmps.size with g | g
    · simp [Act.put, g] at this
      rw [this]
    · simp [Act.put, Array.setIfInBounds, Nat.not_lt.2 g]


/-- The facts on a region's form. -/
structure MForm (P : Program) (n m : Nat) (sk : List Nat) (L : List Oper) (obj : Nat → Obj) (D : Nat → Option Tmp) : Prop where
  len : n + m < L.length
  last : L.length - 1 ∉ sk
  low : ∀ i, i ∈ sk → n + m ≤ i
  order : ∀ i o, L[i]? = some o → ∀ e ∈ o.after, Region.binds .any e = true → e.on < i
  tail : ∀ i o, n + m ≤ i → i ∉ sk → L[i]? = some o → coverGo sk L i [o] = true
  makes : ∀ k, k < m → ∃ o, L[n + k]? = some o ∧ o.guard = none ∧ o.dst = D k ∧ ∀ (x : Operand → Value) (w : World), (execOp x o).run P w = .ok (.value (ptr w.heap.size)) (w.alloc (obj k))
  apart : ∀ i o, i < n → L[i]? = some o → ∀ k, k < m → ∀ d, D k = some d → d ∉ o.looksAt L.toArray ∧ o.dst ≠ some d
  guards : ∀ i o, i < n → L[i]? = some o → ∀ g b, o.guard = some (g, b) → g < n + m
  differ : ∀ (i j : Nat) (o o' : Oper), i < j → j < n + m → L[i]? = some o → L[j]? = some o' → ∀ d, o.dst = some d → o'.dst ≠ some d
  sel : ∀ i o cs b, i < n → L[i]? = some o → o.op ≠ .select cs b
section
variable {n m : Nat} {sk : List Nat} {L : List Oper} {obj : Nat → Obj} {D : Nat → Option Tmp}
theorem MForm.le (F : MForm P n m sk L obj D) : n + m ≤ L.length := by have := F.len; omega
theorem MForm.diff (F : MForm P n m sk L obj D) : ∀ i j, i < m → j < m → i ≠ j → ∀ d, D i = some d → D j ≠ some d := by
  intro i j hi hj hne d hd hd'
  obtain ⟨o, ho, _, h1, _⟩ := F.makes i hi
  obtain ⟨o', ho', _, h2, _⟩ := F.makes j hj
  rcases Nat.lt_or_gt_of_ne hne with h | h
  · exact F.differ (n + i) (n + j) o o' (by omega) (by omega) ho ho' d (by rw [h1, hd]) (by rw [h2, hd'])
  · exact F.differ (n + j) (n + i) o' o (by omega) (by omega) ho' ho d (by rw [h2, hd']) (by rw [h1, hd])
end

theorem getD_set_eq {listed : Array Bool} {i : Nat} (h : i < listed.size) (b : Bool) : (listed.setIfInBounds i true).getD i b = true := by simp [h]
theorem not_listed {listed : Array Bool} {i : Nat} (h : listed.getD i true = false) : listed.getD i false = false := by
  rcases Nat.lt_or_ge i listed.size with g | g
  · simp [g] at h ⊢; exact h
  · simp [Array.getElem?_eq_none g] at h

/-- The tail from operation p on, without those that were taken first. -/
def tailOf (sk : List Nat) : List Oper → Nat → List Oper
  | [], _ => []
  | o :: r, p => if sk.contains p then tailOf sk r (p + 1) else o :: tailOf sk r (p + 1)
theorem tailOf_none : ∀ (r : List Oper) (p : Nat), tailOf [] r p = r
  | [], _ => rfl
  | o :: r, p => by unfold tailOf; rw [tailOf_none r (p + 1)]; rfl
theorem skip_to (sk : List Nat) (L : List Oper) : ∀ (d p : Nat), L.length - p = d → p ≤ L.length → ∃ p', p ≤ p' ∧ p' ≤ L.length ∧ (∀ i, p ≤ i → i < p' → i ∈ sk) ∧ (p' = L.length ∨ p' ∉ sk) ∧ tailOf sk (L.drop p) p = tailOf sk (L.drop p') p'
  | 0, p, hd, hp => ⟨p, Nat.le_refl _, hp, fun i h1 h2 => by omega, Or.inl (by omega), rfl⟩
  | d + 1, p, hd, hp => by
    by_cases h : p ∈ sk
    · obtain ⟨p', h1, h2, h3, h4, h5⟩ := skip_to sk L d (p + 1) (by omega) (by omega)
      refine ⟨p', by omega, h2, fun i hi hi2 => ?_, h4, ?_⟩
      · by_cases e : i = p
        · rw [e]; exact h
        · exact h3 i (by omega) hi2
      · rw [← h5, List.drop_eq_getElem_cons (by omega)]
        unfold tailOf
        rw [if_pos (by simpa using h)]
        cases hh : L.drop (p + 1) <;> rfl
    · exact ⟨p, Nat.le_refl _, hp, fun i h1 h2 => by omega, Or.inr h, rfl⟩

section
variable {n m : Nat} {sk : List Nat} {L : List Oper} {obj : Nat → Obj} {D : Nat → Option Tmp}
/-- The tail, one operation behind the other. -/
theorem any_of_tail (F : MForm P n m sk L obj D) {C : World → Prop} {Q0 : Act → Prop} {Q : Exit → Act → World → Prop} :
    ∀ (fuel : Nat) (p0 : Nat) (listed : Array Bool) (a0 x : Act) (w : World), n + m ≤ p0 → p0 ≤ L.length → listed.size = L.length → Closed L listed → (∀ i, i ∈ sk → listed.getD i false = true) → (∀ i, i < p0 → listed.getD i true = true) → (∀ i, p0 ≤ i → i < L.length → i ∉ sk → listed.getD i true = false) →
      wpAnyQ P .any (lame n m L).toArray C Q0 fuel listed a0 → wpList P L.toArray Q (tailOf sk (L.drop p0) p0) x w → wpAny P .any L.toArray Q fuel listed x w := by
  intro fuel
  induction fuel with
  | zero =>
    intro p0 listed a0 x w hp hpl hsz hc hsk hl hu h hw
    obtain ⟨p, q1, q2, q3, q4, q5⟩ := skip_to sk L _ p0 rfl hpl
    have h0 := h.1
    rw [lame_ready F.le] at h0
    rw [q5] at hw
    by_cases e : p = L.length
    · subst e
      rw [List.drop_length] at hw
      exact wpAny_done h0 0 x w hw
    · have hns : p ∉ sk := q4.resolve_left e
      exact absurd h0 (ready_some hsz F.order p (by omega) (hu p (by omega) (by omega) hns))
  | succ fuel ih =>
    intro p0 listed a0 x w hp hpl hsz hc hsk hl0 hu0 h hw
    obtain ⟨p, q1, q2, q3, q4, q5⟩ := skip_to sk L _ p0 rfl hpl
    rw [q5] at hw
    have hl : ∀ i, i < p → listed.getD i true = true := fun i hi => by
      rcases Nat.lt_or_ge i p0 with g | g
      · exact hl0 i g
      · exact getD_of (hsk i (q3 i g hi))
    have hu : ∀ i, p ≤ i → i < L.length → i ∉ sk → listed.getD i true = false := fun i h1 h2 h3 => hu0 i (by omega) h2 h3
    by_cases e : p = L.length
    · subst e
      rw [List.drop_length] at hw
      have h0 : Region.ready .any L.toArray listed = [] := by
        apply List.eq_nil_iff_forall_not_mem.2
        intro j hj
        obtain ⟨hju, oj, hoj, _⟩ := mem_ready.1 hj
        have hlt : j < L.length := by have := (Array.getElem?_eq_some_iff.1 hoj).1; simpa using this
        rw [hl j hlt] at hju
        cases hju
      exact wpAny_done h0 _ x w hw
    · have hns : p ∉ sk := q4.resolve_left e
      refine ⟨fun h0 => absurd h0 (ready_some hsz F.order p (by omega) (hu p (Nat.le_refl _) (by omega) hns)), fun i hi => ?_⟩
      obtain ⟨hiu, o, ho, hall⟩ := mem_ready.1 hi
      have ho' : L[i]? = some o := by simpa using ho
      have hisk : i ∉ sk := fun hm => by have := getD_of (hsk i hm); rw [hiu] at this; cases this
      have hge : p ≤ i := by
        rcases Nat.lt_or_ge i p with g | g
        · rw [hl i g] at hiu; cases hiu
        · exact g
      have hcv := cover hc hsk i [o] (F.tail i o (by omega) hisk ho') (fun x hx => by rw [List.mem_singleton.1 hx]; exact hall)
      have hip : i = p := by
        rcases Nat.lt_or_ge p i with g | g
        · have := hcv p g
          rw [not_listed (hu p (Nat.le_refl _) (by omega) hns)] at this
          cases this
        · omega
      subst hip
      have hd : tailOf sk (L.drop i) i = o :: tailOf sk (L.drop (i + 1)) (i + 1) := by
        rw [List.drop_eq_getElem_cons (by omega)]
        have e1 : L[i] = o := (List.getElem?_eq_some_iff.1 ho').2
        rw [e1]
        show (if sk.contains i then tailOf sk (L.drop (i + 1)) (i + 1) else o :: tailOf sk (L.drop (i + 1)) (i + 1)) = _
        rw [if_neg (by simpa using hns)]
      rw [hd] at hw
      have hq := h.2 i (by rw [lame_ready F.le]; exact hi)
      have hi' : (lame n m L).toArray[i]? = some (mute o) := by simp only [List.getElem?_toArray]; rw [lame_ge F.le (by omega), ho']; rfl
      have hK : wpAnyQ P .any (lame n m L).toArray C Q0 fuel (listed.setIfInBounds i true) a0 := by
        unfold qOp at hq
        rw [hi'] at hq
        have e : ∀ v, a0.put (mute o).dst v = a0 := fun v => rfl
        simp only at hq
        split at hq
        · obtain ⟨v, _, hk⟩ := hq; rw [e] at hk; exact hk
        · rw [e] at hq; exact hq
      have on : ∀ x' w', wpList P L.toArray Q (tailOf sk (L.drop (i + 1)) (i + 1)) x' w' → wpAny P .any L.toArray Q fuel (listed.setIfInBounds i true) x' w' := fun x' w' hx =>
        ih (i + 1) _ a0 x' w' (by omega) (by omega) (by simpa using hsz) (hc.set hi) (fun j hj => getD_up (hsk j hj)) (fun j hj => by
          by_cases ej : i = j
          · subst ej; exact getD_set_eq (by omega) _
          · rw [getD_set_ne true ej]; exact hl j (by omega)) (fun j hj hj2 hj3 => by rw [getD_set_ne true (by omega)]; exact hu j (by omega) hj2 hj3) hK hx
      unfold wpOp
      rw [ho]
      have hw' : if Region.wanted o (yielded L.toArray x.tmps) then o.wp P x w (wpList P L.toArray Q (tailOf sk (L.drop (i + 1)) (i + 1))) Q ∨ (o.asks P x w ∧ LetsOut Q) else wpList P L.toArray Q (tailOf sk (L.drop (i + 1)) (i + 1)) (x.put o.dst undef) w := hw
      simp only
      split
      · rename_i hwn; rw [if_pos hwn] at hw'
        exact hw'.imp (Oper.wp_mono fun a' w' h' => on a' w' h') id
      · rename_i hwn; rw [if_neg hwn] at hw'
        exact on _ _ hw'

theorem any_of_make (F : MForm P n m sk L obj D) {W : World} {e : Act} {Q : Exit → Act → World → Prop}
    (hfin : ∀ (G : Nat → Option Nat) (w : World), Below W.heap.size W w → Reg obj m G W.heap.size w → (∀ k, k < m → ∃ g, G k = some g) → wpList P L.toArray Q (tailOf sk (L.drop (n + m)) (n + m)) (putG D G m e) w) :
    ∀ (fuel : Nat) (listed : Array Bool) (a0 : Act) (G : Nat → Option Nat) (w : World), listed.size = L.length → Closed L listed → (∀ i, i ∈ sk → listed.getD i false = true) →
      (∀ R, Stays R → Nonempty (LaterR W R) → wpAnyQ P .any (lame n m L).toArray (Cls W R) (fun x => x = e) fuel listed a0) → Below W.heap.size W w → Reg obj m G W.heap.size w →
      (∀ k, k < m → (G k = none ↔ listed.getD (n + k) true = false)) → (∀ i, n + m ≤ i → i < L.length → i ∉ sk → listed.getD i true = false) → wpAny P .any L.toArray Q fuel listed (putG D G m a0) w := by
  have hlen := F.len
  intro fuel
  induction fuel with
  | zero =>
    intro listed a0 G w hsz hc hsk H hb hG hGl hu
    have h0 := (H _ (Reg.stays obj m G W.heap.size) ⟨⟨w, hb, hG⟩⟩).1
    rw [lame_ready F.le] at h0
    exact absurd h0 (ready_some hsz F.order (L.length - 1) (by omega) (hu _ (by omega) (by omega) F.last))
  | succ fuel ih =>
    intro listed a0 G w hsz hc hsk H hb hG hGl hu
    have HR := H _ (Reg.stays obj m G W.heap.size) ⟨⟨w, hb, hG⟩⟩
    by_cases htl : ∀ i, i < n + m → listed.getD i true = true
    · -- all that stands ahead of the tail has come up
      have ea : a0 = e := by
        refine fins (fuel + 1) listed a0 (fun j o hj hl => ?_) HR
        have hjm : n + m ≤ j := by
          rcases Nat.lt_or_ge j (n + m) with g | g
          · rw [htl j g] at hl; cases hl
          · exact g
        simp only [List.getElem?_toArray] at hj
        rw [lame_ge F.le hjm] at hj
        cases hL : L[j]? with
        | none => rw [hL] at hj; cases hj
        | some o' =>
          rw [hL] at hj
          cases hj
          rfl
      subst ea
      refine any_of_tail F (fuel + 1) (n + m) listed a0 _ w (Nat.le_refl _) (by omega) hsz hc hsk htl hu HR (hfin G w hb hG fun k hk => ?_)
      cases hg : G k with
      | none => have := (hGl k hk).1 hg; rw [htl _ (by omega)] at this; cases this
      | some g => exact ⟨g, rfl⟩
    · refine ⟨fun h0 => absurd h0 (ready_some hsz F.order (L.length - 1) (by omega) (hu _ (by omega) (by omega) F.last)), fun i hi => ?_⟩
      obtain ⟨hiu, o, ho, hall⟩ := mem_ready.1 hi
      have ho' : L[i]? = some o := by simpa using ho
      have hil : i < L.length := (List.getElem?_eq_some_iff.1 ho').1
      have hq := HR.2 i (by rw [lame_ready F.le]; exact hi)
      have hu' : ∀ j, n + m ≤ j → j < L.length → j ∉ sk → i < n + m → (listed.setIfInBounds i true).getD j true = false := fun j h1 h2 h4 h3 => by rw [getD_set_ne true (by omega)]; exact hu j h1 h2 h4
      have hisk : i ∉ sk := fun hm => by have := getD_of (hsk i hm); rw [hiu] at this; cases this
      have keep : i < n + m → ∀ j o', (lame n m L).toArray[j]? = some o' → (listed.setIfInBounds i true).getD j true = false → ∀ d, o.dst = some d → o'.dst ≠ some d := fun him j o' hj hl d hd => by
        have hji : j ≠ i := fun ej => by subst ej; rw [getD_set_eq (by omega)] at hl; cases hl
        simp only [List.getElem?_toArray] at hj
        rcases Nat.lt_or_ge j (n + m) with hjm | hjm
        · have hdst := lame_dst F.le hjm
          rw [hj] at hdst
          cases hL : L[j]? with
          | none => rw [hL] at hdst; cases hdst
          | some o2 =>
            rw [hL] at hdst
            simp only [Option.map_some, Option.some.injEq] at hdst
            rw [hdst]
            rcases Nat.lt_or_gt_of_ne hji with g | g
            · intro h2; exact F.differ j i o2 o g him hL ho' d h2 hd
            · exact F.differ i j o o2 g hjm ho' hL d hd
        · rw [lame_ge F.le hjm] at hj
          cases hL : L[j]? with
          | none => rw [hL] at hj; cases hj
          | some o2 =>
            rw [hL] at hj
            cases hj
            intro h2; cases h2
      have same : i < n + m → ∀ v, wpAnyQ P .any (lame n m L).toArray (Cls W (Reg obj m G W.heap.size)) (fun x => x = e) fuel (listed.setIfInBounds i true) (a0.put o.dst v) →
          ∀ R, Stays R → Nonempty (LaterR W R) → wpAnyQ P .any (lame n m L).toArray (Cls W R) (fun x => x = e) fuel (listed.setIfInBounds i true) (a0.put o.dst v) := fun him v hv R hR hN => by
        have hq2 := (H R hR hN).2 i (by rw [lame_ready F.le]; exact hi)
        have go : ∀ u, wpAnyQ P .any (lame n m L).toArray (Cls W R) (fun x => x = e) fuel (listed.setIfInBounds i true) (a0.put o.dst u) → wpAnyQ P .any (lame n m L).toArray (Cls W R) (fun x => x = e) fuel (listed.setIfInBounds i true) (a0.put o.dst v) := fun u hk => by
          have e1 : a0.put o.dst u = a0.put o.dst v := put_eq fun d hd => by
            rw [keeps fuel _ _ (fun j o' hj hl => keep him j o' hj hl d hd) hk, keeps fuel _ _ (fun j o' hj hl => keep him j o' hj hl d hd) hv]
          rw [← e1]
          exact hk
        have hdst := lame_dst F.le him
        unfold qOp at hq2
        cases hi0 : (lame n m L)[i]? with
        | none => rw [hi0, ho'] at hdst; cases hdst
        | some o2 =>
          rw [hi0, ho'] at hdst
          simp only [Option.map_some, Option.some.injEq] at hdst
          rw [show (lame n m L).toArray[i]? = some o2 by simpa using hi0] at hq2
          simp only at hq2
          rw [hdst] at hq2
          split at hq2
          · obtain ⟨u, _, hk⟩ := hq2; rw [hdst] at hk; exact go u hk
          · exact go _ hq2
      rcases Nat.lt_or_ge i n with hin | hin
      · -- a quiet one
        have hlook : ∀ k, k < m → ∀ d, D k = some d → d ∉ o.looksAt L.toArray := fun k hk d hd => (F.apart i o hin ho' k hk d hd).1
        have hput : ∀ k, k < m → ∀ d, D k = some d → o.dst ≠ some d := fun k hk d hd => (F.apart i o hin ho' k hk d hd).2
        have on : ∀ v w', Cls W (Reg obj m G W.heap.size) w' → wpAnyQ P .any (lame n m L).toArray (Cls W (Reg obj m G W.heap.size)) (fun x => x = e) fuel (listed.setIfInBounds i true) (a0.put o.dst v) →
            wpAny P .any L.toArray Q fuel (listed.setIfInBounds i true) ((putG D G m a0).put o.dst v) w' := fun v w' hw' hk => by
          obtain ⟨z, rfl⟩ := hw'
          rw [← putG_put v a0 m hput]
          refine ih _ _ G _ (by simpa using hsz) (hc.set hi) (fun j hj => getD_up (hsk j hj)) (same (by omega) v hk) z.below z.reg (fun k hk => ?_) (fun j h1 h2 h3 => hu' j h1 h2 h3 (by omega))
          rw [getD_set_ne true (by omega)]
          exact hGl k hk
        unfold qOp at hq
        rw [show (lame n m L).toArray[i]? = some o by simp only [List.getElem?_toArray]; rw [lame_lt hin]; exact ho'] at hq
        unfold wpOp
        rw [ho]
        simp only at hq ⊢
        rw [lame_wanted F.le o (fun g b h => F.guards i o hin ho' g b h)] at hq
        rw [wanted_putG o a0 m hlook]
        split at hq
        · rename_i hwn
          rw [if_pos hwn]
          refine .inl ?_
          obtain ⟨v, h1, h2⟩ := hq
          have h3 := h1 w ⟨⟨w, hb, hG⟩, rfl⟩
          unfold Oper.quietAt at h3
          unfold Oper.wp
          rw [exec_putG (ops := L.toArray) o (fun cs b => F.sel i o cs b hin ho') a0 m hlook]
          generalize (execOp a0.eval o).run P w = r at *
          cases r with
          | ok nx w' =>
            cases nx <;> simp only [Oper.quietUpon] at h3 <;> simp only [Oper.upon]
            case value u =>
              obtain ⟨e1, e2⟩ := h3
              rw [e1, e2]
              exact on v w ⟨⟨w, hb, hG⟩, rfl⟩ h2
            case skip =>
              obtain ⟨e1, e2⟩ := h3
              rw [e1, ← e2]
              exact on v w ⟨⟨w, hb, hG⟩, rfl⟩ h2
            case enter f args =>
              obtain ⟨e1, hcl⟩ := h3
              rw [e1]
              exact hcl.mono fun e w'' ⟨he, hw''⟩ => by subst he; exact on v w'' hw'' h2
          | halt x w' => simp only [Oper.quietUpon] at h3
        · rename_i hwn
          rw [if_neg hwn]
          exact on _ w ⟨⟨w, hb, hG⟩, rfl⟩ hq
      · rcases Nat.lt_or_ge i (n + m) with him | him
        · -- a new variable
          obtain ⟨k, rfl⟩ : ∃ k, i = n + k := ⟨i - n, by omega⟩
          obtain ⟨o2, ho2, hgd, hdk, hrun⟩ := F.makes k (by omega)
          rw [ho'] at ho2
          cases ho2
          have hGn : G k = none := (hGl k (by omega)).2 hiu
          have hk : wpAnyQ P .any (lame n m L).toArray (Cls W (Reg obj m G W.heap.size)) (fun x => x = e) fuel (listed.setIfInBounds (n + k) true) (a0.put o.dst undef) := by
            unfold qOp at hq
            rw [show (lame n m L).toArray[n + k]? = some (idle o) by simp only [List.getElem?_toArray]; rw [lame_mid F.le (by omega) (by omega), ho']; rfl] at hq
            simp only at hq
            split at hq
            · obtain ⟨v, h1, h2⟩ := hq
              have h3 := h1 w ⟨⟨w, hb, hG⟩, rfl⟩
              unfold Oper.quietAt at h3
              rw [BigFrame.run_move (.const undef) rfl] at h3
              have : v = undef := by have := h3.2; exact this.symm
              rw [this] at h2
              exact h2
            · exact hq
          have hB : W.heap.size ≤ w.heap.size := hb.size
          unfold wpOp
          rw [ho]
          simp only
          rw [if_pos (by unfold Region.wanted; rw [hgd])]
          refine .inl ?_
          unfold Oper.wp
          rw [hrun]
          simp only [Oper.upon]
          have hD := F.diff
          have ep : (putG D G m a0).put o.dst (ptr w.heap.size) = putG D (upd G k w.heap.size) m (a0.put o.dst undef) := by
            rw [hdk, putG_upd _ hGn m (by omega) hD, putG_none _ _ hGn m (fun j hj hne => hD j k hj (by omega) hne), put_put]
          rw [ep]
          refine ih _ _ _ _ (by simpa using hsz) (hc.set hi) (fun j hj => getD_up (hsk j hj)) (same him undef hk) (hb.alloc hB _) (hG.add hB) (fun j hj => ?_) (fun j h1 h2 h3 => hu' j h1 h2 h3 him)
          unfold upd
          by_cases ej : j = k
          · subst ej
            rw [if_pos rfl, getD_set_eq (by omega)]
            simp
          · rw [if_neg ej, getD_set_ne true (by omega)]
            exact hGl j hj
        · -- one of the tail: not while others wait
          exfalso
          apply htl
          intro j hj
          have hcv := cover hc hsk i [o] (F.tail i o him hisk ho') (fun x hx => by rw [List.mem_singleton.1 hx]; exact hall)
          exact getD_of (hcv j (by omega))

end

section
variable {ops : Array Oper} {md : Region.Mode} {C : World → Prop}
/-- The operations of these numbers, in this order, are as good as in any. -/
def lexL (md : Region.Mode) (ops : Array Oper) : List Nat → Array Bool → Bool
  | [], listed => (Region.ready md ops listed).isEmpty
  | k :: ks, listed => (Region.ready md ops listed).contains k && Region.free md ops listed k && lexL md ops ks (listed.setIfInBounds k true)
theorem wpAnyQ_list {Q : Act → Prop} (hs : Region.noSelect ops = true) : ∀ (l : List Nat) (listed : Array Bool) (a : Act), lexL md ops l listed = true → wpQuiet P ops C Q (l.filterMap (ops[·]?)) a → wpAnyQ P md ops C Q l.length listed a
  | [], _, _, hB, h => ⟨by simpa [lexL] using hB, h⟩
  | k :: l, listed, a, hB, h => by
    simp only [lexL, Bool.and_eq_true] at hB
    obtain ⟨⟨hr, hf⟩, hB'⟩ := hB
    cases h0 : ops[k]? with
    | none => unfold Region.free at hf; rw [h0] at hf; cases hf
    | some o =>
      rw [List.filterMap_cons_some h0] at h
      have hst : qOp P ops C k (wpQuiet P ops C Q (l.filterMap (ops[·]?))) a := by unfold qOp; simp only [h0]; exact h
      obtain ⟨v, hy, hK⟩ := yieldsIn_of_qOp h0 hst
      exact wpAnyQ_first h0 (Region.noSelect_spec hs) l.length listed a (Region.free_spec h0 hf) (by simpa using hr) hy (wpAnyQ_list hs l _ _ hB' hK)
end
theorem take_map (l : List Oper) : ∀ n, n ≤ l.length → (List.range n).filterMap (l.toArray[·]?) = l.take n
  | 0, _ => by simp
  | n + 1, h => by
    rw [List.range_succ, List.filterMap_append, take_map l n (by omega), List.take_add_one]
    congr 1
    simp [List.getElem?_eq_getElem (show n < l.length by omega)]

/-- The frame behind idle operations. -/
def idlePut (s : List Oper) (a : Act) : Act := s.foldl (fun x o => x.put o.dst undef) a
theorem idle_quiet {ops : Array Oper} {C : World → Prop} {e : Act} : ∀ (s : List Oper) (a : Act), (∀ o ∈ s, o.op = .move (.const undef)) → a = e → wpQuiet P ops C (fun x => x = idlePut s e) s a
  | [], a, _, h => h
  | o :: s, a, hs, h => by
    subst h
    have ih := idle_quiet (ops := ops) (C := C) s (a.put o.dst undef) (e := a.put o.dst undef) (fun o ho => hs o (List.mem_cons_of_mem _ ho)) rfl
    show if Region.wanted o (yielded ops a.tmps) then o.quiet P a C (wpQuiet P ops C (fun x => x = idlePut (o :: s) a) s) else wpQuiet P ops C (fun x => x = idlePut (o :: s) a) s (a.put o.dst undef)
    split
    · exact BigFrame.quiet_move (.const undef) (hs o List.mem_cons_self) ih
    · exact ih
theorem lame_quiet {n m : Nat} {L : List Oper} (hn : n + m ≤ L.length) {C : World → Prop} {e : Act} (s : List Oper) (hs : ∀ o ∈ s, o.op = .move (.const undef)) : ∀ (k : List Oper) (a : Act), (∀ o ∈ k, ∀ g b, o.guard = some (g, b) → g < n + m) → wpQuiet P L.toArray C (fun x => x = e) k a → wpQuiet P (lame n m L).toArray C (fun x => x = idlePut s e) (k ++ s) a
  | [], a, _, h => idle_quiet s a hs h
  | o :: k, a, hk, h => by
    have ih := fun a => lame_quiet (C := C) (e := e) hn s hs k a (fun o ho => hk o (List.mem_cons_of_mem _ ho))
    have h' : if Region.wanted o (yielded L.toArray a.tmps) then o.quiet P a C (wpQuiet P L.toArray C (fun x => x = e) k) else wpQuiet P L.toArray C (fun x => x = e) k (a.put o.dst undef) := h
    show if Region.wanted o (yielded (lame n m L).toArray a.tmps) then o.quiet P a C (wpQuiet P (lame n m L).toArray C (fun x => x = idlePut s e) (k ++ s)) else wpQuiet P (lame n m L).toArray C (fun x => x = idlePut s e) (k ++ s) (a.put o.dst undef)
    rw [lame_wanted hn o (hk o List.mem_cons_self)]
    split
    · rename_i hw; rw [if_pos hw] at h'; exact Oper.quiet_mono (fun a h => ih a h) h'
    · rename_i hw; rw [if_neg hw] at h'; exact ih _ h'
theorem putG_idle {D : Nat → Option Tmp} {G : Nat → Option Nat} {m : Nat} (hG : ∀ k, k < m → ∃ g, G k = some g) (hD : ∀ i j, i < m → j < m → i ≠ j → ∀ d, D i = some d → D j ≠ some d) : ∀ (s : List Oper) (x : Act), (∀ o ∈ s, o.dst = none ∨ ∃ k, k < m ∧ o.dst = D k) → putG D G m (idlePut s x) = putG D G m x
  | [], _, _ => rfl
  | o :: s, x, h => by
    have ih := putG_idle hG hD s (x.put o.dst undef) (fun o ho => h o (List.mem_cons_of_mem _ ho))
    show putG D G m (idlePut s (x.put o.dst undef)) = _
    rw [ih]
    rcases h o List.mem_cons_self with e | ⟨k, hk, e⟩
    · rw [e]; rfl
    · obtain ⟨g, hg⟩ := hG k hk
      rw [e, putG_set undef x hg m hk hD]

def makeB (n m : Nat) (sk : List Nat) (L : List Oper) : Bool :=
  decide (n + m < L.length) && !sk.contains (L.length - 1) && sk.all (fun i => decide (n + m ≤ i))
  && ((List.range L.length).all fun i => (((L[i]?).map fun o => o.after.all fun e => !Region.binds .any e || decide (e.on < i)).getD true))
  && ((List.range L.length).all fun i => decide (i < n + m) || sk.contains i || (((L[i]?).map fun o => coverGo sk L i [o]).getD true))
  && ((List.range n).all fun i => (((L[i]?).map fun o => (List.range m).all fun k => (match (L[n + k]?).bind (·.dst) with | some d => !(o.looksAt L.toArray).contains d && o.dst != some d | none => true)).getD true))
  && ((List.range n).all fun i => (((L[i]?).map fun o => (match o.guard with | some (g, _) => decide (g < n + m) | none => true)).getD true))
  && ((List.range (n + m)).all fun j => (List.range j).all fun i => (match (L[i]?).bind (·.dst), (L[j]?).bind (·.dst) with | some d, some d' => d != d' | _, _ => true))
  && ((List.range m).all fun k => (((L[n + k]?).map fun o => o.guard.isNone).getD false))
theorem form_of {n m : Nat} {sk : List Nat} {L : List Oper} {obj : Nat → Obj} (h : makeB n m sk L = true) (hs : Region.noSelect (lame n m L).toArray = true)
    (hO : ∀ k, k < m → ∃ o, L[n + k]? = some o ∧ ∀ (x : Operand → Value) (w : World), (execOp x o).run P w = .ok (.value (ptr w.heap.size)) (w.alloc (obj k))) : MForm P n m sk L obj (fun k => (L[n + k]?).bind (·.dst)) := by
  simp only [makeB, Bool.and_eq_true] at h
  obtain ⟨⟨⟨⟨⟨⟨⟨⟨h1, h1b⟩, h1c⟩, h2⟩, h3⟩, h4⟩, h4b⟩, h5⟩, h6⟩ := h
  have hlt : ∀ {i : Nat} {o : Oper}, L[i]? = some o → i < L.length := fun h => (List.getElem?_eq_some_iff.1 h).1
  refine ⟨by simpa using h1, by simpa using h1b, fun i hi => ?_, fun i o hio e he hb => ?_, fun i o hi his hio => ?_, fun k hk => ?_, fun i o hi hio k hk d hd => ?_, fun i o hi hio g b hg => ?_, fun i j o o' hij hjm hi hj d hd hd' => ?_, fun i o cs b hi hio => ?_⟩
  · have := List.all_eq_true.1 h1c i hi
    simpa using this
  · have h := List.all_eq_true.1 h2 i (List.mem_range.2 (hlt hio))
    rw [hio] at h
    simp only [Option.map_some, Option.getD_some] at h
    have h5 := Array.all_eq_true_iff_forall_mem.1 h e he
    simpa [hb] using h5
  · have h := List.all_eq_true.1 h3 i (List.mem_range.2 (hlt hio))
    rw [hio] at h
    simp only [Option.map_some, Option.getD_some, Bool.or_eq_true, decide_eq_true_eq] at h
    rcases h with (h | h) | h
    · omega
    · exact absurd (by simpa using h) his
    · exact h
  · obtain ⟨o, ho, hr⟩ := hO k hk
    have h := List.all_eq_true.1 h6 k (List.mem_range.2 hk)
    rw [ho] at h
    simp only [Option.map_some, Option.getD_some] at h
    exact ⟨o, ho, by simpa using h, by simp [ho], hr⟩
  · have h := List.all_eq_true.1 h4 i (List.mem_range.2 hi)
    rw [hio] at h
    simp only [Option.map_some, Option.getD_some] at h
    have h := List.all_eq_true.1 h k (List.mem_range.2 hk)
    rw [hd] at h
    simp only [Bool.and_eq_true, Bool.not_eq_true', bne_iff_ne] at h
    exact ⟨by simpa using h.1, h.2⟩
  · have h := List.all_eq_true.1 h4b i (List.mem_range.2 hi)
    rw [hio] at h
    simp only [Option.map_some, Option.getD_some, hg] at h
    simpa using h
  · have h := List.all_eq_true.1 h5 j (List.mem_range.2 hjm)
    have h := List.all_eq_true.1 h i (List.mem_range.2 hij)
    rw [hi, hj] at h
    simp only [Option.bind_some, hd, hd'] at h
    simp at h
  · refine Region.noSelect_spec hs i o cs b ?_
    simp only [List.getElem?_toArray]
    rw [lame_lt hi]
    exact hio

theorem rep_at {N i : Nat} (h : i < N) : (Array.replicate N false).getD i true = false := by
  rw [Array.getD, dif_pos (by simpa using h)]
  simp
/-- The numbers of a region's operations, without those that were taken first. -/
def rests (n : Nat) (sk : List Nat) (len : Nat) : List Nat := (List.range' n (len - n)).filter fun i => !sk.contains i
theorem wp_core {Q : Exit → Act → World → Prop} {a : Act} {w : World} {L : List Oper} (n m : Nat) (sk : List Nat) (obj : Nat → Obj) (listed : Array Bool) (hs : Region.noSelect (lame n m L).toArray = true) (hB : lexL .any (lame n m L).toArray (List.range n ++ rests n sk L.length) listed = true) (hF : makeB n m sk L = true)
    (hsz : listed.size = L.length) (hc : Closed L listed) (hsk : ∀ i, i ∈ sk → listed.getD i false = true) (hun : ∀ i, i < L.length → i ∉ sk → listed.getD i true = false)
    (hO : ∀ k, k < m → ∃ o, L[n + k]? = some o ∧ ∀ (x : Operand → Value) (w : World), (execOp x o).run P w = .ok (.value (ptr w.heap.size)) (w.alloc (obj k)))
    (h : ∃ a', (∀ R, Stays R → Nonempty (LaterR w R) → wpQuiet P L.toArray (Cls w R) (fun x => x = a') (L.take n) a) ∧
      ∀ G w', Below w.heap.size w w' → Reg obj m G w.heap.size w' → (∀ k, k < m → ∃ g, G k = some g) → wpList P L.toArray Q (tailOf sk (L.drop (n + m)) (n + m)) (putG (fun k => (L[n + k]?).bind (·.dst)) G m a') w') :
    wpAny P .any L.toArray Q (List.range n ++ rests n sk L.length).length listed a { w with drawn := w.drawn + 1 } := by
  obtain ⟨a', hq, hfin⟩ := h
  have F := form_of hF hs hO
  have hle := F.le
  have hb : Below w.heap.size w { w with drawn := w.drawn + 1 } := below_drew (Below.refl _ _)
  obtain ⟨S, hS⟩ : ∃ S, (rests n sk L.length).filterMap ((lame n m L).toArray[·]?) = S := ⟨_, rfl⟩
  have hSo : ∀ o ∈ S, ∃ i, n ≤ i ∧ (lame n m L)[i]? = some o := fun o ho => by
    rw [← hS] at ho
    obtain ⟨i, hi, h2⟩ := List.mem_filterMap.1 ho
    unfold rests at hi
    have := (List.mem_range'_1.1 (List.mem_filter.1 hi).1).1
    exact ⟨i, this, by simpa using h2⟩
  have hSm : ∀ o ∈ S, o.op = .move (.const undef) := fun o ho => by
    obtain ⟨i, h1, h2⟩ := hSo o ho
    rcases Nat.lt_or_ge i (n + m) with g | g
    · rw [lame_mid hle h1 g] at h2
      cases hL : L[i]? with
      | none => rw [hL] at h2; cases h2
      | some o' => rw [hL] at h2; cases h2; rfl
    · rw [lame_ge hle g] at h2
      cases hL : L[i]? with
      | none => rw [hL] at h2; cases h2
      | some o' => rw [hL] at h2; cases h2; rfl
  have main := any_of_make F (W := w) (e := idlePut S a') (Q := Q) (fun G w' h1 h2 h3 => ?_) (List.range n ++ rests n sk L.length).length listed a (fun _ => none) { w with drawn := w.drawn + 1 } hsz hc hsk (fun R hR hN => ?_) hb ⟨fun _ _ _ h => by (cases h), fun _ _ _ h => by (cases h), fun _ _ _ _ _ h => by (cases h)⟩ (fun k hk => ?_) (fun i _ hi his => hun i hi his)
  · have e : putG (fun k => (L[n + k]?).bind (·.dst)) (fun _ => none) m a = a := by
      generalize m = q
      induction q with
      | zero => rfl
      | succ q ih => exact ih
    rw [e] at main
    exact main
  · rw [putG_idle h3 F.diff S a' (fun o ho => ?_)]
    · exact hfin G w' h1 h2 h3
    · obtain ⟨i, h1, h2⟩ := hSo o ho
      rcases Nat.lt_or_ge i (n + m) with g | g
      · rw [lame_mid hle h1 g] at h2
        cases hL : L[i]? with
        | none => rw [hL] at h2; cases h2
        | some o' =>
          rw [hL] at h2
          cases h2
          refine Or.inr ⟨i - n, by omega, ?_⟩
          have : n + (i - n) = i := by omega
          simp only [this, hL, Option.bind_some]
          rfl
      · rw [lame_ge hle g] at h2
        cases hL : L[i]? with
        | none => rw [hL] at h2; cases h2
        | some o' => rw [hL] at h2; cases h2; exact Or.inl rfl
  · refine wpAnyQ_list hs _ _ _ hB ?_
    rw [List.filterMap_append, hS]
    have e : (List.range n).filterMap ((lame n m L).toArray[·]?) = L.take n := by
      rw [take_map _ n (by rw [lame_size hle]; omega)]
      apply List.ext_getElem?
      intro i
      rw [List.getElem?_take, List.getElem?_take]
      split
      · rename_i h; exact lame_lt h
      · rfl
    rw [e]
    refine lame_quiet hle S hSm (L.take n) a (fun o ho g b hg => ?_) (hq R hR hN)
    obtain ⟨i, hi⟩ := List.getElem?_of_mem ho
    rw [List.getElem?_take] at hi
    split at hi
    · rename_i h; exact F.guards i o h hi g b hg
    · cases hi
  · have := F.len
    rw [hun (n + k) (by omega) (fun hm => by have := F.low _ hm; omega)]
    simp

theorem wp_region_make {id : Nat} {Q : Exit → Act → World → Prop} {a : Act} {w : World} {L : List Oper} (n m : Nat) (obj : Nat → Obj) (hm : P.follows .mixedOrders = true) (hB : (Region.noSelect (lame n m L).toArray && lexL .any (lame n m L).toArray (List.range n ++ rests n [] L.length) (Array.replicate L.length false)) = true) (hF : makeB n m [] L = true)
    (hO : ∀ k, k < m → ∃ o, L[n + k]? = some o ∧ ∀ (x : Operand → Value) (w : World), (execOp x o).run P w = .ok (.value (ptr w.heap.size)) (w.alloc (obj k)))
    (h : ∃ a', (∀ R, Stays R → Nonempty (LaterR w R) → wpQuiet P L.toArray (Cls w R) (fun x => x = a') (L.take n) a) ∧
      ∀ G w', Below w.heap.size w w' → Reg obj m G w.heap.size w' → (∀ k, k < m → ∃ g, G k = some g) → wpList P L.toArray Q (L.drop (n + m)) (putG (fun k => (L[n + k]?).bind (·.dst)) G m a') w') :
    (Code.region id L.toArray true).wp P Q a w := by
  rw [Bool.and_eq_true] at hB
  refine wp_region_any hm ?_
  have hlen : (List.range n ++ rests n [] L.length).length = L.toArray.size := by
    have : n + m < L.length := by
      simp only [makeB, Bool.and_eq_true] at hF
      simpa using hF.1.1.1.1.1.1.1.1
    have e : (rests n [] L.length) = List.range' n (L.length - n) := by
      unfold rests
      apply List.filter_eq_self.2
      intro i _
      rfl
    rw [List.length_append, e]
    simp
    omega
  rw [← hlen]
  have hrep : ∀ j, (Array.replicate L.length false).getD j false = false := fun j => by
    rcases Nat.lt_or_ge j L.length with g | g
    · rw [Array.getD, dif_pos (by simpa using g)]; simp
    · rw [Array.getD, dif_neg (by simpa using g)]
  have hh : Array.replicate (List.range n ++ rests n [] L.length).length false = Array.replicate L.length false := by rw [hlen]; simp
  rw [hh]
  refine wp_core n m [] obj _ hB.1 hB.2 hF (by simp) (fun j o _ hl => ?_) (fun i hi => by cases hi) (fun i hi _ => rep_at hi) hO ?_
  · rw [hrep j] at hl; cases hl
  · obtain ⟨a', h1, h2⟩ := h
    exact ⟨a', h1, fun G w' b1 b2 b3 => by rw [tailOf_none]; exact h2 G w' b1 b2 b3⟩

/-- The same, one operation f of the tail taken first: it yields v in whatever world. -/
theorem wp_region_late {id : Nat} {Q : Exit → Act → World → Prop} {a : Act} {w : World} {L : List Oper} (n f : Nat) (o : Oper) (v : Value) (hm : P.follows .mixedOrders = true) (ho : L[f]? = some o)
    (hB : (Region.noSelect L.toArray && Region.noSelect (lame n 0 L).toArray && lexL .any (lame n 0 L).toArray (List.range n ++ rests n [f] L.length) ((Array.replicate L.length false).setIfInBounds f true) && Region.free .any L.toArray (Array.replicate L.toArray.size false) f && (Region.ready .any L.toArray (Array.replicate L.toArray.size false)).contains f && decide ((List.range n ++ rests n [f] L.length).length + 1 = L.toArray.size)) = true) (hF : makeB n 0 [f] L = true)
    (hQ : ∀ c a w, Q (.panic c) (a.put o.dst v) w → Q (.panic c) a w) (hy : Yields P L.toArray o v a)
    (h : ∃ a', (∀ R, Stays R → Nonempty (LaterR w R) → wpQuiet P L.toArray (Cls w R) (fun x => x = a') (L.take n) (a.put o.dst v)) ∧
      ∀ w', Below w.heap.size w w' → wpList P L.toArray Q (tailOf [f] (L.drop n) n) a' w') :
    (Code.region id L.toArray true).wp P Q a w := by
  simp only [Bool.and_eq_true, decide_eq_true_eq] at hB
  obtain ⟨⟨⟨⟨⟨b1, b2⟩, b3⟩, b4⟩, b5⟩, b6⟩ := hB
  have hfl : f < L.length := (List.getElem?_eq_some_iff.1 ho).1
  refine wp_region_any hm ?_
  have hfu : L.toArray.size = (List.range n ++ rests n [f] L.length).length + 1 := b6.symm
  have key : ∀ N, L.toArray.size = N → wpAny P .any L.toArray Q N (Array.replicate L.toArray.size false) a { w with drawn := w.drawn + 1 } := by
    intro N hN
    rw [hfu] at hN
    subst hN
    refine wpAny_take (i := f) (oi := o) (v := v) (by simpa using ho) b1 b4 b5 hQ hy ?_
    have hh : (Array.replicate L.toArray.size false).setIfInBounds f true = (Array.replicate L.length false).setIfInBounds f true := by simp
    rw [hh]
    have hrep : ∀ j, (Array.replicate L.length false).getD j false = false := fun j => by
      rcases Nat.lt_or_ge j L.length with g | g
      · rw [Array.getD, dif_pos (by simpa using g)]; simp
      · rw [Array.getD, dif_neg (by simpa using g)]
    refine wp_core n 0 [f] (fun _ => .cells #[] 0) _ b2 b3 hF (by simp) ?_ (fun i hi => ?_) (fun i hi his => ?_) (fun k hk => by omega) ?_
    · refine Closed.set (fun j o _ hl => ?_) ?_
      · rw [hrep j] at hl; cases hl
      · have e : Array.replicate L.toArray.size false = Array.replicate L.length false := by simp
        rw [e] at b5
        simpa using b5
    · obtain rfl : i = f := by simpa using hi
      exact getD_set_eq (by simpa using hfl) _
    · have hne : f ≠ i := fun e => his (by simp [e])
      rw [getD_set_ne true hne]
      exact rep_at hi
    · obtain ⟨a', h1, h2⟩ := h
      exact ⟨a', h1, fun G w' c1 _ _ => h2 w' c1⟩
  exact key _ rfl
theorem wp_region_make3 {id : Nat} {Q : Exit → Act → World → Prop} {a : Act} {w : World} {L : List Oper} (n : Nat) (o0 o1 o2 : Obj) (hm : P.follows .mixedOrders = true) (hB : (Region.noSelect (lame n 3 L).toArray && lexL .any (lame n 3 L).toArray (List.range n ++ rests n [] L.length) (Array.replicate L.length false)) = true) (hF : makeB n 3 [] L = true)
    (h0 : ∃ o, L[n]? = some o ∧ ∀ (x : Operand → Value) (w : World), (execOp x o).run P w = .ok (.value (ptr w.heap.size)) (w.alloc o0)) (h1 : ∃ o, L[n + 1]? = some o ∧ ∀ (x : Operand → Value) (w : World), (execOp x o).run P w = .ok (.value (ptr w.heap.size)) (w.alloc o1)) (h2 : ∃ o, L[n + 2]? = some o ∧ ∀ (x : Operand → Value) (w : World), (execOp x o).run P w = .ok (.value (ptr w.heap.size)) (w.alloc o2))
    (h : ∃ a', (∀ R, Stays R → Nonempty (LaterR w R) → wpQuiet P L.toArray (Cls w R) (fun x => x = a') (L.take n) a) ∧
      ∀ g0 g1 g2 w', Below w.heap.size w w' → w'.heap[g0]? = some o0 → w'.heap[g1]? = some o1 → w'.heap[g2]? = some o2 → w.heap.size ≤ g0 → w.heap.size ≤ g1 → w.heap.size ≤ g2 → g0 ≠ g1 → g0 ≠ g2 → g1 ≠ g2 →
        wpList P L.toArray Q (L.drop (n + 3)) (((a'.put ((L[n]?).bind (·.dst)) (.pointer (some ⟨g0, 0, none⟩))).put ((L[n + 1]?).bind (·.dst)) (.pointer (some ⟨g1, 0, none⟩))).put ((L[n + 2]?).bind (·.dst)) (.pointer (some ⟨g2, 0, none⟩))) w') :
    (Code.region id L.toArray true).wp P Q a w := by
  obtain ⟨a', hq, hfin⟩ := h
  refine wp_region_make n 3 (fun k => if k = 0 then o0 else if k = 1 then o1 else o2) hm hB hF (fun k hk => ?_) ⟨a', hq, fun G w' hb hR hG => ?_⟩
  · rcases (show k = 0 ∨ k = 1 ∨ k = 2 by omega) with rfl | rfl | rfl
    · exact h0
    · exact h1
    · exact h2
  · obtain ⟨g0, e0⟩ := hG 0 (by omega)
    obtain ⟨g1, e1⟩ := hG 1 (by omega)
    obtain ⟨g2, e2⟩ := hG 2 (by omega)
    have := hfin g0 g1 g2 w' hb (hR.has 0 g0 (by omega) e0) (hR.has 1 g1 (by omega) e1) (hR.has 2 g2 (by omega) e2) (hR.lo 0 g0 (by omega) e0) (hR.lo 1 g1 (by omega) e1) (hR.lo 2 g2 (by omega) e2)
      (fun e => by have := hR.ne 0 1 g1 (by omega) (by omega) (e ▸ e0) e1; omega) (fun e => by have := hR.ne 0 2 g2 (by omega) (by omega) (e ▸ e0) e2; omega) (fun e => by have := hR.ne 1 2 g2 (by omega) (by omega) (e ▸ e1) e2; omega)
    simp only [putG, e0, e1, e2, ptr, Nat.add_zero]
    exact this
theorem wp_region_make2 {id : Nat} {Q : Exit → Act → World → Prop} {a : Act} {w : World} {L : List Oper} (n : Nat) (o0 o1 : Obj) (hm : P.follows .mixedOrders = true) (hB : (Region.noSelect (lame n 2 L).toArray && lexL .any (lame n 2 L).toArray (List.range n ++ rests n [] L.length) (Array.replicate L.length false)) = true) (hF : makeB n 2 [] L = true)
    (h0 : ∃ o, L[n]? = some o ∧ ∀ (x : Operand → Value) (w : World), (execOp x o).run P w = .ok (.value (ptr w.heap.size)) (w.alloc o0)) (h1 : ∃ o, L[n + 1]? = some o ∧ ∀ (x : Operand → Value) (w : World), (execOp x o).run P w = .ok (.value (ptr w.heap.size)) (w.alloc o1))
    (h : ∃ a', (∀ R, Stays R → Nonempty (LaterR w R) → wpQuiet P L.toArray (Cls w R) (fun x => x = a') (L.take n) a) ∧
      ∀ g0 g1 w', Below w.heap.size w w' → w'.heap[g0]? = some o0 → w'.heap[g1]? = some o1 → w.heap.size ≤ g0 → w.heap.size ≤ g1 → g0 ≠ g1 →
        wpList P L.toArray Q (L.drop (n + 2)) ((a'.put ((L[n]?).bind (·.dst)) (.pointer (some ⟨g0, 0, none⟩))).put ((L[n + 1]?).bind (·.dst)) (.pointer (some ⟨g1, 0, none⟩))) w') :
    (Code.region id L.toArray true).wp P Q a w := by
  obtain ⟨a', hq, hfin⟩ := h
  refine wp_region_make n 2 (fun k => if k = 0 then o0 else o1) hm hB hF (fun k hk => ?_) ⟨a', hq, fun G w' hb hR hG => ?_⟩
  · rcases (show k = 0 ∨ k = 1 by omega) with rfl | rfl
    · exact h0
    · exact h1
  · obtain ⟨g0, e0⟩ := hG 0 (by omega)
    obtain ⟨g1, e1⟩ := hG 1 (by omega)
    have := hfin g0 g1 w' hb (hR.has 0 g0 (by omega) e0) (hR.has 1 g1 (by omega) e1) (hR.lo 0 g0 (by omega) e0) (hR.lo 1 g1 (by omega) e1) (fun e => by have := hR.ne 0 1 g1 (by omega) (by omega) (e ▸ e0) e1; omega)
    simp only [putG, e0, e1, ptr, Nat.add_zero]
    exact this

theorem wp_region_make0 {id : Nat} {Q : Exit → Act → World → Prop} {a : Act} {w : World} {L : List Oper} (n : Nat) (hm : P.follows .mixedOrders = true) (hB : (Region.noSelect (lame n 0 L).toArray && lexL .any (lame n 0 L).toArray (List.range n ++ rests n [] L.length) (Array.replicate L.length false)) = true) (hF : makeB n 0 [] L = true)
    (h : ∃ a', (∀ R, Stays R → Nonempty (LaterR w R) → wpQuiet P L.toArray (Cls w R) (fun x => x = a') (L.take n) a) ∧ ∀ w', Below w.heap.size w w' → wpList P L.toArray Q (L.drop n) a' w') :
    (Code.region id L.toArray true).wp P Q a w := by
  obtain ⟨a', hq, hfin⟩ := h
  exact wp_region_make n 0 (fun _ => .cells #[] 0) hm hB hF (fun k hk => by omega) ⟨a', hq, fun G w' hb _ _ => hfin w' hb⟩

end
end Go.Proofs.Ytglbfpjjnboeaaa

namespace Go.Proofs.Ytglbfpjjnboeaaa
open Go Go.RowKit
open M

set_option maxRecDepth 100000 in
set_option maxHeartbeats 4000000 in
theorem sh_at {w : World} {s : Shp} (h : ShIn w s) (t : Int) (bW : -9223372036854775808 ≤ atk s.W t 0 ∧ atk s.W t 0 ≤ 9223372036854775807) (bH : -9223372036854775808 ≤ atk s.H t 0 ∧ atk s.H t 0 ≤ 9223372036854775807) :
    Calls Try.prog 7 #[.agg (shC s), .int .i64 t] w (Gives w (shCl s t) (shAt s t)) := by
  obtain ⟨B, hB⟩ : ∃ B, w.heap.size = B := ⟨_, rfl⟩
  obtain ⟨W0, hW0⟩ : ∃ W, w.alloc (.cells (shC s) 37) = W := ⟨_, rfl⟩
  obtain ⟨hi0, hk0, hb0⟩ := h.start hB hW0
  obtain ⟨W, hW⟩ : ∃ W, W0.alloc (.cells #[.bool false, .slice none 0 0] 41) = W := ⟨_, rfl⟩
  have hz0 : W0.heap.size = B + 1 := by rw [← hW0]; simp [hB]
  have hbW : Below W0.heap.size W0 W := by rw [← hW]; exact (Below.refl _ _).alloc (Nat.le_refl _) _
  have hi := hi0.below hbW
  have hk := hk0.below hbW hk0.lt
  have hr : Has W (B + 1) #[.bool false, .slice none 0 0] 41 := by rw [← hW]; exact has_new hz0
  have hb : Below B w W := hb0.trans (hbW.mono (by omega))
  obtain ⟨vw, hvw⟩ : ∃ v, s.vW = v := ⟨_, rfl⟩
  obtain ⟨vh, hvh⟩ : ∃ v, s.vH = v := ⟨_, rfl⟩
  have HVW := Lib.hid hvw
  have HVH := Lib.hid hvh
  clear hvw hvh
  obtain ⟨x, hx⟩ : ∃ x, atk s.W t 0 = x := ⟨_, rfl⟩
  obtain ⟨y, hy⟩ : ∃ x, atk s.H t 0 = x := ⟨_, rfl⟩
  have C1 : Hid (∀ w', Below W.heap.size W w' → Calls Try.prog 22 #[vw, .int .i64 t, .int .i64 0] w' fun e w'' => e = .returned (.int .i64 x) ∧ Below w'.heap.size w' w'') := Lib.hid (fun w' h' => by rw [← hx, ← HVW.out]; exact k_at (hi.below h').W t 0)
  have C2 : Hid (∀ w', Below W.heap.size W w' → Calls Try.prog 22 #[vh, .int .i64 t, .int .i64 0] w' fun e w'' => e = .returned (.int .i64 y) ∧ Below w'.heap.size w' w'') := Lib.hid (fun w' h' => by rw [← hy, ← HVH.out]; exact k_at (hi.below h').H t 0)
  have C3 : Hid (∀ w', Below W.heap.size W w' → Calls Try.prog 23 #[s.vP, .int .i64 t] w' (Gives w' (atcl s.P t) (atps s.P t))) := Lib.hid (fun w' h' => p_at (hi.below h').P t)
  have A0 : Hid (s.form = 0 → shAt s t = rectL x y ∧ shCl s t = true) := Lib.hid (fun e => by unfold shAt shCl; rw [hx, hy, e]; exact ⟨rfl, rfl⟩)
  have A1 : Hid (s.form = 1 → shAt s t = ovalL x y ∧ shCl s t = true) := Lib.hid (fun e => by unfold shAt shCl; rw [hx, hy, e]; exact ⟨rfl, rfl⟩)
  have A2 : Hid (s.form = 2 → shAt s t = starL s.n x y ∧ shCl s t = true) := Lib.hid (fun e => by unfold shAt shCl; rw [hx, hy, e]; exact ⟨rfl, rfl⟩)
  have A3 : Hid (s.form = 3 → shAt s t = atps s.P t ∧ shCl s t = atcl s.P t) := Lib.hid (fun e => by unfold shAt shCl; rw [e]; exact ⟨rfl, rfl⟩)
  have A4 : Hid (¬ s.form = 0 → ¬ s.form = 1 → ¬ s.form = 2 → ¬ s.form = 3 → shAt s t = [] ∧ shCl s t = false) := Lib.hid (fun a b c d => by unfold shAt shCl; rw [if_neg a, if_neg b, if_neg c, if_neg d, if_neg (by omega), if_neg d]; exact ⟨rfl, rfl⟩)
  rw [hx] at bW
  rw [hy] at bH
  have BW := Lib.hid bW
  have BH := Lib.hid bH
  have HBB := Lib.hid hB
  have HW0 := Lib.hid hW0
  have HW := Lib.hid hW
  have HR := Lib.hid hr
  have HBW := Lib.hid hb
  have R0 : Hid (Below W.heap.size W W) := Lib.hid (Below.refl _ _)
  have SZ : Hid (B ≤ W.heap.size) := Lib.hid (by have := hr.lt; omega)
  have HF := Lib.hid (show ∀ w', Below W.heap.size W w' → ∀ j u, (shC s)[j]? = some u → w'.cell? ⟨B, j, none⟩ = some u from fun w' h' j u hu => (hk.below h' hk.lt).cell j u hu)
  obtain ⟨R, hR⟩ : ∃ R, shAt s t = R := ⟨_, rfl⟩
  obtain ⟨c, hc⟩ : ∃ c, shCl s t = c := ⟨_, rfl⟩
  rw [hR, hc] at A0 A1 A2 A3 A4
  rw [hR, hc]
  clear hi0 hk0 hb0 hW0 hW hbW hi hk hr hb hx hy hR hc h bW bH
  by_cases e0 : s.form = 0
  · obtain ⟨er, ec⟩ := A0.out e0
    rw [er, ec]
    clear A0 A1 A2 A3 A4 er ec
    go_enter Try.func7, Try.ntmps7
    go_upto_region 1 with fail
    rw [HW0.out, HW.out]
    clear hB
    have f0 := HF.out W R0.out 0 _ rfl
    go_upto_region 3 with fail
    refine wp_region_make0 8 (by kernel_rfl) (by kernel_rfl) (by kernel_rfl) ?_
    apply Exists.intro
    refine ⟨fun R hR hN => ?_, ?_⟩
    · have A2 : ∀ z : LaterR W R, z.to.cell? ⟨B, 2, none⟩ = some vw := fun z => by rw [← HVW.out]; exact HF.out z.to z.below 2 _ rfl
      have A3 : ∀ z : LaterR W R, z.to.cell? ⟨B, 3, none⟩ = some vh := fun z => by rw [← HVH.out]; exact HF.out z.to z.below 3 _ rfl
      have DD1 := Lib.hid (fun (z : LaterR W R) => C1.out z.to z.below)
      have DD2 := Lib.hid (fun (z : LaterR W R) => C2.out z.to z.below)
      simp only [List.take_succ_cons, List.take_zero]
      repeat (go_big_quiet_step (first | (go_at_call_of 22 vw; exact LaterR.calls hR (DD1.out _)) | (go_at_call_of 22 vh; exact LaterR.calls hR (DD2.out _))))
      exact wpQuiet_nil rfl
    intro w2 hb2
    simp only [List.drop_succ_cons, List.drop_zero]
    have R2 := Lib.hid hb2
    clear hb2
    go_wp2_with fail
    refine (sh_rect x y _ BW.out BH.out).mono ?_
    rintro e w9 ⟨v, rfl, ho, hq⟩
    have GG := Lib.hid (gives_put (w := w) (r := B + 1) (c := true) HBB.out (ho.lower (B' := B) (by have := SZ.out; have := R2.out.size; omega)) (fun e => by have := (ho.base _ e).1; have := HR.out.lt; have := R2.out.size; omega) (by omega) (HBW.out.trans ((R2.out.trans (hq.mono R2.out.size)).mono SZ.out)) rfl (.bool true) _ rfl)
    have K := HR.out.below (R2.out.trans (hq.mono R2.out.size)) HR.out.lt
    obtain ⟨ao, cp, rfl⟩ := ho.len
    obtain ⟨LN, hLN⟩ : ∃ n, (rectL x y).length = n := ⟨_, rfl⟩
    rw [hLN] at GG ⊢
    have r0 := K.cell 0 _ rfl
    have r1 := K.cell 1 _ rfl
    have fz := has_fro K
    clear K ho hq hLN
    go_wp2
    refine bodyPost_ret (v := .agg #[.bool true, .slice ao LN cp]) (by simp [results, Try.results7, go_sem, r0, r1]) rfl ?_
    exact GG.out
  by_cases e1 : s.form = 1
  · obtain ⟨er, ec⟩ := A1.out e1
    rw [er, ec]
    clear A0 A1 A2 A3 A4 er ec
    go_enter Try.func7, Try.ntmps7
    go_upto_region 1 with fail
    rw [HW0.out, HW.out]
    clear hB
    have f0 := HF.out W R0.out 0 _ rfl
    go_upto_region 5 with fail
    refine wp_region_make0 8 (by kernel_rfl) (by kernel_rfl) (by kernel_rfl) ?_
    apply Exists.intro
    refine ⟨fun R hR hN => ?_, ?_⟩
    · have A2 : ∀ z : LaterR W R, z.to.cell? ⟨B, 2, none⟩ = some vw := fun z => by rw [← HVW.out]; exact HF.out z.to z.below 2 _ rfl
      have A3 : ∀ z : LaterR W R, z.to.cell? ⟨B, 3, none⟩ = some vh := fun z => by rw [← HVH.out]; exact HF.out z.to z.below 3 _ rfl
      have DD1 := Lib.hid (fun (z : LaterR W R) => C1.out z.to z.below)
      have DD2 := Lib.hid (fun (z : LaterR W R) => C2.out z.to z.below)
      simp only [List.take_succ_cons, List.take_zero]
      repeat (go_big_quiet_step (first | (go_at_call_of 22 vw; exact LaterR.calls hR (DD1.out _)) | (go_at_call_of 22 vh; exact LaterR.calls hR (DD2.out _))))
      exact wpQuiet_nil rfl
    intro w2 hb2
    simp only [List.drop_succ_cons, List.drop_zero]
    have R2 := Lib.hid hb2
    clear hb2
    go_wp2_with fail
    refine (sh_oval x y _ BW.out BH.out).mono ?_
    rintro e w9 ⟨v, rfl, ho, hq⟩
    have GG := Lib.hid (gives_put (w := w) (r := B + 1) (c := true) HBB.out (ho.lower (B' := B) (by have := SZ.out; have := R2.out.size; omega)) (fun e => by have := (ho.base _ e).1; have := HR.out.lt; have := R2.out.size; omega) (by omega) (HBW.out.trans ((R2.out.trans (hq.mono R2.out.size)).mono SZ.out)) rfl (.bool true) _ rfl)
    have K := HR.out.below (R2.out.trans (hq.mono R2.out.size)) HR.out.lt
    obtain ⟨ao, cp, rfl⟩ := ho.len
    obtain ⟨LN, hLN⟩ : ∃ n, (ovalL x y).length = n := ⟨_, rfl⟩
    rw [hLN] at GG ⊢
    have r0 := K.cell 0 _ rfl
    have r1 := K.cell 1 _ rfl
    have fz := has_fro K
    clear K ho hq hLN
    go_wp2
    refine bodyPost_ret (v := .agg #[.bool true, .slice ao LN cp]) (by simp [results, Try.results7, go_sem, r0, r1]) rfl ?_
    exact GG.out
  by_cases e2 : s.form = 2
  · obtain ⟨er, ec⟩ := A2.out e2
    rw [er, ec]
    clear A0 A1 A2 A3 A4 er ec
    go_enter Try.func7, Try.ntmps7
    go_upto_region 1 with fail
    rw [HW0.out, HW.out]
    clear hB
    have f0 := HF.out W R0.out 0 _ rfl
    go_upto_region 7 with fail
    refine wp_region_make0 10 (by kernel_rfl) (by kernel_rfl) (by kernel_rfl) ?_
    apply Exists.intro
    refine ⟨fun R hR hN => ?_, ?_⟩
    · have A2 : ∀ z : LaterR W R, z.to.cell? ⟨B, 2, none⟩ = some vw := fun z => by rw [← HVW.out]; exact HF.out z.to z.below 2 _ rfl
      have A3 : ∀ z : LaterR W R, z.to.cell? ⟨B, 3, none⟩ = some vh := fun z => by rw [← HVH.out]; exact HF.out z.to z.below 3 _ rfl
      have A1 := fun (z : LaterR W R) => HF.out z.to z.below 1 _ rfl
      have DD1 := Lib.hid (fun (z : LaterR W R) => C1.out z.to z.below)
      have DD2 := Lib.hid (fun (z : LaterR W R) => C2.out z.to z.below)
      simp only [List.take_succ_cons, List.take_zero]
      repeat (go_big_quiet_step (first | (go_at_call_of 22 vw; exact LaterR.calls hR (DD1.out _)) | (go_at_call_of 22 vh; exact LaterR.calls hR (DD2.out _))))
      exact wpQuiet_nil rfl
    intro w2 hb2
    simp only [List.drop_succ_cons, List.drop_zero]
    have R2 := Lib.hid hb2
    clear hb2
    go_wp2_with fail
    refine (sh_star s.n x y _).mono ?_
    rintro e w9 ⟨v, rfl, ho, hq⟩
    have GG := Lib.hid (gives_put (w := w) (r := B + 1) (c := true) HBB.out (ho.lower (B' := B) (by have := SZ.out; have := R2.out.size; omega)) (fun e => by have := (ho.base _ e).1; have := HR.out.lt; have := R2.out.size; omega) (by omega) (HBW.out.trans ((R2.out.trans (hq.mono R2.out.size)).mono SZ.out)) rfl (.bool true) _ rfl)
    have K := HR.out.below (R2.out.trans (hq.mono R2.out.size)) HR.out.lt
    obtain ⟨ao, cp, rfl⟩ := ho.len
    obtain ⟨LN, hLN⟩ : ∃ n, (starL s.n x y).length = n := ⟨_, rfl⟩
    rw [hLN] at GG ⊢
    have r0 := K.cell 0 _ rfl
    have r1 := K.cell 1 _ rfl
    have fz := has_fro K
    clear K ho hq hLN
    go_wp2
    refine bodyPost_ret (v := .agg #[.bool true, .slice ao LN cp]) (by simp [results, Try.results7, go_sem, r0, r1]) rfl ?_
    exact GG.out
  by_cases e3 : s.form = 3
  · obtain ⟨er, ec⟩ := A3.out e3
    rw [er, ec]
    clear A0 A1 A2 A3 A4 er ec
    go_enter Try.func7, Try.ntmps7
    go_upto_region 1 with fail
    rw [HW0.out, HW.out]
    clear hB
    have f0 := HF.out W R0.out 0 _ rfl
    have f4 := HF.out W R0.out 4 _ rfl
    go_wp2_with fail
    refine (C3.out _ R0.out).mono ?_
    rintro e w9 ⟨v, rfl, ho, hq⟩
    have GG := Lib.hid (gives_put (w := w) (r := B + 1) (c := (atcl s.P t)) HBB.out (ho.lower (B' := B) (by have := SZ.out; have := R0.out.size; omega)) (fun e => by have := (ho.base _ e).1; have := HR.out.lt; have := R0.out.size; omega) (by omega) (HBW.out.trans ((R0.out.trans (hq.mono R0.out.size)).mono SZ.out)) rfl (.bool (atcl s.P t)) _ rfl)
    have K := HR.out.below (R0.out.trans (hq.mono R0.out.size)) HR.out.lt
    obtain ⟨ao, cp, rfl⟩ := ho.len
    obtain ⟨LN, hLN⟩ : ∃ n, (atps s.P t).length = n := ⟨_, rfl⟩
    rw [hLN] at GG ⊢
    have r0 := K.cell 0 _ rfl
    have r1 := K.cell 1 _ rfl
    have fz := has_fro K
    clear K ho hq hLN
    go_wp2
    refine bodyPost_ret (v := .agg #[.bool (atcl s.P t), .slice ao LN cp]) (by simp [results, Try.results7, go_sem, r0, r1]) rfl ?_
    exact GG.out
  obtain ⟨er, ec⟩ := A4.out e0 e1 e2 e3
  rw [er, ec]
  clear A0 A1 A2 A3 A4 er ec
  have n0 : (s.form == 0) = false := by simp; omega
  have n1 : (s.form == 1) = false := by simp; omega
  have n2 : (s.form == 2) = false := by simp; omega
  have n3 : (s.form == 3) = false := by simp; omega
  go_enter Try.func7, Try.ntmps7
  go_upto_region 1 with fail
  rw [HW0.out, HW.out]
  clear hB
  have f0 := HF.out W R0.out 0 _ rfl
  have K := HR.out.below R0.out HR.out.lt
  have G := Lib.hid (gives_put (w := w) (r := B + 1) (c := false) HBB.out (Pown.nil W B) (by simp [Value.ownBlock]) (by omega) (HBW.out.trans (R0.out.mono SZ.out)) rfl (.bool false) _ rfl)
  have r0 := K.cell 0 _ rfl
  have r1 := K.cell 1 _ rfl
  have fz := has_fro K
  clear K
  go_wp2
  refine bodyPost_ret (v := .agg #[.bool false, .slice none 0 0]) (by simp [results, Try.results7, go_sem, r0, r1]) rfl ?_
  exact G.out

end Go.Proofs.Ytglbfpjjnboeaaa

namespace Go.Proofs.Ytglbfpjjnboeaaa
open Go Go.RowKit
open M

def sh0 (f : Int) : Shp := ⟨f, 0, [], .slice none 0 0, [], .slice none 0 0, [], .slice none 0 0, false, 0, 0, ⟨0, 0, 0, 0⟩, ⟨0, 0, 0, 0⟩, ⟨0, 0⟩, ⟨0, 0⟩, 0, [], .slice none 0 0, false, [], .slice none 0 0, ⟨0, 0, 0, 0⟩, 0, [], .slice none 0 0, [], .slice none 0 0, [], .slice none 0 0⟩
theorem sh0_in (f : Int) (w : World) : ShIn w (sh0 f) :=
  ⟨Or.inl ⟨rfl, _, _, rfl⟩, Or.inl ⟨rfl, _, _, rfl⟩, ⟨none, 0, rfl, by simp [sh0], fun h => by simp [sh0] at h⟩, Or.inl ⟨rfl, _, _, rfl⟩, Or.inl ⟨rfl, _, _, rfl⟩, ⟨none, 0, rfl, by simp [sh0], fun h => by simp [sh0] at h⟩, Or.inl ⟨rfl, _, _, rfl⟩, Or.inl ⟨rfl, _, _, rfl⟩⟩
theorem sh0_ok : okS (sh0 0) = true := by decide
theorem sh4_ok : okS (sh0 4) = false := by decide
theorem star99 : (starL 99 5 6).length = 97 := by unfold starL; rw [straightL_length, starN_length]; rfl
theorem oval_length (w h : Int) : (ovalL w h).length = 13 := rfl
theorem rect_length (w h : Int) : (rectL w h).length = 13 := by unfold rectL; rw [straightL_length]; rfl
theorem rect_first : pt (rectL 131072 131072) 0 = ⟨-65536, -65536⟩ := by decide

set_option maxRecDepth 100000 in
set_option maxHeartbeats 4000000 in
theorem known13 (w : World) : Calls Try.prog 10 #[] w fun e w' => e = .returned (.bool true) ∧ Below w.heap.size w w' := by
  go_enter Try.func10, Try.ntmps10
  go_wp2_with fail
  refine (sh_rect 131072 131072 w ⟨by decide, by decide⟩ ⟨by decide, by decide⟩).mono ?_
  rintro e w1 ⟨v, rfl, ho, hq⟩
  obtain ⟨g, cap, rfl⟩ := ho.shape (by rw [rect_length]; decide)
  rw [rect_length]
  have row := (ho.sl (by rw [rect_length]; decide))
  obtain ⟨V, hV⟩ : ∃ V, w1.alloc (.cells #[.bool true, .slice (some ⟨g, 0, none⟩) 13 cap] 41) = V := ⟨_, rfl⟩
  have bV : Below w1.heap.size w1 V := by rw [← hV]; exact (Below.refl _ _).alloc (Nat.le_refl _) _
  have kV : Has V w1.heap.size #[.bool true, .slice (some ⟨g, 0, none⟩) 13 cap] 41 := by rw [← hV]; exact has_new rfl
  rw [rect_length] at row
  have rV := psl_row (row.below bV (Nat.le_refl _)) (by rw [rect_length]; decide)
  have p0 := rV.c0 0 (by rw [rect_length]; decide)
  have p1 := rV.c1 0 (by rw [rect_length]; decide)
  rw [rect_first] at p0 p1
  simp only [Nat.zero_mul, Nat.add_zero] at p0 p1
  obtain ⟨B, hB⟩ : ∃ B, w1.heap.size = B := ⟨_, rfl⟩
  rw [hB] at kV
  have a0 := kV.cell 0 _ rfl
  have a1 := kV.cell 1 _ rfl
  have QV := Lib.hid (hq.trans (bV.mono hq.size))
  have HV := Lib.hid hV
  clear ho hq row bV kV rV hV
  go_upto_region 2 with fail
  rw [HV.out]
  go_wp2_with fail
  refine (sh_star 99 5 6 _).mono ?_
  rintro e w2 ⟨v2, rfl, ho2, hq2⟩
  obtain ⟨ao, cp, rfl⟩ := ho2.len
  rw [star99]
  have fd : ∀ w, (Instr.field 41 (.agg #[.bool true, .slice ao 97 cp]) 1).run Try.prog w = .ok (.slice ao 97 cp) w := fun _ => by kernel_rfl
  have Q2 := Lib.hid (QV.out.trans (hq2.mono QV.out.size))
  clear ho2 hq2 p0 p1 a0 a1 QV hB HV
  go_wp2_with fail
  refine (sh_oval 1 1 _ ⟨by decide, by decide⟩ ⟨by decide, by decide⟩).mono ?_
  rintro e w3 ⟨v3, rfl, ho3, hq3⟩
  obtain ⟨ao3, cp3, rfl⟩ := ho3.len
  rw [oval_length]
  have fd3 : ∀ w, (Instr.field 41 (.agg #[.bool true, .slice ao3 13 cp3]) 1).run Try.prog w = .ok (.slice ao3 13 cp3) w := fun _ => by kernel_rfl
  have Q3 := Lib.hid (Q2.out.trans (hq3.mono Q2.out.size))
  clear ho3 hq3 Q2 fd
  go_wp2_with fail
  refine (sh_right (sh0_in 0 _)).mono ?_
  rw [sh0_ok]
  rintro e w4 ⟨rfl, hq4⟩
  have Q4 := Lib.hid (Q3.out.trans (hq4.mono Q3.out.size))
  clear hq4 Q3 fd3
  go_wp2_with fail
  refine (sh_right (sh0_in 4 _)).mono ?_
  rw [sh4_ok]
  rintro e w5 ⟨rfl, hq5⟩
  have Q5 := Lib.hid (Q4.out.trans (hq5.mono Q4.out.size))
  clear hq5 Q4
  go_wp2
  go_ret
  exact ⟨rfl, Q5.out⟩

end Go.Proofs.Ytglbfpjjnboeaaa

namespace Go.Proofs.Ytglbfpjjnboeaaa
open Go Go.RowKit
open M

/-- A tape's shape, stored whole in a block of its own behind the call: it lies there with its lists. -/
theorem shape_lies {w W w1 : World} {B S : Nat} {s : Shp} {z : Array Value} (hb : Below w.heap.size w W) (hB : w.heap.size = B) (hz : W.heap.size = B + 1) (hg : W.grownBy w1 (some B)) (hi : ShIn w1 s) (hS : w1.heap.size = S) :
    ShIn ((w1.alloc (.cells z 37)).setRow S (shC s)) s ∧ Has ((w1.alloc (.cells z 37)).setRow S (shC s)) S (shC s) 37 ∧ Below w.heap.size w ((w1.alloc (.cells z 37)).setRow S (shC s)) := by
  have b1 : Below w1.heap.size w1 ((w1.alloc (.cells z 37)).setRow S (shC s)) := below_setRow ((Below.refl _ _).alloc (Nat.le_refl _) _) (by omega)
  have b0 : Below w.heap.size w w1 := by rw [hB]; exact below_on (by rw [← hB]; exact hb) hg (by omega) (by omega)
  exact ⟨hi.below b1, has_setRow (has_new hS), b0.trans (b1.mono b0.size)⟩

set_option maxRecDepth 100000 in
set_option maxHeartbeats 8000000 in
theorem shapeMade_walk {w : World} (l1 : Value) (_ : Unit) (t : Int) (hN1 : Nums w l1) :
    Calls Try.prog 3 #[l1, .int .i64 t] w fun r w' => r = .returned (.bool true) ∧ Below w.heap.size w w' := by
  obtain ⟨B, hB⟩ : ∃ B, w.heap.size = B := ⟨_, rfl⟩
  obtain ⟨W, hW⟩ : ∃ W, w.alloc (.cells #[l1, .int .i64 0] 25) = W := ⟨_, rfl⟩
  have hb0 : Below w.heap.size w W := by rw [← hW]; exact (Below.refl _ _).alloc (Nat.le_refl _) _
  have T1 : Tp W B l1 := tp_start hN1 (by rw [← hW]; exact has_new hB) hb0 (by omega)
  have sz0 : W.heap.size = B + 1 := by rw [← hW]; simp [hB]
  obtain ⟨a1, n1, c1, rfl⟩ := hN1.shape
  have HB := Lib.hid hB
  have HW := Lib.hid hW
  have HB0 := Lib.hid hb0
  have SZ := Lib.hid sz0
  have TS := Lib.hid (t_shape _ _ _ T1)
  clear hb0 T1 hW hN1 sz0
  go_enter Try.func3, Try.ntmps3
  go_upto_region 2 with fail
  rw [HW.out]
  clear hB
  apply wp_region_lit
  refine wpList_plain rfl fun K hK => ?_
  have HK := Lib.hid hK
  clear hK
  go_wp2_with fail
  refine HK.out _ _ ?_
  clear HK
  refine wpList_plain rfl fun K hK => ?_
  have HK := Lib.hid hK
  clear hK
  go_wp2_with fail
  refine TS.out.mono ?_
  rintro e w1 ⟨s, rfl, md, hi, -, hg⟩
  have MD := Lib.hid md
  have HI := Lib.hid hi
  have HG := Lib.hid hg
  clear md hi hg TS
  refine HK.out _ _ ?_
  clear HK
  obtain ⟨S, hS⟩ : ∃ S, w1.heap.size = S := ⟨_, rfl⟩
  refine wpList_plain rfl fun K hK => ?_
  have HK := Lib.hid hK
  clear hK
  go_wp2_with fail
  refine HK.out _ _ ?_
  clear HK
  refine wpList_store_row rfl 37 _ _ rfl S (shC s) rfl rfl 37 _ (has_new hS) (by kernel_rfl) rfl HI.out.ones ?_
  apply wpList_nil
  have LS := shape_lies (z := shC (shF 0 0)) HB0.out HB.out SZ.out HG.out HI.out hS
  obtain ⟨X, hX⟩ : ∃ X, (w1.alloc (.cells (shC (shF 0 0)) 37)).setRow S (shC s) = X := ⟨_, rfl⟩
  rw [hX] at LS
  try rw [hX]
  obtain ⟨hi, hk, hb⟩ := LS
  have HX := Lib.hid hi
  have KX := Lib.hid hk
  have BX := Lib.hid hb
  clear hi hb hX hS HI HG HB0 SZ HW HB
  obtain ⟨u, hu⟩ : ∃ u, bits .and .i64 t 63 = u := ⟨_, rfl⟩
  obtain ⟨ps, hps⟩ : ∃ x, shAt s u = x := ⟨_, rfl⟩
  obtain ⟨c, hc⟩ : ∃ x, shCl s u = x := ⟨_, rfl⟩
  have tl := MD.out.tells u
  have C := Lib.hid (sh_at HX.out u ⟨by omega, by omega⟩ ⟨by omega, by omega⟩)
  have pa := MD.out.path u
  rw [hps, hc] at C pa
  have PA := Lib.hid pa
  clear tl pa hps hc
  go_wp2_with (refine wpList_load_row rfl 37 _ rfl S rfl 37 _ (0, 0) _ hk Try.underlying37 rfl (by kernel_rfl) ?_)
  clear hu
  refine C.out.mono ?_
  rintro e w2 ⟨l, rfl, hol, hbb⟩
  obtain ⟨ao, cap, rfl⟩ := hol.len
  obtain ⟨N, hN⟩ : ∃ N, ps.length = N := ⟨_, rfl⟩
  rw [hN] at hol ⊢
  obtain ⟨P, hP⟩ : ∃ g, w2.heap.size = g := ⟨_, rfl⟩
  obtain ⟨Y, hY⟩ : ∃ Y, w2.alloc (.cells #[.bool c, .slice ao N cap] 41) = Y := ⟨_, rfl⟩
  have bY : Below X.heap.size X Y := by rw [← hY]; exact hbb.alloc hbb.size _
  have kP : Has Y P #[.bool c, .slice ao N cap] 41 := by rw [← hY]; exact has_new hP
  have sl : Psl Y (.slice ao N cap) ps := by rw [← hY]; exact (hol.alloc _).sl (by have := PA.out; omega)
  have BY := Lib.hid (BX.out.trans (bY.mono BX.out.size))
  have KY := Lib.hid (KX.out.below bY KX.out.lt)
  have RT := Lib.hid (sh_right (HX.out.below bY))
  have RP := Lib.hid (fun w' (h : Below Y.heap.size Y w') => r8_right c (sl.below h (Nat.le_refl _)))
  rw [MD.out.ok] at RT
  simp only [PA.out.1] at RP
  have HY := Lib.hid hY
  have KP := Lib.hid kP
  have NP : Hid (0 < N) := Lib.hid (by rw [← hN]; exact PA.out.2.1)
  have ky := KY.out
  have NI : (0 : Int) < N := by have := NP.out; omega
  clear hol hbb hY bY kP sl C hk
  go_upto_region 4 with fail
  rw [HY.out]
  clear hN hP
  go_wp2_with (refine wpList_load_row rfl 37 _ rfl S rfl 37 _ (0, 0) _ ky Try.underlying37 rfl (by kernel_rfl) ?_)
  refine RT.out.mono ?_
  rintro e w3 ⟨rfl, q3⟩
  have kp := KP.out.below q3 KP.out.lt
  have p0 := kp.cell 0 _ rfl
  have p1 := kp.cell 1 _ rfl
  have B3 := Lib.hid q3
  clear q3 kp ky
  go_wp2_with fail
  refine (RP.out _ B3.out).mono ?_
  rintro e w4 ⟨rfl, q4⟩
  have B4 := Lib.hid (B3.out.trans (q4.mono B3.out.size))
  have kp := KP.out.below B4.out KP.out.lt
  have kk := KY.out.below B4.out KY.out.lt
  clear p0 p1 q4
  have p0 := kp.cell 0 _ rfl
  have p1 := kp.cell 1 _ rfl
  have f0 := kk.cell 0 (.int .i64 s.form) rfl
  have KN := Lib.hid (known13 w4)
  obtain ⟨fo, hfo⟩ : ∃ fo, s.form = fo := ⟨_, rfl⟩
  rw [hfo] at f0
  have FC : Hid (fo = 3 ∨ c = true) := Lib.hid (by rw [← hfo]; exact PA.out.2.2.2)
  have FIN := Lib.hid (fun w' (h : Below w4.heap.size w4 w') => BY.out.trans ((B4.out.trans (h.mono B4.out.size)).mono BY.out.size))
  clear kp kk hfo
  by_cases e3 : fo = 3
  · subst e3
    go_wp2_with fail
    refine KN.out.mono ?_
    rintro e w5 ⟨rfl, q5⟩
    have R := Lib.hid (FIN.out _ q5)
    clear q5
    go_wp2
    go_ret
    exact ⟨rfl, R.out⟩
  · have e3' : (fo == 3) = false := by simp [e3]
    obtain rfl : c = true := FC.out.resolve_left e3
    go_wp2_with fail
    refine KN.out.mono ?_
    rintro e w5 ⟨rfl, q5⟩
    have R := Lib.hid (FIN.out _ q5)
    clear q5
    go_wp2
    go_ret
    exact ⟨rfl, R.out⟩

end Go.Proofs.Ytglbfpjjnboeaaa

namespace Go.Proofs.Ytglbfpjjnboeaaa
open Go.RowKit Go.ChangeShapes Go.WideShapes Go.Deep
open M

section
variable {H : Type} {enc : TypeId × Value → H} {w : World} {base : Nat} {held : Bool}
theorem cell_int : Try.prog.cellsOf 3 = 1 := by kernel_rfl
set_option maxRecDepth 100000 in
theorem open_tape {r : Reach} {b0 : Nat} {v : Value} {d : DataW H} {p : List MemPlace} (hv : Value.okWide Try.prog w r b0 22 v) (h : DataW.Trod enc Try.prog w base (fun _ => true) held 22 v d p) : ∃ _ : Unit, Nums w v := by
  refine ⟨(), ?_⟩
  obtain ⟨a0, len0, cap0, rfl⟩ := okWide_slice Try.underlying22 hv
  obtain ⟨fuel, hf⟩ := h
  rcases open_slice1 Try.underlying22 cell_int hf with ⟨hc, _⟩ | ⟨a, len, cap, m, n, V, D, Pl, hc, _, hl, hm, hmm, _, hi⟩
  · simp [Value.cells] at hc
    obtain ⟨rfl, rfl, rfl⟩ := hc
    exact Or.inl ⟨_, _, rfl⟩
  · simp [Value.cells] at hc
    obtain ⟨rfl, rfl, rfl⟩ := hc
    rw [if_pos rfl] at hmm
    subst hmm
    by_cases h0 : len0 = 0
    · subst h0
      exact Or.inl ⟨_, _, rfl⟩
    · have hspot : a.spot = none := by
        have := (hi 0 (by omega)).1
        simpa [Addr.add] using World.cell?_spot this
      obtain ⟨b, o, sp⟩ := a
      simp only at hspot
      subst hspot
      have h63 : len0 ≤ 9223372036854775807 := by
        have h := hm
        simp [maxLen] at h
        omega
      refine Or.inr ⟨b, o, len0, _, rfl, by omega, h63, fun i hil => ?_⟩
      obtain ⟨h1, h2⟩ := hi i (by omega)
      obtain ⟨k, hk, _⟩ := DataW.trod_int Try.underlying3 h2
      rw [Addr.add_lit] at h1
      refine ⟨k, h1.trans ?_⟩
      simpa using hk
end

end Go.Proofs.Ytglbfpjjnboeaaa

namespace Go.Proofs.Ytglbfpjjnboeaaa.shapeMade
open Go.ChangeShapes Go.WideShapes Go.ChangeAt Go.RowKit

theorem post_below {H : Type} {enc : TypeId × Value → H} {P : Program} {f : Func} {s : ChangeSpec} {apart fresh handsOn : Bool} {W V : World} {args : Array Value} {v : Value} {ds gs : List (DataW H)} {before pa pv : List MemPlace}
    (hW : DataW.Whole enc P f.params.toList s.vars apart W args.toList ds gs before)
    (hres : ∀ (b : Nat) (sp : Nat → Bool) (hd : Bool), DataW.TrodAll enc P V b sp hd f.resultTypes.toList (v.resultList f.resultTypes.size) (s.fn H (ds ++ gs)).results [])
    (hargs : ∀ sp : Nat → Bool, (∀ p ∈ before, sp p.block = true) → DataW.TrodAll enc P V 0 sp true f.params.toList args.toList (s.fn H (ds ++ gs)).args pa)
    (hvars : ∀ sp : Nat → Bool, (∀ p ∈ before, sp p.block = true) → DataW.TrodVars enc P V sp s.vars (s.fn H (ds ++ gs)).vars pv)
    (hps : before = pa ++ pv) (hb : Below W.heap.size W V) : s.post enc P f apart fresh handsOn false W args v V := by
  have hl : ∀ p ∈ before, (fun b => decide (b < W.heap.size)) p.block = true := fun p hp => by simpa using hW.lt p hp
  refine ⟨ds, gs, before, [], pa, pv, hW, hres _ _ _, hargs _ hl, hvars _ hl, World.keptBut_mono (fun p hp => ⟨hp, ?_⟩) (hb.frame (· ∈ before)), fun h => by cases h⟩
  rw [hps, List.mem_append] at hp
  exact Or.inr hp

theorem own : ownKnob Try.prog.godebug = none := by kernel_rfl
theorem laid : laidOutB Try.prog = true := by kernel_rfl

set_option maxRecDepth 100000 in
theorem lifted (os : Os) (started : os.Started) (H : Type) (enc : TypeId × Value → H) :
    ReturnsInHanded {} Try.checked os 3 .any (Rows.shapeMadeSpec.pre6 enc Try.prog Try.f3 Rows.shapeMadeRow.domain false) (Rows.shapeMadeSpec.post enc Try.prog Try.f3 false true false false) := by
  refine returnsInHanded_of_change (C := Try.checked) own started (by kernel_rfl) Try.func3
    (ChangeSpec.witness6 (enc := enc) (C := Try.checked) false ⟨#[], #[.slice none 0 0, .int .i64 0], []⟩ 8 (by kernel_rfl) (by kernel_rfl) (by kernel_rfl) (by kernel_rfl)) ?_
  intro W base args ds gs before hval0 hW hcnd _
  have hval : ∀ (j : Nat) t v, Try.f3.params[j]? = some t → args[j]? = some v → Value.okWide Try.prog W .any base t v := hval0
  have hW' := hW
  obtain ⟨p, q, hA0, hV, rfl, hfz, hnd⟩ := hW
  have hA : DataW.TrodAll enc Try.prog W 0 (fun _ => true) true Try.f3.params.toList args.toList ds p := hA0
  rw [Try.params3] at hA hval
  obtain ⟨v0, vs0, d0, ds0, p0, q0, hargs, rfl, rfl, h0, r0⟩ := trodAll_cons hA
  obtain ⟨v1, vs1, d1, ds1, p1, q1, rfl, rfl, rfl, h1, r1⟩ := trodAll_cons r0
  obtain ⟨rfl, rfl, rfl⟩ := trodAll_nil r1
  obtain rfl : args = #[v0, v1] := by cases args; simp_all
  obtain ⟨rfl, rfl⟩ := trodVars_none hV
  obtain ⟨a0, w0⟩ := open_tape (hval 0 22 v0 rfl rfl) h0
  obtain ⟨a1, rfl, rfl, rfl, w1⟩ := open_int Try.underlying2 (hval 1 2 v1 rfl rfl) h1
  clear hA0 hval0
  simp only [List.append_nil] at hW'
  refine (shapeMade_walk (w := W) v0 a0 a1 w0).mono fun e W' ⟨he, hg⟩ => ?_
  subst he
  exact ⟨_, rfl, post_below (pv := []) hW' (fun _ _ _ => (trodAll_cons_mk (shut_bool Try.underlying4 _) trodAll_mk0)) (fun sp hsp => (trodAll_cons_mk (WideElems.Trod_stays laid (by kernel_rfl) (of_decide_eq_true (by kernel_rfl)) h0 (fun x hx => hg.same (by simpa using hW'.lt x (by simp [hx]))) (fun x hx => hsp x (by simp [hx]))) (trodAll_cons_mk (shut_int Try.underlying2 w1) trodAll_mk0))) (fun _ _ => rfl) (by simp) hg⟩

theorem over : Rows.shapeMadeRow.holds Try.pinned (OpenSpec.ofChange Rows.shapeMadeSpec) :=
  OpenClaim.holds_of_wide 3 Try.f3 rfl rfl rfl rfl rfl rfl rfl ⟨rfl, rfl, rfl, rfl, rfl⟩ rfl rfl rfl rfl rfl (by kernel_rfl) Try.func3 (by kernel_rfl)
    (of_decide_eq_true (by kernel_rfl)) (by unfold Func.isWrapper; first | (rw [if_pos (by decide +kernel)]; kernel_rfl) | (rw [if_neg (by decide +kernel)]; exact ⟨rfl, rfl⟩))
    (fun os started H enc _ => lifted os started H enc)

end Go.Proofs.Ytglbfpjjnboeaaa.shapeMade
namespace Go.Proofs.Ytglbfpjjnboeaaa
theorem shapeMade_holds : Rows.ShapeMadeSaid := shapeMade.over
#print axioms shapeMade_holds
end Go.Proofs.Ytglbfpjjnboeaaa
