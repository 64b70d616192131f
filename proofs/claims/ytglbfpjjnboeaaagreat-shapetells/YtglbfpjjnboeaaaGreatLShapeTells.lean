/- ShapeTells of the statements: whatever the numbers are, the call returns true and each argument reads as it did; no condition. -/
import Derived.Test.YtglbfpjjnboeaaaGreatTV
import Derived.Laws.Rows
import Derived.Test.YtglbfpjjnboeaaaGreatPM
import Derived.Test.YtglbfpjjnboeaaaGreatPC
import Derived.Test.YtglbfpjjnboeaaaGreatTK5
import Derived.Deep.DeepCutAuto
import Derived.BigRegion
import Derived.Test.YtglbfpjjnboeaaaGreatC
import Derived.Test.YtglbfpjjnboeaaaGreatT
import Derived.Test.YtglbfpjjnboeaaaGreatE4
import Derived.Test.YtglbfpjjnboeaaaGreatMake
import Derived.Test.YtglbfpjjnboeaaaGreatGen
import Derived.Test.YtglbfpjjnboeaaaGreatT5
import Derived.Test.YtglbfpjjnboeaaaGreatPB
import Derived.Test.YtglbfpjjnboeaaaGreatD
import Derived.Test.YtglbfpjjnboeaaaGreatJ
import Derived.Test.YtglbfpjjnboeaaaGreatR2
import Derived.Test.YtglbfpjjnboeaaaGreatRK5
import Derived.Test.YtglbfpjjnboeaaaGreatRA7
import Derived.Test.YtglbfpjjnboeaaaGreatQ8
import Derived.Test.YtglbfpjjnboeaaaGreatKE5
import Derived.Test.YtglbfpjjnboeaaaGreatRI5
import Derived.Deep.Slices
import Derived.Deep.Fields
import Derived.ChangeSame
import Derived.OpenShut
import Derived.Laws.IdiomArrays
import Derived.ChangeArms
import Derived.SizedLaws
import Derived.Test.YtglbfpjjnboeaaaGreatTB7
import Derived.Test.YtglbfpjjnboeaaaGreatRows
import Derived.WalkKit
import Derived.ProofKit
import Derived.Carry
namespace Go.Proofs.YtglbfpjjnboeaaaGreat
open Go Go.RowKit
open M

theorem int0 (n : Nat) : ((n : Int) == 0) = decide (n = 0) := by by_cases h : n = 0 <;> simp [h]

set_option maxRecDepth 100000 in
set_option maxHeartbeats 4000000 in
theorem sh_form {w : World} {s : Shp} (h : ShIn w s) : Calls Tryz.prog 27 #[.agg (shC s)] w fun e w' => e = .returned (.bool (formOk s)) ∧ Below w.heap.size w w' := by
  obtain ⟨lW, aW, cW, eW⟩ := h.W.len
  obtain ⟨lH, aH, cH, eH⟩ := h.H.len
  obtain ⟨lP, aP, cP, eP⟩ := h.P.len
  clear h
  obtain ⟨form, n, W, vW, H, vH, P, vP, fill, rule, kind, a, b, p, q, r, C, vC, stroke, Wd, vWd, line, cap, D, vD, F, vF, T, vT⟩ := s
  simp only at eW eH eP lW lH lP
  subst eW eH eP
  obtain ⟨K, hK⟩ : ∃ K, formOk ⟨form, n, W, .slice aW W.length cW, H, .slice aH H.length cH, P, .slice aP P.length cP, fill, rule, kind, a, b, p, q, r, C, vC, stroke, Wd, vWd, line, cap, D, vD, F, vF, T, vT⟩ = K := ⟨_, rfl⟩
  have EK := Lib.hid hK
  rw [hK]
  clear hK
  go_enter Tryz.func27, Tryz.ntmps27
  go_wp2_with fail
  all_goals
    go_ret
    refine ⟨?_, (Below.refl _ _).alloc (Nat.le_refl _) _⟩
    rw [← EK.out]
    clear EK
    unfold formOk
    have zP : ((P.length : Int) == 0) = decide (P.length = 0) := int0 _
    have zW : ((W.length : Int) == 0) = decide (W.length = 0) := int0 _
    have zH : ((H.length : Int) == 0) = decide (H.length = 0) := int0 _
    first
      | (simp_all; done)
      | (simp_all; omega; done)
      | (rw [zP]; simp_all; done)
      | (rw [zH]; simp_all; done)
      | (rw [zW]; simp_all; done)

/-- A shape that a call has by value lies in a block of its own. -/
theorem ShIn.start {w W : World} {B : Nat} {s : Shp} (h : ShIn w s) (hB : w.heap.size = B) (hW : w.alloc (.cells (shC s) 34) = W) : ShIn W s ∧ Has W B (shC s) 34 ∧ Below B w W := by
  have hb : Below w.heap.size w W := by rw [← hW]; exact (Below.refl _ _).alloc (Nat.le_refl _) _
  exact ⟨h.below hb, by rw [← hW]; exact has_new hB, by rw [← hB]; exact hb⟩

set_option maxRecDepth 100000 in
set_option maxHeartbeats 4000000 in
theorem sh_outline {w : World} {s : Shp} (h : ShIn w s) : Calls Tryz.prog 28 #[.agg (shC s)] w fun e w' => e = .returned (.bool (lineOk s)) ∧ Below w.heap.size w w' := by
  obtain ⟨B, hB⟩ : ∃ B, w.heap.size = B := ⟨_, rfl⟩
  obtain ⟨W, hW⟩ : ∃ W, w.alloc (.cells (shC s) 34) = W := ⟨_, rfl⟩
  obtain ⟨hi, hk, hb⟩ := h.start hB hW
  have HBB := Lib.hid hB
  have HW := Lib.hid hW
  obtain ⟨x, hx⟩ : ∃ x, right s.W = x := ⟨_, rfl⟩
  obtain ⟨y, hy⟩ : ∃ x, right s.H = x := ⟨_, rfl⟩
  obtain ⟨z, hz⟩ : ∃ x, keysOk s.P = x := ⟨_, rfl⟩
  have C1 : Hid (∀ w', Below W.heap.size W w' → Calls Tryz.prog 53 #[s.vW] w' fun e w'' => e = .returned (.bool x) ∧ Below w'.heap.size w' w'') := Lib.hid (fun w' h' => by rw [← hx]; exact k_right (hi.below h').W)
  have C2 : Hid (∀ w', Below W.heap.size W w' → Calls Tryz.prog 53 #[s.vH] w' fun e w'' => e = .returned (.bool y) ∧ Below w'.heap.size w' w'') := Lib.hid (fun w' h' => by rw [← hy]; exact k_right (hi.below h').H)
  have C3 : Hid (∀ w', Below W.heap.size W w' → Calls Tryz.prog 54 #[s.vP] w' fun e w'' => e = .returned (.bool z) ∧ Below w'.heap.size w' w'') := Lib.hid (fun w' h' => by rw [← hz]; exact p_keysG (hi.below h').P)
  have E : lineOk s = (x && y && z) := by unfold lineOk; rw [hx, hy, hz]
  rw [E]
  clear E
  have F : ∀ w', Below W.heap.size W w' → ∀ j u, (shC s)[j]? = some u → w'.cell? ⟨B, j, none⟩ = some u := fun w' h' j u hu => (hk.below h' hk.lt).cell j u hu
  have HF := Lib.hid F
  have R0 : Hid (Below W.heap.size W W) := Lib.hid (Below.refl _ _)
  have hFin : ∀ w', Below W.heap.size W w' → Below w.heap.size w w' := fun w' h' => by rw [hB]; exact hb.trans (h'.mono (by have := hk.lt; omega))
  have FIN := Lib.hid hFin
  clear hi hk hb hW hx hy hz F h hFin
  go_enter Tryz.func28, Tryz.ntmps28
  have f2 := HF.out W R0.out 2 _ rfl
  go_wp2_with fail
  rw [HW.out]
  clear hB
  refine (C1.out _ R0.out).mono ?_
  rintro e w1 ⟨rfl, q1⟩
  have R1 := Lib.hid (R0.out.trans (q1.mono R0.out.size))
  clear q1 f2
  cases x
  · go_wp2
    go_ret
    exact ⟨rfl, FIN.out _ R1.out⟩
  have f3 := HF.out w1 R1.out 3 _ rfl
  go_wp2_with fail
  refine (C2.out _ R1.out).mono ?_
  rintro e w2 ⟨rfl, q2⟩
  have R2 := Lib.hid (R1.out.trans (q2.mono R1.out.size))
  clear q2 f3
  cases y
  · go_wp2
    go_ret
    exact ⟨rfl, FIN.out _ R2.out⟩
  have f4 := HF.out w2 R2.out 4 _ rfl
  go_wp2_with fail
  refine (C3.out _ R2.out).mono ?_
  rintro e w3 ⟨rfl, q3⟩
  have R3 := Lib.hid (R2.out.trans (q3.mono R2.out.size))
  clear q3 f4
  go_wp2
  go_ret
  exact ⟨by simp, FIN.out _ R3.out⟩

theorem sh_near (a : Int) (w : World) : Calls Tryz.prog 88 #[.int .i64 a] w fun e w' => e = .returned (.bool (nearN a)) ∧ Below w.heap.size w w' := by
  obtain ⟨K, hK⟩ : ∃ K, nearN a = K := ⟨_, rfl⟩
  have EK := Lib.hid hK
  rw [hK]
  clear hK
  go_enter Tryz.func88, Tryz.ntmps88
  go_wp2
  all_goals
    go_ret
    refine ⟨?_, Below.refl _ _⟩
    rw [← EK.out]
    clear EK
    unfold nearN
    first | (simp_all; done) | (simp_all; omega; done)
set_option maxRecDepth 100000 in
set_option maxHeartbeats 4000000 in
theorem sh_paint (k : Int) (a b : Cr) (p q : Pt) (r : Int) (w : World) : Calls Tryz.prog 55 #[.agg (paC k a b p q r)] w fun e w' => e = .returned (.bool (decide (k = 0 ∨ k = 1 ∨ k = 2) && (nearN p.x && nearN p.y && nearN q.x && nearN q.y && nearN r))) ∧ Below w.heap.size w w' := by
  obtain ⟨px, py⟩ := p
  obtain ⟨qx, qy⟩ := q
  simp only
  obtain ⟨n0, h0⟩ : ∃ x, nearN px = x := ⟨_, rfl⟩
  have N0 : Hid (∀ w, Calls Tryz.prog 88 #[.int .i64 px] w fun e w' => e = .returned (.bool n0) ∧ Below w.heap.size w w') := Lib.hid (fun w => by rw [← h0]; exact sh_near _ w)
  obtain ⟨n1, h1⟩ : ∃ x, nearN py = x := ⟨_, rfl⟩
  have N1 : Hid (∀ w, Calls Tryz.prog 88 #[.int .i64 py] w fun e w' => e = .returned (.bool n1) ∧ Below w.heap.size w w') := Lib.hid (fun w => by rw [← h1]; exact sh_near _ w)
  obtain ⟨n2, h2⟩ : ∃ x, nearN qx = x := ⟨_, rfl⟩
  have N2 : Hid (∀ w, Calls Tryz.prog 88 #[.int .i64 qx] w fun e w' => e = .returned (.bool n2) ∧ Below w.heap.size w w') := Lib.hid (fun w => by rw [← h2]; exact sh_near _ w)
  obtain ⟨n3, h3⟩ : ∃ x, nearN qy = x := ⟨_, rfl⟩
  have N3 : Hid (∀ w, Calls Tryz.prog 88 #[.int .i64 qy] w fun e w' => e = .returned (.bool n3) ∧ Below w.heap.size w w') := Lib.hid (fun w => by rw [← h3]; exact sh_near _ w)
  obtain ⟨n4, h4⟩ : ∃ x, nearN r = x := ⟨_, rfl⟩
  have N4 : Hid (∀ w, Calls Tryz.prog 88 #[.int .i64 r] w fun e w' => e = .returned (.bool n4) ∧ Below w.heap.size w w') := Lib.hid (fun w => by rw [← h4]; exact sh_near _ w)
  rw [h0, h1, h2, h3, h4]
  clear h0 h1 h2 h3 h4
  obtain ⟨B, hB⟩ : ∃ B, w.heap.size = B := ⟨_, rfl⟩
  by_cases hk : k = 0 ∨ k = 1 ∨ k = 2
  · rw [decide_eq_true hk]
    obtain ⟨W, hW⟩ : ∃ W, w.alloc (.cells (paC k a b ⟨px, py⟩ ⟨qx, qy⟩ r) 31) = W := ⟨_, rfl⟩
    have hkk : Has W B (paC k a b ⟨px, py⟩ ⟨qx, qy⟩ r) 31 := by rw [← hW]; exact has_new hB
    have hb : Below B w W := by rw [← hW]; exact (Below.refl _ _).alloc (by omega) _
    have HF := Lib.hid (show ∀ w', Below W.heap.size W w' → ∀ j u, (paC k a b ⟨px, py⟩ ⟨qx, qy⟩ r)[j]? = some u → w'.cell? ⟨B, j, none⟩ = some u from fun w' h' j u hu => (hkk.below h' hkk.lt).cell j u hu)
    have R0 : Hid (Below W.heap.size W W) := Lib.hid (Below.refl _ _)
    have FIN := Lib.hid (show ∀ w', Below W.heap.size W w' → Below w.heap.size w w' from fun w' h' => by rw [hB]; exact hb.trans (h'.mono (by have := hkk.lt; omega)))
    have HW := Lib.hid hW
    clear hkk hb hW
    rcases hk with rfl | rfl | rfl
    all_goals
      go_enter Tryz.func55, Tryz.ntmps55
      go_wp2_with fail
      rw [HW.out]
      clear hB
      refine (N0.out _).mono ?_
      rintro e w1 ⟨rfl, q1⟩
      have R1 := Lib.hid (R0.out.trans (q1.mono R0.out.size))
      clear q1
      cases n0
      · go_wp2
        go_ret
        exact ⟨rfl, FIN.out _ R1.out⟩
      have g10 := HF.out w1 R1.out 10 _ rfl
      go_wp2_with fail
      refine (N1.out _).mono ?_
      rintro e w2 ⟨rfl, q2⟩
      have R2 := Lib.hid (R1.out.trans (q2.mono R1.out.size))
      clear q2
      cases n1
      · go_wp2
        go_ret
        exact ⟨rfl, FIN.out _ R2.out⟩
      have g11 := HF.out w2 R2.out 11 _ rfl
      go_wp2_with fail
      refine (N2.out _).mono ?_
      rintro e w3 ⟨rfl, q3⟩
      have R3 := Lib.hid (R2.out.trans (q3.mono R2.out.size))
      clear q3
      cases n2
      · go_wp2
        go_ret
        exact ⟨rfl, FIN.out _ R3.out⟩
      have g12 := HF.out w3 R3.out 12 _ rfl
      go_wp2_with fail
      refine (N3.out _).mono ?_
      rintro e w4 ⟨rfl, q4⟩
      have R4 := Lib.hid (R3.out.trans (q4.mono R3.out.size))
      clear q4
      cases n3
      · go_wp2
        go_ret
        exact ⟨rfl, FIN.out _ R4.out⟩
      have g13 := HF.out w4 R4.out 13 _ rfl
      go_wp2_with fail
      refine (N4.out _).mono ?_
      rintro e w5 ⟨rfl, q5⟩
      have R5 := Lib.hid (R4.out.trans (q5.mono R4.out.size))
      clear q5
      go_wp2
      go_ret
      exact ⟨by simp, FIN.out _ R5.out⟩
  · rw [decide_eq_false hk]
    have h0 : (k == 0) = false := by simp; omega
    have h1 : (k == 1) = false := by simp; omega
    have h2 : (k == 2) = false := by simp; omega
    clear hB
    go_enter Tryz.func55, Tryz.ntmps55
    go_wp2
    go_ret
    exact ⟨rfl, (Below.refl _ _).alloc (Nat.le_refl _) _⟩

set_option maxRecDepth 100000 in
set_option maxHeartbeats 4000000 in
theorem sh_fill {w : World} {s : Shp} (h : ShIn w s) : Calls Tryz.prog 29 #[.agg (shC s)] w fun e w' => e = .returned (.bool (fillOk s)) ∧ Below w.heap.size w w' := by
  obtain ⟨B, hB⟩ : ∃ B, w.heap.size = B := ⟨_, rfl⟩
  obtain ⟨W, hW⟩ : ∃ W, w.alloc (.cells (shC s) 34) = W := ⟨_, rfl⟩
  obtain ⟨hi, hk, hb⟩ := h.start hB hW
  have HBB := Lib.hid hB
  have HW := Lib.hid hW
  obtain ⟨y, hy⟩ : ∃ x, paintOk s = x := ⟨_, rfl⟩
  obtain ⟨z, hz⟩ : ∃ x, right (bares s.C) = x := ⟨_, rfl⟩
  have C1 : Hid (∀ w', Below W.heap.size W w' → Calls Tryz.prog 55 #[.agg (paC s.kind s.a s.b s.p s.q s.r)] w' fun e w'' => e = .returned (.bool y) ∧ Below w'.heap.size w' w'') := Lib.hid (fun w' h' => by rw [← hy]; exact sh_paint s.kind s.a s.b s.p s.q s.r w')
  have C2 : Hid (∀ w', Below W.heap.size W w' → Calls Tryz.prog 56 #[s.vC] w' fun e w'' => e = .returned (.bool z) ∧ Below w'.heap.size w' w'') := Lib.hid (fun w' h' => by rw [← hz]; exact h_right (hi.below h').C)
  have E : fillOk s = (decide (s.rule = 0 ∨ s.rule = 1) && y && z) := by unfold fillOk; rw [hy, hz]
  rw [E]
  clear E
  have F : ∀ w', Below W.heap.size W w' → ∀ j u, (shC s)[j]? = some u → w'.cell? ⟨B, j, none⟩ = some u := fun w' h' j u hu => (hk.below h' hk.lt).cell j u hu
  have HF := Lib.hid F
  have R0 : Hid (Below W.heap.size W W) := Lib.hid (Below.refl _ _)
  have hFin : ∀ w', Below W.heap.size W w' → Below w.heap.size w w' := fun w' h' => by rw [hB]; exact hb.trans (h'.mono (by have := hk.lt; omega))
  have FIN := Lib.hid hFin
  clear hi hk hb hW hy hz F h hFin
  by_cases hr : s.rule = 0 ∨ s.rule = 1
  · rw [decide_eq_true hr]
    have f6 := HF.out W R0.out 6 _ rfl
    rcases hr with hr | hr
    all_goals
      go_enter Tryz.func29, Tryz.ntmps29
      have f7 := HF.out W R0.out 7 _ rfl
      have f8 := HF.out W R0.out 8 _ rfl
      have f9 := HF.out W R0.out 9 _ rfl
      have f10 := HF.out W R0.out 10 _ rfl
      have f11 := HF.out W R0.out 11 _ rfl
      have f12 := HF.out W R0.out 12 _ rfl
      have f13 := HF.out W R0.out 13 _ rfl
      have f14 := HF.out W R0.out 14 _ rfl
      have f15 := HF.out W R0.out 15 _ rfl
      have f16 := HF.out W R0.out 16 _ rfl
      have f17 := HF.out W R0.out 17 _ rfl
      have f18 := HF.out W R0.out 18 _ rfl
      have f19 := HF.out W R0.out 19 _ rfl
      have f20 := HF.out W R0.out 20 _ rfl
      go_wp2_with fail
      rw [HW.out]
      clear hB
      refine (C1.out _ R0.out).mono ?_
      rintro e w1 ⟨rfl, q1⟩
      have R1 := Lib.hid (R0.out.trans (q1.mono R0.out.size))
      clear q1 f7 f8 f9 f10 f11 f12 f13 f14 f15 f16 f17 f18 f19 f20
      cases y
      · go_wp2
        go_ret
        exact ⟨rfl, FIN.out _ R1.out⟩
      have f21 := HF.out w1 R1.out 21 _ rfl
      go_wp2_with fail
      refine (C2.out _ R1.out).mono ?_
      rintro e w2 ⟨rfl, q2⟩
      have R2 := Lib.hid (R1.out.trans (q2.mono R1.out.size))
      clear q2 f21
      go_wp2
      go_ret
      exact ⟨by simp, FIN.out _ R2.out⟩
  · rw [decide_eq_false hr]
    have f6 := HF.out W R0.out 6 _ rfl
    have h0 : (s.rule == 0) = false := by simp; omega
    have h1 : (s.rule == 1) = false := by simp; omega
    go_enter Tryz.func29, Tryz.ntmps29
    go_wp2
    go_ret
    refine ⟨rfl, ?_⟩
    rw [HW.out]
    exact FIN.out _ R0.out

set_option maxRecDepth 100000 in
set_option maxHeartbeats 4000000 in
theorem sh_line {w : World} {s : Shp} (h : ShIn w s) : Calls Tryz.prog 30 #[.agg (shC s)] w fun e w' => e = .returned (.bool (drawOk s)) ∧ Below w.heap.size w w' := by
  obtain ⟨B, hB⟩ : ∃ B, w.heap.size = B := ⟨_, rfl⟩
  obtain ⟨W, hW⟩ : ∃ W, w.alloc (.cells (shC s) 34) = W := ⟨_, rfl⟩
  obtain ⟨hi, hk, hb⟩ := h.start hB hW
  have HBB := Lib.hid hB
  have HW := Lib.hid hW
  obtain ⟨x1, hx1⟩ : ∃ x, right s.Wd = x := ⟨_, rfl⟩
  obtain ⟨x2, hx2⟩ : ∃ x, right s.F = x := ⟨_, rfl⟩
  obtain ⟨x3, hx3⟩ : ∃ x, right s.T = x := ⟨_, rfl⟩
  obtain ⟨x4, hx4⟩ : ∃ x, okD s.D = x := ⟨_, rfl⟩
  have C1 : Hid (∀ w', Below W.heap.size W w' → Calls Tryz.prog 53 #[s.vWd] w' fun e w'' => e = .returned (.bool x1) ∧ Below w'.heap.size w' w'') := Lib.hid (fun w' h' => by rw [← hx1]; exact k_right (hi.below h').Wd)
  have C2 : Hid (∀ w', Below W.heap.size W w' → Calls Tryz.prog 53 #[s.vF] w' fun e w'' => e = .returned (.bool x2) ∧ Below w'.heap.size w' w'') := Lib.hid (fun w' h' => by rw [← hx2]; exact k_right (hi.below h').F)
  have C3 : Hid (∀ w', Below W.heap.size W w' → Calls Tryz.prog 53 #[s.vT] w' fun e w'' => e = .returned (.bool x3) ∧ Below w'.heap.size w' w'') := Lib.hid (fun w' h' => by rw [← hx3]; exact k_right (hi.below h').T)
  have C4 : Hid (∀ w', Below W.heap.size W w' → Calls Tryz.prog 57 #[s.vD] w' fun e w'' => e = .returned (.bool x4) ∧ Below w'.heap.size w' w'') := Lib.hid (fun w' h' => by rw [← hx4]; exact below_of (d_right (hi.below h').D))
  obtain ⟨cp, hcp⟩ : ∃ x, decide (s.cap = 0 ∨ s.cap = 1) = x := ⟨_, rfl⟩
  have E : drawOk s = (x1 && x2 && x3 && cp && x4) := by unfold drawOk; rw [hx1, hx2, hx3, hx4, hcp]
  have HCP := Lib.hid hcp
  clear hcp
  rw [E]
  clear E
  have F : ∀ w', Below W.heap.size W w' → ∀ j u, (shC s)[j]? = some u → w'.cell? ⟨B, j, none⟩ = some u := fun w' h' j u hu => (hk.below h' hk.lt).cell j u hu
  have HF := Lib.hid F
  have R0 : Hid (Below W.heap.size W W) := Lib.hid (Below.refl _ _)
  have hFin : ∀ w', Below W.heap.size W w' → Below w.heap.size w w' := fun w' h' => by rw [hB]; exact hb.trans (h'.mono (by have := hk.lt; omega))
  have FIN := Lib.hid hFin
  clear hi hk hb hW hx1 hx2 hx3 hx4 F h hFin
  go_enter Tryz.func30, Tryz.ntmps30
  have f23 := HF.out W R0.out 23 _ rfl
  go_wp2_with fail
  rw [HW.out]
  clear hB
  refine (C1.out _ R0.out).mono ?_
  rintro e w1 ⟨rfl, q1⟩
  have R1 := Lib.hid (R0.out.trans (q1.mono R0.out.size))
  clear q1 f23
  cases x1
  · go_wp2
    go_ret
    exact ⟨rfl, FIN.out _ R1.out⟩
  have f30 := HF.out w1 R1.out 30 _ rfl
  go_wp2_with fail
  refine (C2.out _ R1.out).mono ?_
  rintro e w2 ⟨rfl, q2⟩
  have R2 := Lib.hid (R1.out.trans (q2.mono R1.out.size))
  clear q2 f30
  cases x2
  · go_wp2
    go_ret
    exact ⟨rfl, FIN.out _ R2.out⟩
  have f31 := HF.out w2 R2.out 31 _ rfl
  go_wp2_with fail
  refine (C3.out _ R2.out).mono ?_
  rintro e w3 ⟨rfl, q3⟩
  have R3 := Lib.hid (R2.out.trans (q3.mono R2.out.size))
  clear q3 f31
  cases x3
  · go_wp2
    go_ret
    exact ⟨rfl, FIN.out _ R3.out⟩
  have f28 := HF.out w3 R3.out 28 _ rfl
  by_cases hc : s.cap = 0 ∨ s.cap = 1
  · obtain rfl : cp = true := by rw [← HCP.out]; exact decide_eq_true hc
    rcases hc with hc | hc
    all_goals
      have f29 := HF.out w3 R3.out 29 _ rfl
      go_wp2_with fail
      refine (C4.out _ R3.out).mono ?_
      rintro e w4 ⟨rfl, q4⟩
      have R4 := Lib.hid (R3.out.trans (q4.mono R3.out.size))
      clear q4 f29
      go_wp2
      go_ret
      exact ⟨rfl, FIN.out _ R4.out⟩
  · obtain rfl : cp = false := by rw [← HCP.out]; exact decide_eq_false hc
    have h0 : (s.cap == 0) = false := by simp; omega
    have h1 : (s.cap == 1) = false := by simp; omega
    go_wp2
    go_ret
    exact ⟨rfl, FIN.out _ R3.out⟩

end Go.Proofs.YtglbfpjjnboeaaaGreat

namespace Go.Proofs.YtglbfpjjnboeaaaGreat
open Go Go.RowKit
open M

set_option maxRecDepth 100000 in
set_option maxHeartbeats 4000000 in
theorem sh_right {w : World} {s : Shp} (h : ShIn w s) : Calls Tryz.prog 9 #[.agg (shC s)] w fun e w' => e = .returned (.bool (okS s)) ∧ Below w.heap.size w w' := by
  obtain ⟨B, hB⟩ : ∃ B, w.heap.size = B := ⟨_, rfl⟩
  obtain ⟨W, hW⟩ : ∃ W, w.alloc (.cells (shC s) 34) = W := ⟨_, rfl⟩
  obtain ⟨hi, hk, hb⟩ := h.start hB hW
  have HBB := Lib.hid hB
  have HW := Lib.hid hW
  obtain ⟨y1, hy1⟩ : ∃ x, formOk s = x := ⟨_, rfl⟩
  obtain ⟨y2, hy2⟩ : ∃ x, lineOk s = x := ⟨_, rfl⟩
  obtain ⟨y3, hy3⟩ : ∃ x, fillOk s = x := ⟨_, rfl⟩
  obtain ⟨y4, hy4⟩ : ∃ x, drawOk s = x := ⟨_, rfl⟩
  have C1 : Hid (∀ w', Below W.heap.size W w' → Calls Tryz.prog 27 #[.agg (shC s)] w' fun e w'' => e = .returned (.bool y1) ∧ Below w'.heap.size w' w'') := Lib.hid (fun w' h' => by rw [← hy1]; exact sh_form (hi.below h'))
  have C2 : Hid (∀ w', Below W.heap.size W w' → Calls Tryz.prog 28 #[.agg (shC s)] w' fun e w'' => e = .returned (.bool y2) ∧ Below w'.heap.size w' w'') := Lib.hid (fun w' h' => by rw [← hy2]; exact sh_outline (hi.below h'))
  have C3 : Hid (∀ w', Below W.heap.size W w' → Calls Tryz.prog 29 #[.agg (shC s)] w' fun e w'' => e = .returned (.bool y3) ∧ Below w'.heap.size w' w'') := Lib.hid (fun w' h' => by rw [← hy3]; exact sh_fill (hi.below h'))
  have C4 : Hid (∀ w', Below W.heap.size W w' → Calls Tryz.prog 30 #[.agg (shC s)] w' fun e w'' => e = .returned (.bool y4) ∧ Below w'.heap.size w' w'') := Lib.hid (fun w' h' => by rw [← hy4]; exact sh_line (hi.below h'))
  have E : okS s = (y1 && y2 && y3 && y4) := by unfold okS; rw [hy1, hy2, hy3, hy4]
  rw [E]
  clear E
  have HG := Lib.hid (show ∀ w', Below W.heap.size W w' → Has w' B (shC s) 34 from fun w' h' => hk.below h' hk.lt)
  have R0 : Hid (Below W.heap.size W W) := Lib.hid (Below.refl _ _)
  have hFin : ∀ w', Below W.heap.size W w' → Below w.heap.size w w' := fun w' h' => by rw [hB]; exact hb.trans (h'.mono (by have := hk.lt; omega))
  have FIN := Lib.hid hFin
  clear hi hk hb hW hy1 hy2 hy3 hy4 h hFin
  go_enter Tryz.func9, Tryz.ntmps9
  go_upto_region 1 with fail
  rw [HW.out]
  clear hB
  have hg := HG.out W R0.out
  go_wp2_with (first | (refine wpList_load_row rfl 34 _ rfl B rfl 34 _ (0, 0) _ hg Tryz.underlying34 rfl (by kernel_rfl) ?_) | (refine BigFrame.wpList_want (by rfl) (fun K hK => wp_load_row 34 _ rfl B rfl 34 _ (0, 0) _ hg Tryz.underlying34 rfl (by kernel_rfl) (hK _ _ ?_))))
  refine (C1.out _ R0.out).mono ?_
  rintro e w1 ⟨rfl, q1⟩
  have R1 := Lib.hid (R0.out.trans (q1.mono R0.out.size))
  clear q1 hg
  cases y1
  · go_wp2
    go_ret
    exact ⟨rfl, FIN.out _ R1.out⟩
  have hg := HG.out w1 R1.out
  go_wp2_with (first | (refine wpList_load_row rfl 34 _ rfl B rfl 34 _ (0, 0) _ hg Tryz.underlying34 rfl (by kernel_rfl) ?_) | (refine BigFrame.wpList_want (by rfl) (fun K hK => wp_load_row 34 _ rfl B rfl 34 _ (0, 0) _ hg Tryz.underlying34 rfl (by kernel_rfl) (hK _ _ ?_))))
  refine (C2.out _ R1.out).mono ?_
  rintro e w2 ⟨rfl, q2⟩
  have R2 := Lib.hid (R1.out.trans (q2.mono R1.out.size))
  clear q2 hg
  cases y2
  · go_wp2
    go_ret
    exact ⟨rfl, FIN.out _ R2.out⟩
  have hg := HG.out w2 R2.out
  go_wp2_with (first | (refine wpList_load_row rfl 34 _ rfl B rfl 34 _ (0, 0) _ hg Tryz.underlying34 rfl (by kernel_rfl) ?_) | (refine BigFrame.wpList_want (by rfl) (fun K hK => wp_load_row 34 _ rfl B rfl 34 _ (0, 0) _ hg Tryz.underlying34 rfl (by kernel_rfl) (hK _ _ ?_))))
  refine (C3.out _ R2.out).mono ?_
  rintro e w3 ⟨rfl, q3⟩
  have R3 := Lib.hid (R2.out.trans (q3.mono R2.out.size))
  clear q3 hg
  cases y3
  · go_wp2
    go_ret
    exact ⟨rfl, FIN.out _ R3.out⟩
  have hg := HG.out w3 R3.out
  go_wp2_with (first | (refine wpList_load_row rfl 34 _ rfl B rfl 34 _ (0, 0) _ hg Tryz.underlying34 rfl (by kernel_rfl) ?_) | (refine BigFrame.wpList_want (by rfl) (fun K hK => wp_load_row 34 _ rfl B rfl 34 _ (0, 0) _ hg Tryz.underlying34 rfl (by kernel_rfl) (hK _ _ ?_))))
  refine (C4.out _ R3.out).mono ?_
  rintro e w4 ⟨rfl, q4⟩
  have R4 := Lib.hid (R3.out.trans (q4.mono R3.out.size))
  clear q4 hg
  go_wp2
  go_ret
  exact ⟨by simp, FIN.out _ R4.out⟩

end Go.Proofs.YtglbfpjjnboeaaaGreat

namespace Go.Proofs.YtglbfpjjnboeaaaGreat
open Go Go.RowKit
open M

theorem wp_append_pl {W : World} {base : Nat} {l : Value} {rs : List Pt} {op : Oper} {a : Act} {K : Act → World → Prop} {Q : Exit → Act → World → Prop} (s x : Operand)
    (hop : op.op = .call { callee := .builtin .append, args := #[s, x], argTypes := #[39, 39] }) (N : Nat) (hN : rs.length = N) (hs : a.eval s = l) (H o m c2 : Nat) (hx : a.eval x = .slice (some ⟨H, o, none⟩) m c2)
    (news : List Pt) (hm : news.length = m) (hm0 : 0 < m) (hf : N + m ≤ 8796093022208) (hr : Prow W H o news) (hT : Pown W base l rs) (hb : base ≤ W.heap.size)
    (h : ∀ g' cap' w', Pown w' base (.slice (some ⟨g', 0, none⟩) (N + m) cap') (rs ++ news) → W.grownBy w' l.ownBlock → (l.ownBlock = some g' ∨ W.heap.size ≤ g') → K (a.put op.dst (.slice (some ⟨g', 0, none⟩) (N + m) cap')) w') : op.wp Tryz.prog a W K Q := by
  obtain ⟨i0, hi, hz0, hz1, hz2⟩ := info_parts Tryz.infoPt
  subst hN
  refine wp_append_lies W s x 39 hop base 29 i0 _ 2 16 Tryz.underlying39 hi hz0 hz1 hz2 rfl (by decide) l rs.length (pls rs) hs hT ⟨H, o, none⟩ m c2 (pls news) hx (by rw [pls_length, hm]) ?_ (ones_pls news) hm0 (by unfold maxLen; omega) (by omega) hb _ rfl ?_
  · intro j u hu
    rw [Addr.add_lit]
    exact hr.at j u hu
  intro g' cap' w' hown' hg hat _
  refine h g' cap' w' ?_ hg (hat.imp id (fun e => by omega))
  unfold Pown
  rw [List.length_append, hm, pls_append]
  exact hown'
theorem wpList_append_pl {W : World} {base : Nat} {l : Value} {rs : List Pt} {ops : Array Oper} {rest : List Oper} {op : Oper} {a : Act} {Q : Exit → Act → World → Prop} (hgd : op.guard = none) (s x : Operand)
    (hop : op.op = .call { callee := .builtin .append, args := #[s, x], argTypes := #[39, 39] }) (N : Nat) (hN : rs.length = N) (hs : a.eval s = l) (H o m c2 : Nat) (hx : a.eval x = .slice (some ⟨H, o, none⟩) m c2)
    (news : List Pt) (hm : news.length = m) (hm0 : 0 < m) (hf : N + m ≤ 8796093022208) (hr : Prow W H o news) (hT : Pown W base l rs) (hb : base ≤ W.heap.size)
    (h : ∀ g' cap' w', Pown w' base (.slice (some ⟨g', 0, none⟩) (N + m) cap') (rs ++ news) → W.grownBy w' l.ownBlock → (l.ownBlock = some g' ∨ W.heap.size ≤ g') → wpList Tryz.prog ops Q rest (a.put op.dst (.slice (some ⟨g', 0, none⟩) (N + m) cap')) w') : wpList Tryz.prog ops Q (op :: rest) a W :=
  wpList_plain hgd fun _ hK => wp_append_pl s x hop N hN hs H o m c2 hx news hm hm0 hf hr hT hb fun g' cap' w' h1 h2 h3 => hK _ _ (h g' cap' w' h1 h2 h3)
theorem step_append_pl {W : World} {base : Nat} {l : Value} {rs : List Pt} {ops : Array Oper} {op : Oper} {a : Act} {K : Act → World → Prop} {Q : Exit → Act → World → Prop} {E : Prop} (hw : Region.wanted op (yielded ops a.tmps) = true) (s x : Operand)
    (hop : op.op = .call { callee := .builtin .append, args := #[s, x], argTypes := #[39, 39] }) (N : Nat) (hN : rs.length = N) (hs : a.eval s = l) (H o m c2 : Nat) (hx : a.eval x = .slice (some ⟨H, o, none⟩) m c2)
    (news : List Pt) (hm : news.length = m) (hm0 : 0 < m) (hf : N + m ≤ 8796093022208) (hr : Prow W H o news) (hT : Pown W base l rs) (hb : base ≤ W.heap.size)
    (h : ∀ g' cap' w', Pown w' base (.slice (some ⟨g', 0, none⟩) (N + m) cap') (rs ++ news) → W.grownBy w' l.ownBlock → (l.ownBlock = some g' ∨ W.heap.size ≤ g') → K (a.put op.dst (.slice (some ⟨g', 0, none⟩) (N + m) cap')) w') :
    if Region.wanted op (yielded ops a.tmps) = true then Oper.wp Tryz.prog op a W K Q else E := by
  rw [if_pos hw]
  exact wp_append_pl s x hop N hN hs H o m c2 hx news hm hm0 hf hr hT hb h
theorem prow_one {w : World} (p : Pt) (t : TypeId) : Prow (w.alloc (.cells (pCells p) t)) w.heap.size 0 [p] := prow_has (cs := pCells p) (by simp) (has_new rfl) rfl

end Go.Proofs.YtglbfpjjnboeaaaGreat

namespace Go.Proofs.YtglbfpjjnboeaaaGreat
open Go Go.RowKit
open M

/-- A path that grows: in block go, its list in other blocks behind r; the result's block is r. -/
structure Grp3 (w1 : World) (r go : Nat) (c : Bool) (rs : List Pt) (l : Value) (wr : World) : Prop where
  own : Pown wr (r + 1) l rs
  out : Has wr go #[.bool c, l] 41
  res : Has wr r #[.bool false, .slice none 0 0] 41
  ne : ∀ k, l.ownBlock = some k → k ≠ go
  below : Below w1.heap.size w1 wr
  lr : w1.heap.size ≤ r
  lo : r < go
section
variable {w1 W w' : World} {r go : Nat} {c : Bool} {rs qs : List Pt} {l l' : Value}
theorem Grp3.later (h : Grp3 w1 r go c rs l W) (hq : Below W.heap.size W w') : Grp3 w1 r go c rs l w' :=
  ⟨h.own.below hq (Nat.le_refl _), h.out.below hq h.out.lt, h.res.below hq h.res.lt, h.ne, h.below.trans (hq.mono h.below.size), h.lr, h.lo⟩
theorem Grp3.away (h : Grp3 w1 r go c rs l W) : l.ownBlock ≠ some go ∧ l.ownBlock ≠ some r := ⟨fun e => h.ne _ e rfl, fun e => by have := (h.own.base r e).1; omega⟩
/-- The list has grown, and is stored. -/
theorem Grp3.put {g' n cap' : Nat} (h : Grp3 w1 r go c rs l W) (ho : Pown w' (r + 1) (.slice (some ⟨g', 0, none⟩) n cap') qs) (hg : W.grownBy w' l.ownBlock) (hat : l.ownBlock = some g' ∨ W.heap.size ≤ g') : Grp3 w1 r go c qs (.slice (some ⟨g', 0, none⟩) n cap') (w'.setCell ⟨go, 1, none⟩ (.slice (some ⟨g', 0, none⟩) n cap')) := by
  have hk : Has w' go #[.bool c, l] 41 := (hg.block go h.out.lt (fun e => h.away.1 e.symm)).trans h.out
  have hr : Has w' r #[.bool false, .slice none 0 0] 41 := (hg.block r h.res.lt (fun e => h.away.2 e.symm)).trans h.res
  have hs := h.below.size
  have h1 := h.lr
  have h2 := h.lo
  have hne : ∀ k, Value.ownBlock (.slice (some ⟨g', 0, none⟩) n cap') = some k → k ≠ go := fun k hk => by
    have e : some g' = some k := hk
    simp at e
    rcases hat with ha | ha
    · rw [← e]; exact h.ne _ ha
    · have := h.out.lt; omega
  refine ⟨ho.kept (grownBy_set (World.grownBy.refl _ _) _ _) (fun k hk e => by simp at hk; exact hne k e hk.symm), ?_, has_grown hr (grownBy_set (World.grownBy.refl _ _) _ _) (by omega), hne, ?_, h1, h2⟩
  · have := has_set hk 1 (.slice (some ⟨g', 0, none⟩) n cap')
    simpa using this
  · exact (h.below.grown hg (by omega) (fun k e => by have := (h.own.base k e).1; omega)).setCell (show w1.heap.size ≤ go by omega) _
theorem Grp3.alloc (h : Grp3 w1 r go c rs l W) (o : Obj) : Grp3 w1 r go c rs l (W.alloc o) := h.later ((Below.refl _ _).alloc (Nat.le_refl _) _)
theorem Grp3.big (h : Grp3 w1 r go c rs l W) : r + 1 ≤ W.heap.size := by have := h.out.lt; have := h.lo; omega
theorem Grp3.gives (h : Grp3 w1 r go c rs l W) (hB : w1.heap.size = r) : Gives w1 c rs (.returned (.agg #[.bool c, l])) ((W.setCell ⟨r, 0, none⟩ (.bool c)).setCell ⟨r, 1, none⟩ l) := by
  have hs : W.grownBy ((W.setCell ⟨r, 0, none⟩ (.bool c)).setCell ⟨r, 1, none⟩ l) (some r) := grownBy_set (grownBy_set (World.grownBy.refl _ _) _ _) _ _
  have lr := h.lr
  refine ⟨_, rfl, ?_, ?_⟩
  · exact (h.own.kept hs (fun k hk e => by simp at hk; exact h.away.2 (by rw [e, hk]))).lower (by omega)
  · exact (h.below.setCell (by simp; omega) _).setCell (by simp; omega) _
theorem Grp3.fine (h : Grp3 w1 r go c rs l W) (hg : W.grownBy w' l.ownBlock) : w'.cell? ⟨go, 1, none⟩ = some l ∧ w'.frozen? ⟨go, 1, none⟩ = false := by
  have hk : Has w' go #[.bool c, l] 41 := (hg.block go h.out.lt (fun e => h.away.1 e.symm)).trans h.out
  exact ⟨hk.cell 1 _ rfl, has_fro hk 1⟩
end

theorem psl_row {w : World} {g o n c : Nat} {ps : List Pt} (h : Psl w (.slice (some ⟨g, o, none⟩) n c) ps) (h0 : 0 < ps.length) : Prow w g o ps := by
  obtain ⟨_, _, hv, _, hr⟩ := h
  simp at hv
  obtain ⟨rfl, _, _⟩ := hv
  obtain ⟨_, _, e, r⟩ := hr h0
  simp at e
  obtain ⟨rfl, rfl⟩ := e
  exact r

set_option maxRecDepth 100000 in
set_option maxHeartbeats 2000000 in
theorem sh_straight {v : Value} {ps : List Pt} {w : World} (h : Psl w v ps) (h0 : 0 < ps.length) (h1 : ps.length ≤ 100) : Calls Tryz.prog 37 #[v] w (Gives w true (straightL ps)) := by
  obtain ⟨B, hB⟩ : ∃ B, w.heap.size = B := ⟨_, rfl⟩
  obtain ⟨W, hW⟩ : ∃ W, w.alloc (.cells #[.bool false, .slice none 0 0] 41) = W := ⟨_, rfl⟩
  have hr0 : Has W B #[.bool false, .slice none 0 0] 41 := by rw [← hW]; exact has_new hB
  have hb0 : Below B w W := by rw [← hW]; exact (Below.refl _ _).alloc (by omega) _
  have hz0 : W.heap.size = B + 1 := by rw [← hW]; simp [hB]
  have HS := Lib.hid h
  have hs := h.below hb0 (by omega)
  obtain ⟨ao, cap, rfl, hf, hr⟩ := hs
  obtain ⟨g, o, rfl, r⟩ := hr h0
  obtain ⟨N, hN⟩ : ∃ N, ps.length = N := ⟨_, rfl⟩
  have HR := Lib.hid r
  have HN := Lib.hid hN
  have HB := Lib.hid hB
  have HW := Lib.hid hW
  have p0 := r.c0 0 h0
  have p1 := r.c1 0 h0
  rw [hN] at h0 h1 ⊢
  simp only [Nat.zero_mul, Nat.add_zero] at p0 p1
  obtain ⟨p, hp⟩ : ∃ p, pt ps 0 = p := ⟨_, rfl⟩
  rw [hp] at p0 p1
  obtain ⟨V, hV⟩ : ∃ V, (W.alloc (.cells (pCells p) 29)).alloc (.cells #[.bool true, .slice (some ⟨B + 1, 0, none⟩) 1 1] 41) = V := ⟨_, rfl⟩
  have G0 : Hid (Grp3 w B (B + 1 + 1) true (strN ps 0) (.slice (some ⟨B + 1, 0, none⟩) 1 1) V) := Lib.hid (by
    have ho : Pown (W.alloc (.cells (pCells p) 29)) (B + 1) (.slice (some ⟨B + 1, 0, none⟩) 1 1) [p] := by
      have := World.ownsRow_lit (e := 29) (size := 2) (base := B + 1) W (pCells p) 1 (by omega) (by unfold maxLen; omega) rfl
      rw [hz0] at this
      exact this
    show Grp3 w B (B + 1 + 1) true [pt ps 0] _ V
    rw [hp, ← hV]
    exact ⟨ho.alloc _, has_new (by simp [hz0]), (hr0.alloc _).alloc _, fun k hk e => by have e' : some (B + 1) = some k := hk; simp at e'; omega, by rw [hB]; exact (hb0.alloc (by omega) _).alloc (by simp; omega) _, by omega, by omega⟩)
  have HV := Lib.hid hV
  have HZ := Lib.hid hz0
  have o1 : (0 : Int) < N := by omega
  have o2 : (N : Int) ≤ 100 := by omega
  clear hf r hr hN hb0 hr0 hW hV h hp
  obtain ⟨px, py⟩ := p
  simp only at p0 p1
  go_enter Tryz.func37, Tryz.ntmps37
  go_upto_region 1 with fail
  rw [HW.out]
  clear hB
  go_upto_region 2 with fail
  rw [HV.out]
  clear p0 p1 hz0
  go_wp2
  go_loopw [14] (fun i wr => ∃ (n : Nat) (l : Value), n ≤ N ∧ i = .int .i64 n ∧ Grp3 w B (B + 1 + 1) true (strN ps n) l wr) (fun i _ => N - (intOf i).toNat)
  case atStart => exact ⟨0, _, by omega, rfl, G0.out⟩
  case round =>
    clear G0
    obtain ⟨n, l, hn, rfl, hG⟩ := hrel
    have GH := Lib.hid hG
    have bw := Lib.hid hG.below
    by_cases hlt : n < N
    · have o3 : (n : Int) < N := by omega
      obtain ⟨m, hm⟩ : ∃ m : Nat, (n + 1) % N = m := ⟨_, rfl⟩
      have hmN : m < N := by rw [← hm]; exact Nat.mod_lt _ h0
      have e1 : ((n : Int) + 1) % (N : Int) = (m : Int) := by rw [← hm]; rfl
      have o4 : (m : Int) < N := by omega
      have o5 : ¬ (N : Int) = 0 := by omega
      have o6 : ¬ N = 0 := by omega
      obtain ⟨V1, hV1⟩ : ∃ V1, wr.alloc (.cells (pCells (pt ps n)) 29) = V1 := ⟨_, rfl⟩
      have rr : Prow wr g o ps := psl_row (HS.out.below bw.out (Nat.le_refl _)) (by have := HN.out; omega)
      have r1 : Prow V1 g o ps := psl_row ((HS.out.below bw.out (Nat.le_refl _)).below (B := wr.heap.size) (w' := V1) (by rw [← hV1]; exact (Below.refl _ _).alloc (Nat.le_refl _) _) (Nat.le_refl _)) (by have := HN.out; omega)
      have c0 := rr.c0 n (by have := HN.out; omega)
      have c1 := rr.c1 n (by have := HN.out; omega)
      have d0 := r1.c0 m (by have := HN.out; omega)
      have d1 := r1.c1 m (by have := HN.out; omega)
      have HM := Lib.hid hm
      obtain ⟨q, hq⟩ : ∃ q, pt ps n = q := ⟨_, rfl⟩
      obtain ⟨t, ht⟩ : ∃ q, pt ps m = q := ⟨_, rfl⟩
      rw [hq] at c0 c1 hV1
      rw [ht] at d0 d1
      have HQ := Lib.hid hq
      have HT := Lib.hid ht
      obtain ⟨V2, hV2⟩ : ∃ V2, V1.alloc (.cells (pCells t) 29) = V2 := ⟨_, rfl⟩
      obtain ⟨A, hA⟩ : ∃ A, wr.heap.size = A := ⟨_, rfl⟩
      have hA1 : V1.heap.size = A + 1 := by rw [← hV1]; simp [hA]
      have kA : Has V2 A (pCells q) 29 := by rw [← hV2, ← hV1]; exact (has_new hA).alloc _
      have kB : Has V2 (A + 1) (pCells t) 29 := by rw [← hV2]; exact has_new hA1
      have b2 : Below wr.heap.size wr V2 := by rw [← hV2, ← hV1]; exact ((Below.refl _ _).alloc (Nat.le_refl _) _).alloc (by simp) _
      have G2 := Lib.hid (hG.later b2)
      have f1 := (hG.later b2).out.cell 1 _ rfl
      have a0 := kA.cell 0 _ rfl
      have a1 := kA.cell 1 _ rfl
      have b0 := kB.cell 0 _ rfl
      have b1 := kB.cell 1 _ rfl
      have HV1 := Lib.hid hV1
      have HV2 := Lib.hid hV2
      have HA1 := Lib.hid hA1
      obtain ⟨gl, cl, hl⟩ := hG.own.shape (by rw [strN_length]; omega)
      obtain ⟨LN, hLN⟩ : ∃ LN, (strN ps n).length = LN := ⟨_, rfl⟩
      rw [hLN] at hl
      subst hl
      have HLN := Lib.hid hLN
      have BN : Hid (LN + 3 ≤ 8796093022208) := Lib.hid (by rw [← hLN, strN_length]; omega)
      have ST : Hid (strN ps n ++ [q, t, t] = strN ps (n + 1)) := Lib.hid (by rw [← hq, ← ht, ← hm, ← HN.out]; rfl)
      clear hm hq ht rr r1 hG hV1 hV2 b2 kA kB hA1 hLN
      obtain ⟨qx, qy⟩ := q
      obtain ⟨tx, ty⟩ := t
      simp only at c0 c1 d0 d1 a0 a1 b0 b1
      go_upto_region 5 with fail
      rw [HV1.out]
      clear hA
      go_upto_region 6 with fail
      rw [HA1.out, HV2.out]
      clear c0 c1 d0 d1
      go_wp2_with (at_builtin; refine wpList_append_pl rfl _ _ rfl LN HLN.out rfl V2.heap.size 0 3 3 rfl [⟨qx, qy⟩, ⟨tx, ty⟩, ⟨tx, ty⟩] rfl (by decide) BN.out (prow_has (cs := #[.int .i64 qx, .int .i64 qy, .int .i64 tx, .int .i64 ty, .int .i64 tx, .int .i64 ty]) (by simp) (has_new rfl) rfl) (G2.out.alloc _).own (G2.out.alloc _).big ?_)
      intro g' cap' w4 ho hg hat
      have fi := (G2.out.alloc _).fine hg
      have f0 := fi.1
      have f2 := fi.2
      have G4 := Lib.hid ((G2.out.alloc _).put ho hg (hat.imp id (fun h => by simpa using h)))
      rw [ST.out] at G4
      clear ho hg hat fi f1 a0 a1 b0 b1
      go_wp2
      go_roundw
      case rel => exact ⟨n + 1, _, by omega, by go_num, G4.out⟩
      case measure => simp [intOf]; omega
    · obtain rfl : n = N := by omega
      have R := Lib.hid (hG.gives HB.out)
      have q0 := hG.out.cell 0 _ rfl
      have q1 := hG.out.cell 1 _ rfl
      have r0 := hG.res.cell 0 _ rfl
      have r1 := hG.res.cell 1 _ rfl
      have fz := has_fro hG.res
      have e1 : strN ps n = straightL ps := by unfold straightL; rw [HN.out]
      rw [e1] at R
      obtain ⟨ao, cp, rfl⟩ := hG.own.len
      have HL := Lib.hid (strN_length ps n)
      have o3 : (n : Int) ≤ n := by omega
      clear hG GH bw e1
      go_wp2
      refine bodyPost_ret (v := .agg #[.bool true, .slice ao (strN ps n).length cp]) (by simp [results, Tryz.results37, go_sem, r0, r1]) rfl ?_
      exact R.out

end Go.Proofs.YtglbfpjjnboeaaaGreat

namespace Go.Proofs.YtglbfpjjnboeaaaGreat
open Go Go.RowKit
open M

theorem sh_point (x y : Int) (w : World) : Calls Tryz.prog 38 #[.int .i64 x, .int .i64 y] w fun e w' => e = .returned (.agg (pCells ⟨x, y⟩)) ∧ Below w.heap.size w w' := by
  go_enter Tryz.func38, Tryz.ntmps38
  go_wp2
  refine bodyPost_ret (v := .agg (pCells ⟨x, y⟩)) (by simp [results, Tryz.results38, go_sem]) rfl ⟨rfl, ?_⟩
  exact (Below.refl _ _).alloc (Nat.le_refl _) _
/-- What a call has answered is a call's own answer, put into the block of its result. -/
theorem gives_tail {w w1 w2 : World} {B : Nat} {c : Bool} {ps : List Pt} {v : Value} (hB : w.heap.size = B) (hr : Has w1 B #[.bool false, .slice none 0 0] 41) (hb : Below B w w1) (ho : Pown w2 w1.heap.size v ps) (hq : Below w1.heap.size w1 w2) :
    Gives w c ps (.returned (.agg #[.bool c, v])) ((w2.setCell ⟨B, 0, none⟩ (.bool c)).setCell ⟨B, 1, none⟩ v) ∧ Has w2 B #[.bool false, .slice none 0 0] 41 := by
  have lt := hr.lt
  exact ⟨gives_put (w := w) hB (ho.lower (by omega)) (fun e => by have := (ho.base _ e).1; omega) (Nat.le_refl _) (hb.trans (hq.mono (by omega))) rfl _ _ rfl, hr.below hq hr.lt⟩

set_option maxRecDepth 100000 in
set_option maxHeartbeats 2000000 in
theorem sh_rect (x y : Int) (w : World) (wx : -9223372036854775808 ≤ x ∧ x ≤ 9223372036854775807) (wy : -9223372036854775808 ≤ y ∧ y ≤ 9223372036854775807) : Calls Tryz.prog 12 #[.int .i64 x, .int .i64 y] w (Gives w true (rectL x y)) := by
  obtain ⟨B, hB⟩ : ∃ B, w.heap.size = B := ⟨_, rfl⟩
  obtain ⟨W, hW⟩ : ∃ W, w.alloc (.cells #[.bool false, .slice none 0 0] 41) = W := ⟨_, rfl⟩
  have hr0 : Has W B #[.bool false, .slice none 0 0] 41 := by rw [← hW]; exact has_new hB
  have hb0 : Below B w W := by rw [← hW]; exact (Below.refl _ _).alloc (by omega) _
  have HR := Lib.hid hr0
  have HB := Lib.hid hB
  have HW := Lib.hid hW
  have HBW := Lib.hid hb0
  have SZ : Hid (B ≤ W.heap.size) := Lib.hid (Nat.le_of_lt hr0.lt)
  have ER : Hid (rectL x y = straightL [⟨-(x / 2), -(y / 2)⟩, ⟨x - x / 2, -(y / 2)⟩, ⟨x - x / 2, y - y / 2⟩, ⟨-(x / 2), y - y / 2⟩]) := Lib.hid rfl
  obtain ⟨R, hR⟩ : ∃ R, rectL x y = R := ⟨_, rfl⟩
  rw [hR] at ER ⊢
  clear hr0 hb0 hW hR
  go_enter Tryz.func12, Tryz.ntmps12
  go_wp2_with fail
  rw [HW.out]
  clear hB
  refine (sh_point _ _ _).mono ?_
  rintro e w1 ⟨rfl, q1⟩
  have Q1 := Lib.hid q1
  clear q1
  go_wp2_with fail
  refine (sh_point _ _ _).mono ?_
  rintro e w2 ⟨rfl, q2⟩
  have Q2 := Lib.hid (Q1.out.trans (q2.mono Q1.out.size))
  clear q2 Q1
  go_wp2_with fail
  refine (sh_point _ _ _).mono ?_
  rintro e w3 ⟨rfl, q3⟩
  have Q3 := Lib.hid (Q2.out.trans (q3.mono Q2.out.size))
  clear q3 Q2
  go_wp2_with fail
  refine (sh_point _ _ _).mono ?_
  rintro e w4 ⟨rfl, q4⟩
  have Q4 := Lib.hid (Q3.out.trans (q4.mono Q3.out.size))
  clear q4 Q3
  go_wp2_with fail
  obtain ⟨V, hV⟩ : ∃ V, w4.alloc (.cells #[.int .i64 (-(x / 2)), .int .i64 (-(y / 2)), .int .i64 (x - x / 2), .int .i64 (-(y / 2)), .int .i64 (x - x / 2), .int .i64 (y - y / 2), .int .i64 (-(x / 2)), .int .i64 (y - y / 2)] 29) = V := ⟨_, rfl⟩
  have PS : Psl V (.slice (some ⟨w4.heap.size, 0, none⟩) 4 4) [⟨-(x / 2), -(y / 2)⟩, ⟨x - x / 2, -(y / 2)⟩, ⟨x - x / 2, y - y / 2⟩, ⟨-(x / 2), y - y / 2⟩] := by rw [← hV]; exact psl_lit 4 4 rfl (by decide) (has_new rfl) rfl
  have QV : Below W.heap.size W V := by rw [← hV]; exact Q4.out.alloc Q4.out.size _
  have QW := Lib.hid QV
  rw [hV]
  have ST := sh_straight PS (by simp) (by simp)
  rw [← ER.out] at ST
  clear hV Q4 PS QV
  refine ST.mono ?_
  rintro e w5 ⟨v, rfl, ho, hq⟩
  obtain ⟨G, K⟩ := gives_tail (c := true) HB.out (HR.out.below QW.out HR.out.lt) (HBW.out.trans (QW.out.mono SZ.out)) ho hq
  have GG := Lib.hid G
  obtain ⟨ao, cp, rfl⟩ := ho.len
  obtain ⟨LN, hLN⟩ : ∃ n, R.length = n := ⟨_, rfl⟩
  rw [hLN] at GG ⊢
  have r0 := K.cell 0 _ rfl
  have r1 := K.cell 1 _ rfl
  have fz := has_fro K
  clear ST G K ho hq hLN
  go_wp2
  refine bodyPost_ret (v := .agg #[.bool true, .slice ao LN cp]) (by simp [results, Tryz.results12, go_sem, r0, r1]) rfl ?_
  exact GG.out

end Go.Proofs.YtglbfpjjnboeaaaGreat

namespace Go.Proofs.YtglbfpjjnboeaaaGreat
open Go Go.RowKit
open M

/-- A literal of places in a block of its own. -/
theorem pown_new {w : World} {B n : Nat} {cs : Array Value} {ps : List Pt} (hb : B ≤ w.heap.size) (hn : ps.length = n) (hm : n ≤ 1000) (hcs : cs.toList = pls ps) : Pown (w.alloc (.cells cs 29)) B (.slice (some ⟨w.heap.size, 0, none⟩) n n) ps := by
  subst hn
  have hsz : cs.size = ps.length * 2 := by rw [← Array.length_toList, hcs, pls_length]
  have := World.ownsRow_lit (e := 29) (size := 2) (base := B) w cs ps.length hb (by unfold maxLen; omega) hsz
  unfold Pown
  rw [← hcs]
  exact this

set_option maxRecDepth 100000 in
set_option maxHeartbeats 4000000 in
theorem sh_oval (x y : Int) (w : World) (wx : -9223372036854775808 ≤ x ∧ x ≤ 9223372036854775807) (wy : -9223372036854775808 ≤ y ∧ y ≤ 9223372036854775807) : Calls Tryz.prog 14 #[.int .i64 x, .int .i64 y] w (Gives w true (ovalL x y)) := by
  obtain ⟨B, hB⟩ : ∃ B, w.heap.size = B := ⟨_, rfl⟩
  obtain ⟨W, hW⟩ : ∃ W, w.alloc (.cells #[.bool false, .slice none 0 0] 41) = W := ⟨_, rfl⟩
  have hr0 : Has W B #[.bool false, .slice none 0 0] 41 := by rw [← hW]; exact has_new hB
  have hb0 : Below B w W := by rw [← hW]; exact (Below.refl _ _).alloc (by omega) _
  have HR := Lib.hid hr0
  have HB := Lib.hid hB
  have HW := Lib.hid hW
  have HBW := Lib.hid hb0
  have SZ : Hid (B ≤ W.heap.size) := Lib.hid (Nat.le_of_lt hr0.lt)
  obtain ⟨R, hR⟩ : ∃ R, ovalL x y = R := ⟨_, rfl⟩
  have ER : Hid (ovalN (x / 2) (y / 2) (mul (x / 2) 36195) (mul (y / 2) 36195) = R) := Lib.hid hR
  rw [hR]
  obtain ⟨a, ha⟩ : ∃ a, x / 2 = a := ⟨_, rfl⟩
  obtain ⟨b, hb⟩ : ∃ b, y / 2 = b := ⟨_, rfl⟩
  have a0 : -4611686018427387904 ≤ a ∧ a ≤ 4611686018427387903 := by omega
  have b0 : -4611686018427387904 ≤ b ∧ b ≤ 4611686018427387903 := by omega
  have M1 : Hid (∀ w : World, Calls Tryz.prog 40 #[.int .i64 a, .int .i64 36195] w fun e w' => e = .returned (.int .i64 (mul a 36195)) ∧ w = w') := Lib.hid (fun w => q_mul a 36195 w)
  have M2 : Hid (∀ w : World, Calls Tryz.prog 40 #[.int .i64 b, .int .i64 36195] w fun e w' => e = .returned (.int .i64 (mul b 36195)) ∧ w = w') := Lib.hid (fun w => q_mul b 36195 w)
  have k0 : -1099511627776 ≤ mul a 36195 ∧ mul a 36195 ≤ 1099511627776 := ⟨hold_lo _, hold_hi _⟩
  have l0 : -1099511627776 ≤ mul b 36195 ∧ mul b 36195 ≤ 1099511627776 := ⟨hold_lo _, hold_hi _⟩
  rw [ha, hb] at ER
  obtain ⟨k, hk⟩ : ∃ k, mul a 36195 = k := ⟨_, rfl⟩
  obtain ⟨l, hl⟩ : ∃ l, mul b 36195 = l := ⟨_, rfl⟩
  rw [hk] at M1 k0 ER
  rw [hl] at M2 l0 ER
  clear hr0 hb0 hW hR hk hl
  go_enter Tryz.func14, Tryz.ntmps14
  go_wp2_with fail
  rw [HW.out]
  clear hB
  clear ha hb wx wy
  refine (M1.out _).mono ?_
  rintro e w' ⟨rfl, rfl⟩
  go_wp2_with fail
  refine (M2.out _).mono ?_
  rintro e w' ⟨rfl, rfl⟩
  clear M1 M2
  have M2 : Hid (Below W.heap.size W W) := Lib.hid (Below.refl _ _)
  go_wp2_with fail
  refine (sh_point _ _ _).mono ?_
  rintro e w1 ⟨rfl, q1⟩
  have Q1 := Lib.hid (M2.out.trans (q1.mono M2.out.size))
  clear q1 M2
  go_wp2_with fail
  refine (sh_point _ _ _).mono ?_
  rintro e w2 ⟨rfl, q2⟩
  have Q2 := Lib.hid (Q1.out.trans (q2.mono Q1.out.size))
  clear q2 Q1
  go_wp2_with fail
  refine (sh_point _ _ _).mono ?_
  rintro e w3 ⟨rfl, q3⟩
  have Q3 := Lib.hid (Q2.out.trans (q3.mono Q2.out.size))
  clear q3 Q2
  go_wp2_with fail
  refine (sh_point _ _ _).mono ?_
  rintro e w4 ⟨rfl, q4⟩
  have Q4 := Lib.hid (Q3.out.trans (q4.mono Q3.out.size))
  clear q4 Q3
  go_wp2_with fail
  refine (sh_point _ _ _).mono ?_
  rintro e w5 ⟨rfl, q5⟩
  have Q5 := Lib.hid (Q4.out.trans (q5.mono Q4.out.size))
  clear q5 Q4
  go_wp2_with fail
  refine (sh_point _ _ _).mono ?_
  rintro e w6 ⟨rfl, q6⟩
  have Q6 := Lib.hid (Q5.out.trans (q6.mono Q5.out.size))
  clear q6 Q5
  go_wp2_with fail
  refine (sh_point _ _ _).mono ?_
  rintro e w7 ⟨rfl, q7⟩
  have Q7 := Lib.hid (Q6.out.trans (q7.mono Q6.out.size))
  clear q7 Q6
  go_wp2_with fail
  refine (sh_point _ _ _).mono ?_
  rintro e w8 ⟨rfl, q8⟩
  have Q8 := Lib.hid (Q7.out.trans (q8.mono Q7.out.size))
  clear q8 Q7
  go_wp2_with fail
  refine (sh_point _ _ _).mono ?_
  rintro e w9 ⟨rfl, q9⟩
  have Q9 := Lib.hid (Q8.out.trans (q9.mono Q8.out.size))
  clear q9 Q8
  go_wp2_with fail
  refine (sh_point _ _ _).mono ?_
  rintro e w10 ⟨rfl, q10⟩
  have Q10 := Lib.hid (Q9.out.trans (q10.mono Q9.out.size))
  clear q10 Q9
  go_wp2_with fail
  refine (sh_point _ _ _).mono ?_
  rintro e w11 ⟨rfl, q11⟩
  have Q11 := Lib.hid (Q10.out.trans (q11.mono Q10.out.size))
  clear q11 Q10
  go_wp2_with fail
  refine (sh_point _ _ _).mono ?_
  rintro e w12 ⟨rfl, q12⟩
  have Q12 := Lib.hid (Q11.out.trans (q12.mono Q11.out.size))
  clear q12 Q11
  go_wp2_with fail
  refine (sh_point _ _ _).mono ?_
  rintro e w13 ⟨rfl, q13⟩
  have Q13 := Lib.hid (Q12.out.trans (q13.mono Q12.out.size))
  clear q13 Q12
  obtain ⟨V, hV⟩ : ∃ V, w13.alloc (.cells #[.int .i64 a, .int .i64 0, .int .i64 a, .int .i64 l, .int .i64 k, .int .i64 b, .int .i64 0, .int .i64 b, .int .i64 (-k), .int .i64 b, .int .i64 (-a), .int .i64 l, .int .i64 (-a), .int .i64 0, .int .i64 (-a), .int .i64 (-l), .int .i64 (-k), .int .i64 (-b), .int .i64 0, .int .i64 (-b), .int .i64 k, .int .i64 (-b), .int .i64 a, .int .i64 (-l), .int .i64 a, .int .i64 0] 29) = V := ⟨_, rfl⟩
  have QV : Below W.heap.size W V := by rw [← hV]; exact Q13.out.alloc Q13.out.size _
  have K := HR.out.below QV HR.out.lt
  have PO : Pown V B (.slice (some ⟨w13.heap.size, 0, none⟩) 13 13) R := by rw [← hV, ← ER.out]; exact pown_new (Nat.le_trans SZ.out Q13.out.size) rfl (by decide) rfl
  have G := Lib.hid (gives_put (w := w) (r := B) (c := true) HB.out PO (fun e => by have e' : some w13.heap.size = some B := e; simp at e'; have := HR.out.lt; have := Q13.out.size; omega) (Nat.le_refl _) (HBW.out.trans (QV.mono SZ.out)) rfl (.bool true) _ rfl)
  have K13 := HR.out.below Q13.out HR.out.lt
  have r0 := fun o => (K13.alloc o).cell 0 _ rfl
  have r1 := fun o => (K13.alloc o).cell 1 _ rfl
  have fz := fun o j => has_fro (K13.alloc o) j
  rw [← hV] at G
  clear hV QV K PO Q13 K13
  go_wp2
  refine bodyPost_ret (v := .agg #[.bool true, .slice (some ⟨w13.heap.size, 0, none⟩) 13 13]) (by simp [results, Tryz.results14, go_sem, r0, r1]) rfl ?_
  exact G.out

end Go.Proofs.YtglbfpjjnboeaaaGreat

namespace Go.Proofs.YtglbfpjjnboeaaaGreat
open Go Go.RowKit
open M

set_option maxRecDepth 100000 in
theorem sh_around (a f : Int) (w : World) : Calls Tryz.prog 43 #[.int .i64 a, .int .i64 f] w fun e w' => e = .returned (.agg (pCells ⟨mul f (cos a), mul f (sin a)⟩)) ∧ Below w.heap.size w w' := by
  obtain ⟨c, hc⟩ : ∃ c, cos a = c := ⟨_, rfl⟩
  obtain ⟨d, hd⟩ : ∃ d, sin a = d := ⟨_, rfl⟩
  have TC : Hid (∀ w, Calls Tryz.prog 69 #[.int .i64 a] w (Drawn (.int .i64 c) w)) := Lib.hid (fun w => by have := t_cos a w; rw [hc] at this; exact this)
  have TS : Hid (∀ w, Calls Tryz.prog 70 #[.int .i64 a] w (Drawn (.int .i64 d) w)) := Lib.hid (fun w => by have := t_sin a w; rw [hd] at this; exact this)
  rw [hc, hd]
  clear hc hd
  go_enter Tryz.func43, Tryz.ntmps43
  obtain ⟨B, hB⟩ : ∃ B, w.heap.size = B := ⟨_, rfl⟩
  obtain ⟨W, hW⟩ : ∃ W, w.alloc (.cells #[.int .i64 0, .int .i64 0] 29) = W := ⟨_, rfl⟩
  have hr0 : Has W B #[.int .i64 0, .int .i64 0] 29 := by rw [← hW]; exact has_new hB
  have hb0 : Below B w W := by rw [← hW]; exact (Below.refl _ _).alloc (by omega) _
  have HR := Lib.hid hr0
  have HB := Lib.hid hB
  have HW := Lib.hid hW
  have HBW := Lib.hid hb0
  have SZ : Hid (B ≤ W.heap.size) := Lib.hid (Nat.le_of_lt hr0.lt)
  clear hr0 hb0 hW
  go_wp2_with fail
  rw [HW.out]
  clear hB
  refine (TC.out _).mono ?_
  rintro e w1 ⟨rfl, n1, rfl⟩
  go_wp2_with fail
  refine (q_mul _ _ _).mono ?_
  rintro e w' ⟨rfl, rfl⟩
  go_wp2_with fail
  refine (TS.out _).mono ?_
  rintro e w2 ⟨rfl, n2, rfl⟩
  go_wp2_with fail
  refine (q_mul _ _ _).mono ?_
  rintro e w' ⟨rfl, rfl⟩
  obtain ⟨V, hV⟩ : ∃ V, W.drewN (n1 + n2) = V := ⟨_, rfl⟩
  have bV : Below W.heap.size W V := by rw [← hV]; exact below_drewN (Below.refl _ _) _
  have BV := Lib.hid bV
  clear bV
  rw [hV]
  clear hV
  go_wp2_with fail
  refine (sh_point _ _ _).mono ?_
  rintro e w3 ⟨rfl, q3⟩
  have Q3 := BV.out.trans (q3.mono BV.out.size)
  have K := HR.out.below Q3 HR.out.lt
  have r0 := K.cell 0 _ rfl
  have r1 := K.cell 1 _ rfl
  have fz := has_fro K
  have QQ : Hid (Below w.heap.size w w3) := Lib.hid (by rw [HB.out]; exact HBW.out.trans (Q3.mono SZ.out))
  have HBB : Hid (w.heap.size ≤ B) := Lib.hid (by rw [HB.out]; exact Nat.le_refl _)
  clear K Q3 q3
  go_wp2
  refine bodyPost_ret (v := .agg (pCells ⟨mul f c, mul f d⟩)) (by simp [results, Tryz.results43, go_sem, r0, r1]) rfl ⟨rfl, ?_⟩
  exact (QQ.out.setCell HBB.out _).setCell HBB.out _

theorem angle_of {c : Int} {j : Nat} (c0 : 2 ≤ c) (c1 : c ≤ 16) (hj : j ≤ 32) : -5898240 ≤ angle c j ∧ angle c j ≤ 400000000 := by
  unfold angle
  have h0 : 0 ≤ ((j : Int) * 11796480) / c := Int.ediv_nonneg (by omega) (by omega)
  have h1 : ((j : Int) * 11796480) / c ≤ (j : Int) * 11796480 := Int.ediv_le_self _ (by omega)
  omega

set_option maxRecDepth 100000 in
set_option maxHeartbeats 2000000 in
theorem sh_star (n r s : Int) (w : World) : Calls Tryz.prog 16 #[.int .i64 n, .int .i64 r, .int .i64 s] w (Gives w true (starL n r s)) := by
  obtain ⟨c, hc⟩ : ∃ c, points n = c := ⟨_, rfl⟩
  have QC : Hid (∀ w, Calls Tryz.prog 42 #[.int .i64 n, .int .i64 2, .int .i64 16] w fun e w' => e = .returned (.int .i64 c) ∧ w = w') := Lib.hid (fun w => by have := q_clamp n 2 16 w; unfold points at hc; rw [hc] at this; exact this)
  have c2 : 2 ≤ c ∧ c ≤ 16 := by rw [← hc]; unfold points clamp; split <;> (try split) <;> omega
  obtain ⟨C, rfl⟩ : ∃ C : Nat, c = (C : Int) := ⟨c.toNat, by omega⟩
  have ES : Hid (straightL (starN C r s (2 * C)) = starL n r s) := Lib.hid (by unfold starL; rw [hc, Int.toNat_natCast])
  obtain ⟨R, hR⟩ : ∃ R, starL n r s = R := ⟨_, rfl⟩
  rw [hR] at ES ⊢
  obtain ⟨B, hB⟩ : ∃ B, w.heap.size = B := ⟨_, rfl⟩
  obtain ⟨W, hW⟩ : ∃ W, w.alloc (.cells #[.bool false, .slice none 0 0] 41) = W := ⟨_, rfl⟩
  have hr0 : Has W B #[.bool false, .slice none 0 0] 41 := by rw [← hW]; exact has_new hB
  have hb0 : Below B w W := by rw [← hW]; exact (Below.refl _ _).alloc (by omega) _
  have HR := Lib.hid hr0
  have HB := Lib.hid hB
  have HW := Lib.hid hW
  have HBW := Lib.hid hb0
  have SZ : Hid (B ≤ W.heap.size) := Lib.hid (Nat.le_of_lt hr0.lt)
  have o1 : (2 : Int) ≤ C := c2.1
  have o2 : (C : Int) ≤ 16 := c2.2
  have o3 : ¬ (C : Int) = 0 := by omega
  have o4 : ¬ C = 0 := by omega
  have o5 : wrap64 (2 * (C : Int)) = 2 * (C : Int) := by unfold wrap64; omega
  clear hr0 hb0 hW hR hc c2
  go_enter Tryz.func16, Tryz.ntmps16
  go_wp2_with fail
  rw [HW.out]
  clear hB
  refine (QC.out _).mono ?_
  rintro e w' ⟨rfl, rfl⟩
  go_wp2_with fail
  go_loopw [8, 15] (fun lv i wr => ∃ (m : Nat), m ≤ 2 * C ∧ i = .int .i64 m ∧ Pown wr W.heap.size lv (starN C r s m) ∧ Below W.heap.size W wr) (fun _ i _ => 2 * C - (intOf i).toNat)
  case atStart => exact ⟨0, by omega, rfl, Pown.nil _ _, Below.refl _ _⟩
  case round =>
    obtain ⟨m, hm, rfl, ho, hb⟩ := hrel
    by_cases hlt : m < 2 * C
    · obtain ⟨A, hA, A0, A1⟩ : ∃ A, angle C m = A ∧ -5898240 ≤ A ∧ A ≤ 400000000 := ⟨_, rfl, angle_of o1 o2 (by omega)⟩
      have HA : Hid ((m : Int) * 11796480 / C - 5898240 = A) := Lib.hid hA
      have oA : (m : Int) * 11796480 / C = A + 5898240 := by have := HA.out; omega
      have o6 : (m : Int) < 2 * C := by omega
      have o7 : (m : Int) ≤ 32 := by omega
      have o8 : 0 ≤ (m : Int) * 11796480 := by omega
      have HO := Lib.hid ho
      have HQ := Lib.hid hb
      have NX := Lib.hid (starN_snoc C r s m)
      obtain ⟨p, hp⟩ : ∃ p, starP C r s m = p := ⟨_, rfl⟩
      rw [hp] at NX
      obtain ⟨f, hf⟩ : ∃ f, (if m % 2 = 1 then s else r) = f := ⟨_, rfl⟩
      have EP : Hid (p = ⟨mul f (cos A), mul f (sin A)⟩) := Lib.hid (by rw [← hp]; unfold starP; rw [hf, hA])
      obtain ⟨rs, hrs⟩ : ∃ rs, starN C r s m = rs := ⟨_, rfl⟩
      have HN : Hid (rs.length = m) := Lib.hid (by rw [← hrs, starN_length])
      rw [hrs] at HO NX
      have FF : Hid (∀ w, Calls Tryz.prog 43 #[.int .i64 A, .int .i64 f] w fun e w' => e = .returned (.agg (pCells p)) ∧ Below w.heap.size w w') := Lib.hid (fun w => by rw [EP.out]; exact sh_around A f w)
      obtain ⟨aol, capl, el⟩ := ho.len
      rw [hrs, HN.out] at el
      clear hA hp hrs ho hb
      subst el
      rcases (show m % 2 = 0 ∨ m % 2 = 1 by omega) with hm2 | hm2
      all_goals
        first | rw [if_neg (by omega)] at hf | rw [if_pos hm2] at hf
        subst hf
        have om : (m : Int) % 2 = ((m % 2 : Nat) : Int) := by omega
        rw [hm2] at om
        clear hm2
        go_wp2_with fail
        refine (FF.out _).mono ?_
        rintro e w3 ⟨rfl, q3⟩
        have Q3 := Lib.hid (HQ.out.trans (q3.mono HQ.out.size))
        have O3 := Lib.hid (HO.out.below q3 (Nat.le_refl _))
        clear q3
        go_wp2_with (at_builtin; refine wpList_append_pl rfl _ _ rfl m HN.out rfl w3.heap.size 0 1 1 rfl [p] rfl (by decide) (by omega) (prow_one _ _) (O3.out.alloc _) (Nat.le_trans Q3.out.size (by simp)) ?_)
        intro g' cap' w4 ho4 hg4 _
        have B4 : Below W.heap.size W w4 := ((Q3.out.alloc Q3.out.size _).grown hg4 (by have := Q3.out.size; simp; omega) (fun k hk => (O3.out.base k hk).1))
        have HB4 := Lib.hid B4
        rw [← NX.out] at ho4
        have HO4 := Lib.hid ho4
        clear ho4 hg4 B4
        go_wp2
        go_roundw
        case rel => exact ⟨m + 1, by omega, by go_num, HO4.out, HB4.out⟩
        case measure => simp [intOf]; omega
    · obtain rfl : m = 2 * C := by omega
      have o6 : ((2 * C : Nat) : Int) = 2 * (C : Int) := by omega
      have HL : Hid ((starN C r s (2 * C)).length = 2 * C) := Lib.hid (starN_length _ _ _ _)
      have ST := sh_straight (ho.sl (by rw [HL.out]; omega)) (by rw [HL.out]; omega) (by rw [HL.out]; omega)
      rw [ES.out] at ST
      have HS := Lib.hid ST
      have HQ := Lib.hid hb
      obtain ⟨aol, capl, rfl⟩ := ho.len
      clear ho hb ST
      go_wp2_with fail
      refine HS.out.mono ?_
      rintro e w5 ⟨v, rfl, ho, hq⟩
      obtain ⟨G, K⟩ := gives_tail (c := true) HB.out (HR.out.below HQ.out HR.out.lt) (HBW.out.trans (HQ.out.mono SZ.out)) ho hq
      have GG := Lib.hid G
      obtain ⟨ao, cp, rfl⟩ := ho.len
      obtain ⟨LN, hLN⟩ : ∃ n, R.length = n := ⟨_, rfl⟩
      rw [hLN] at GG ⊢
      have r0 := K.cell 0 _ rfl
      have r1 := K.cell 1 _ rfl
      have fz := has_fro K
      clear G K ho hq hLN
      go_wp2
      refine bodyPost_ret (v := .agg #[.bool true, .slice ao LN cp]) (by simp [results, Tryz.results16, go_sem, r0, r1]) rfl ?_
      exact GG.out

end Go.Proofs.YtglbfpjjnboeaaaGreat

namespace Go.Proofs.YtglbfpjjnboeaaaGreat
open Go Go.RowKit
open M

set_option maxRecDepth 100000 in
set_option maxHeartbeats 4000000 in
theorem sh_at {w : World} {s : Shp} (h : ShIn w s) (t : Int) (bW : -9223372036854775808 ≤ atk s.W t 0 ∧ atk s.W t 0 ≤ 9223372036854775807) (bH : -9223372036854775808 ≤ atk s.H t 0 ∧ atk s.H t 0 ≤ 9223372036854775807) :
    Calls Tryz.prog 18 #[.agg (shC s), .int .i64 t] w (Gives w (shCl s t) (shAt s t)) := by
  obtain ⟨B, hB⟩ : ∃ B, w.heap.size = B := ⟨_, rfl⟩
  obtain ⟨W0, hW0⟩ : ∃ W, w.alloc (.cells (shC s) 34) = W := ⟨_, rfl⟩
  obtain ⟨hi0, hk0, hb0⟩ := h.start hB hW0
  obtain ⟨W, hW⟩ : ∃ W, W0.alloc (.cells #[.bool false, .slice none 0 0] 41) = W := ⟨_, rfl⟩
  have hz0 : W0.heap.size = B + 1 := by rw [← hW0]; simp [hB]
  have hbW : Below W0.heap.size W0 W := by rw [← hW]; exact (Below.refl _ _).alloc (Nat.le_refl _) _
  have hi := hi0.below hbW
  have hk := hk0.below hbW hk0.lt
  have hr : Has W (B + 1) #[.bool false, .slice none 0 0] 41 := by rw [← hW]; exact has_new hz0
  have hb : Below B w W := hb0.trans (hbW.mono (by omega))
  obtain ⟨vw, hvw⟩ : ∃ v, s.vW = v := ⟨_, rfl⟩
  obtain ⟨vh, hvh⟩ : ∃ v, s.vH = v := ⟨_, rfl⟩
  have HVW := Lib.hid hvw
  have HVH := Lib.hid hvh
  clear hvw hvh
  obtain ⟨x, hx⟩ : ∃ x, atk s.W t 0 = x := ⟨_, rfl⟩
  obtain ⟨y, hy⟩ : ∃ x, atk s.H t 0 = x := ⟨_, rfl⟩
  have C1 : Hid (∀ w', Below W.heap.size W w' → Calls Tryz.prog 46 #[vw, .int .i64 t, .int .i64 0] w' fun e w'' => e = .returned (.int .i64 x) ∧ Below w'.heap.size w' w'') := Lib.hid (fun w' h' => by rw [← hx, ← HVW.out]; exact k_at (hi.below h').W t 0)
  have C2 : Hid (∀ w', Below W.heap.size W w' → Calls Tryz.prog 46 #[vh, .int .i64 t, .int .i64 0] w' fun e w'' => e = .returned (.int .i64 y) ∧ Below w'.heap.size w' w'') := Lib.hid (fun w' h' => by rw [← hy, ← HVH.out]; exact k_at (hi.below h').H t 0)
  have C3 : Hid (∀ w', Below W.heap.size W w' → Calls Tryz.prog 47 #[s.vP, .int .i64 t] w' (Gives w' (atcl s.P t) (atps s.P t))) := Lib.hid (fun w' h' => p_at (hi.below h').P t)
  have A0 : Hid (s.form = 0 → shAt s t = rectL x y ∧ shCl s t = true) := Lib.hid (fun e => by unfold shAt shCl; rw [hx, hy, e]; exact ⟨rfl, rfl⟩)
  have A1 : Hid (s.form = 1 → shAt s t = ovalL x y ∧ shCl s t = true) := Lib.hid (fun e => by unfold shAt shCl; rw [hx, hy, e]; exact ⟨rfl, rfl⟩)
  have A2 : Hid (s.form = 2 → shAt s t = starL s.n x y ∧ shCl s t = true) := Lib.hid (fun e => by unfold shAt shCl; rw [hx, hy, e]; exact ⟨rfl, rfl⟩)
  have A3 : Hid (s.form = 3 → shAt s t = atps s.P t ∧ shCl s t = atcl s.P t) := Lib.hid (fun e => by unfold shAt shCl; rw [e]; exact ⟨rfl, rfl⟩)
  have A4 : Hid (¬ s.form = 0 → ¬ s.form = 1 → ¬ s.form = 2 → ¬ s.form = 3 → shAt s t = [] ∧ shCl s t = false) := Lib.hid (fun a b c d => by unfold shAt shCl; rw [if_neg a, if_neg b, if_neg c, if_neg d, if_neg (by omega), if_neg d]; exact ⟨rfl, rfl⟩)
  rw [hx] at bW
  rw [hy] at bH
  have BW := Lib.hid bW
  have BH := Lib.hid bH
  have HBB := Lib.hid hB
  have HW0 := Lib.hid hW0
  have HW := Lib.hid hW
  have HR := Lib.hid hr
  have HBW := Lib.hid hb
  have R0 : Hid (Below W.heap.size W W) := Lib.hid (Below.refl _ _)
  have SZ : Hid (B ≤ W.heap.size) := Lib.hid (by have := hr.lt; omega)
  have HF := Lib.hid (show ∀ w', Below W.heap.size W w' → ∀ j u, (shC s)[j]? = some u → w'.cell? ⟨B, j, none⟩ = some u from fun w' h' j u hu => (hk.below h' hk.lt).cell j u hu)
  obtain ⟨R, hR⟩ : ∃ R, shAt s t = R := ⟨_, rfl⟩
  obtain ⟨c, hc⟩ : ∃ c, shCl s t = c := ⟨_, rfl⟩
  rw [hR, hc] at A0 A1 A2 A3 A4
  rw [hR, hc]
  clear hi0 hk0 hb0 hW0 hW hbW hi hk hr hb hx hy hR hc h bW bH
  by_cases e0 : s.form = 0
  · obtain ⟨er, ec⟩ := A0.out e0
    rw [er, ec]
    clear A0 A1 A2 A3 A4 er ec
    go_enter Tryz.func18, Tryz.ntmps18
    go_upto_region 1 with fail
    rw [HW0.out, HW.out]
    clear hB
    have f0 := HF.out W R0.out 0 _ rfl
    go_upto_region 3 with fail
    refine wp_region_make0 8 (by kernel_rfl) (by kernel_rfl) (by kernel_rfl) ?_
    apply Exists.intro
    refine ⟨fun R hR hN => ?_, ?_⟩
    · have A2 : ∀ z : LaterR W R, z.to.cell? ⟨B, 2, none⟩ = some vw := fun z => by rw [← HVW.out]; exact HF.out z.to z.below 2 _ rfl
      have A3 : ∀ z : LaterR W R, z.to.cell? ⟨B, 3, none⟩ = some vh := fun z => by rw [← HVH.out]; exact HF.out z.to z.below 3 _ rfl
      have DD1 := Lib.hid (fun (z : LaterR W R) => C1.out z.to z.below)
      have DD2 := Lib.hid (fun (z : LaterR W R) => C2.out z.to z.below)
      simp only [List.take_succ_cons, List.take_zero]
      repeat (go_big_quiet_step (first | (go_at_call_of 46 vw; exact LaterR.calls hR (DD1.out _)) | (go_at_call_of 46 vh; exact LaterR.calls hR (DD2.out _))))
      exact wpQuiet_nil rfl
    intro w2 hb2
    simp only [List.drop_succ_cons, List.drop_zero]
    have R2 := Lib.hid hb2
    clear hb2
    go_wp2_with fail
    refine (sh_rect x y _ BW.out BH.out).mono ?_
    rintro e w9 ⟨v, rfl, ho, hq⟩
    have GG := Lib.hid (gives_put (w := w) (r := B + 1) (c := true) HBB.out (ho.lower (B' := B) (by have := SZ.out; have := R2.out.size; omega)) (fun e => by have := (ho.base _ e).1; have := HR.out.lt; have := R2.out.size; omega) (by omega) (HBW.out.trans ((R2.out.trans (hq.mono R2.out.size)).mono SZ.out)) rfl (.bool true) _ rfl)
    have K := HR.out.below (R2.out.trans (hq.mono R2.out.size)) HR.out.lt
    obtain ⟨ao, cp, rfl⟩ := ho.len
    obtain ⟨LN, hLN⟩ : ∃ n, (rectL x y).length = n := ⟨_, rfl⟩
    rw [hLN] at GG ⊢
    have r0 := K.cell 0 _ rfl
    have r1 := K.cell 1 _ rfl
    have fz := has_fro K
    clear K ho hq hLN
    go_wp2
    refine bodyPost_ret (v := .agg #[.bool true, .slice ao LN cp]) (by simp [results, Tryz.results18, go_sem, r0, r1]) rfl ?_
    exact GG.out
  by_cases e1 : s.form = 1
  · obtain ⟨er, ec⟩ := A1.out e1
    rw [er, ec]
    clear A0 A1 A2 A3 A4 er ec
    go_enter Tryz.func18, Tryz.ntmps18
    go_upto_region 1 with fail
    rw [HW0.out, HW.out]
    clear hB
    have f0 := HF.out W R0.out 0 _ rfl
    go_upto_region 5 with fail
    refine wp_region_make0 8 (by kernel_rfl) (by kernel_rfl) (by kernel_rfl) ?_
    apply Exists.intro
    refine ⟨fun R hR hN => ?_, ?_⟩
    · have A2 : ∀ z : LaterR W R, z.to.cell? ⟨B, 2, none⟩ = some vw := fun z => by rw [← HVW.out]; exact HF.out z.to z.below 2 _ rfl
      have A3 : ∀ z : LaterR W R, z.to.cell? ⟨B, 3, none⟩ = some vh := fun z => by rw [← HVH.out]; exact HF.out z.to z.below 3 _ rfl
      have DD1 := Lib.hid (fun (z : LaterR W R) => C1.out z.to z.below)
      have DD2 := Lib.hid (fun (z : LaterR W R) => C2.out z.to z.below)
      simp only [List.take_succ_cons, List.take_zero]
      repeat (go_big_quiet_step (first | (go_at_call_of 46 vw; exact LaterR.calls hR (DD1.out _)) | (go_at_call_of 46 vh; exact LaterR.calls hR (DD2.out _))))
      exact wpQuiet_nil rfl
    intro w2 hb2
    simp only [List.drop_succ_cons, List.drop_zero]
    have R2 := Lib.hid hb2
    clear hb2
    go_wp2_with fail
    refine (sh_oval x y _ BW.out BH.out).mono ?_
    rintro e w9 ⟨v, rfl, ho, hq⟩
    have GG := Lib.hid (gives_put (w := w) (r := B + 1) (c := true) HBB.out (ho.lower (B' := B) (by have := SZ.out; have := R2.out.size; omega)) (fun e => by have := (ho.base _ e).1; have := HR.out.lt; have := R2.out.size; omega) (by omega) (HBW.out.trans ((R2.out.trans (hq.mono R2.out.size)).mono SZ.out)) rfl (.bool true) _ rfl)
    have K := HR.out.below (R2.out.trans (hq.mono R2.out.size)) HR.out.lt
    obtain ⟨ao, cp, rfl⟩ := ho.len
    obtain ⟨LN, hLN⟩ : ∃ n, (ovalL x y).length = n := ⟨_, rfl⟩
    rw [hLN] at GG ⊢
    have r0 := K.cell 0 _ rfl
    have r1 := K.cell 1 _ rfl
    have fz := has_fro K
    clear K ho hq hLN
    go_wp2
    refine bodyPost_ret (v := .agg #[.bool true, .slice ao LN cp]) (by simp [results, Tryz.results18, go_sem, r0, r1]) rfl ?_
    exact GG.out
  by_cases e2 : s.form = 2
  · obtain ⟨er, ec⟩ := A2.out e2
    rw [er, ec]
    clear A0 A1 A2 A3 A4 er ec
    go_enter Tryz.func18, Tryz.ntmps18
    go_upto_region 1 with fail
    rw [HW0.out, HW.out]
    clear hB
    have f0 := HF.out W R0.out 0 _ rfl
    go_upto_region 7 with fail
    refine wp_region_make0 10 (by kernel_rfl) (by kernel_rfl) (by kernel_rfl) ?_
    apply Exists.intro
    refine ⟨fun R hR hN => ?_, ?_⟩
    · have A2 : ∀ z : LaterR W R, z.to.cell? ⟨B, 2, none⟩ = some vw := fun z => by rw [← HVW.out]; exact HF.out z.to z.below 2 _ rfl
      have A3 : ∀ z : LaterR W R, z.to.cell? ⟨B, 3, none⟩ = some vh := fun z => by rw [← HVH.out]; exact HF.out z.to z.below 3 _ rfl
      have A1 := fun (z : LaterR W R) => HF.out z.to z.below 1 _ rfl
      have DD1 := Lib.hid (fun (z : LaterR W R) => C1.out z.to z.below)
      have DD2 := Lib.hid (fun (z : LaterR W R) => C2.out z.to z.below)
      simp only [List.take_succ_cons, List.take_zero]
      repeat (go_big_quiet_step (first | (go_at_call_of 46 vw; exact LaterR.calls hR (DD1.out _)) | (go_at_call_of 46 vh; exact LaterR.calls hR (DD2.out _))))
      exact wpQuiet_nil rfl
    intro w2 hb2
    simp only [List.drop_succ_cons, List.drop_zero]
    have R2 := Lib.hid hb2
    clear hb2
    go_wp2_with fail
    refine (sh_star s.n x y _).mono ?_
    rintro e w9 ⟨v, rfl, ho, hq⟩
    have GG := Lib.hid (gives_put (w := w) (r := B + 1) (c := true) HBB.out (ho.lower (B' := B) (by have := SZ.out; have := R2.out.size; omega)) (fun e => by have := (ho.base _ e).1; have := HR.out.lt; have := R2.out.size; omega) (by omega) (HBW.out.trans ((R2.out.trans (hq.mono R2.out.size)).mono SZ.out)) rfl (.bool true) _ rfl)
    have K := HR.out.below (R2.out.trans (hq.mono R2.out.size)) HR.out.lt
    obtain ⟨ao, cp, rfl⟩ := ho.len
    obtain ⟨LN, hLN⟩ : ∃ n, (starL s.n x y).length = n := ⟨_, rfl⟩
    rw [hLN] at GG ⊢
    have r0 := K.cell 0 _ rfl
    have r1 := K.cell 1 _ rfl
    have fz := has_fro K
    clear K ho hq hLN
    go_wp2
    refine bodyPost_ret (v := .agg #[.bool true, .slice ao LN cp]) (by simp [results, Tryz.results18, go_sem, r0, r1]) rfl ?_
    exact GG.out
  by_cases e3 : s.form = 3
  · obtain ⟨er, ec⟩ := A3.out e3
    rw [er, ec]
    clear A0 A1 A2 A3 A4 er ec
    go_enter Tryz.func18, Tryz.ntmps18
    go_upto_region 1 with fail
    rw [HW0.out, HW.out]
    clear hB
    have f0 := HF.out W R0.out 0 _ rfl
    have f4 := HF.out W R0.out 4 _ rfl
    go_wp2_with fail
    refine (C3.out _ R0.out).mono ?_
    rintro e w9 ⟨v, rfl, ho, hq⟩
    have GG := Lib.hid (gives_put (w := w) (r := B + 1) (c := (atcl s.P t)) HBB.out (ho.lower (B' := B) (by have := SZ.out; have := R0.out.size; omega)) (fun e => by have := (ho.base _ e).1; have := HR.out.lt; have := R0.out.size; omega) (by omega) (HBW.out.trans ((R0.out.trans (hq.mono R0.out.size)).mono SZ.out)) rfl (.bool (atcl s.P t)) _ rfl)
    have K := HR.out.below (R0.out.trans (hq.mono R0.out.size)) HR.out.lt
    obtain ⟨ao, cp, rfl⟩ := ho.len
    obtain ⟨LN, hLN⟩ : ∃ n, (atps s.P t).length = n := ⟨_, rfl⟩
    rw [hLN] at GG ⊢
    have r0 := K.cell 0 _ rfl
    have r1 := K.cell 1 _ rfl
    have fz := has_fro K
    clear K ho hq hLN
    go_wp2
    refine bodyPost_ret (v := .agg #[.bool (atcl s.P t), .slice ao LN cp]) (by simp [results, Tryz.results18, go_sem, r0, r1]) rfl ?_
    exact GG.out
  obtain ⟨er, ec⟩ := A4.out e0 e1 e2 e3
  rw [er, ec]
  clear A0 A1 A2 A3 A4 er ec
  have n0 : (s.form == 0) = false := by simp; omega
  have n1 : (s.form == 1) = false := by simp; omega
  have n2 : (s.form == 2) = false := by simp; omega
  have n3 : (s.form == 3) = false := by simp; omega
  go_enter Tryz.func18, Tryz.ntmps18
  go_upto_region 1 with fail
  rw [HW0.out, HW.out]
  clear hB
  have f0 := HF.out W R0.out 0 _ rfl
  have K := HR.out.below R0.out HR.out.lt
  have G := Lib.hid (gives_put (w := w) (r := B + 1) (c := false) HBB.out (Pown.nil W B) (by simp [Value.ownBlock]) (by omega) (HBW.out.trans (R0.out.mono SZ.out)) rfl (.bool false) _ rfl)
  have r0 := K.cell 0 _ rfl
  have r1 := K.cell 1 _ rfl
  have fz := has_fro K
  clear K
  go_wp2
  refine bodyPost_ret (v := .agg #[.bool false, .slice none 0 0]) (by simp [results, Tryz.results18, go_sem, r0, r1]) rfl ?_
  exact G.out

end Go.Proofs.YtglbfpjjnboeaaaGreat

namespace Go.Proofs.YtglbfpjjnboeaaaGreat
open Go Go.RowKit
open M

def sh0 (f : Int) : Shp := ⟨f, 0, [], .slice none 0 0, [], .slice none 0 0, [], .slice none 0 0, false, 0, 0, ⟨0, 0, 0, 0⟩, ⟨0, 0, 0, 0⟩, ⟨0, 0⟩, ⟨0, 0⟩, 0, [], .slice none 0 0, false, [], .slice none 0 0, ⟨0, 0, 0, 0⟩, 0, [], .slice none 0 0, [], .slice none 0 0, [], .slice none 0 0⟩
theorem sh0_in (f : Int) (w : World) : ShIn w (sh0 f) :=
  ⟨Or.inl ⟨rfl, _, _, rfl⟩, Or.inl ⟨rfl, _, _, rfl⟩, ⟨none, 0, rfl, by simp [sh0], fun h => by simp [sh0] at h⟩, Or.inl ⟨rfl, _, _, rfl⟩, Or.inl ⟨rfl, _, _, rfl⟩, ⟨none, 0, rfl, by simp [sh0], fun h => by simp [sh0] at h⟩, Or.inl ⟨rfl, _, _, rfl⟩, Or.inl ⟨rfl, _, _, rfl⟩⟩
theorem sh0_ok : okS (sh0 0) = true := by decide
theorem sh4_ok : okS (sh0 4) = false := by decide
theorem star99 : (starL 99 5 6).length = 97 := by unfold starL; rw [straightL_length, starN_length]; rfl
theorem oval_length (w h : Int) : (ovalL w h).length = 13 := rfl
theorem rect_length (w h : Int) : (rectL w h).length = 13 := by unfold rectL; rw [straightL_length]; rfl
theorem rect_first : pt (rectL 131072 131072) 0 = ⟨-65536, -65536⟩ := by decide

set_option maxRecDepth 100000 in
set_option maxHeartbeats 4000000 in
theorem known13 (w : World) : Calls Tryz.prog 7 #[] w fun e w' => e = .returned (.bool true) ∧ Below w.heap.size w w' := by
  go_enter Tryz.func7, Tryz.ntmps7
  go_wp2_with fail
  refine (sh_rect 131072 131072 w ⟨by decide, by decide⟩ ⟨by decide, by decide⟩).mono ?_
  rintro e w1 ⟨v, rfl, ho, hq⟩
  obtain ⟨g, cap, rfl⟩ := ho.shape (by rw [rect_length]; decide)
  rw [rect_length]
  have row := (ho.sl (by rw [rect_length]; decide))
  obtain ⟨V, hV⟩ : ∃ V, w1.alloc (.cells #[.bool true, .slice (some ⟨g, 0, none⟩) 13 cap] 41) = V := ⟨_, rfl⟩
  have bV : Below w1.heap.size w1 V := by rw [← hV]; exact (Below.refl _ _).alloc (Nat.le_refl _) _
  have kV : Has V w1.heap.size #[.bool true, .slice (some ⟨g, 0, none⟩) 13 cap] 41 := by rw [← hV]; exact has_new rfl
  rw [rect_length] at row
  have rV := psl_row (row.below bV (Nat.le_refl _)) (by rw [rect_length]; decide)
  have p0 := rV.c0 0 (by rw [rect_length]; decide)
  have p1 := rV.c1 0 (by rw [rect_length]; decide)
  rw [rect_first] at p0 p1
  simp only [Nat.zero_mul, Nat.add_zero] at p0 p1
  obtain ⟨B, hB⟩ : ∃ B, w1.heap.size = B := ⟨_, rfl⟩
  rw [hB] at kV
  have a0 := kV.cell 0 _ rfl
  have a1 := kV.cell 1 _ rfl
  have QV := Lib.hid (hq.trans (bV.mono hq.size))
  have HV := Lib.hid hV
  clear ho hq row bV kV rV hV
  go_upto_region 2 with fail
  rw [HV.out]
  go_wp2_with fail
  refine (sh_star 99 5 6 _).mono ?_
  rintro e w2 ⟨v2, rfl, ho2, hq2⟩
  obtain ⟨ao, cp, rfl⟩ := ho2.len
  rw [star99]
  have fd : ∀ w, (Instr.field 41 (.agg #[.bool true, .slice ao 97 cp]) 1).run Tryz.prog w = .ok (.slice ao 97 cp) w := fun _ => by kernel_rfl
  have Q2 := Lib.hid (QV.out.trans (hq2.mono QV.out.size))
  clear ho2 hq2 p0 p1 a0 a1 QV hB HV
  go_wp2_with fail
  refine (sh_oval 1 1 _ ⟨by decide, by decide⟩ ⟨by decide, by decide⟩).mono ?_
  rintro e w3 ⟨v3, rfl, ho3, hq3⟩
  obtain ⟨ao3, cp3, rfl⟩ := ho3.len
  rw [oval_length]
  have fd3 : ∀ w, (Instr.field 41 (.agg #[.bool true, .slice ao3 13 cp3]) 1).run Tryz.prog w = .ok (.slice ao3 13 cp3) w := fun _ => by kernel_rfl
  have Q3 := Lib.hid (Q2.out.trans (hq3.mono Q2.out.size))
  clear ho3 hq3 Q2 fd
  go_wp2_with fail
  refine (sh_right (sh0_in 0 _)).mono ?_
  rw [sh0_ok]
  rintro e w4 ⟨rfl, hq4⟩
  have Q4 := Lib.hid (Q3.out.trans (hq4.mono Q3.out.size))
  clear hq4 Q3 fd3
  go_wp2_with fail
  refine (sh_right (sh0_in 4 _)).mono ?_
  rw [sh4_ok]
  rintro e w5 ⟨rfl, hq5⟩
  have Q5 := Lib.hid (Q4.out.trans (hq5.mono Q4.out.size))
  clear hq5 Q4
  go_wp2
  go_ret
  exact ⟨rfl, Q5.out⟩

end Go.Proofs.YtglbfpjjnboeaaaGreat

namespace Go.Proofs.YtglbfpjjnboeaaaGreat
open Go Go.RowKit

section
variable {P : Program}
theorem gives_agree {ops : Array Oper} {o : Oper} {x y : Act} {w : World} {K : Value → World → Prop} (h : Agree ops o x y) (hs : ∀ cs b, o.op ≠ .select cs b) (hg : gives P o y w K) : gives P o x w K := by
  unfold gives at hg ⊢
  rw [h.exec hs]
  exact hg
/-- Operation o looks at no made value's slot. -/
def noneB (L : List Oper) (mk : List Nat) (o : Oper) : Bool := (o.looksAt L.toArray).all (fun d => mk.all fun j => dstAt L j != some d) && (match o.op with | .select .. => false | _ => true)
/-- Operation o looks at no made value's slot but that of k. -/
def oneB (L : List Oper) (mk : List Nat) (k : Nat) (o : Oper) : Bool :=
  (o.looksAt L.toArray).all (fun d => dstAt L k == some d || mk.all fun j => dstAt L j != some d) && mk.all (fun j => j == k || dstAt L j != dstAt L k) && (dstAt L k).isSome && (match o.op with | .select .. => false | _ => true)
section
variable {L : List Oper} {mk : List Nat} {o : Oper} {p : Nat} {G : Nat → Option Value} {e : Act}
theorem nosel {o : Oper} (h : (match o.op with | .select .. => false | _ => true) = true) : ∀ cs b, o.op ≠ .select cs b := fun cs b e => by rw [e] at h; cases h
theorem agree_none (h : noneB L mk o = true) (hGn : ∀ k, k ∉ mk → G k = none) : Agree L.toArray o (putV (dstAt L) G p e) e := fun d hd => by
  unfold noneB at h
  rw [Bool.and_eq_true] at h
  have h1 := List.all_eq_true.1 h.1 d hd
  refine putV_at e p fun k hk hkn he => ?_
  have hkm : k ∈ mk := by
    apply Classical.byContradiction
    intro hn
    exact hkn (hGn k hn)
  have := List.all_eq_true.1 h1 k hkm
  rw [he] at this
  simp at this
theorem gives_none {w : World} {K : Value → World → Prop} (h : noneB L mk o = true) (hGn : ∀ k, k ∉ mk → G k = none) (hg : gives P o e w K) : gives P o (putV (dstAt L) G p e) w K :=
  gives_agree (agree_none h hGn) (nosel (by unfold noneB at h; rw [Bool.and_eq_true] at h; exact h.2)) hg
theorem putV_val {D : Nat → Option Tmp} {k : Nat} {d : Tmp} {v : Value} (a : Act) (hG : G k = some v) (hD : D k = some d) : ∀ m, k < m → (∀ j, j < m → G j ≠ none → j ≠ k → D j ≠ some d) → (putV D G m a).tmps[d]? = (a.put (some d) v).tmps[d]? ∧ (putV D G m a).tmps.size = a.tmps.size
  | 0, h, _ => by omega
  | m + 1, h, hd => by
    have hsz : ∀ m, (putV D G m a).tmps.size = a.tmps.size := by
      intro m
      induction m with
      | zero => rfl
      | succ m ih =>
        unfold putV
        cases G m with
        | none => exact ih
        | some g' =>
          simp only
          cases D m with
          | none => exact ih
          | some x => simpa [Act.put] using ih
    refine ⟨?_, hsz _⟩
    by_cases e : k = m
    · subst e
      unfold putV
      rw [hG, hD]
      simp only [Act.put, Array.getElem?_setIfInBounds, if_true]
      rw [hsz]
    · have ih := (putV_val a hG hD m (by omega) (fun j hj => hd j (by omega))).1
      unfold putV
      cases hg : G m with
      | none => exact ih
      | some g =>
        simp only
        rw [← ih]
        have hn := hd m (by omega) (by rw [hg]; simp) (by omega)
        cases hdm : D m with
        | none => rfl
        | some x =>
          rw [hdm] at hn
          have : x ≠ d := fun ee => hn (by rw [ee])
          simp [Act.put, this]
theorem gives_one {w : World} {K : Value → World → Prop} {k : Nat} {v : Value} (h : oneB L mk k o = true) (hGn : ∀ k, k ∉ mk → G k = none) (hk : k < p) (hG : G k = some v) (hg : gives P o (e.put (dstAt L k) v) w K) : gives P o (putV (dstAt L) G p e) w K := by
  unfold oneB at h
  simp only [Bool.and_eq_true] at h
  obtain ⟨⟨⟨h1, h2⟩, h3⟩, h4⟩ := h
  have Gmk : ∀ k, G k ≠ none → k ∈ mk := fun k hk => by
    apply Classical.byContradiction
    intro hn
    exact hk (hGn k hn)
  obtain ⟨dk, hdk⟩ := Option.isSome_iff_exists.1 h3
  refine gives_agree (ops := L.toArray) (fun d hd => ?_) (nosel h4) hg
  have hl := List.all_eq_true.1 h1 d hd
  rw [Bool.or_eq_true] at hl
  by_cases e1 : dstAt L k = some d
  · rw [e1]
    refine (putV_val e hG e1 p hk fun j hj hjn hne he => ?_).1
    have := List.all_eq_true.1 h2 j (Gmk j hjn)
    rw [he, e1] at this
    simp [hne] at this
  · rcases hl with hl | hl
    · exact absurd (by simpa using hl) e1
    · rw [putV_at e p (fun j hj hjn he => by
        have := List.all_eq_true.1 hl j (Gmk j hjn)
        rw [he] at this
        simp at this)]
      rw [hdk] at e1 ⊢
      have : dk ≠ d := fun ee => e1 (by rw [ee])
      simp [Act.put, this]
end
end

/-- Variables that are made (number x.1) and stored into (number x.2.1). -/
structure Vars (B : Nat) (t : TypeId) (z : Array Value) (vs : List (Nat × Nat × Array Value)) (G : Nat → Option Value) (w : World) : Prop where
  has : ∀ x ∈ vs, ∀ v, G x.1 = some v → ∃ g, v = .pointer (some ⟨g, 0, none⟩) ∧ B ≤ g ∧ Has w g (if G x.2.1 = none then z else x.2.2) t
  ne : ∀ x ∈ vs, ∀ y ∈ vs, x.1 ≠ y.1 → ∀ v, G x.1 = some v → G y.1 ≠ some v
  late : ∀ x ∈ vs, G x.1 = none → G x.2.1 = none
section
variable {B : Nat} {t : TypeId} {z : Array Value} {vs : List (Nat × Nat × Array Value)} {G : Nat → Option Value} {w w' : World}
theorem Vars.stay (h : Vars B t z vs G w) (hb : Below w.heap.size w w') : Vars B t z vs G w' :=
  ⟨fun x hx v hv => by obtain ⟨g, e, hg, hh⟩ := h.has x hx v hv; exact ⟨g, e, hg, hh.below hb hh.lt⟩, h.ne, h.late⟩
theorem Vars.start : Vars B t z vs (fun _ => none) w := ⟨fun _ _ _ h => by (cases h), fun _ _ _ _ _ _ h => by (cases h), fun _ _ _ => rfl⟩
/-- No two have a number in common. -/
def varsB (vs : List (Nat × Nat × Array Value)) : Bool := vs.all fun x => vs.all fun y => x.1 != y.2.1 && ((x.1 == y.1) == (x.2.1 == y.2.1))
theorem Vars.alloc {i s : Nat} {cs : Array Value} (h : Vars B t z vs G w) (hv : varsB vs = true) (hx : (i, s, cs) ∈ vs) (hu : ∀ y ∈ vs, y.1 = i → y = (i, s, cs)) (hG : G i = none) (hB : B ≤ w.heap.size) : Vars B t z vs (updV G i (.pointer (some ⟨w.heap.size, 0, none⟩))) (w.alloc (.cells z t)) := by
  have hs : ∀ y ∈ vs, y.2.1 ≠ i := fun y hy e => by
    have := List.all_eq_true.1 (List.all_eq_true.1 hv _ hx) y hy
    simp [e] at this
  refine ⟨fun x hx' v hv' => ?_, fun x hx' y hy hne v h1 h2 => ?_, fun x hx' hn => ?_⟩
  · rw [updV_ne G _ (hs x hx')]
    by_cases e : x.1 = i
    · rw [e, updV_eq] at hv'
      cases hv'
      have := hu x hx' e
      subst this
      rw [if_pos (h.late _ hx' hG)]
      exact ⟨_, rfl, hB, has_new rfl⟩
    · rw [updV_ne G _ e] at hv'
      obtain ⟨g, e1, hg, hh⟩ := h.has x hx' v hv'
      exact ⟨g, e1, hg, hh.alloc _⟩
  · by_cases e : x.1 = i
    · by_cases e2 : y.1 = i
      · omega
      · rw [e, updV_eq] at h1
        rw [updV_ne G _ e2] at h2
        cases h1
        obtain ⟨g, e1, _, hh⟩ := h.has y hy _ h2
        have := hh.lt
        simp at e1
        try omega
    · by_cases e2 : y.1 = i
      · rw [updV_ne G _ e] at h1
        rw [e2, updV_eq] at h2
        cases h2
        obtain ⟨g, e1, _, hh⟩ := h.has x hx' _ h1
        have := hh.lt
        simp at e1
        try omega
      · rw [updV_ne G _ e] at h1
        rw [updV_ne G _ e2] at h2
        exact h.ne x hx' y hy hne v h1 h2
  · rw [updV_ne G _ (hs x hx')]
    by_cases e : x.1 = i
    · rw [e, updV_eq] at hn; cases hn
    · rw [updV_ne G _ e] at hn; exact h.late x hx' hn
theorem Vars.store {i s g : Nat} {a b za zb u : Value} (hz : z = #[za, zb]) (h : Vars B t z vs G w) (hv : varsB vs = true) (hx : (i, s, #[a, b]) ∈ vs) (hu : ∀ y ∈ vs, y.1 = i → y = (i, s, #[a, b])) (hi : G i = some (.pointer (some ⟨g, 0, none⟩))) (hG : G s = none) :
    Vars B t z vs (updV G s u) ((w.setCell ⟨g, 0, none⟩ a).setCell ⟨g, 1, none⟩ b) := by
  have hs : ∀ y ∈ vs, y.1 ≠ s := fun y hy e => by
    have := List.all_eq_true.1 (List.all_eq_true.1 hv y hy) _ hx
    simp [e] at this
  have hinj : ∀ y ∈ vs, y.2.1 = s → y.1 = i := fun y hy e => by
    have := List.all_eq_true.1 (List.all_eq_true.1 hv y hy) _ hx
    simp [e] at this
    exact this.2
  obtain ⟨g', eg, _, hh⟩ := h.has _ hx _ hi
  simp at eg
  subst eg
  rw [if_pos hG, hz] at hh
  have hnew : Has ((w.setCell ⟨g, 0, none⟩ a).setCell ⟨g, 1, none⟩ b) g #[a, b] t := by
    have := has_set (has_set hh 0 a) 1 b
    simpa using this
  refine ⟨fun x hx' v hv' => ?_, fun x hx' y hy hne v h1 h2 => ?_, fun x hx' hn => ?_⟩
  · rw [updV_ne G _ (hs x hx')] at hv'
    obtain ⟨g2, e1, hg2, hh2⟩ := h.has x hx' v hv'
    by_cases e : x.2.1 = s
    · have e2 := hinj x hx' e
      have := hu x hx' e2
      subst this
      rw [hi] at hv'
      cases hv'
      simp at e1
      subst e1
      rw [updV_eq, if_neg (by simp)]
      exact ⟨g, rfl, hg2, hnew⟩
    · rw [updV_ne G _ e]
      have hne : g2 ≠ g := fun eg => by
        subst eg
        by_cases e3 : x.1 = i
        · have := hu x hx' e3
          subst this
          exact e rfl
        · exact h.ne x hx' _ hx e3 v hv' (by rw [hi, e1])
      refine ⟨g2, e1, hg2, ?_⟩
      exact (heap_setCell_other _ ⟨g, _, none⟩ g2 _ (fun e => hne (by simpa using e))).trans ((heap_setCell_other _ ⟨g, _, none⟩ g2 _ (fun e => hne (by simpa using e))).trans hh2)
  · rw [updV_ne G _ (hs x hx')] at h1
    rw [updV_ne G _ (hs y hy)] at h2
    exact h.ne x hx' y hy hne v h1 h2
  · rw [updV_ne G _ (hs x hx')] at hn
    have := h.late x hx' hn
    by_cases e : x.2.1 = s
    · have e2 := hinj x hx' e
      rw [e2, hi] at hn
      cases hn
    · rw [updV_ne G _ e]; exact this
end

end Go.Proofs.YtglbfpjjnboeaaaGreat

namespace Go.Proofs.YtglbfpjjnboeaaaGreat
open Go Go.RowKit
open M

theorem two_set {W : World} {k : Nat} {t : TypeId} {a' b' : Value} (h : Has W k #[a', b'] t) (a b : Value) : Has ((W.setCell ⟨k, 0, none⟩ a).setCell ⟨k, 1, none⟩ b) k #[a, b] t := by
  have := has_set (has_set h 0 a) 1 b
  simpa using this
theorem two_off {W : World} {k k' : Nat} {t : TypeId} {cs : Array Value} (h : Has W k cs t) (hne : k' ≠ k) (a b : Value) : Has ((W.setCell ⟨k', 0, none⟩ a).setCell ⟨k', 1, none⟩ b) k cs t :=
  (heap_setCell_other _ ⟨k', _, none⟩ k _ (fun e => hne (by simpa using e.symm))).trans ((heap_setCell_other _ ⟨k', _, none⟩ k _ (fun e => hne (by simpa using e.symm))).trans h)
theorem below_two {W : World} {k B : Nat} (hk : B ≤ k) (a b : Value) : Below B W ((W.setCell ⟨k, 0, none⟩ a).setCell ⟨k, 1, none⟩ b) := ((Below.refl _ _).setCell hk _).setCell hk _
theorem int_zero (n : Nat) : ((n : Int) == 0) = decide (n = 0) := by by_cases h : n = 0 <;> simp [h]
theorem int_last {n N : Nat} : ((n : Int) == (N : Int) - 1) = decide (n + 1 = N) := by
  by_cases h : n + 1 = N
  · rw [decide_eq_true h]; simp; omega
  · rw [decide_eq_false h]; simp; omega
abbrev zc2 : Array Value := #[.int .i64 0, .int .i64 0]
theorem Prow.laterR {w : World} {R : World → Prop} {g o : Nat} {ps : List Pt} (h : Prow w g o ps) {i : Nat} (hi : i < ps.length) {p : Pt} (hp : pt ps i = p) (z : LaterR w R) : z.to.cell? ⟨g, o + i * 2, none⟩ = some (.int .i64 p.x) ∧ z.to.cell? ⟨g, o + i * 2 + 1, none⟩ = some (.int .i64 p.y) := by
  have h2 := h.block (z.below.block g (h.lt (by omega)))
  rw [← hp]
  exact ⟨h2.c0 i hi, h2.c1 i hi⟩

end Go.Proofs.YtglbfpjjnboeaaaGreat

namespace Go.Proofs.YtglbfpjjnboeaaaGreat
open Go.RowKit
open M

theorem rightN_offG {ks : List Ky} {n m : Nat} (hm : n + 1 ≤ m) (h : rightN ks (n + 1) = false) : rightN ks m = false := by
  induction m with
  | zero => omega
  | succ m ih =>
    by_cases e : n = m
    · subst e; exact h
    · have := ih (by omega)
      show (rightN ks m && _ && _) = false
      rw [this]
      rfl
theorem key_off {ks : List Pk} {n m : Nat} {c : Bool} (hm : n + 1 ≤ m) (h : (rightN (barep ks) (n + 1) && allN ks (n + 1)) = false) : (c && rightN (barep ks) m && allN ks m) = false := by
  rw [Bool.and_eq_false_iff] at h
  rcases h with h | h
  · rw [rightN_offG hm h]; simp
  · rw [allN_off hm h]; simp

set_option maxRecDepth 100000 in
set_option maxHeartbeats 2000000 in
theorem r8_keysG {v : Value} {ks : List Pk} {w : World} (h : Kl w v ks) :
    Calls Tryz.prog 32 #[v] w fun e w' => e = .returned (.bool (keysOk ks)) ∧ Below w.heap.size w w' := by
  have hs := h
  obtain ⟨ao, cap, rfl, hf, _⟩ := h
  obtain ⟨N, hN⟩ : ∃ N, ks.length = N := ⟨_, rfl⟩
  rw [hN] at hf hs ⊢
  have f4 : N ≤ 100 := hf
  have EK : Hid (keysOk ks = (decide (N ≤ 32) && rightN (barep ks) N && allN ks N)) := Lib.hid (by unfold keysOk M.right; rw [barep_length, hN])
  obtain ⟨K, hK⟩ : ∃ K, keysOk ks = K := ⟨_, rfl⟩
  rw [hK] at EK ⊢
  clear hK
  have HS := Lib.hid hs
  have HN := Lib.hid hN
  obtain ⟨B, hB⟩ : ∃ B, w.heap.size = B := ⟨_, rfl⟩
  have HB := Lib.hid hB
  clear hs hN hB hf
  have o0 : (N : Int) ≤ 100 := by omega
  go_enter Tryz.func32, Tryz.ntmps32
  go_wp2
  go_loopw [3] (fun i wr => ∃ n : Nat, n ≤ N ∧ i = .int .i64 n ∧ (rightN (barep ks) n = true ∧ allN ks n = true) ∧ Below B w wr) (fun i _ => N - (intOf i).toNat)
  case atStart => exact ⟨0, by omega, rfl, ⟨rfl, rfl⟩, Below.refl _ _⟩
  case round =>
    obtain ⟨n, hn, rfl, hst, hb⟩ := hrel
    have HST := Lib.hid hst
    have HBD := Lib.hid hb
    have sz : Hid (B ≤ wr.heap.size) := Lib.hid (by have := hb.size; have := HB.out; omega)
    clear hst
    by_cases hlt : n < N
    · obtain ⟨g, o, e1, r0, l0⟩ := HS.out.row (by omega)
      have rr := r0.below hb (by have := r0.lt (by omega); have := HB.out; omega) (by have := HB.out; omega)
      subst e1
      have r' := fun z => rr.later (by omega) z
      obtain ⟨f, hf⟩ : ∃ f, fits (pk ks 0).cl (pk ks 0).ps (pk ks n).cl (pk ks n).ps = f := ⟨_, rfl⟩
      obtain ⟨ok, hok⟩ : ∃ b, okP (pk ks n).cl (pk ks n).ps = b := ⟨_, rfl⟩
      obtain ⟨mv, hmv⟩ : ∃ b, (okIn (pk ks n).t 1073741824 && okHow (pk ks n).h (pk ks n).a (pk ks n).b (pk ks n).c (pk ks n).d) = b := ⟨_, rfl⟩
      have hkk : okK (barev (pk ks n) 0) = mv := by rw [← hmv]; unfold okK barev; simp only [show okIn 0 67108864 = true by decide, Bool.and_true]
      have MV : Hid (∀ z : Later wr, Calls Tryz.prog 58 #[.int .i64 (pk ks n).t, .int .i64 (pk ks n).h, .agg #[.int .i64 (pk ks n).a, .int .i64 (pk ks n).b, .int .i64 (pk ks n).c, .int .i64 (pk ks n).d]] z.to fun e w'' => e = .returned (.bool mv) ∧ Below z.to.heap.size z.to w'') := Lib.hid (fun z => by
        have h := r5_moves (pk ks n).t (pk ks n).h (pk ks n).a (pk ks n).b (pk ks n).c (pk ks n).d z.to
        rw [hmv] at h
        exact h)
      have RT : Hid (∀ z : Later wr, Calls Tryz.prog 60 #[.agg #[.bool (pk ks n).cl, (pk ks n).v]] z.to fun e w'' => e = .returned (.bool ok) ∧ Below z.to.heap.size z.to w'') := Lib.hid (fun z => by have h := r8_right (pk ks n).cl ((r' z).sl n (by omega)); rw [hok] at h; exact h)
      have FT : Hid (∀ z : Later wr, Calls Tryz.prog 61 #[.agg #[.bool (pk ks n).cl, (pk ks n).v], .agg #[.bool (pk ks 0).cl, (pk ks 0).v]] z.to fun e w'' => e = .returned (.bool f) ∧ Below z.to.heap.size z.to w'') := Lib.hid (fun z => by have h := r8_fits (pk ks n).cl (pk ks 0).cl ((r' z).sl n (by omega)) ((r' z).sl 0 (by omega)); rw [fits_comm, hf] at h; exact h)
      have hx : ∃ ao cap, (pk ks n).v = .slice ao (pk ks n).ps.length cap := by obtain ⟨a, b, c, _⟩ := rr.sl n (by omega); exact ⟨a, b, c⟩
      have h0 := (rr.sl 0 (by omega)).shape
      have c0 := fun z => (r' z).c0 n (by omega)
      have c1 := fun z => (r' z).c1 n (by omega)
      have c2 := fun z => (r' z).c2 n (by omega)
      have c3 := fun z => (r' z).c3 n (by omega)
      have c4 := fun z => (r' z).c4 n (by omega)
      have c5 := fun z => (r' z).c5 n (by omega)
      have c6 := fun z => (r' z).c6 n (by omega)
      have c7 := fun z => (r' z).c7 n (by omega)
      have b1 := fun z => (r' z).c1 0 (by omega)
      have b2 := fun z => (r' z).c2 0 (by omega)
      simp only [Nat.zero_mul, Nat.add_zero] at b1 b2
      have o1 : (n : Int) < N := by omega
      have oz : (0 : Int) < N := by omega
      have oy : 0 < N := by omega
      by_cases hz : n = 0
      · subst hz
        simp only [Nat.zero_mul, Nat.add_zero] at c0 c1 c2 c3 c4 c5 c6 c7
        obtain ⟨x, ex⟩ : ∃ x, pk ks 0 = x := ⟨_, rfl⟩
        rw [ex] at c0 c1 c2 c3 c4 c5 c6 c7 b1 b2 hx hkk hok hf
        simp only [ex] at MV RT FT
        have RN : rightN (barep ks) 1 = mv := by
          show (true && okK (ky (barep ks) 0) && (decide (0 = 0) || _)) = mv
          rw [ky_barep (by have := HN.out; omega), ex, hkk]
          simp
        have AN : allN ks 1 = (!decide (x.ps.length = 0) && ok && f) := by
          show (true && (!decide ((pk ks 0).ps.length = 0) && okP (pk ks 0).cl (pk ks 0).ps && fits (pk ks 0).cl (pk ks 0).ps (pk ks 0).cl (pk ks 0).ps)) = _
          rw [ex, hok, hf]
          simp
        obtain ⟨xt, xcl, xv, xps, xh, xa, xb, xcc, xd⟩ := x
        obtain ⟨xo, xc, e1⟩ := hx
        simp only at e1 AN
        subst e1
        obtain ⟨L, hL⟩ : ∃ L, xps.length = L := ⟨_, rfl⟩
        obtain ⟨em, hem⟩ : ∃ b, decide (L = 0) = b := ⟨_, rfl⟩
        have nz1 : ((L : Int) == 0) = em := by rw [← hem]; exact int_zero L
        simp only [hL] at c2 RT FT
        rw [hL, hem] at AN
        have EG : Hid ((mv && !em && ok && f) = false → K = false) := Lib.hid (fun h => by
          rw [EK.out]
          refine key_off (n := 0) (by omega) ?_
          show (rightN (barep ks) 1 && allN ks 1) = false
          rw [RN, AN]
          revert h; cases mv <;> cases em <;> cases ok <;> cases f <;> simp)
        have NX : Hid ((mv && !em && ok && f) = true → rightN (barep ks) 1 = true ∧ allN ks 1 = true) := Lib.hid (fun h => by
          rw [RN, AN]
          revert h; cases mv <;> cases em <;> cases ok <;> cases f <;> simp)
        clear r' rr r0 l0 hb hok hf hkk hmv h0 HS ex b1 b2 o1 RN AN hem hL
        cases mv
        case false =>
         have EF := Lib.hid (EG.out (by simp))
         clear EG NX
         go_wp2_with fail
         refine wp_region_class (C := fun w' => ∃ z : Later wr, w' = z.to) (by kernel_rfl) (by kernel_rfl) ⟨⟨_, below_drew (Below.refl _ _)⟩, rfl⟩ ?_
         repeat (go_big_quiet_step (first | (go_at_call 58; exact Later.calls (MV.out _)) | (go_at_call 60; exact Later.calls (RT.out _)) | (go_at_call 61; exact Later.calls (FT.out _))))
         refine wpQuiet_nil ?_
         rintro _ ⟨z, rfl⟩
         go_wp2
         go_ret
         exact ⟨by rw [EF.out]; rfl, by rw [HB.out]; exact HBD.out.trans (z.below.mono sz.out)⟩
        case true =>
         cases ok
         case false =>
          have EF := Lib.hid (EG.out (by simp))
          clear EG NX
          go_wp2_with fail
          refine wp_region_class (C := fun w' => ∃ z : Later wr, w' = z.to) (by kernel_rfl) (by kernel_rfl) ⟨⟨_, below_drew (Below.refl _ _)⟩, rfl⟩ ?_
          repeat (go_big_quiet_step (first | (go_at_call 58; exact Later.calls (MV.out _)) | (go_at_call 60; exact Later.calls (RT.out _)) | (go_at_call 61; exact Later.calls (FT.out _))))
          refine wpQuiet_nil ?_
          rintro _ ⟨z, rfl⟩
          go_wp2
          go_ret
          exact ⟨by rw [EF.out]; rfl, by rw [HB.out]; exact HBD.out.trans (z.below.mono sz.out)⟩
         case true =>
          cases em
          case true =>
           have EF := Lib.hid (EG.out (by simp))
           clear EG NX
           go_wp2_with fail
           refine wp_region_class (C := fun w' => ∃ z : Later wr, w' = z.to) (by kernel_rfl) (by kernel_rfl) ⟨⟨_, below_drew (Below.refl _ _)⟩, rfl⟩ ?_
           repeat (go_big_quiet_step (first | (go_at_call 58; exact Later.calls (MV.out _)) | (go_at_call 60; exact Later.calls (RT.out _)) | (go_at_call 61; exact Later.calls (FT.out _))))
           refine wpQuiet_nil ?_
           rintro _ ⟨z, rfl⟩
           go_wp2
           go_ret
           exact ⟨by rw [EF.out]; rfl, by rw [HB.out]; exact HBD.out.trans (z.below.mono sz.out)⟩
          case false =>
           cases f
           case false =>
            have EF := Lib.hid (EG.out (by simp))
            clear EG NX
            go_wp2_with fail
            refine wp_region_class (C := fun w' => ∃ z : Later wr, w' = z.to) (by kernel_rfl) (by kernel_rfl) ⟨⟨_, below_drew (Below.refl _ _)⟩, rfl⟩ ?_
            repeat (go_big_quiet_step (first | (go_at_call 58; exact Later.calls (MV.out _)) | (go_at_call 60; exact Later.calls (RT.out _)) | (go_at_call 61; exact Later.calls (FT.out _))))
            refine wpQuiet_nil ?_
            rintro _ ⟨z, rfl⟩
            go_wp2
            go_ret
            exact ⟨by rw [EF.out]; rfl, by rw [HB.out]; exact HBD.out.trans (z.below.mono sz.out)⟩
           case true =>
            have NG := Lib.hid (NX.out rfl)
            clear EG NX
            go_wp2_with fail
            refine wp_region_class (C := fun w' => ∃ z : Later wr, w' = z.to) (by kernel_rfl) (by kernel_rfl) ⟨⟨_, below_drew (Below.refl _ _)⟩, rfl⟩ ?_
            repeat (go_big_quiet_step (first | (go_at_call 58; exact Later.calls (MV.out _)) | (go_at_call 60; exact Later.calls (RT.out _)) | (go_at_call 61; exact Later.calls (FT.out _))))
            refine wpQuiet_nil ?_
            rintro _ ⟨z, rfl⟩
            have Z := Lib.hid (HBD.out.trans (z.below.mono sz.out))
            obtain ⟨Y, hY⟩ : ∃ Y, z.to = Y := ⟨_, rfl⟩
            rw [hY] at Z ⊢
            clear hY c0 c1 c2 c3 c4 c5 c6 c7
            try clear b1 b2
            try clear d0
            go_wp2
            go_roundw
            case rel => exact ⟨1, by omega, by go_num, NG.out, Z.out⟩
            case measure => simp [intOf]; omega
      · obtain ⟨m, hm⟩ : ∃ m : Nat, n = m + 1 := ⟨n - 1, by omega⟩
        have e1 : (n : Int) - 1 = (m : Int) := by omega
        have e2 : IntKind.i64.wrap ((n : Int) - 1) = (m : Int) := by rw [e1]; exact IntWalk.i64_in _ (by omega)
        have o2 : (m : Int) < N := by omega
        have o3 : 0 < n := by omega
        have d0 := fun z => (r' z).c0 m (by omega)
        obtain ⟨x, ex⟩ : ∃ x, pk ks n = x := ⟨_, rfl⟩
        obtain ⟨y, ey⟩ : ∃ x, pk ks 0 = x := ⟨_, rfl⟩
        obtain ⟨T, eT⟩ : ∃ T, (pk ks m).t = T := ⟨_, rfl⟩
        rw [ex] at c0 c1 c2 c3 c4 c5 c6 c7 hx hkk hok hf
        rw [ey] at b1 b2 h0 hf
        rw [eT] at d0
        simp only [ex] at MV RT FT
        simp only [ey] at FT
        obtain ⟨u, hup2⟩ : ∃ b, decide (x.t ≤ T) = b := ⟨_, rfl⟩
        have RN : rightN (barep ks) (n + 1) = (mv && !u) := by
          show (rightN (barep ks) n && okK (ky (barep ks) n) && (decide (n = 0) || decide ((ky (barep ks) (n - 1)).t < (ky (barep ks) n).t))) = _
          rw [HST.out.1, ky_barep (by have := HN.out; omega), ky_barep (by have := HN.out; omega), ex, hkk, show n - 1 = m by omega, decide_eq_false hz]
          show (true && mv && (false || decide ((pk ks m).t < x.t))) = _
          rw [eT, ← hup2]
          by_cases h : x.t ≤ T
          · rw [decide_eq_true h, decide_eq_false (by omega)]; simp
          · rw [decide_eq_false h, decide_eq_true (by omega)]; simp
        have AN : allN ks (n + 1) = (!decide (x.ps.length = 0) && ok && f) := by
          show (allN ks n && (!decide ((pk ks n).ps.length = 0) && okP (pk ks n).cl (pk ks n).ps && fits (pk ks 0).cl (pk ks 0).ps (pk ks n).cl (pk ks n).ps)) = _
          rw [HST.out.2, ex, ey, hok, hf]
          simp
        obtain ⟨xt, xcl, xv, xps, xh, xa, xb, xcc, xd⟩ := x
        obtain ⟨yt, ycl, yv, yps, yh, ya, yb, ycc, yd⟩ := y
        obtain ⟨xo, xc, ex1⟩ := hx
        obtain ⟨yo, yn, yc, ey1⟩ := h0
        simp only at ex1 ey1 AN hup2
        subst ex1 ey1
        obtain ⟨L, hL⟩ : ∃ L, xps.length = L := ⟨_, rfl⟩
        obtain ⟨em, hem⟩ : ∃ b, decide (L = 0) = b := ⟨_, rfl⟩
        have nz1 : ((L : Int) == 0) = em := by rw [← hem]; exact int_zero L
        simp only [hL] at c2 RT FT
        rw [hL, hem] at AN
        have EG : Hid ((mv && !u && !em && ok && f) = false → K = false) := Lib.hid (fun h => by
          rw [EK.out]
          refine key_off (n := n) (by omega) ?_
          rw [RN, AN]
          revert h; cases mv <;> cases u <;> cases em <;> cases ok <;> cases f <;> simp)
        have NX : Hid ((mv && !u && !em && ok && f) = true → rightN (barep ks) (n + 1) = true ∧ allN ks (n + 1) = true) := Lib.hid (fun h => by
          rw [RN, AN]
          revert h; cases mv <;> cases u <;> cases em <;> cases ok <;> cases f <;> simp)
        clear r' rr r0 l0 hb hok hf hkk hmv HS ex ey eT hm RN AN hem hL
        cases mv
        case false =>
         have EF := Lib.hid (EG.out (by simp))
         clear EG NX
         go_wp2_with fail
         refine wp_region_class (C := fun w' => ∃ z : Later wr, w' = z.to) (by kernel_rfl) (by kernel_rfl) ⟨⟨_, below_drew (Below.refl _ _)⟩, rfl⟩ ?_
         repeat (go_big_quiet_step (first | (go_at_call 58; exact Later.calls (MV.out _)) | (go_at_call 60; exact Later.calls (RT.out _)) | (go_at_call 61; exact Later.calls (FT.out _))))
         refine wpQuiet_nil ?_
         rintro _ ⟨z, rfl⟩
         go_wp2
         go_ret
         exact ⟨by rw [EF.out]; rfl, by rw [HB.out]; exact HBD.out.trans (z.below.mono sz.out)⟩
        case true =>
         cases u
         case true =>
          have EF := Lib.hid (EG.out (by simp))
          clear EG NX
          go_wp2_with fail
          refine wp_region_class (C := fun w' => ∃ z : Later wr, w' = z.to) (by kernel_rfl) (by kernel_rfl) ⟨⟨_, below_drew (Below.refl _ _)⟩, rfl⟩ ?_
          repeat (go_big_quiet_step (first | (go_at_call 58; exact Later.calls (MV.out _)) | (go_at_call 60; exact Later.calls (RT.out _)) | (go_at_call 61; exact Later.calls (FT.out _))))
          refine wpQuiet_nil ?_
          rintro _ ⟨z, rfl⟩
          go_wp2
          go_ret
          exact ⟨by rw [EF.out]; rfl, by rw [HB.out]; exact HBD.out.trans (z.below.mono sz.out)⟩
         case false =>
          cases ok
          case false =>
           have EF := Lib.hid (EG.out (by simp))
           clear EG NX
           go_wp2_with fail
           refine wp_region_class (C := fun w' => ∃ z : Later wr, w' = z.to) (by kernel_rfl) (by kernel_rfl) ⟨⟨_, below_drew (Below.refl _ _)⟩, rfl⟩ ?_
           repeat (go_big_quiet_step (first | (go_at_call 58; exact Later.calls (MV.out _)) | (go_at_call 60; exact Later.calls (RT.out _)) | (go_at_call 61; exact Later.calls (FT.out _))))
           refine wpQuiet_nil ?_
           rintro _ ⟨z, rfl⟩
           go_wp2
           go_ret
           exact ⟨by rw [EF.out]; rfl, by rw [HB.out]; exact HBD.out.trans (z.below.mono sz.out)⟩
          case true =>
           cases em
           case true =>
            have EF := Lib.hid (EG.out (by simp))
            clear EG NX
            go_wp2_with fail
            refine wp_region_class (C := fun w' => ∃ z : Later wr, w' = z.to) (by kernel_rfl) (by kernel_rfl) ⟨⟨_, below_drew (Below.refl _ _)⟩, rfl⟩ ?_
            repeat (go_big_quiet_step (first | (go_at_call 58; exact Later.calls (MV.out _)) | (go_at_call 60; exact Later.calls (RT.out _)) | (go_at_call 61; exact Later.calls (FT.out _))))
            refine wpQuiet_nil ?_
            rintro _ ⟨z, rfl⟩
            go_wp2
            go_ret
            exact ⟨by rw [EF.out]; rfl, by rw [HB.out]; exact HBD.out.trans (z.below.mono sz.out)⟩
           case false =>
            cases f
            case false =>
             have EF := Lib.hid (EG.out (by simp))
             clear EG NX
             go_wp2_with fail
             refine wp_region_class (C := fun w' => ∃ z : Later wr, w' = z.to) (by kernel_rfl) (by kernel_rfl) ⟨⟨_, below_drew (Below.refl _ _)⟩, rfl⟩ ?_
             repeat (go_big_quiet_step (first | (go_at_call 58; exact Later.calls (MV.out _)) | (go_at_call 60; exact Later.calls (RT.out _)) | (go_at_call 61; exact Later.calls (FT.out _))))
             refine wpQuiet_nil ?_
             rintro _ ⟨z, rfl⟩
             go_wp2
             go_ret
             exact ⟨by rw [EF.out]; rfl, by rw [HB.out]; exact HBD.out.trans (z.below.mono sz.out)⟩
            case true =>
             have NG := Lib.hid (NX.out rfl)
             clear EG NX
             go_wp2_with fail
             refine wp_region_class (C := fun w' => ∃ z : Later wr, w' = z.to) (by kernel_rfl) (by kernel_rfl) ⟨⟨_, below_drew (Below.refl _ _)⟩, rfl⟩ ?_
             repeat (go_big_quiet_step (first | (go_at_call 58; exact Later.calls (MV.out _)) | (go_at_call 60; exact Later.calls (RT.out _)) | (go_at_call 61; exact Later.calls (FT.out _))))
             refine wpQuiet_nil ?_
             rintro _ ⟨z, rfl⟩
             have Z := Lib.hid (HBD.out.trans (z.below.mono sz.out))
             obtain ⟨Y, hY⟩ : ∃ Y, z.to = Y := ⟨_, rfl⟩
             rw [hY] at Z ⊢
             clear hY c0 c1 c2 c3 c4 c5 c6 c7
             try clear b1 b2
             try clear d0
             go_wp2
             go_roundw
             case rel => exact ⟨n + 1, by omega, by go_num, NG.out, Z.out⟩
             case measure => simp [intOf]; omega
    · obtain rfl : n = N := by omega
      have o1 : (n : Int) ≤ n := by omega
      clear hb
      have EF : Hid (K = decide (n ≤ 32)) := Lib.hid (by rw [EK.out, HST.out.1, HST.out.2]; simp)
      by_cases h32 : n ≤ 32
      · rw [decide_eq_true h32] at EF
        have o2 : (n : Int) ≤ 32 := by omega
        go_wp2
        go_ret
        exact ⟨by rw [EF.out]; simp, by rw [HB.out]; exact HBD.out⟩
      · rw [decide_eq_false h32] at EF
        have o2 : (32 : Int) < n := by omega
        go_wp2
        go_ret
        exact ⟨by rw [EF.out]; simp; omega, by rw [HB.out]; exact HBD.out⟩

end Go.Proofs.YtglbfpjjnboeaaaGreat

namespace Go.Proofs.YtglbfpjjnboeaaaGreat
open Go.RowKit
open M

attribute [local go_sem] alloc_drewN setCell_drewN shape_drewN

theorem tdiv_one (Q : Int) : (Q.tmod 65536 < 0 ∧ Q.tdiv 65536 - 1 = Q / 65536) ∨ (0 ≤ Q.tmod 65536 ∧ Q.tdiv 65536 = Q / 65536) := by
  rcases Int.le_total 0 Q with h | h
  · exact Or.inr ⟨Int.tmod_nonneg _ h, Int.tdiv_eq_ediv_of_nonneg h⟩
  · have e1 : Q.tdiv 65536 = -((-Q) / 65536) := by rw [← Int.tdiv_eq_ediv_of_nonneg (by omega), Int.neg_tdiv, Int.neg_neg]
    have e2 : Q.tmod 65536 = -((-Q) % 65536) := by rw [← Int.tmod_eq_emod_of_nonneg (by omega), Int.neg_tmod, Int.neg_neg]
    rw [e1, e2]
    omega
/-- What the document's own reckoning of one part comes to. -/
theorem part_facts {a b P : Int} (a0 : 0 ≤ a) (a1 : a ≤ 255) (b0 : 0 ≤ b) (b1 : b ≤ 255) (p0 : -1099511627776 ≤ P) (p1 : P ≤ 1099511627776) {C : Int} (hC : mixh a b P = C) :
    ∃ Q T R : Int, (b - a) * P = Q ∧ -280375465082880 ≤ Q ∧ Q ≤ 280375465082880 ∧ Q.tdiv 65536 = T ∧ Q.tmod 65536 = R ∧ -4278190081 ≤ T ∧ T ≤ 4278190081 ∧ -65536 < R ∧ R < 65536 ∧
      ((R < 0 ∧ clamp (a + (T - 1)) 0 255 = C) ∨ (0 ≤ R ∧ clamp (a + T) 0 255 = C)) := by
  obtain ⟨q0, q1⟩ := prod_bound (x := b - a) (y := P) (b := 255) (c := 1099511627776) (by omega) (by omega) (by omega) (by omega)
  unfold mixh at hC
  obtain ⟨Q, hQ⟩ : ∃ Q, (b - a) * P = Q := ⟨_, rfl⟩
  rw [hQ] at hC q0 q1
  have hd := tdiv_one Q
  have hm : -65536 < Q.tmod 65536 ∧ Q.tmod 65536 < 65536 := by
    have a := Int.tmod_lt_of_pos Q (show (0 : Int) < 65536 by decide)
    have b := Int.tmod_lt_of_pos (-Q) (show (0 : Int) < 65536 by decide)
    rw [Int.neg_tmod] at b
    omega
  refine ⟨Q, _, _, hQ, by omega, by omega, rfl, rfl, by omega, by omega, hm.1, hm.2, ?_⟩
  rcases hd with ⟨h1, h2⟩ | ⟨h1, h2⟩
  · exact Or.inl ⟨h1, by rw [h2]; exact hC⟩
  · exact Or.inr ⟨h1, by rw [h2]; exact hC⟩


end Go.Proofs.YtglbfpjjnboeaaaGreat

namespace Go.Proofs.YtglbfpjjnboeaaaGreat
open Go.RowKit
open M

theorem r5_colors0 (ao : Option Addr) (cap : Nat) (w : World) :
    Calls Tryz.prog 34 #[.slice ao 0 cap] w fun e w' => e = .returned (.bool true) ∧ Below w.heap.size w w' := by
  go_enter Tryz.func34, Tryz.ntmps34
  go_wp2
  go_loop [3] (fun i => i = .int .i64 0) (fun _ => 0)
  case atStart => rfl
  case round =>
    subst hrel
    go_wp2
    go_ret
    exact ⟨rfl, Below.refl _ _⟩

set_option maxHeartbeats 2000000 in
theorem r5_colors1 (g o cap : Nat) (ks : List Ck) (w : World) (hr : Crow w g o ks) (hn : 0 < ks.length) :
    Calls Tryz.prog 34 #[.slice (some ⟨g, o, none⟩) ks.length cap] w fun e w' => e = .returned (.bool (right (bares ks))) ∧ Below w.heap.size w w' := by
  have hf := hr.few
  have hg := hr.lt hn
  have HR := Lib.hid hr
  clear hr
  obtain ⟨R, hR⟩ : ∃ R, right (bares ks) = R := ⟨_, rfl⟩
  rw [hR]
  have RR := Lib.hid hR
  clear hR
  go_enter Tryz.func34, Tryz.ntmps34
  go_wp2
  go_loopw [3] (fun i wr => ∃ n : Nat, n ≤ ks.length ∧ i = .int .i64 n ∧ rightN (bares ks) n = true ∧ Below w.heap.size w wr) (fun i _ => ks.length - (intOf i).toNat)
  case atStart => exact ⟨0, by omega, rfl, rfl, Below.refl _ _⟩
  case round =>
    obtain ⟨n, hn', rfl, he, hb⟩ := hrel
    have HE := Lib.hid he
    have HB := Lib.hid hb
    clear he hb
    by_cases hlt : n < ks.length
    · have hr' := fun (z : Later wr) => (HR.out.below HB.out hg).later hn z
      have c0 := fun z => (hr' z).c0 n hlt
      have c5 := fun z => (hr' z).c5 n hlt
      have c6 := fun z => (hr' z).c6 n hlt
      have c7 := fun z => (hr' z).c7 n hlt
      have c8 := fun z => (hr' z).c8 n hlt
      have c9 := fun z => (hr' z).c9 n hlt
      have o1 : (n : Int) < ks.length := by omega
      obtain ⟨p, hp⟩ : ∃ p, (okIn (ck ks n).t 1073741824 && okHow (ck ks n).h (ck ks n).a (ck ks n).b (ck ks n).c (ck ks n).d) = p := ⟨_, rfl⟩
      have hk : okK (ky (bares ks) n) = p := by
        rw [ky_bares, ← hp]; unfold okK
        simp only [bare]
        rw [show okIn 0 67108864 = true from rfl, Bool.and_true]
      have m1 := fun (z : Later wr) => r5_moves (ck ks n).t (ck ks n).h (ck ks n).a (ck ks n).b (ck ks n).c (ck ks n).d z.to
      rw [hp] at m1
      have M1 := Lib.hid m1
      have HK := Lib.hid hk
      clear hp hk m1
      cases p with
      | false =>
        have er : R = false := by
          rw [← RR.out]; unfold right
          rw [bares_length, rightN_off (m := n + 1) (by omega) (by simp [rightN, HK.out])]; simp
        subst er
        go_wp2_with fail
        refine wp_region_class (C := fun w' => ∃ z : Later wr, w' = z.to) (by kernel_rfl) (by kernel_rfl) ⟨⟨_, below_drew (Below.refl _ _)⟩, rfl⟩ ?_
        repeat (go_big_quiet_step (first | (go_at_call 58; exact Later.calls (M1.out _))))
        refine wpQuiet_nil ?_
        rintro _ ⟨z, rfl⟩
        go_wp2
        go_ret
        exact ⟨rfl, HB.out.trans (z.below.mono HB.out.size)⟩
      | true =>
        by_cases h0 : n = 0
        · subst h0
          clear hr'
          simp only [Nat.zero_mul, Nat.add_zero] at c0 c5 c6 c7 c8 c9
          have o0 : (0 : Int) < ks.length := by omega
          clear o1
          go_wp2_with fail
          refine wp_region_class (C := fun w' => ∃ z : Later wr, w' = z.to) (by kernel_rfl) (by kernel_rfl) ⟨⟨_, below_drew (Below.refl _ _)⟩, rfl⟩ ?_
          repeat (go_big_quiet_step (first | (go_at_call 58; exact Later.calls (M1.out _))))
          refine wpQuiet_nil ?_
          rintro _ ⟨z, rfl⟩
          go_wp2
          go_roundw
          case rel => exact ⟨1, by omega, by go_num, by simp [rightN, HK.out], HB.out.trans (z.below.mono HB.out.size)⟩
          case measure => simp [intOf]; omega
        · obtain ⟨m, hm⟩ : ∃ m : Nat, n = m + 1 := ⟨n - 1, by omega⟩
          have e1 : (n : Int) - 1 = (m : Int) := by omega
          have o2 : (m : Int) < ks.length := by omega
          have o3 : 0 < n := by omega
          have d0 := fun z => (hr' z).c0 m (by omega)
          have hx : rightN (bares ks) (n + 1) = decide ((ck ks m).t < (ck ks n).t) := by
            unfold rightN; rw [HE.out, HK.out, hm, Nat.add_sub_cancel, ky_bares, ky_bares]; simp [bare]
            exact decide_eq_decide.2 Iff.rfl
          have HX := Lib.hid hx
          clear hm hx hr'
          by_cases hc : (ck ks m).t < (ck ks n).t
          · go_wp2_with fail
            refine wp_region_class (C := fun w' => ∃ z : Later wr, w' = z.to) (by kernel_rfl) (by kernel_rfl) ⟨⟨_, below_drew (Below.refl _ _)⟩, rfl⟩ ?_
            repeat (go_big_quiet_step (first | (go_at_call 58; exact Later.calls (M1.out _))))
            refine wpQuiet_nil ?_
            rintro _ ⟨z, rfl⟩
            go_wp2
            go_roundw
            case rel => exact ⟨n + 1, by omega, by go_num, by rw [HX.out]; simpa using hc, HB.out.trans (z.below.mono HB.out.size)⟩
            case measure => simp [intOf]; omega
          · have er : R = false := by
              rw [← RR.out]; unfold right
              rw [bares_length, rightN_off (m := n + 1) (by omega) (by rw [HX.out]; simpa using hc)]; simp
            subst er
            go_wp2_with fail
            refine wp_region_class (C := fun w' => ∃ z : Later wr, w' = z.to) (by kernel_rfl) (by kernel_rfl) ⟨⟨_, below_drew (Below.refl _ _)⟩, rfl⟩ ?_
            repeat (go_big_quiet_step (first | (go_at_call 58; exact Later.calls (M1.out _))))
            refine wpQuiet_nil ?_
            rintro _ ⟨z, rfl⟩
            go_wp2
            go_ret
            exact ⟨rfl, HB.out.trans (z.below.mono HB.out.size)⟩
    · have en : n = ks.length := by omega
      have er : R = decide ((ks.length : Int) ≤ 32) := by
        have h1 : rightN (bares ks) ks.length = true := en ▸ HE.out
        rw [← RR.out]; unfold right; rw [bares_length, h1, Bool.and_true]
        exact decide_eq_decide.2 (by omega)
      subst er
      clear RR HE
      subst en
      go_wp2
      all_goals
        go_ret
        exact ⟨by simp [*], HB.out⟩
theorem r5_colors {v : Value} {ks : List Ck} {w : World} (h : Csl w v ks) :
    Calls Tryz.prog 34 #[v] w fun e w' => e = .returned (.bool (right (bares ks))) ∧ Below w.heap.size w w' := by
  rcases h with ⟨rfl, ao, cap, rfl⟩ | ⟨hn, g, o, cap, rfl, hr⟩
  · exact r5_colors0 ao cap w
  · exact r5_colors1 g o cap ks w hr hn

end Go.Proofs.YtglbfpjjnboeaaaGreat

namespace Go.Proofs.YtglbfpjjnboeaaaGreat
open Go Go.RowKit
open M

theorem rh_near (a : Int) (w : World) : Calls Tryz.prog 62 #[.int .i64 a] w fun e w' => e = .returned (.bool (nearN a)) ∧ Below w.heap.size w w' := by
  obtain ⟨K, hK⟩ : ∃ K, nearN a = K := ⟨_, rfl⟩
  have EK := Lib.hid hK
  rw [hK]
  clear hK
  go_enter Tryz.func62, Tryz.ntmps62
  go_wp2
  all_goals
    go_ret
    refine ⟨?_, Below.refl _ _⟩
    rw [← EK.out]
    clear EK
    unfold nearN
    first | (simp_all; done) | (simp_all; omega; done)
set_option maxRecDepth 100000 in
set_option maxHeartbeats 4000000 in
theorem rh_paint (k : Int) (a b : Cr) (p q : Pt) (r : Int) (w : World) : Calls Tryz.prog 33 #[.agg (paC k a b p q r)] w fun e w' => e = .returned (.bool (decide (k = 0 ∨ k = 1 ∨ k = 2) && (nearN p.x && nearN p.y && nearN q.x && nearN q.y && nearN r))) ∧ Below w.heap.size w w' := by
  obtain ⟨px, py⟩ := p
  obtain ⟨qx, qy⟩ := q
  simp only
  obtain ⟨n0, h0⟩ : ∃ x, nearN px = x := ⟨_, rfl⟩
  have N0 : Hid (∀ w, Calls Tryz.prog 62 #[.int .i64 px] w fun e w' => e = .returned (.bool n0) ∧ Below w.heap.size w w') := Lib.hid (fun w => by rw [← h0]; exact rh_near _ w)
  obtain ⟨n1, h1⟩ : ∃ x, nearN py = x := ⟨_, rfl⟩
  have N1 : Hid (∀ w, Calls Tryz.prog 62 #[.int .i64 py] w fun e w' => e = .returned (.bool n1) ∧ Below w.heap.size w w') := Lib.hid (fun w => by rw [← h1]; exact rh_near _ w)
  obtain ⟨n2, h2⟩ : ∃ x, nearN qx = x := ⟨_, rfl⟩
  have N2 : Hid (∀ w, Calls Tryz.prog 62 #[.int .i64 qx] w fun e w' => e = .returned (.bool n2) ∧ Below w.heap.size w w') := Lib.hid (fun w => by rw [← h2]; exact rh_near _ w)
  obtain ⟨n3, h3⟩ : ∃ x, nearN qy = x := ⟨_, rfl⟩
  have N3 : Hid (∀ w, Calls Tryz.prog 62 #[.int .i64 qy] w fun e w' => e = .returned (.bool n3) ∧ Below w.heap.size w w') := Lib.hid (fun w => by rw [← h3]; exact rh_near _ w)
  obtain ⟨n4, h4⟩ : ∃ x, nearN r = x := ⟨_, rfl⟩
  have N4 : Hid (∀ w, Calls Tryz.prog 62 #[.int .i64 r] w fun e w' => e = .returned (.bool n4) ∧ Below w.heap.size w w') := Lib.hid (fun w => by rw [← h4]; exact rh_near _ w)
  rw [h0, h1, h2, h3, h4]
  clear h0 h1 h2 h3 h4
  obtain ⟨B, hB⟩ : ∃ B, w.heap.size = B := ⟨_, rfl⟩
  by_cases hk : k = 0 ∨ k = 1 ∨ k = 2
  · rw [decide_eq_true hk]
    obtain ⟨W, hW⟩ : ∃ W, w.alloc (.cells (paC k a b ⟨px, py⟩ ⟨qx, qy⟩ r) 31) = W := ⟨_, rfl⟩
    have hkk : Has W B (paC k a b ⟨px, py⟩ ⟨qx, qy⟩ r) 31 := by rw [← hW]; exact has_new hB
    have hb : Below B w W := by rw [← hW]; exact (Below.refl _ _).alloc (by omega) _
    have HF := Lib.hid (show ∀ w', Below W.heap.size W w' → ∀ j u, (paC k a b ⟨px, py⟩ ⟨qx, qy⟩ r)[j]? = some u → w'.cell? ⟨B, j, none⟩ = some u from fun w' h' j u hu => (hkk.below h' hkk.lt).cell j u hu)
    have R0 : Hid (Below W.heap.size W W) := Lib.hid (Below.refl _ _)
    have FIN := Lib.hid (show ∀ w', Below W.heap.size W w' → Below w.heap.size w w' from fun w' h' => by rw [hB]; exact hb.trans (h'.mono (by have := hkk.lt; omega)))
    have HW := Lib.hid hW
    clear hkk hb hW
    rcases hk with rfl | rfl | rfl
    all_goals
      go_enter Tryz.func33, Tryz.ntmps33
      go_wp2_with fail
      rw [HW.out]
      clear hB
      refine (N0.out _).mono ?_
      rintro e w1 ⟨rfl, q1⟩
      have R1 := Lib.hid (R0.out.trans (q1.mono R0.out.size))
      clear q1
      cases n0
      · go_wp2
        go_ret
        exact ⟨rfl, FIN.out _ R1.out⟩
      have g10 := HF.out w1 R1.out 10 _ rfl
      go_wp2_with fail
      refine (N1.out _).mono ?_
      rintro e w2 ⟨rfl, q2⟩
      have R2 := Lib.hid (R1.out.trans (q2.mono R1.out.size))
      clear q2
      cases n1
      · go_wp2
        go_ret
        exact ⟨rfl, FIN.out _ R2.out⟩
      have g11 := HF.out w2 R2.out 11 _ rfl
      go_wp2_with fail
      refine (N2.out _).mono ?_
      rintro e w3 ⟨rfl, q3⟩
      have R3 := Lib.hid (R2.out.trans (q3.mono R2.out.size))
      clear q3
      cases n2
      · go_wp2
        go_ret
        exact ⟨rfl, FIN.out _ R3.out⟩
      have g12 := HF.out w3 R3.out 12 _ rfl
      go_wp2_with fail
      refine (N3.out _).mono ?_
      rintro e w4 ⟨rfl, q4⟩
      have R4 := Lib.hid (R3.out.trans (q4.mono R3.out.size))
      clear q4
      cases n3
      · go_wp2
        go_ret
        exact ⟨rfl, FIN.out _ R4.out⟩
      have g13 := HF.out w4 R4.out 13 _ rfl
      go_wp2_with fail
      refine (N4.out _).mono ?_
      rintro e w5 ⟨rfl, q5⟩
      have R5 := Lib.hid (R4.out.trans (q5.mono R4.out.size))
      clear q5
      go_wp2
      go_ret
      exact ⟨by simp, FIN.out _ R5.out⟩
  · rw [decide_eq_false hk]
    clear hB
    rcases (show k < 0 ∨ (0 ≤ k ∧ 2 < k) by omega) with h0 | ⟨h0, h1⟩
    all_goals
      go_enter Tryz.func33, Tryz.ntmps33
      go_wp2
      go_ret
      exact ⟨by first | (simp; done) | (simp; omega), (Below.refl _ _).alloc (Nat.le_refl _) _⟩

/-- The two tests of a shape's form. -/
def form1 (s : Shp) : Bool := decide (s.form < 0) || decide (3 < s.form) || (decide (s.form = 2) && (decide (s.n < 2) || decide (16 < s.n))) || (!decide (s.form = 2) && !decide (s.n = 0))
def form2 (s : Shp) : Bool := (decide (s.form = 3) && decide (0 < s.W.length + s.H.length)) || (!decide (s.form = 3) && decide (0 < s.P.length))
theorem form_two (s : Shp) : formOk s = (!form1 s && !form2 s) := by
  obtain ⟨form, n, W, vW, H, vH, P, vP, fill, rule, kind, a, b, p, q, r, C, vC, stroke, Wd, vWd, line, cap, D, vD, F, vF, T, vT⟩ := s
  unfold formOk form1 form2
  simp only
  obtain ⟨lw, hw⟩ : ∃ k, W.length = k := ⟨_, rfl⟩
  obtain ⟨lh, hh⟩ : ∃ k, H.length = k := ⟨_, rfl⟩
  obtain ⟨lp, hp⟩ : ∃ k, P.length = k := ⟨_, rfl⟩
  rw [hw, hh, hp]
  clear hw hh hp
  rcases (show form < 0 ∨ form = 0 ∨ form = 1 ∨ form = 2 ∨ form = 3 ∨ 3 < form by omega) with h | rfl | rfl | rfl | rfl | h
  · rw [if_neg (by omega), if_neg (by omega), if_neg (by omega), decide_eq_true h]; simp
  · cases lp <;> simp
  · cases lp <;> simp
  · by_cases h1 : n < 2 <;> by_cases h2 : 16 < n <;> cases lp <;> simp [h1, h2] <;> omega
  · cases lw <;> cases lh <;> simp <;> omega
  · rw [if_neg (by omega), if_neg (by omega), if_neg (by omega), decide_eq_true h]; simp

set_option maxRecDepth 100000 in
set_option maxHeartbeats 4000000 in
theorem rh_right {w : World} {s : Shp} (h : ShIn w s) : Calls Tryz.prog 10 #[.agg (shC s)] w fun e w' => e = .returned (.bool (okS s)) ∧ Below w.heap.size w w' := by
  obtain ⟨lW, aW, cW, eW⟩ := h.W.len
  obtain ⟨lH, aH, cH, eH⟩ := h.H.len
  obtain ⟨lP, aP, cP, eP⟩ := h.P.len
  obtain ⟨B, hB⟩ : ∃ B, w.heap.size = B := ⟨_, rfl⟩
  obtain ⟨W, hW⟩ : ∃ W, w.alloc (.cells (shC s) 34) = W := ⟨_, rfl⟩
  obtain ⟨hi, hk, hb⟩ := h.start hB hW
  have HBB := Lib.hid hB
  have HW := Lib.hid hW
  obtain ⟨x, hx⟩ : ∃ x, right s.W = x := ⟨_, rfl⟩
  obtain ⟨y, hy⟩ : ∃ x, right s.H = x := ⟨_, rfl⟩
  obtain ⟨z, hz⟩ : ∃ x, keysOk s.P = x := ⟨_, rfl⟩
  obtain ⟨pa, hpa⟩ : ∃ x, paintOk s = x := ⟨_, rfl⟩
  obtain ⟨cc, hcc⟩ : ∃ x, right (bares s.C) = x := ⟨_, rfl⟩
  obtain ⟨x1, hx1⟩ : ∃ x, right s.Wd = x := ⟨_, rfl⟩
  obtain ⟨x2, hx2⟩ : ∃ x, right s.F = x := ⟨_, rfl⟩
  obtain ⟨x3, hx3⟩ : ∃ x, right s.T = x := ⟨_, rfl⟩
  obtain ⟨x4, hx4⟩ : ∃ x, okD s.D = x := ⟨_, rfl⟩
  have C1 : Hid (∀ w', Below W.heap.size W w' → Calls Tryz.prog 31 #[.slice aW s.W.length cW] w' fun e w'' => e = .returned (.bool x) ∧ Below w'.heap.size w' w'') := Lib.hid (fun w' h' => by rw [← hx]; rw [← eW]; exact r5_right (hi.below h').W)
  have C2 : Hid (∀ w', Below W.heap.size W w' → Calls Tryz.prog 31 #[.slice aH s.H.length cH] w' fun e w'' => e = .returned (.bool y) ∧ Below w'.heap.size w' w'') := Lib.hid (fun w' h' => by rw [← hy]; rw [← eH]; exact r5_right (hi.below h').H)
  have C3 : Hid (∀ w', Below W.heap.size W w' → Calls Tryz.prog 32 #[.slice aP s.P.length cP] w' fun e w'' => e = .returned (.bool z) ∧ Below w'.heap.size w' w'') := Lib.hid (fun w' h' => by rw [← hz]; rw [← eP]; exact r8_keysG (hi.below h').P)
  have C4 : Hid (∀ w', Below W.heap.size W w' → Calls Tryz.prog 33 #[.agg (paC s.kind s.a s.b s.p s.q s.r)] w' fun e w'' => e = .returned (.bool pa) ∧ Below w'.heap.size w' w'') := Lib.hid (fun w' h' => by rw [← hpa]; exact rh_paint s.kind s.a s.b s.p s.q s.r w')
  have C5 : Hid (∀ w', Below W.heap.size W w' → Calls Tryz.prog 34 #[s.vC] w' fun e w'' => e = .returned (.bool cc) ∧ Below w'.heap.size w' w'') := Lib.hid (fun w' h' => by rw [← hcc]; exact r5_colors (hi.below h').C)
  have C6 : Hid (∀ w', Below W.heap.size W w' → Calls Tryz.prog 31 #[s.vWd] w' fun e w'' => e = .returned (.bool x1) ∧ Below w'.heap.size w' w'') := Lib.hid (fun w' h' => by rw [← hx1]; exact r5_right (hi.below h').Wd)
  have C7 : Hid (∀ w', Below W.heap.size W w' → Calls Tryz.prog 31 #[s.vF] w' fun e w'' => e = .returned (.bool x2) ∧ Below w'.heap.size w' w'') := Lib.hid (fun w' h' => by rw [← hx2]; exact r5_right (hi.below h').F)
  have C8 : Hid (∀ w', Below W.heap.size W w' → Calls Tryz.prog 31 #[s.vT] w' fun e w'' => e = .returned (.bool x3) ∧ Below w'.heap.size w' w'') := Lib.hid (fun w' h' => by rw [← hx3]; exact r5_right (hi.below h').T)
  have C9 : Hid (∀ w', Below W.heap.size W w' → Calls Tryz.prog 35 #[s.vD] w' fun e w'' => e = .returned (.bool x4) ∧ Below w'.heap.size w' w'') := Lib.hid (fun w' h' => by rw [← hx4]; exact below_of (r9_dashes (hi.below h').D))
  obtain ⟨fo, hfo⟩ : ∃ x, form1 s = x := ⟨_, rfl⟩
  obtain ⟨fp, hfp⟩ : ∃ x, form2 s = x := ⟨_, rfl⟩
  obtain ⟨ru, hru⟩ : ∃ x, decide (s.rule = 0 ∨ s.rule = 1) = x := ⟨_, rfl⟩
  obtain ⟨cp, hcp⟩ : ∃ x, decide (s.cap = 0 ∨ s.cap = 1) = x := ⟨_, rfl⟩
  have E : okS s = (!fo && !fp && (x && y && z) && (ru && pa && cc) && (x1 && x2 && x3 && cp && x4)) := by
    unfold okS lineOk fillOk drawOk
    rw [form_two, hfo, hfp, hx, hy, hz, hru, hpa, hcc, hx1, hx2, hx3, hcp, hx4]
  rw [E]
  have FO := Lib.hid hfo
  have FP := Lib.hid hfp
  have RU := Lib.hid hru
  have CP := Lib.hid hcp
  have HF := Lib.hid (show ∀ w', Below W.heap.size W w' → ∀ j u, (shC s)[j]? = some u → w'.cell? ⟨B, j, none⟩ = some u from fun w' h' j u hu => (hk.below h' hk.lt).cell j u hu)
  have R0 : Hid (Below W.heap.size W W) := Lib.hid (Below.refl _ _)
  have FIN := Lib.hid (show ∀ w', Below W.heap.size W w' → Below w.heap.size w w' from fun w' h' => by rw [hB]; exact hb.trans (h'.mono (by have := hk.lt; omega)))
  have EW := Lib.hid eW
  have EH := Lib.hid eH
  have EP := Lib.hid eP
  have lW' : Hid ((s.W.length : Int) ≤ 8796093022208) := Lib.hid (by omega)
  clear hi hk hb hW hx hy hz hpa hcc hx1 hx2 hx3 hx4 hfo hfp hru hcp E h eW eH eP
  go_enter Tryz.func10, Tryz.ntmps10
  go_upto_region 1 with fail
  rw [HW.out]
  clear hB
  have f0 := HF.out W R0.out 0 _ rfl
  have f1 := HF.out W R0.out 1 _ rfl
  go_cut [35] (fun v wx => v = .bool fo ∧ wx = W)
  case first =>
    go_wp2_with fail
    all_goals
      go_meet
      refine ⟨?_, rfl⟩
      rw [← FO.out]
      clear FO
      unfold form1
      first
        | (simp_all; done)
        | (simp_all; omega; done)
        | (rcases (show s.form < 0 ∨ s.form = 0 ∨ s.form = 1 ∨ s.form = 2 ∨ s.form = 3 ∨ 3 < s.form by omega) with h | h | h | h | h | h <;> by_cases hn : s.n = 0 <;> by_cases h2 : s.n < 2 <;> by_cases h16 : 16 < s.n <;> first | (simp_all; done) | (simp_all; omega; done) | (exfalso; omega))
  case rest =>
    obtain ⟨rfl, hwc⟩ := hcut
    rw [hwc]
    clear f0 f1 FO hwc
    cases fo
    case true =>
      go_wp2
      go_ret
      exact ⟨rfl, FIN.out _ R0.out⟩
    case false =>
      go_upto_region 3 with fail
      go_cut [77] (fun v wx => v = .bool (!x || !y || !z || fp) ∧ Below W.heap.size W wx)
      case first =>
        have eW := EW.out
        have eH := EH.out
        have eP := EP.out
        have f2 := HF.out W R0.out 2 _ rfl
        go_wp2_with fail
        refine (C1.out _ R0.out).mono ?_
        rintro e w1 ⟨rfl, q1⟩
        have R1 := Lib.hid (R0.out.trans (q1.mono R0.out.size))
        clear q1 f2
        cases x
        case false =>
          go_wp2_with fail
          go_meet
          exact ⟨rfl, R1.out⟩
        case true =>
          have f3 := HF.out w1 R1.out 3 _ rfl
          go_wp2_with fail
          refine (C2.out _ R1.out).mono ?_
          rintro e w2 ⟨rfl, q2⟩
          have R2 := Lib.hid (R1.out.trans (q2.mono R1.out.size))
          clear q2 f3
          cases y
          case false =>
            go_wp2_with fail
            go_meet
            exact ⟨rfl, R2.out⟩
          case true =>
            have f4 := HF.out w2 R2.out 4 _ rfl
            go_wp2_with fail
            refine (C3.out _ R2.out).mono ?_
            rintro e w3 ⟨rfl, q3⟩
            have R3 := Lib.hid (R2.out.trans (q3.mono R2.out.size))
            clear q3 f4
            cases z
            case false =>
              go_wp2_with fail
              go_meet
              exact ⟨rfl, R3.out⟩
            case true =>
              have f0 := HF.out w3 R3.out 0 _ rfl
              have f2 := HF.out w3 R3.out 2 _ rfl
              have f3 := HF.out w3 R3.out 3 _ rfl
              have f4 := HF.out w3 R3.out 4 _ rfl
              go_wp2_with fail
              all_goals
                go_meet
                refine ⟨?_, R3.out⟩
                rw [← FP.out]
                clear FP
                unfold form2
                clear eW eH eP
                first
                  | (simp_all; done)
                  | (simp_all; omega; done)
                  | (rcases (show s.form = 3 ∨ ¬ s.form = 3 by omega) with h | h <;> simp_all <;> omega)
      case rest =>
        obtain ⟨rfl, hbw⟩ := hcut
        have RB := Lib.hid hbw
        clear hbw
        obtain ⟨t, ht⟩ : ∃ t, (!x || !y || !z || fp) = t := ⟨_, rfl⟩
        have HT := Lib.hid ht
        rw [ht]
        clear ht
        cases t
        case true =>
          have e0 : Hid ((!false && !fp && (x && y && z) && (ru && pa && cc) && (x1 && x2 && x3 && cp && x4)) = false) := Lib.hid (by have := HT.out; revert this; cases x <;> cases y <;> cases z <;> cases fp <;> simp)
          go_wp2
          go_ret
          exact ⟨by rw [e0.out]; rfl, FIN.out _ RB.out⟩
        case false =>
          have e0 : Hid ((!false && !fp && (x && y && z) && (ru && pa && cc) && (x1 && x2 && x3 && cp && x4)) = (ru && pa && cc && x1 && x2 && x3 && cp && x4)) := Lib.hid (by have := HT.out; revert this; cases x <;> cases y <;> cases z <;> cases fp <;> simp; cases ru <;> cases pa <;> cases cc <;> simp)
          clear C1 C2 C3 HT
          have f6 := HF.out wc RB.out 6 _ rfl
          by_cases hr : s.rule = 0 ∨ s.rule = 1
          case neg =>
            obtain rfl : ru = false := by rw [← RU.out]; exact decide_eq_false hr
            have h0 : (s.rule == 0) = false := by simp; omega
            have h1 : (s.rule == 1) = false := by simp; omega
            go_wp2
            go_ret
            exact ⟨by rw [e0.out]; simp, FIN.out _ RB.out⟩
          case pos =>
            obtain rfl : ru = true := by rw [← RU.out]; exact decide_eq_true hr
            rcases hr with hr | hr
            all_goals
              have f7 := HF.out wc RB.out 7 _ rfl
              have f8 := HF.out wc RB.out 8 _ rfl
              have f9 := HF.out wc RB.out 9 _ rfl
              have f10 := HF.out wc RB.out 10 _ rfl
              have f11 := HF.out wc RB.out 11 _ rfl
              have f12 := HF.out wc RB.out 12 _ rfl
              have f13 := HF.out wc RB.out 13 _ rfl
              have f14 := HF.out wc RB.out 14 _ rfl
              have f15 := HF.out wc RB.out 15 _ rfl
              have f16 := HF.out wc RB.out 16 _ rfl
              have f17 := HF.out wc RB.out 17 _ rfl
              have f18 := HF.out wc RB.out 18 _ rfl
              have f19 := HF.out wc RB.out 19 _ rfl
              have f20 := HF.out wc RB.out 20 _ rfl
              go_wp2_with fail
              refine (C4.out _ RB.out).mono ?_
              rintro e w4 ⟨rfl, q⟩
              have R4 := Lib.hid (RB.out.trans (q.mono RB.out.size))
              clear q f7 f8 f9 f10 f11 f12 f13 f14 f15 f16 f17 f18 f19 f20
              cases pa
              case false =>
                go_wp2
                go_ret
                exact ⟨by rw [e0.out]; simp, FIN.out _ R4.out⟩
              have f21 := HF.out w4 R4.out 21 _ rfl
              go_wp2_with fail
              refine (C5.out _ R4.out).mono ?_
              rintro e w5 ⟨rfl, q⟩
              have R5 := Lib.hid (R4.out.trans (q.mono R4.out.size))
              clear q f21
              cases cc
              case false =>
                go_wp2
                go_ret
                exact ⟨by rw [e0.out]; simp, FIN.out _ R5.out⟩
              have f23 := HF.out w5 R5.out 23 _ rfl
              go_wp2_with fail
              refine (C6.out _ R5.out).mono ?_
              rintro e w6 ⟨rfl, q⟩
              have R6 := Lib.hid (R5.out.trans (q.mono R5.out.size))
              clear q f23
              cases x1
              case false =>
                go_wp2
                go_ret
                exact ⟨by rw [e0.out]; simp, FIN.out _ R6.out⟩
              have f30 := HF.out w6 R6.out 30 _ rfl
              go_wp2_with fail
              refine (C7.out _ R6.out).mono ?_
              rintro e w7 ⟨rfl, q⟩
              have R7 := Lib.hid (R6.out.trans (q.mono R6.out.size))
              clear q f30
              cases x2
              case false =>
                go_wp2
                go_ret
                exact ⟨by rw [e0.out]; simp, FIN.out _ R7.out⟩
              have f31 := HF.out w7 R7.out 31 _ rfl
              go_wp2_with fail
              refine (C8.out _ R7.out).mono ?_
              rintro e w8 ⟨rfl, q⟩
              have R8 := Lib.hid (R7.out.trans (q.mono R7.out.size))
              clear q f31
              cases x3
              case false =>
                go_wp2
                go_ret
                exact ⟨by rw [e0.out]; simp, FIN.out _ R8.out⟩
              have f28 := HF.out w8 R8.out 28 _ rfl
              have f29 := HF.out w8 R8.out 29 _ rfl
              by_cases hc : s.cap = 0 ∨ s.cap = 1
              case neg =>
                obtain rfl : cp = false := by rw [← CP.out]; exact decide_eq_false hc
                have h0 : (s.cap == 0) = false := by simp; omega
                have h1 : (s.cap == 1) = false := by simp; omega
                go_wp2
                go_ret
                exact ⟨by rw [e0.out]; simp, FIN.out _ R8.out⟩
              case pos =>
                obtain rfl : cp = true := by rw [← CP.out]; exact decide_eq_true hc
                rcases hc with hc | hc
                all_goals
                  go_wp2_with fail
                  refine (C9.out _ R8.out).mono ?_
                  rintro e w9 ⟨rfl, q⟩
                  have R9 := Lib.hid (R8.out.trans (q.mono R8.out.size))
                  clear q
                  go_wp2
                  go_ret
                  exact ⟨by rw [e0.out]; simp, FIN.out _ R9.out⟩

end Go.Proofs.YtglbfpjjnboeaaaGreat

namespace Go.Proofs.YtglbfpjjnboeaaaGreat
open Go Go.RowKit
open M

set_option maxRecDepth 100000 in
set_option maxHeartbeats 2000000 in
theorem rh_straight {v : Value} {ps : List Pt} {w : World} (h : Psl w v ps) (h0 : 0 < ps.length) (h1 : ps.length ≤ 100) : Calls Tryz.prog 39 #[v] w (Gives w true (straightL ps)) := by
  obtain ⟨B, hB⟩ : ∃ B, w.heap.size = B := ⟨_, rfl⟩
  obtain ⟨W, hW⟩ : ∃ W, w.alloc (.cells #[.bool false, .slice none 0 0] 41) = W := ⟨_, rfl⟩
  have hr0 : Has W B #[.bool false, .slice none 0 0] 41 := by rw [← hW]; exact has_new hB
  have hb0 : Below B w W := by rw [← hW]; exact (Below.refl _ _).alloc (by omega) _
  have hz0 : W.heap.size = B + 1 := by rw [← hW]; simp [hB]
  have HS := Lib.hid h
  have hs := h.below hb0 (by omega)
  obtain ⟨ao, cap, rfl, hf, hr⟩ := hs
  obtain ⟨g, o, rfl, r⟩ := hr h0
  obtain ⟨N, hN⟩ : ∃ N, ps.length = N := ⟨_, rfl⟩
  have HR := Lib.hid r
  have HN := Lib.hid hN
  have HB := Lib.hid hB
  have HW := Lib.hid hW
  have p0 := r.c0 0 h0
  have p1 := r.c1 0 h0
  rw [hN] at h0 h1 ⊢
  simp only [Nat.zero_mul, Nat.add_zero] at p0 p1
  obtain ⟨p, hp⟩ : ∃ p, pt ps 0 = p := ⟨_, rfl⟩
  rw [hp] at p0 p1
  obtain ⟨V, hV⟩ : ∃ V, (W.alloc (.cells (pCells p) 29)).alloc (.cells #[.bool true, .slice (some ⟨B + 1, 0, none⟩) 1 1] 41) = V := ⟨_, rfl⟩
  have G0 : Hid (Grp3 w B (B + 1 + 1) true (strN ps 0) (.slice (some ⟨B + 1, 0, none⟩) 1 1) V) := Lib.hid (by
    have ho : Pown (W.alloc (.cells (pCells p) 29)) (B + 1) (.slice (some ⟨B + 1, 0, none⟩) 1 1) [p] := by
      have := World.ownsRow_lit (e := 29) (size := 2) (base := B + 1) W (pCells p) 1 (by omega) (by unfold maxLen; omega) rfl
      rw [hz0] at this
      exact this
    show Grp3 w B (B + 1 + 1) true [pt ps 0] _ V
    rw [hp, ← hV]
    exact ⟨ho.alloc _, has_new (by simp [hz0]), (hr0.alloc _).alloc _, fun k hk e => by have e' : some (B + 1) = some k := hk; simp at e'; omega, by rw [hB]; exact (hb0.alloc (by omega) _).alloc (by simp; omega) _, by omega, by omega⟩)
  have HV := Lib.hid hV
  have HZ := Lib.hid hz0
  have o1 : (0 : Int) < N := by omega
  have o2 : (N : Int) ≤ 100 := by omega
  clear hf r hr hN hb0 hr0 hW hV h hp
  obtain ⟨px, py⟩ := p
  simp only at p0 p1
  go_enter Tryz.func39, Tryz.ntmps39
  go_upto_region 1 with fail
  rw [HW.out]
  clear hB
  go_upto_region 2 with fail
  rw [HV.out]
  clear p0 p1 hz0
  go_wp2
  go_loopw [4] (fun i wr => ∃ (n : Nat) (l : Value), n ≤ N ∧ i = .int .i64 n ∧ Grp3 w B (B + 1 + 1) true (strN ps n) l wr) (fun i _ => N - (intOf i).toNat)
  case atStart => exact ⟨0, _, by omega, rfl, G0.out⟩
  case round =>
    clear G0
    obtain ⟨n, l, hn, rfl, hG⟩ := hrel
    have GH := Lib.hid hG
    have bw := Lib.hid hG.below
    by_cases hlt : n < N
    · have o3 : (n : Int) < N := by omega
      obtain ⟨m, hm⟩ : ∃ m : Nat, (n + 1) % N = m := ⟨_, rfl⟩
      have hmN : m < N := by rw [← hm]; exact Nat.mod_lt _ h0
      have e1 : ((n : Int) + 1) % (N : Int) = (m : Int) := by rw [← hm]; rfl
      have o4 : (m : Int) < N := by omega
      have o5 : ¬ (N : Int) = 0 := by omega
      have o6 : ¬ N = 0 := by omega
      have RW := Lib.hid (psl_row (HS.out.below bw.out (Nat.le_refl _)) (by have := HN.out; omega) : Prow wr g o ps)
      obtain ⟨q, hq⟩ : ∃ q, pt ps n = q := ⟨_, rfl⟩
      obtain ⟨t, ht⟩ : ∃ q, pt ps m = q := ⟨_, rfl⟩
      have HQ := Lib.hid hq
      have HT := Lib.hid ht
      have GW := Lib.hid hG
      obtain ⟨gl, cl, hl⟩ := hG.own.shape (by rw [strN_length]; omega)
      obtain ⟨LN, hLN⟩ : ∃ LN, (strN ps n).length = LN := ⟨_, rfl⟩
      rw [hLN] at hl
      subst hl
      have HLN := Lib.hid hLN
      have BN : Hid (LN + 3 ≤ 8796093022208) := Lib.hid (by rw [← hLN, strN_length]; omega)
      have ST : Hid (strN ps n ++ [q, t, t] = strN ps (n + 1)) := Lib.hid (by rw [← hq, ← ht, ← hm, ← HN.out]; rfl)
      have LNN : Hid (n < ps.length ∧ m < ps.length) := Lib.hid ⟨by have := HN.out; omega, by have := HN.out; omega⟩
      clear hm hq ht hG hLN
      go_upto_region 5 with fail
      refine wp_region_gen 15 [12, 13, 14] [] [0, 0, 0, 0, 0, 0, 0, 0, 0, 0, 0, 0, 1, 1, 1] (by kernel_rfl) (by kernel_rfl) (fun c a d v w h => by cases d <;> exact h) trivial (fun G w' => Vars wr.heap.size 29 zc2 [(12, 14, pCells q), (13, 15, pCells t)] G w') (fun G w w' h hb => h.stay hb) Vars.start ?_
      apply Exists.intro
      refine ⟨fun R hR hN => ?_, ?_, ?_⟩
      · have A0 := fun z => (RW.out.laterR (R := R) LNN.out.1 HQ.out z).1
        have A1 := fun z => (RW.out.laterR (R := R) LNN.out.1 HQ.out z).2
        have B0 := fun z => (RW.out.laterR (R := R) LNN.out.2 HT.out z).1
        have B1 := fun z => (RW.out.laterR (R := R) LNN.out.2 HT.out z).2
        simp only [quietL, takeA]
        repeat (go_big_quiet_step (fail))
        exact wpQuiet_nil rfl
      · intro i oo hi ho
        have hi' : i = 12 ∨ i = 13 ∨ i = 14 := by simpa using hi
        clear hi
        rcases hi' with rfl | rfl | rfl
        · cases ho
          intro G w' hG hGn hdep hb hR
          refine ⟨rfl, gives_none (by kernel_rfl) hGn ?_⟩
          unfold gives
          simp [go_sem]
          exact ⟨hb.alloc hb.size _, hR.alloc (i := 12) (s := 14) (cs := pCells q) rfl (by simp) (by intro y hy he; simp at hy; rcases hy with rfl | rfl <;> simp at he ⊢) hG hb.size⟩
        · cases ho
          intro G w' hG hGn hdep hb hR
          refine ⟨rfl, gives_none (by kernel_rfl) hGn ?_⟩
          unfold gives
          simp [go_sem]
          exact ⟨hb.alloc hb.size _, hR.alloc (i := 13) (s := 15) (cs := pCells t) rfl (by simp) (by intro y hy he; simp at hy; rcases hy with rfl | rfl <;> simp at he ⊢) hG hb.size⟩
        · cases ho
          intro G w' hG hGn hdep hb hR
          obtain ⟨v, hv⟩ := Option.ne_none_iff_exists'.1 (hdep 12 (by simp) (by kernel_rfl))
          obtain ⟨gx, rfl, hgx, hhx⟩ := hR.has (12, 14, pCells q) (by simp) v hv
          rw [if_pos hG] at hhx
          refine ⟨rfl, gives_one (k := 12) (by kernel_rfl) hGn (by omega) hv ?_⟩
          have cx0 := hhx.cell 0 _ rfl
          have cx1 := hhx.cell 1 _ rfl
          have fx := has_fro hhx
          unfold gives
          simp [go_sem, dstAt, Act.put, cx0, cx1, fx]
          exact ⟨(hb.setCell hgx _).setCell hgx _, hR.store (i := 12) (s := 14) (za := .int .i64 0) (zb := .int .i64 0) rfl rfl (by simp) (by intro y hy he; simp at hy; rcases hy with rfl | rfl <;> simp at he ⊢) hv hG⟩
      · intro G w3 hb3 hR hG hN
        obtain ⟨v0, e0⟩ := hG 12 (by simp)
        obtain ⟨v1, e1'⟩ := hG 13 (by simp)
        obtain ⟨s0, t0⟩ := hG 14 (by simp)
        obtain ⟨g0, rfl, l0, k0⟩ := hR.has (12, 14, pCells q) (by simp) v0 e0
        obtain ⟨g1, rfl, l1, k1⟩ := hR.has (13, 15, pCells t) (by simp) v1 e1'
        rw [if_neg (by simp [t0])] at k0
        rw [if_pos (hN 15 (by simp))] at k1
        have n01 : g0 ≠ g1 := fun e => hR.ne (12, 14, pCells q) (by simp) (13, 15, pCells t) (by simp) (by simp) _ e0 (by rw [e1', e])
        have nn : ∀ j, j < 12 → G j = none := fun j hj => hN j (by simp; omega)
        simp only [putV, dstAt, e0, e1', t0, nn 0 (by decide), nn 1 (by decide), nn 2 (by decide), nn 3 (by decide), nn 4 (by decide), nn 5 (by decide), nn 6 (by decide), nn 7 (by decide), nn 8 (by decide), nn 9 (by decide), nn 10 (by decide), nn 11 (by decide), List.drop_succ_cons, List.drop_zero, List.getElem?_cons_succ, List.getElem?_cons_zero, Option.bind_some]
        have c30 := k1.cell 0 _ rfl
        have c31 := k1.cell 1 _ rfl
        have f3 := has_fro k1
        obtain ⟨V2, hV2⟩ : ∃ V, (w3.setCell ⟨g1, 0, none⟩ (.int .i64 t.x)).setCell ⟨g1, 1, none⟩ (.int .i64 t.y) = V := ⟨_, rfl⟩
        have b2 : Below wr.heap.size wr V2 := by rw [← hV2]; exact hb3.trans (below_two l1 _ _)
        have kA : Has V2 g0 (pCells q) 29 := by rw [← hV2]; exact two_off k0 (Ne.symm n01) _ _
        have kB : Has V2 g1 (pCells t) 29 := by rw [← hV2]; exact two_set k1 _ _
        have G2 := Lib.hid (GW.out.later b2)
        have f1 := (GW.out.later b2).out.cell 1 _ rfl
        have a0 := kA.cell 0 _ rfl
        have a1 := kA.cell 1 _ rfl
        have b0 := kB.cell 0 _ rfl
        have b1 := kB.cell 1 _ rfl
        have HV2 := Lib.hid hV2
        clear k0 k1 kA kB b2 hb3 hV2 hR hG hN nn e0 e1' t0 n01 l0 l1
        obtain ⟨qx, qy⟩ := q
        obtain ⟨tx, ty⟩ := t
        try simp only at a0 a1 b0 b1
        go_upto_region 6 with fail
        rw [HV2.out]
        clear c30 c31 f3
        go_wp2_with (at_builtin; refine wpList_append_pl rfl _ _ rfl LN HLN.out rfl V2.heap.size 0 3 3 rfl [⟨qx, qy⟩, ⟨tx, ty⟩, ⟨tx, ty⟩] rfl (by decide) BN.out (prow_has (cs := #[.int .i64 qx, .int .i64 qy, .int .i64 tx, .int .i64 ty, .int .i64 tx, .int .i64 ty]) (by simp) (has_new rfl) rfl) (G2.out.alloc _).own (G2.out.alloc _).big ?_)
        intro g' cap' w4 ho hg hat
        have fi := (G2.out.alloc _).fine hg
        have f0 := fi.1
        have f2 := fi.2
        have G4 := Lib.hid ((G2.out.alloc _).put ho hg (hat.imp id (fun h => by simpa using h)))
        rw [ST.out] at G4
        clear ho hg hat fi f1 a0 a1 b0 b1
        go_wp2
        go_roundw
        case rel => exact ⟨n + 1, _, by omega, by go_num, G4.out⟩
        case measure => simp [intOf]; omega
    · obtain rfl : n = N := by omega
      have R := Lib.hid (hG.gives HB.out)
      have q0 := hG.out.cell 0 _ rfl
      have q1 := hG.out.cell 1 _ rfl
      have r0 := hG.res.cell 0 _ rfl
      have r1 := hG.res.cell 1 _ rfl
      have fz := has_fro hG.res
      have e1 : strN ps n = straightL ps := by unfold straightL; rw [HN.out]
      rw [e1] at R
      obtain ⟨ao, cp, rfl⟩ := hG.own.len
      have HL := Lib.hid (strN_length ps n)
      have o3 : (n : Int) ≤ n := by omega
      clear hG GH bw e1
      go_wp2
      refine bodyPost_ret (v := .agg #[.bool true, .slice ao (strN ps n).length cp]) (by simp [results, Tryz.results39, go_sem, r0, r1]) rfl ?_
      exact R.out

end Go.Proofs.YtglbfpjjnboeaaaGreat

namespace Go.Proofs.YtglbfpjjnboeaaaGreat
open Go Go.RowKit
open M

set_option maxRecDepth 100000 in
set_option maxHeartbeats 2000000 in
theorem rh_rect (x y : Int) (w : World) (wx : -9223372036854775808 ≤ x ∧ x ≤ 9223372036854775807) (wy : -9223372036854775808 ≤ y ∧ y ≤ 9223372036854775807) : Calls Tryz.prog 13 #[.int .i64 x, .int .i64 y] w (Gives w true (rectL x y)) := by
  obtain ⟨B, hB⟩ : ∃ B, w.heap.size = B := ⟨_, rfl⟩
  obtain ⟨W, hW⟩ : ∃ W, w.alloc (.cells #[.bool false, .slice none 0 0] 41) = W := ⟨_, rfl⟩
  have hr0 : Has W B #[.bool false, .slice none 0 0] 41 := by rw [← hW]; exact has_new hB
  have hb0 : Below B w W := by rw [← hW]; exact (Below.refl _ _).alloc (by omega) _
  have HR := Lib.hid hr0
  have HB := Lib.hid hB
  have HW := Lib.hid hW
  have HBW := Lib.hid hb0
  have SB : Hid (W.heap.size = B + 1) := Lib.hid (by rw [← HW.out]; simp [HB.out])
  have SZ : Hid (B ≤ W.heap.size) := Lib.hid (Nat.le_of_lt hr0.lt)
  have ER : Hid (rectL x y = straightL [⟨-(x / 2), -(y / 2)⟩, ⟨x - x / 2, -(y / 2)⟩, ⟨x - x / 2, y - y / 2⟩, ⟨-(x / 2), y - y / 2⟩]) := Lib.hid rfl
  obtain ⟨R, hR⟩ : ∃ R, rectL x y = R := ⟨_, rfl⟩
  rw [hR] at ER ⊢
  clear hr0 hb0 hW hR
  go_enter Tryz.func13, Tryz.ntmps13
  go_wp2_with fail
  rw [HW.out]
  clear hB
  obtain ⟨V, hV⟩ : ∃ V, W.alloc (.cells #[.int .i64 (-(x / 2)), .int .i64 (-(y / 2)), .int .i64 (x + -(x / 2)), .int .i64 (-(y / 2)), .int .i64 (x + -(x / 2)), .int .i64 (y + -(y / 2)), .int .i64 (-(x / 2)), .int .i64 (y + -(y / 2))] 29) = V := ⟨_, rfl⟩
  rw [show x - x / 2 = x + -(x / 2) by omega, show y - y / 2 = y + -(y / 2) by omega] at ER
  have PS : Psl V (.slice (some ⟨B + 1, 0, none⟩) 4 4) [⟨-(x / 2), -(y / 2)⟩, ⟨x + -(x / 2), -(y / 2)⟩, ⟨x + -(x / 2), y + -(y / 2)⟩, ⟨-(x / 2), y + -(y / 2)⟩] := by rw [← hV, ← SB.out]; exact psl_lit 4 4 rfl (by decide) (has_new rfl) rfl
  have QV : Below W.heap.size W V := by rw [← hV]; exact (Below.refl _ _).alloc (Nat.le_refl _) _
  have QW := Lib.hid QV
  rw [hV]
  have ST := rh_straight PS (by simp) (by simp)
  rw [← ER.out] at ST
  clear hV PS QV
  refine ST.mono ?_
  rintro e w5 ⟨v, rfl, ho, hq⟩
  obtain ⟨G, K⟩ := gives_tail (c := true) HB.out (HR.out.below QW.out HR.out.lt) (HBW.out.trans (QW.out.mono SZ.out)) ho hq
  have GG := Lib.hid G
  obtain ⟨ao, cp, rfl⟩ := ho.len
  obtain ⟨LN, hLN⟩ : ∃ n, R.length = n := ⟨_, rfl⟩
  rw [hLN] at GG ⊢
  have r0 := K.cell 0 _ rfl
  have r1 := K.cell 1 _ rfl
  have fz := has_fro K
  clear ST G K ho hq hLN
  go_wp2
  refine bodyPost_ret (v := .agg #[.bool true, .slice ao LN cp]) (by simp [results, Tryz.results13, go_sem, r0, r1]) rfl ?_
  exact GG.out

set_option maxRecDepth 100000 in
set_option maxHeartbeats 4000000 in
theorem rh_oval (x y : Int) (w : World) (wx : -9223372036854775808 ≤ x ∧ x ≤ 9223372036854775807) (wy : -9223372036854775808 ≤ y ∧ y ≤ 9223372036854775807) : Calls Tryz.prog 15 #[.int .i64 x, .int .i64 y] w (Gives w true (ovalL x y)) := by
  obtain ⟨B, hB⟩ : ∃ B, w.heap.size = B := ⟨_, rfl⟩
  obtain ⟨W, hW⟩ : ∃ W, w.alloc (.cells #[.bool false, .slice none 0 0] 41) = W := ⟨_, rfl⟩
  have hr0 : Has W B #[.bool false, .slice none 0 0] 41 := by rw [← hW]; exact has_new hB
  have hb0 : Below B w W := by rw [← hW]; exact (Below.refl _ _).alloc (by omega) _
  have HR := Lib.hid hr0
  have HB := Lib.hid hB
  have HW := Lib.hid hW
  have HBW := Lib.hid hb0
  have SZ : Hid (B ≤ W.heap.size) := Lib.hid (Nat.le_of_lt hr0.lt)
  obtain ⟨R, hR⟩ : ∃ R, ovalL x y = R := ⟨_, rfl⟩
  have ER : Hid (ovalN (x / 2) (y / 2) (mul (x / 2) 36195) (mul (y / 2) 36195) = R) := Lib.hid hR
  rw [hR]
  obtain ⟨a, ha⟩ : ∃ a, x / 2 = a := ⟨_, rfl⟩
  obtain ⟨b, hb⟩ : ∃ b, y / 2 = b := ⟨_, rfl⟩
  have a0 : -4611686018427387904 ≤ a ∧ a ≤ 4611686018427387903 := by omega
  have b0 : -4611686018427387904 ≤ b ∧ b ≤ 4611686018427387903 := by omega
  have M1 : Hid (∀ w : World, Calls Tryz.prog 41 #[.int .i64 a, .int .i64 36195] w (Drawn (.int .i64 (mul a 36195)) w)) := Lib.hid (fun w => r_mul a 36195 w)
  have M2 : Hid (∀ w : World, Calls Tryz.prog 41 #[.int .i64 b, .int .i64 36195] w (Drawn (.int .i64 (mul b 36195)) w)) := Lib.hid (fun w => r_mul b 36195 w)
  have k0 : -1099511627776 ≤ mul a 36195 ∧ mul a 36195 ≤ 1099511627776 := ⟨hold_lo _, hold_hi _⟩
  have l0 : -1099511627776 ≤ mul b 36195 ∧ mul b 36195 ≤ 1099511627776 := ⟨hold_lo _, hold_hi _⟩
  rw [ha, hb] at ER
  obtain ⟨k, hk⟩ : ∃ k, mul a 36195 = k := ⟨_, rfl⟩
  obtain ⟨l, hl⟩ : ∃ l, mul b 36195 = l := ⟨_, rfl⟩
  rw [hk] at M1 k0 ER
  rw [hl] at M2 l0 ER
  clear hr0 hb0 hW hR hk hl
  go_enter Tryz.func15, Tryz.ntmps15
  go_wp2_with fail
  rw [HW.out]
  clear hB
  clear ha hb wx wy
  refine (M1.out _).mono ?_
  rintro e w' ⟨rfl, n1, rfl⟩
  go_wp2_with fail
  refine (M2.out _).mono ?_
  rintro e w' ⟨rfl, n2, rfl⟩
  clear M1 M2
  obtain ⟨X, hX⟩ : ∃ X, (W.drewN n1).drewN n2 = X := ⟨_, rfl⟩
  have QX : Hid (Below W.heap.size W X) := Lib.hid (by rw [← hX]; exact below_drewN (below_drewN (Below.refl _ _) _) _)
  rw [hX]
  clear hX
  obtain ⟨V, hV⟩ : ∃ V, X.alloc (.cells #[.int .i64 a, .int .i64 0, .int .i64 a, .int .i64 l, .int .i64 k, .int .i64 b, .int .i64 0, .int .i64 b, .int .i64 (-k), .int .i64 b, .int .i64 (-a), .int .i64 l, .int .i64 (-a), .int .i64 0, .int .i64 (-a), .int .i64 (-l), .int .i64 (-k), .int .i64 (-b), .int .i64 0, .int .i64 (-b), .int .i64 k, .int .i64 (-b), .int .i64 a, .int .i64 (-l), .int .i64 a, .int .i64 0] 29) = V := ⟨_, rfl⟩
  have QV : Below W.heap.size W V := by rw [← hV]; exact QX.out.alloc QX.out.size _
  have K := HR.out.below QV HR.out.lt
  have PO : Pown V B (.slice (some ⟨X.heap.size, 0, none⟩) 13 13) R := by rw [← hV, ← ER.out]; exact pown_new (Nat.le_trans SZ.out QX.out.size) rfl (by decide) rfl
  have G := Lib.hid (gives_put (w := w) (r := B) (c := true) HB.out PO (fun e => by have e' : some X.heap.size = some B := e; simp at e'; have := HR.out.lt; have := QX.out.size; omega) (Nat.le_refl _) (HBW.out.trans (QV.mono SZ.out)) rfl (.bool true) _ rfl)
  have KX := HR.out.below QX.out HR.out.lt
  have r0 := fun o => (KX.alloc o).cell 0 _ rfl
  have r1 := fun o => (KX.alloc o).cell 1 _ rfl
  have fz := fun o j => has_fro (KX.alloc o) j
  rw [← hV] at G
  clear hV QV K PO QX KX
  go_wp2
  refine bodyPost_ret (v := .agg #[.bool true, .slice (some ⟨X.heap.size, 0, none⟩) 13 13]) (by simp [results, Tryz.results15, go_sem, r0, r1]) rfl ?_
  exact G.out

end Go.Proofs.YtglbfpjjnboeaaaGreat

namespace Go.Proofs.YtglbfpjjnboeaaaGreat
open Go Go.RowKit
open M

set_option maxRecDepth 100000 in
set_option maxHeartbeats 2000000 in
theorem rh_star (n r s : Int) (w : World) : Calls Tryz.prog 17 #[.int .i64 n, .int .i64 r, .int .i64 s] w (Gives w true (starL n r s)) := by
  obtain ⟨c, hc⟩ : ∃ c, points n = c := ⟨_, rfl⟩
  have c2 : 2 ≤ c ∧ c ≤ 16 := by rw [← hc]; unfold points clamp; split <;> (try split) <;> omega
  obtain ⟨C, rfl⟩ : ∃ C : Nat, c = (C : Int) := ⟨c.toNat, by omega⟩
  have ES : Hid (straightL (starN C r s (2 * C)) = starL n r s) := Lib.hid (by unfold starL; rw [hc, Int.toNat_natCast])
  obtain ⟨R, hR⟩ : ∃ R, starL n r s = R := ⟨_, rfl⟩
  rw [hR] at ES ⊢
  obtain ⟨B, hB⟩ : ∃ B, w.heap.size = B := ⟨_, rfl⟩
  obtain ⟨W, hW⟩ : ∃ W, w.alloc (.cells #[.bool false, .slice none 0 0] 41) = W := ⟨_, rfl⟩
  have hr0 : Has W B #[.bool false, .slice none 0 0] 41 := by rw [← hW]; exact has_new hB
  have hb0 : Below B w W := by rw [← hW]; exact (Below.refl _ _).alloc (by omega) _
  have HR := Lib.hid hr0
  have HB := Lib.hid hB
  have HW := Lib.hid hW
  have HBW := Lib.hid hb0
  have SZ : Hid (B ≤ W.heap.size) := Lib.hid (Nat.le_of_lt hr0.lt)
  have o1 : (2 : Int) ≤ C := c2.1
  have o2 : (C : Int) ≤ 16 := c2.2
  have o3 : ¬ (C : Int) = 0 := by omega
  have o4 : ¬ C = 0 := by omega
  have o5 : wrap64 (2 * (C : Int)) = 2 * (C : Int) := by unfold wrap64; omega
  have hc' := hc
  clear hr0 hb0 hW hR hc c2
  go_enter Tryz.func17, Tryz.ntmps17
  go_wp2_with fail
  have EM : max (min n 16) 2 = (C : Int) := by rw [← hc']; unfold points clamp; split <;> (try split) <;> omega
  rw [HW.out, EM]
  clear hB EM hc'
  go_loopw [7, 8] (fun lv i wr => ∃ (m : Nat), m ≤ 2 * C ∧ i = .int .i64 m ∧ Pown wr W.heap.size lv (starN C r s m) ∧ Below W.heap.size W wr) (fun _ i _ => 2 * C - (intOf i).toNat)
  case atStart => exact ⟨0, by omega, rfl, Pown.nil _ _, Below.refl _ _⟩
  case round =>
    obtain ⟨m, hm, rfl, ho, hb⟩ := hrel
    by_cases hlt : m < 2 * C
    · obtain ⟨A, hA, A0, A1⟩ : ∃ A, angle C m = A ∧ -5898240 ≤ A ∧ A ≤ 400000000 := ⟨_, rfl, angle_of o1 o2 (by omega)⟩
      have HA : Hid ((m : Int) * 11796480 / C - 5898240 = A) := Lib.hid hA
      have oA : (m : Int) * 180 * 65536 / C = A + 5898240 := by have := HA.out; rw [show (m : Int) * 180 * 65536 = m * 11796480 by omega]; omega
      have o6 : (m : Int) < 2 * C := by omega
      have o7 : (m : Int) ≤ 32 := by omega
      have o8 : 0 ≤ (m : Int) * 180 * 65536 := by omega
      have HO := Lib.hid ho
      have HQ := Lib.hid hb
      have NX := Lib.hid (starN_snoc C r s m)
      obtain ⟨p, hp⟩ : ∃ p, starP C r s m = p := ⟨_, rfl⟩
      rw [hp] at NX
      obtain ⟨f, hf⟩ : ∃ f, (if m % 2 = 1 then s else r) = f := ⟨_, rfl⟩
      have EP : Hid (p = ⟨mul f (cos A), mul f (sin A)⟩) := Lib.hid (by rw [← hp]; unfold starP; rw [hf, hA])
      obtain ⟨rs, hrs⟩ : ∃ rs, starN C r s m = rs := ⟨_, rfl⟩
      have HN : Hid (rs.length = m) := Lib.hid (by rw [← hrs, starN_length])
      rw [hrs] at HO NX
      obtain ⟨ca, hca⟩ : ∃ c, cos A = c := ⟨_, rfl⟩
      obtain ⟨sa, hsa⟩ : ∃ c, sin A = c := ⟨_, rfl⟩
      have TC : Hid (∀ w, Calls Tryz.prog 44 #[.int .i64 A] w fun e w' => e = .returned (.int .i64 ca) ∧ w = w') := Lib.hid (fun w => by have := r2_cos A w; rw [hca] at this; exact this)
      have TS : Hid (∀ w, Calls Tryz.prog 45 #[.int .i64 A] w fun e w' => e = .returned (.int .i64 sa) ∧ w = w') := Lib.hid (fun w => by have := r2_sin A w; rw [hsa] at this; exact this)
      rw [hca, hsa] at EP
      clear hca hsa
      have PR : Hid (∀ w : World, Prow (w.alloc (.cells #[.int .i64 (mul f ca), .int .i64 (mul f sa)] 29)) w.heap.size 0 [p]) := Lib.hid (fun w => by rw [EP.out]; exact prow_one ⟨mul f ca, mul f sa⟩ _)
      obtain ⟨aol, capl, el⟩ := ho.len
      rw [hrs, HN.out] at el
      clear hA hp hrs ho hb
      subst el
      rcases (show m % 2 = 0 ∨ m % 2 = 1 by omega) with hm2 | hm2
      all_goals
        first | rw [if_neg (by omega)] at hf | rw [if_pos hm2] at hf
        subst hf
        have om : (m : Int) % 2 = ((m % 2 : Nat) : Int) := by omega
        rw [hm2] at om
        clear hm2
        go_wp2_with fail
        refine (TC.out _).mono ?_
        rintro e w1 ⟨rfl, rfl⟩
        go_wp2_with fail
        refine (r_mul _ _ _).mono ?_
        rintro e w1 ⟨rfl, n2, rfl⟩
        go_wp2_with fail
        refine (TS.out _).mono ?_
        rintro e w1 ⟨rfl, rfl⟩
        go_wp2_with fail
        refine (r_mul _ _ _).mono ?_
        rintro e w1 ⟨rfl, n4, rfl⟩
        obtain ⟨w3, hw3⟩ : ∃ w3, (wr.drewN n2).drewN n4 = w3 := ⟨_, rfl⟩
        have Q3 := Lib.hid (show Below W.heap.size W w3 by rw [← hw3]; exact below_drewN (below_drewN HQ.out _) _)
        have O3 := Lib.hid (show Pown w3 W.heap.size _ rs by rw [← hw3]; exact HO.out.below (below_drewN (below_drewN (Below.refl _ _) _) _) (Nat.le_refl _))
        have hz3 : w3.heap.size = wr.heap.size := by rw [← hw3]; rfl
        rw [hw3]
        clear hw3
        clear hz3
        go_wp2_with (at_builtin; refine wpList_append_pl rfl _ _ rfl m HN.out rfl w3.heap.size 0 1 1 rfl [p] rfl (by decide) (by omega) (PR.out _) (O3.out.alloc _) (Nat.le_trans Q3.out.size (by simp)) ?_)
        intro g' cap' w4 ho4 hg4 _
        have B4 : Below W.heap.size W w4 := ((Q3.out.alloc Q3.out.size _).grown hg4 (by have := Q3.out.size; simp; omega) (fun k hk => (O3.out.base k hk).1))
        have HB4 := Lib.hid B4
        rw [← NX.out] at ho4
        have HO4 := Lib.hid ho4
        clear ho4 hg4 B4
        go_wp2
        go_roundw
        case rel => exact ⟨m + 1, by omega, by go_num, HO4.out, HB4.out⟩
        case measure => simp [intOf]; omega
    · obtain rfl : m = 2 * C := by omega
      have o6 : ((2 * C : Nat) : Int) = 2 * (C : Int) := by omega
      have HL : Hid ((starN C r s (2 * C)).length = 2 * C) := Lib.hid (starN_length _ _ _ _)
      have ST := rh_straight (ho.sl (by rw [HL.out]; omega)) (by rw [HL.out]; omega) (by rw [HL.out]; omega)
      rw [ES.out] at ST
      have HS := Lib.hid ST
      have HQ := Lib.hid hb
      obtain ⟨aol, capl, rfl⟩ := ho.len
      clear ho hb ST
      go_wp2_with fail
      refine HS.out.mono ?_
      rintro e w5 ⟨v, rfl, ho, hq⟩
      obtain ⟨G, K⟩ := gives_tail (c := true) HB.out (HR.out.below HQ.out HR.out.lt) (HBW.out.trans (HQ.out.mono SZ.out)) ho hq
      have GG := Lib.hid G
      obtain ⟨ao, cp, rfl⟩ := ho.len
      obtain ⟨LN, hLN⟩ : ∃ n, R.length = n := ⟨_, rfl⟩
      rw [hLN] at GG ⊢
      have r0 := K.cell 0 _ rfl
      have r1 := K.cell 1 _ rfl
      have fz := has_fro K
      clear G K ho hq hLN
      go_wp2
      refine bodyPost_ret (v := .agg #[.bool true, .slice ao LN cp]) (by simp [results, Tryz.results17, go_sem, r0, r1]) rfl ?_
      exact GG.out

end Go.Proofs.YtglbfpjjnboeaaaGreat

namespace Go.Proofs.YtglbfpjjnboeaaaGreat
open Go Go.RowKit
open M

/-- The path at the tick t, of Drawn as the document's own answer has it. -/
def shAtR (s : Shp) (t : Int) : List Pt :=
  if s.form = 0 then rectL (atk s.W t 0) (atk s.H t 0) else if s.form = 1 then ovalL (atk s.W t 0) (atk s.H t 0)
  else if s.form = 2 then starL s.n (atk s.W t 0) (atk s.H t 0) else if s.form = 3 then ratps s.P t else []

set_option maxRecDepth 100000 in
set_option maxHeartbeats 4000000 in
theorem rh_at {w : World} {s : Shp} (h : ShIn w s) (t : Int) (bW : -9223372036854775808 ≤ atk s.W t 0 ∧ atk s.W t 0 ≤ 9223372036854775807) (bH : -9223372036854775808 ≤ atk s.H t 0 ∧ atk s.H t 0 ≤ 9223372036854775807) :
    Calls Tryz.prog 19 #[.agg (shC s), .int .i64 t] w (Gives w (shCl s t) (shAtR s t)) := by
  obtain ⟨B, hB⟩ : ∃ B, w.heap.size = B := ⟨_, rfl⟩
  obtain ⟨W0, hW0⟩ : ∃ W, w.alloc (.cells (shC s) 34) = W := ⟨_, rfl⟩
  obtain ⟨hi0, hk0, hb0⟩ := h.start hB hW0
  obtain ⟨W, hW⟩ : ∃ W, W0.alloc (.cells #[.bool false, .slice none 0 0] 41) = W := ⟨_, rfl⟩
  have hz0 : W0.heap.size = B + 1 := by rw [← hW0]; simp [hB]
  have hbW : Below W0.heap.size W0 W := by rw [← hW]; exact (Below.refl _ _).alloc (Nat.le_refl _) _
  have hi := hi0.below hbW
  have hk := hk0.below hbW hk0.lt
  have hr : Has W (B + 1) #[.bool false, .slice none 0 0] 41 := by rw [← hW]; exact has_new hz0
  have hb : Below B w W := hb0.trans (hbW.mono (by omega))
  obtain ⟨vw, hvw⟩ : ∃ v, s.vW = v := ⟨_, rfl⟩
  obtain ⟨vh, hvh⟩ : ∃ v, s.vH = v := ⟨_, rfl⟩
  have HVW := Lib.hid hvw
  have HVH := Lib.hid hvh
  clear hvw hvh
  obtain ⟨x, hx⟩ : ∃ x, atk s.W t 0 = x := ⟨_, rfl⟩
  obtain ⟨y, hy⟩ : ∃ x, atk s.H t 0 = x := ⟨_, rfl⟩
  have C1 : Hid (∀ w', Below W.heap.size W w' → Calls Tryz.prog 48 #[vw, .int .i64 t, .int .i64 0] w' fun e w'' => e = .returned (.int .i64 x) ∧ Below w'.heap.size w' w'') := Lib.hid (fun w' h' => by rw [← hx, ← HVW.out]; exact r5_atk (hi.below h').W t 0)
  have C2 : Hid (∀ w', Below W.heap.size W w' → Calls Tryz.prog 48 #[vh, .int .i64 t, .int .i64 0] w' fun e w'' => e = .returned (.int .i64 y) ∧ Below w'.heap.size w' w'') := Lib.hid (fun w' h' => by rw [← hy, ← HVH.out]; exact r5_atk (hi.below h').H t 0)
  have C3 : Hid (∀ w', Below W.heap.size W w' → Calls Tryz.prog 49 #[s.vP, .int .i64 t] w' (Gives w' (atcl s.P t) (ratps s.P t))) := Lib.hid (fun w' h' => r8_at (hi.below h').P t)
  have A0 : Hid (s.form = 0 → shAtR s t = rectL x y ∧ shCl s t = true) := Lib.hid (fun e => by unfold shAtR shCl; rw [hx, hy, e]; exact ⟨rfl, rfl⟩)
  have A1 : Hid (s.form = 1 → shAtR s t = ovalL x y ∧ shCl s t = true) := Lib.hid (fun e => by unfold shAtR shCl; rw [hx, hy, e]; exact ⟨rfl, rfl⟩)
  have A2 : Hid (s.form = 2 → shAtR s t = starL s.n x y ∧ shCl s t = true) := Lib.hid (fun e => by unfold shAtR shCl; rw [hx, hy, e]; exact ⟨rfl, rfl⟩)
  have A3 : Hid (s.form = 3 → shAtR s t = ratps s.P t ∧ shCl s t = atcl s.P t) := Lib.hid (fun e => by unfold shAtR shCl; rw [e]; exact ⟨rfl, rfl⟩)
  have A4 : Hid (¬ s.form = 0 → ¬ s.form = 1 → ¬ s.form = 2 → ¬ s.form = 3 → shAtR s t = [] ∧ shCl s t = false) := Lib.hid (fun a b c d => by unfold shAtR shCl; rw [if_neg a, if_neg b, if_neg c, if_neg d, if_neg (by omega), if_neg d]; exact ⟨rfl, rfl⟩)
  rw [hx] at bW
  rw [hy] at bH
  have BW := Lib.hid bW
  have BH := Lib.hid bH
  have HBB := Lib.hid hB
  have HW0 := Lib.hid hW0
  have HW := Lib.hid hW
  have HR := Lib.hid hr
  have HBW := Lib.hid hb
  have R0 : Hid (Below W.heap.size W W) := Lib.hid (Below.refl _ _)
  have SZ : Hid (B ≤ W.heap.size) := Lib.hid (by have := hr.lt; omega)
  have HF := Lib.hid (show ∀ w', Below W.heap.size W w' → ∀ j u, (shC s)[j]? = some u → w'.cell? ⟨B, j, none⟩ = some u from fun w' h' j u hu => (hk.below h' hk.lt).cell j u hu)
  obtain ⟨R, hR⟩ : ∃ R, shAtR s t = R := ⟨_, rfl⟩
  obtain ⟨c, hc⟩ : ∃ c, shCl s t = c := ⟨_, rfl⟩
  rw [hR, hc] at A0 A1 A2 A3 A4
  rw [hR, hc]
  clear hi0 hk0 hb0 hW0 hW hbW hi hk hr hb hx hy hR hc h bW bH
  go_enter Tryz.func19, Tryz.ntmps19
  go_upto_region 1 with fail
  rw [HW0.out, HW.out]
  clear hB
  have A2 : ∀ z : Later W, z.to.cell? ⟨B, 2, none⟩ = some vw := fun z => by rw [← HVW.out]; exact HF.out z.to z.below 2 _ rfl
  have A3' : ∀ z : Later W, z.to.cell? ⟨B, 3, none⟩ = some vh := fun z => by rw [← HVH.out]; exact HF.out z.to z.below 3 _ rfl
  have DD1 := Lib.hid (fun (z : Later W) => C1.out z.to z.below)
  have DD2 := Lib.hid (fun (z : Later W) => C2.out z.to z.below)
  refine wp_region_class (C := fun w' => ∃ z : Later W, w' = z.to) (by kernel_rfl) (by kernel_rfl) ⟨⟨_, below_drew (Below.refl _ _)⟩, rfl⟩ ?_
  repeat (go_big_quiet_step (first | (go_at_call_of 48 vw; exact Later.calls (DD1.out _)) | (go_at_call_of 48 vh; exact Later.calls (DD2.out _))))
  refine wpQuiet_nil ?_
  rintro _ ⟨z, rfl⟩
  have R2 := Lib.hid z.below
  obtain ⟨w2, hw2⟩ : ∃ w2, z.to = w2 := ⟨_, rfl⟩
  rw [hw2] at R2 ⊢
  clear hw2 A2 A3' DD1 DD2
  have f0 := HF.out w2 R2.out 0 _ rfl
  by_cases e0 : s.form = 0
  · obtain ⟨rfl, rfl⟩ := A0.out e0
    clear A0 A1 A2 A3 A4
    go_wp2_with fail
    refine (rh_rect x y _ BW.out BH.out).mono ?_
    rintro e w9 ⟨v, rfl, ho, hq⟩
    have GG := Lib.hid (gives_put (w := w) (r := B + 1) (c := true) HBB.out (ho.lower (B' := B) (by have := SZ.out; have := R2.out.size; omega)) (fun e => by have := (ho.base _ e).1; have := HR.out.lt; have := R2.out.size; omega) (by omega) (HBW.out.trans ((R2.out.trans (hq.mono R2.out.size)).mono SZ.out)) rfl (.bool true) _ rfl)
    have K := HR.out.below (R2.out.trans (hq.mono R2.out.size)) HR.out.lt
    obtain ⟨ao, cp, rfl⟩ := ho.len
    obtain ⟨LN, hLN⟩ : ∃ n, (rectL x y).length = n := ⟨_, rfl⟩
    rw [hLN] at GG ⊢
    have r0 := K.cell 0 _ rfl
    have r1 := K.cell 1 _ rfl
    have fz := has_fro K
    clear K ho hq hLN
    go_wp2
    refine bodyPost_ret (v := .agg #[.bool true, .slice ao LN cp]) (by simp [results, Tryz.results19, go_sem, r0, r1]) rfl ?_
    exact GG.out
  by_cases e1 : s.form = 1
  · obtain ⟨rfl, rfl⟩ := A1.out e1
    clear A0 A1 A2 A3 A4
    go_wp2_with fail
    refine (rh_oval x y _ BW.out BH.out).mono ?_
    rintro e w9 ⟨v, rfl, ho, hq⟩
    have GG := Lib.hid (gives_put (w := w) (r := B + 1) (c := true) HBB.out (ho.lower (B' := B) (by have := SZ.out; have := R2.out.size; omega)) (fun e => by have := (ho.base _ e).1; have := HR.out.lt; have := R2.out.size; omega) (by omega) (HBW.out.trans ((R2.out.trans (hq.mono R2.out.size)).mono SZ.out)) rfl (.bool true) _ rfl)
    have K := HR.out.below (R2.out.trans (hq.mono R2.out.size)) HR.out.lt
    obtain ⟨ao, cp, rfl⟩ := ho.len
    obtain ⟨LN, hLN⟩ : ∃ n, (ovalL x y).length = n := ⟨_, rfl⟩
    rw [hLN] at GG ⊢
    have r0 := K.cell 0 _ rfl
    have r1 := K.cell 1 _ rfl
    have fz := has_fro K
    clear K ho hq hLN
    go_wp2
    refine bodyPost_ret (v := .agg #[.bool true, .slice ao LN cp]) (by simp [results, Tryz.results19, go_sem, r0, r1]) rfl ?_
    exact GG.out
  by_cases e2 : s.form = 2
  · obtain ⟨rfl, rfl⟩ := A2.out e2
    clear A0 A1 A2 A3 A4
    have f1 := HF.out w2 R2.out 1 _ rfl
    go_wp2_with fail
    refine (rh_star s.n x y _).mono ?_
    rintro e w9 ⟨v, rfl, ho, hq⟩
    have GG := Lib.hid (gives_put (w := w) (r := B + 1) (c := true) HBB.out (ho.lower (B' := B) (by have := SZ.out; have := R2.out.size; omega)) (fun e => by have := (ho.base _ e).1; have := HR.out.lt; have := R2.out.size; omega) (by omega) (HBW.out.trans ((R2.out.trans (hq.mono R2.out.size)).mono SZ.out)) rfl (.bool true) _ rfl)
    have K := HR.out.below (R2.out.trans (hq.mono R2.out.size)) HR.out.lt
    obtain ⟨ao, cp, rfl⟩ := ho.len
    obtain ⟨LN, hLN⟩ : ∃ n, (starL s.n x y).length = n := ⟨_, rfl⟩
    rw [hLN] at GG ⊢
    have r0 := K.cell 0 _ rfl
    have r1 := K.cell 1 _ rfl
    have fz := has_fro K
    clear K ho hq hLN
    go_wp2
    refine bodyPost_ret (v := .agg #[.bool true, .slice ao LN cp]) (by simp [results, Tryz.results19, go_sem, r0, r1]) rfl ?_
    exact GG.out
  by_cases e3 : s.form = 3
  · obtain ⟨rfl, rfl⟩ := A3.out e3
    clear A0 A1 A2 A3 A4
    have f4 := HF.out w2 R2.out 4 _ rfl
    go_wp2_with fail
    refine (C3.out _ R2.out).mono ?_
    rintro e w9 ⟨v, rfl, ho, hq⟩
    have GG := Lib.hid (gives_put (w := w) (r := B + 1) (c := (atcl s.P t)) HBB.out (ho.lower (B' := B) (by have := SZ.out; have := R2.out.size; omega)) (fun e => by have := (ho.base _ e).1; have := HR.out.lt; have := R2.out.size; omega) (by omega) (HBW.out.trans ((R2.out.trans (hq.mono R2.out.size)).mono SZ.out)) rfl (.bool (atcl s.P t)) _ rfl)
    have K := HR.out.below (R2.out.trans (hq.mono R2.out.size)) HR.out.lt
    obtain ⟨ao, cp, rfl⟩ := ho.len
    obtain ⟨LN, hLN⟩ : ∃ n, (ratps s.P t).length = n := ⟨_, rfl⟩
    rw [hLN] at GG ⊢
    have r0 := K.cell 0 _ rfl
    have r1 := K.cell 1 _ rfl
    have fz := has_fro K
    clear K ho hq hLN
    go_wp2
    refine bodyPost_ret (v := .agg #[.bool (atcl s.P t), .slice ao LN cp]) (by simp [results, Tryz.results19, go_sem, r0, r1]) rfl ?_
    exact GG.out
  obtain ⟨rfl, rfl⟩ := A4.out e0 e1 e2 e3
  clear A0 A1 A2 A3 A4
  have n0 : (s.form == 0) = false := by simp; omega
  have n1 : (s.form == 1) = false := by simp; omega
  have n2 : (s.form == 2) = false := by simp; omega
  have n3 : (s.form == 3) = false := by simp; omega
  have K := HR.out.below R2.out HR.out.lt
  have G := Lib.hid (gives_put (w := w) (r := B + 1) (c := false) HBB.out (Pown.nil w2 B) (by simp [Value.ownBlock]) (by omega) (HBW.out.trans (R2.out.mono SZ.out)) rfl (.bool false) _ rfl)
  have r0 := K.cell 0 _ rfl
  have r1 := K.cell 1 _ rfl
  have fz := has_fro K
  clear K
  go_wp2
  refine bodyPost_ret (v := .agg #[.bool false, .slice none 0 0]) (by simp [results, Tryz.results19, go_sem, r0, r1]) rfl ?_
  exact G.out

end Go.Proofs.YtglbfpjjnboeaaaGreat

namespace Go.Proofs.YtglbfpjjnboeaaaGreat
open Go Go.RowKit

section
variable {L : List Oper} {mk : List Nat} {o : Oper} {p : Nat} {G : Nat → Option Value} {e : Act}
/-- Operation o's guard is no made value. -/
def guardB (L : List Oper) (mk : List Nat) (o : Oper) : Bool := match o.guard with | none => true | some (g, _) => (match dstAt L g with | some d => mk.all fun j => dstAt L j != some d | none => true)
theorem wanted_put (h : guardB L mk o = true) (hGn : ∀ k, k ∉ mk → G k = none) (hw : Region.wanted o (yielded L.toArray e.tmps) = true) : Region.wanted o (yielded L.toArray (putV (dstAt L) G p e).tmps) = true := by
  unfold Region.wanted at hw ⊢
  unfold guardB at h
  cases hg : o.guard with
  | none => rfl
  | some gb =>
    obtain ⟨g, b⟩ := gb
    rw [hg] at h hw
    simp only at h hw ⊢
    have key : yielded L.toArray (putV (dstAt L) G p e).tmps g = yielded L.toArray e.tmps g := by
      unfold yielded
      have ed : (L.toArray[g]?).bind (·.dst) = dstAt L g := by unfold dstAt; simp
      rw [ed]
      cases hd : dstAt L g with
      | none => rfl
      | some d =>
        rw [hd] at h
        simp only at h
        have q : (putV (dstAt L) G p e).tmps[d]? = e.tmps[d]? := putV_at e p fun k hk hkn he => by
          have hkm : k ∈ mk := by
            apply Classical.byContradiction
            intro hn
            exact hkn (hGn k hn)
          have := List.all_eq_true.1 h k hkm
          rw [he] at this
          simp at this
        simp only [Option.bind_some, q]
    rw [key]
    exact hw
end

end Go.Proofs.YtglbfpjjnboeaaaGreat

namespace Go.Proofs.YtglbfpjjnboeaaaGreat
open Go Go.RowKit
open M

theorem star_length (n r s : Int) : (starL n r s).length ≤ 97 := by
  unfold starL
  rw [straightL_length, starN_length]
  have : points n ≤ 16 := by unfold points clamp; split <;> (try split) <;> omega
  omega
theorem same_self (c : Bool) (ps : List Pt) : ((c == c) && decide (ps = ps)) = true := by simp

set_option maxRecDepth 100000 in
set_option maxHeartbeats 4000000 in
theorem l13_forms (x y n : Int) (w : World) (wx : -9223372036854775808 ≤ x ∧ x ≤ 9223372036854775807) (wy : -9223372036854775808 ≤ y ∧ y ≤ 9223372036854775807) :
    Calls Tryz.prog 5 #[.int .i64 x, .int .i64 y, .int .i64 n] w fun e w' => e = .returned (.bool true) ∧ Below w.heap.size w w' := by
  have WX := Lib.hid wx
  have WY := Lib.hid wy
  clear wx wy
  go_enter Tryz.func5, Tryz.ntmps5
  go_wp2_with fail
  refine (sh_rect x y _ WX.out WY.out).mono ?_
  rintro e w1a ⟨v, rfl, ho, hq⟩
  have A1 := Lib.hid (ho.sl (by rw [rect_length]; decide))
  have B1 := Lib.hid (hq)
  obtain ⟨ao1, cp1, rfl⟩ := ho.len
  clear ho hq
  go_wp2_with fail
  refine (rh_rect x y _ WX.out WY.out).mono ?_
  rintro e w1b ⟨v, rfl, ho, hq⟩
  have A1b := Lib.hid (A1.out.below hq (Nat.le_refl _))
  have C1 := Lib.hid (ho.sl (by rw [rect_length]; decide))
  have B1b := Lib.hid (B1.out.trans (hq.mono B1.out.size))
  obtain ⟨ao1', cp1', rfl⟩ := ho.len
  clear ho hq A1 B1
  go_wp2_with fail
  refine (r8_same true true A1b.out C1.out).mono ?_
  rw [same_self]
  rintro e w1c ⟨rfl, hq⟩
  have R1 := Lib.hid (B1b.out.trans (hq.mono B1b.out.size))
  clear hq A1b C1 B1b
  go_wp2_with fail
  refine (sh_oval x y _ WX.out WY.out).mono ?_
  rintro e w2a ⟨v, rfl, ho, hq⟩
  have A2 := Lib.hid (ho.sl (by rw [oval_length]; decide))
  have B2 := Lib.hid (R1.out.trans (hq.mono R1.out.size))
  obtain ⟨ao2, cp2, rfl⟩ := ho.len
  clear ho hq
  go_wp2_with fail
  refine (rh_oval x y _ WX.out WY.out).mono ?_
  rintro e w2b ⟨v, rfl, ho, hq⟩
  have A2b := Lib.hid (A2.out.below hq (Nat.le_refl _))
  have C2 := Lib.hid (ho.sl (by rw [oval_length]; decide))
  have B2b := Lib.hid (B2.out.trans (hq.mono B2.out.size))
  obtain ⟨ao2', cp2', rfl⟩ := ho.len
  clear ho hq A2 B2
  go_wp2_with fail
  refine (r8_same true true A2b.out C2.out).mono ?_
  rw [same_self]
  rintro e w2c ⟨rfl, hq⟩
  have R2 := Lib.hid (B2b.out.trans (hq.mono B2b.out.size))
  clear hq A2b C2 B2b
  go_wp2_with fail
  refine (sh_star n x y _).mono ?_
  rintro e w3a ⟨v, rfl, ho, hq⟩
  have A3 := Lib.hid (ho.sl (by have := star_length n x y; omega))
  have B3 := Lib.hid (R2.out.trans (hq.mono R2.out.size))
  obtain ⟨ao3, cp3, rfl⟩ := ho.len
  clear ho hq
  go_wp2_with fail
  refine (rh_star n x y _).mono ?_
  rintro e w3b ⟨v, rfl, ho, hq⟩
  have A3b := Lib.hid (A3.out.below hq (Nat.le_refl _))
  have C3 := Lib.hid (ho.sl (by have := star_length n x y; omega))
  have B3b := Lib.hid (B3.out.trans (hq.mono B3.out.size))
  obtain ⟨ao3', cp3', rfl⟩ := ho.len
  clear ho hq A3 B3
  go_wp2_with fail
  refine (r8_same true true A3b.out C3.out).mono ?_
  rw [same_self]
  rintro e w3c ⟨rfl, hq⟩
  have R3 := Lib.hid (B3b.out.trans (hq.mono B3b.out.size))
  clear hq A3b C3 B3b
  go_wp2
  go_ret
  exact ⟨rfl, R3.out⟩

theorem quiet_load_row {P : Program} {C : World → Prop} {o : Oper} {a : Act} {K : Act → Prop} {t : TypeId} (ty : TypeId) (x : Operand) (ho : o.op = .load ty x) (g : Nat) (hx : a.eval x = .pointer (some ⟨g, 0, none⟩)) (cs : Array Value) (hC : ∀ w, C w → Has w g cs t)
    {d : TypeDesc} (hu : P.underlying ty = some d) (hd : (match d with | .struct _ | .array _ _ => true | _ => false) = true) (hi : (P.info? ty).map (·.size) = some cs.size) (hk : K (a.put o.dst (.agg cs))) : o.quiet P a C K :=
  ⟨.agg cs, fun w hw => by
    unfold Oper.quietAt execOp
    simp only [ho, hx, Instr.loadAt, Instr.sureAddr, Sem.run_bind, Sem.run_pure, Result.andThen_ok, run_loadVar_row w g t ty cs (0, 0) d (hC w hw) hu hd hi]
    exact ⟨rfl, rfl⟩, hk⟩
/-- The value v is a path of these places, which lie in memory. -/
def PaO (c : Bool) (ps : List Pt) (v : Value) (w : World) : Prop := ∃ l, v = .agg #[.bool c, l] ∧ Psl w l ps
theorem PaO.stay {c : Bool} {ps : List Pt} {v : Value} {w w' : World} (h : PaO c ps v w) (hb : Below w.heap.size w w') : PaO c ps v w' := by
  obtain ⟨l, e, k⟩ := h
  exact ⟨l, e, k.below hb (Nat.le_refl _)⟩

set_option maxRecDepth 100000 in
set_option maxHeartbeats 4000000 in
theorem l13_same {w : World} {s : Shp} (h : ShIn w s) (t : Int) (bW : -9223372036854775808 ≤ atk s.W t 0 ∧ atk s.W t 0 ≤ 9223372036854775807) (bH : -9223372036854775808 ≤ atk s.H t 0 ∧ atk s.H t 0 ≤ 9223372036854775807)
    (he : shAtR s t = shAt s t) (hf : (shAt s t).length ≤ 8796093022208) :
    Calls Tryz.prog 6 #[.agg (shC s), .int .i64 t] w fun e w' => e = .returned (.bool true) ∧ Below w.heap.size w w' := by
  obtain ⟨B, hB⟩ : ∃ B, w.heap.size = B := ⟨_, rfl⟩
  obtain ⟨W, hW⟩ : ∃ W, w.alloc (.cells (shC s) 34) = W := ⟨_, rfl⟩
  obtain ⟨hi, hk, hb⟩ := h.start hB hW
  have HBB := Lib.hid hB
  have HW := Lib.hid hW
  obtain ⟨x, hx⟩ : ∃ x, okS s = x := ⟨_, rfl⟩
  obtain ⟨ps, hps⟩ : ∃ x, shAt s t = x := ⟨_, rfl⟩
  obtain ⟨c, hc⟩ : ∃ x, shCl s t = x := ⟨_, rfl⟩
  have C1 : Hid (∀ w', Below W.heap.size W w' → Calls Tryz.prog 9 #[.agg (shC s)] w' fun e w'' => e = .returned (.bool x) ∧ Below w'.heap.size w' w'') := Lib.hid (fun w' h' => by rw [← hx]; exact sh_right (hi.below h'))
  have C2 : Hid (∀ w', Below W.heap.size W w' → Calls Tryz.prog 10 #[.agg (shC s)] w' fun e w'' => e = .returned (.bool x) ∧ Below w'.heap.size w' w'') := Lib.hid (fun w' h' => by rw [← hx]; exact rh_right (hi.below h'))
  have C3 : Hid (∀ w', Below W.heap.size W w' → Calls Tryz.prog 18 #[.agg (shC s), .int .i64 t] w' (Gives w' c ps)) := Lib.hid (fun w' h' => by rw [← hc, ← hps]; exact sh_at (hi.below h') t bW bH)
  have C4 : Hid (∀ w', Below W.heap.size W w' → Calls Tryz.prog 19 #[.agg (shC s), .int .i64 t] w' (Gives w' c ps)) := Lib.hid (fun w' h' => by rw [← hc, ← hps, ← he]; exact rh_at (hi.below h') t bW bH)
  rw [hps] at hf
  have HFF := Lib.hid hf
  have R0 : Hid (Below W.heap.size W W) := Lib.hid (Below.refl _ _)
  have FIN := Lib.hid (show ∀ w', Below W.heap.size W w' → Below w.heap.size w w' from fun w' h' => by rw [hB]; exact hb.trans (h'.mono (by have := hk.lt; omega)))
  have HG := Lib.hid (show ∀ w', Below W.heap.size W w' → Has w' B (shC s) 34 from fun w' h' => hk.below h' hk.lt)
  clear hi hk hb hW hx hps hc he bW bH hf h
  have ex : (x == x) = true := by simp
  go_enter Tryz.func6, Tryz.ntmps6
  go_upto_region 1 with fail
  rw [HW.out]
  clear hB
  refine wp_region_gen 12 [8, 11] [] [0, 0, 0, 0, 0, 0, 0, 0, 1, 0, 0, 1] (by kernel_rfl) (by kernel_rfl) (fun c a d v w h => by cases d <;> exact h) trivial (fun G w' => (∀ v, G 8 = some v → PaO c ps v w') ∧ (∀ v, G 11 = some v → PaO c ps v w')) (fun G w w' h hb => ⟨fun v hv => (h.1 v hv).stay hb, fun v hv => (h.2 v hv).stay hb⟩) ⟨fun v hv => (by cases hv), fun v hv => (by cases hv)⟩ ?_
  apply Exists.intro
  refine ⟨fun R hR hN => ?_, ?_, ?_⟩
  · have HCC := Lib.hid (show ∀ w', Cls W R w' → Has w' B (shC s) 34 from fun w' h => by obtain ⟨z, rfl⟩ := h; exact HG.out _ z.below)
    simp only [quietL, takeA]
    (refine BigFrame.wpQuiet_want (by rfl) (fun K hK => quiet_load_row 34 _ rfl B rfl _ HCC.out Tryz.underlying34 rfl (by kernel_rfl) (hK _ ?_)); go_simp)
    go_big_quiet_step (first | (go_at_call 9; exact LaterR.calls hR (C1.out _ (LaterR.below _))) | (go_at_call 10; exact LaterR.calls hR (C2.out _ (LaterR.below _))))
    (refine BigFrame.wpQuiet_want (by rfl) (fun K hK => quiet_load_row 34 _ rfl B rfl _ HCC.out Tryz.underlying34 rfl (by kernel_rfl) (hK _ ?_)); go_simp)
    go_big_quiet_step (first | (go_at_call 9; exact LaterR.calls hR (C1.out _ (LaterR.below _))) | (go_at_call 10; exact LaterR.calls hR (C2.out _ (LaterR.below _))))
    go_big_quiet_step (first | (go_at_call 9; exact LaterR.calls hR (C1.out _ (LaterR.below _))) | (go_at_call 10; exact LaterR.calls hR (C2.out _ (LaterR.below _))))
    go_big_quiet_step (first | (go_at_call 9; exact LaterR.calls hR (C1.out _ (LaterR.below _))) | (go_at_call 10; exact LaterR.calls hR (C2.out _ (LaterR.below _))))
    (refine BigFrame.wpQuiet_want (by rfl) (fun K hK => quiet_load_row 34 _ rfl B rfl _ HCC.out Tryz.underlying34 rfl (by kernel_rfl) (hK _ ?_)); go_simp)
    go_big_quiet_step (first | (go_at_call 9; exact LaterR.calls hR (C1.out _ (LaterR.below _))) | (go_at_call 10; exact LaterR.calls hR (C2.out _ (LaterR.below _))))
    (refine BigFrame.wpQuiet_want (by rfl) (fun K hK => quiet_load_row 34 _ rfl B rfl _ HCC.out Tryz.underlying34 rfl (by kernel_rfl) (hK _ ?_)); go_simp)
    go_big_quiet_step (first | (go_at_call 9; exact LaterR.calls hR (C1.out _ (LaterR.below _))) | (go_at_call 10; exact LaterR.calls hR (C2.out _ (LaterR.below _))))
    exact wpQuiet_nil rfl
  · intro i oo hi ho
    have hi' : i = 8 ∨ i = 11 := by simpa using hi
    clear hi
    rcases hi' with rfl | rfl
    · cases ho
      intro G w' hG hGn hdep hb hR
      refine ⟨wanted_put (by kernel_rfl) hGn rfl, gives_none (by kernel_rfl) hGn ?_⟩
      unfold gives
      simp [go_sem]
      refine (C3.out w' hb).mono ?_
      rintro r w'' ⟨l, rfl, hol, hbb⟩
      refine ⟨_, rfl, hb.trans (hbb.mono hb.size), fun v hv => ?_, fun v hv => ?_⟩
      · rw [updV_eq] at hv; cases hv; exact ⟨l, rfl, hol.sl HFF.out⟩
      · rw [updV_ne G _ (by omega)] at hv; exact (hR.2 v hv).stay hbb
    · cases ho
      intro G w' hG hGn hdep hb hR
      refine ⟨wanted_put (by kernel_rfl) hGn rfl, gives_none (by kernel_rfl) hGn ?_⟩
      unfold gives
      simp [go_sem]
      refine (C4.out w' hb).mono ?_
      rintro r w'' ⟨l, rfl, hol, hbb⟩
      refine ⟨_, rfl, hb.trans (hbb.mono hb.size), fun v hv => ?_, fun v hv => ?_⟩
      · rw [updV_ne G _ (by omega)] at hv; exact (hR.1 v hv).stay hbb
      · rw [updV_eq] at hv; cases hv; exact ⟨l, rfl, hol.sl HFF.out⟩
  · intro G w3 hb3 hR hG hN
    obtain ⟨v8, e8⟩ := hG 8 (by simp)
    obtain ⟨v11, e11⟩ := hG 11 (by simp)
    obtain ⟨l1, rfl, ya⟩ := hR.1 v8 e8
    obtain ⟨l2, rfl, yb⟩ := hR.2 v11 e11
    have nn : ∀ j, j < 8 → G j = none := fun j hj => hN j (by simp; omega)
    have SA := Lib.hid ya
    have SB := Lib.hid yb
    have BB := Lib.hid hb3
    obtain ⟨aoa, capa, rfl, _⟩ := ya
    obtain ⟨aob, capb, rfl, _⟩ := yb
    simp only [putV, dstAt, e8, e11, nn 0 (by decide), nn 1 (by decide), nn 2 (by decide), nn 3 (by decide), nn 4 (by decide), nn 5 (by decide), nn 6 (by decide), nn 7 (by decide), hN 9 (by simp), hN 10 (by simp), List.drop_succ_cons, List.drop_zero, List.getElem?_cons_succ, List.getElem?_cons_zero, Option.bind_some]
    clear hb3 hR hG hN nn e8 e11
    go_wp2_with fail
    refine (r8_same c c SA.out SB.out).mono ?_
    rw [same_self]
    rintro e w4 ⟨rfl, hq4⟩
    have B4 := Lib.hid (BB.out.trans (hq4.mono BB.out.size))
    clear hq4
    go_wp2
    go_ret
    exact ⟨rfl, FIN.out _ B4.out⟩

end Go.Proofs.YtglbfpjjnboeaaaGreat

namespace Go.Proofs.YtglbfpjjnboeaaaGreat
open Go.RowKit
open M

/-- Keys of colours that rise, within the bounds of 'rising', all of them at most at the tick A. -/
structure Crise (rs : List Ck) (A : Int) : Prop where
  few : rs.length ≤ 40
  top : A ≤ 8 * rs.length - 5
  bot : -5 ≤ A
  ok : ∀ i, i < rs.length → (ck rs i).p.Ok
  tick : ∀ i, i < rs.length → -5 < (ck rs i).t ∧ (ck rs i).t ≤ A
  how : ∀ i, i < rs.length → 0 ≤ (ck rs i).h ∧ (ck rs i).h ≤ 2
  plain : ∀ i, i < rs.length → (ck rs i).h ≠ 2 → (ck rs i).a = 0 ∧ (ck rs i).b = 0 ∧ (ck rs i).c = 0 ∧ (ck rs i).d = 0
  up : ∀ i, i + 1 < rs.length → (ck rs i).t < (ck rs (i + 1)).t
theorem Crise.nil : Crise [] (-5) := ⟨by simp, by simp, by decide, by simp, by simp, by simp, by simp, by simp⟩
theorem Crise.snoc {rs : List Ck} {A : Int} (h : Crise rs A) {k : Ck} (hl : rs.length < 40) (hk : k.p.Ok) (h1 : A + 1 ≤ k.t) (h2 : k.t ≤ A + 8) (a1 : 0 ≤ k.h) (a2 : k.h ≤ 2) (a3 : k.h ≠ 2 → k.a = 0 ∧ k.b = 0 ∧ k.c = 0 ∧ k.d = 0) : Crise (rs ++ [k]) k.t := by
  have hb := h.bot
  have ht := h.top
  refine ⟨by simp; omega, by simp; omega, by omega, ?_, ?_, ?_, ?_, ?_⟩
  · intro i hi
    simp at hi
    by_cases e : i < rs.length
    · rw [ck_left e]; exact h.ok i e
    · obtain rfl : i = rs.length := by omega
      rw [ck_last]; exact hk
  · intro i hi
    simp at hi
    by_cases e : i < rs.length
    · rw [ck_left e]; have := h.tick i e; omega
    · obtain rfl : i = rs.length := by omega
      rw [ck_last]; omega
  · intro i hi
    simp at hi
    by_cases e : i < rs.length
    · rw [ck_left e]; exact h.how i e
    · obtain rfl : i = rs.length := by omega
      rw [ck_last]; omega
  · intro i hi
    simp at hi
    by_cases e : i < rs.length
    · rw [ck_left e]; exact h.plain i e
    · obtain rfl : i = rs.length := by omega
      rw [ck_last]; exact a3
  · intro i hi
    simp at hi
    by_cases e : i + 1 < rs.length
    · rw [ck_left e, ck_left (by omega)]; exact h.up i e
    · have e2 : i + 1 = rs.length := by omega
      rw [ck_left (by omega), e2, ck_last]
      have := (h.tick i (by omega)).2
      omega
def Crisen (w : World) (n : Nat) (e : Ending) (w' : World) : Prop := ∃ (v : Value) (rs : List Ck) (A : Int), e = .returned v ∧ rs.length = n ∧ Crise rs A ∧ Cown w' w.heap.size v rs ∧ Below w.heap.size w w'
theorem crise_step {B : Nat} {w wr w2 : World} {v v' : Value} {rs : List Ck} {k : Ck} {A : Int} {o1 o2 : Obj} {n : Nat} (hl : rs.length = n) (hn : n < 40) (hrise : Crise rs A) (hsz : B ≤ wr.heap.size) (hown : Cown wr B v rs) (hb : Below B w wr)
    (hk : k.p.Ok) (h1 : A + 1 ≤ k.t) (h2 : k.t ≤ A + 8) (a1 : 0 ≤ k.h) (a2 : k.h ≤ 2) (a3 : k.h ≠ 2 → k.a = 0 ∧ k.b = 0 ∧ k.c = 0 ∧ k.d = 0)
    (hown' : w2.ownsRow B 45 10 v' (rs.length + 1) (cls rs ++ cl k)) (hg : ((wr.alloc o1).alloc o2).grownBy w2 v.ownBlock) :
    (rs ++ [k]).length = n + 1 ∧ Crise (rs ++ [k]) k.t ∧ Cown w2 B v' (rs ++ [k]) ∧ Below B w w2 := by
  refine ⟨by simp [hl], hrise.snoc (by omega) hk h1 h2 a1 a2 a3, Cown.snoc hown', ?_⟩
  exact ((hb.alloc hsz o1).alloc (by simp; omega) o2).grown hg (by simp; omega) (fun j hj => (World.ownsRow.lt hown j hj).1)

/-- A slice of colour keys that came in: none, or as many as its length says, of which the first forty are these. -/
def Carg (w : World) (v : Value) (ks : List Ck) : Prop := (ks = [] ∧ ∃ ao cap, v = .slice ao 0 cap) ∨ ∃ g o len cap, v = .slice (some ⟨g, o, none⟩) len cap ∧ 0 < len ∧ len ≤ cap ∧ cap ≤ 9223372036854775807 ∧ ks.length = min len 40 ∧ Crow w g o ks
theorem Carg.below {w w' : World} {v : Value} {ks : List Ck} (h : Carg w v ks) (hb : Below w.heap.size w w') : Carg w' v ks := by
  rcases h with h | ⟨g, o, len, cap, hv, h0, h1, h2, hn, hr⟩
  · exact Or.inl h
  · exact Or.inr ⟨g, o, len, cap, hv, h0, h1, h2, hn, hr.below hb (hr.lt (by omega))⟩

end Go.Proofs.YtglbfpjjnboeaaaGreat

namespace Go.Proofs.YtglbfpjjnboeaaaGreat
open Go.RowKit Go.ChangeShapes Go.WideShapes Go.Deep
open M

section
variable {H : Type} {enc : TypeId × Value → H} {w : World} {base : Nat} {spare : Nat → Bool} {held : Bool}
theorem cells_i64 : Tryz.prog.cellsOf 2 = 1 := by kernel_rfl
theorem cells_int : Tryz.prog.cellsOf 3 = 1 := by kernel_rfl
theorem cells_ease : Tryz.prog.cellsOf 36 = 4 := by kernel_rfl
theorem cells_key : Tryz.prog.cellsOf 38 = 7 := by kernel_rfl

theorem some_at {α : Type} {xs : List α} {i n : Nat} (h : xs.length = n) (hi : i < n) : ∃ x, xs[i]? = some x := ⟨_, List.getElem?_eq_getElem (by omega)⟩
theorem int_one {t : TypeId} {n : Nat} {c : Value} {x : Option (DataW H × List MemPlace)} (ht : Tryz.prog.underlying t = some (.int .i64)) (h : DataW.trod enc Tryz.prog w base spare held n t [c] = x) (hx : ∃ y, x = some y) : ∃ k : Int, c = .int .i64 k := by
  obtain ⟨y, rfl⟩ := hx
  obtain ⟨k, hk, _⟩ := DataW.trod_int ht h
  exact ⟨k, by simpa using hk⟩
set_option maxRecDepth 100000 in
theorem ease_cells {n : Nat} {c0 c1 c2 c3 : Value} {x : Option (DataW H × List MemPlace)} (h : DataW.trod enc Tryz.prog w base spare held n 36 [c0, c1, c2, c3] = x) (hx : ∃ y, x = some y) : ∃ a b c d : Int, c0 = .int .i64 a ∧ c1 = .int .i64 b ∧ c2 = .int .i64 c ∧ c3 = .int .i64 d := by
  obtain ⟨y, rfl⟩ := hx
  obtain ⟨xs, m, _, _, _, hxl, hf⟩ := DataW.trod_struct Tryz.underlying36 h
  have f0 : DataW.trod enc Tryz.prog w base spare held m 2 (([c0, c1, c2, c3].drop 0).take (Tryz.prog.cellsOf 2)) = xs[0]? := hf 0 _ rfl
  have f1 : DataW.trod enc Tryz.prog w base spare held m 2 (([c0, c1, c2, c3].drop 1).take (Tryz.prog.cellsOf 2)) = xs[1]? := hf 1 _ rfl
  have f2 : DataW.trod enc Tryz.prog w base spare held m 2 (([c0, c1, c2, c3].drop 2).take (Tryz.prog.cellsOf 2)) = xs[2]? := hf 2 _ rfl
  have f3 : DataW.trod enc Tryz.prog w base spare held m 2 (([c0, c1, c2, c3].drop 3).take (Tryz.prog.cellsOf 2)) = xs[3]? := hf 3 _ rfl
  rw [cells_i64] at f0 f1 f2 f3
  obtain ⟨a, rfl⟩ := int_one Tryz.underlying2 f0 (some_at hxl (by decide))
  obtain ⟨b, rfl⟩ := int_one Tryz.underlying2 f1 (some_at hxl (by decide))
  obtain ⟨c, rfl⟩ := int_one Tryz.underlying2 f2 (some_at hxl (by decide))
  obtain ⟨d, rfl⟩ := int_one Tryz.underlying2 f3 (some_at hxl (by decide))
  exact ⟨a, b, c, d, rfl, rfl, rfl, rfl⟩
set_option maxRecDepth 100000 in
theorem key_cells {n : Nat} {cs : List Value} {x : DataW H × List MemPlace} (h : DataW.trod enc Tryz.prog w base spare held n 38 cs = some x) : ∃ k : Ky, cs = kl k := by
  obtain ⟨xs, m, _, _, hlen, hxl, hf⟩ := DataW.trod_struct Tryz.underlying38 h
  rw [cells_key] at hlen
  match cs, hlen with
  | [c0, c1, c2, c3, c4, c5, c6], _ =>
    have f0 : DataW.trod enc Tryz.prog w base spare held m 2 (([c0, c1, c2, c3, c4, c5, c6].drop 0).take (Tryz.prog.cellsOf 2)) = xs[0]? := hf 0 _ rfl
    have f1 : DataW.trod enc Tryz.prog w base spare held m 2 (([c0, c1, c2, c3, c4, c5, c6].drop 1).take (Tryz.prog.cellsOf 2)) = xs[1]? := hf 1 _ rfl
    have f2 : DataW.trod enc Tryz.prog w base spare held m 3 (([c0, c1, c2, c3, c4, c5, c6].drop 2).take (Tryz.prog.cellsOf 3)) = xs[2]? := hf 2 _ rfl
    have f3 : DataW.trod enc Tryz.prog w base spare held m 36 (([c0, c1, c2, c3, c4, c5, c6].drop 3).take (Tryz.prog.cellsOf 36)) = xs[3]? := hf 3 _ rfl
    rw [cells_i64] at f0 f1
    rw [cells_int] at f2
    rw [cells_ease] at f3
    obtain ⟨t, rfl⟩ := int_one Tryz.underlying2 f0 (some_at hxl (by decide))
    obtain ⟨v, rfl⟩ := int_one Tryz.underlying2 f1 (some_at hxl (by decide))
    obtain ⟨k, rfl⟩ := int_one Tryz.underlying3 f2 (some_at hxl (by decide))
    obtain ⟨a, b, c, d, rfl, rfl, rfl, rfl⟩ := ease_cells f3 (some_at hxl (by decide))
    exact ⟨⟨t, v, k, a, b, c, d⟩, rfl⟩

set_option maxRecDepth 100000 in
theorem open_keys {r : Reach} {b0 : Nat} {v : Value} {d : DataW H} {p : List MemPlace} (hv : Value.okWide Tryz.prog w r b0 24 v) (h : DataW.Trod enc Tryz.prog w base (fun _ => true) held 24 v d p) : ∃ ks, Arg w v ks := by
  obtain ⟨a0, len0, cap0, rfl⟩ := okWide_slice Tryz.underlying24 hv
  obtain ⟨fuel, hf⟩ := h
  rcases open_slice Tryz.underlying24 hf with ⟨hc, _⟩ | ⟨a, len, cap, m, n, D, Pl, hc, _, hl, hm, hmm, _, hi⟩
  · simp [Value.cells] at hc
    obtain ⟨rfl, rfl, rfl⟩ := hc
    exact ⟨[], Or.inl ⟨rfl, _, _, rfl⟩⟩
  · simp [Value.cells] at hc
    obtain ⟨rfl, rfl, rfl⟩ := hc
    rw [if_pos rfl] at hmm
    subst hmm
    by_cases h0 : len0 = 0
    · subst h0
      exact ⟨[], Or.inl ⟨rfl, _, _, rfl⟩⟩
    · have key : ∀ i, i < len0 → ∃ k : Ky, ∀ j u, (kl k)[j]? = some u → w.cell? (a.add (i * 7 + j)) = some u := by
        intro i hil
        obtain ⟨cs', hcs, ht⟩ := hi i (by omega)
        obtain ⟨k, rfl⟩ := key_cells ht
        rw [cells_key] at hcs
        obtain ⟨_, hcl, hat⟩ := World.cells?_some hcs
        refine ⟨k, fun j u hu => ?_⟩
        have hj : j < 7 := by
          have := (List.getElem?_eq_some_iff.1 hu).1
          simpa [kl] using this
        rw [← Go.Deep.add_add, hat j hj, hu]
      obtain ⟨f, hf'⟩ := choose_lt key
      have hspot : a.spot = none := by
        have := hf' 0 (by omega) 0 _ rfl
        simpa [Addr.add] using World.cell?_spot this
      obtain ⟨g, o, sp⟩ := a
      simp only at hspot
      subst hspot
      refine ⟨(List.range (min len0 40)).map f, Or.inr ⟨g, o, len0, _, rfl, by omega, hl, hm, by simp, ?_⟩⟩
      refine row_of (by simp; omega) fun j u hu => ?_
      have hj : j < min len0 40 * 7 := by
        have := (List.getElem?_eq_some_iff.1 hu).1
        rw [kls_length] at this
        simpa using this
      have e1 : j = j / 7 * 7 + j % 7 := by omega
      rw [e1] at hu ⊢
      rw [kls_at (by simp; omega) (by omega)] at hu
      have e2 : ky ((List.range (min len0 40)).map f) (j / 7) = f (j / 7) := by
        unfold ky
        rw [List.getD_eq_getElem?_getD, List.getElem?_map, List.getElem?_range (by omega)]
        rfl
      rw [e2] at hu
      have := hf' (j / 7) (by omega) (j % 7) u hu
      rwa [Addr.add_lit] at this
end

end Go.Proofs.YtglbfpjjnboeaaaGreat

namespace Go.Proofs.YtglbfpjjnboeaaaGreat
open Go.RowKit Go.ChangeShapes Go.WideShapes Go.Deep
open M

section
variable {H : Type} {enc : TypeId × Value → H} {w : World} {base : Nat} {spare : Nat → Bool} {held : Bool}
theorem cells_u8 : Tryz.prog.cellsOf 5 = 1 := by kernel_rfl
theorem cells_color : Tryz.prog.cellsOf 27 = 4 := by kernel_rfl
theorem cells_ck : Tryz.prog.cellsOf 45 = 10 := by kernel_rfl
theorem byte_bd {n : Int} (h : (Lit.int .u8 n).wf = true) : 0 ≤ n ∧ n ≤ 255 := by
  simp [Lit.wf, IntKind.min, IntKind.max, IntKind.signed, IntKind.bits] at h
  omega
theorem byte_one {n : Nat} {c : Value} {y : DataW H × List MemPlace} (h : DataW.trod enc Tryz.prog w base spare held n 5 [c] = some y) : ∃ k : Int, c = .int .u8 k ∧ 0 ≤ k ∧ k ≤ 255 := by
  obtain ⟨k, hk, _, hw⟩ := DataW.trod_int Tryz.underlying5 h
  exact ⟨k, by simpa using hk, byte_bd hw⟩
set_option maxRecDepth 100000 in
theorem four_bytes {t : TypeId} (ht : Tryz.prog.underlying t = some (.array 4 5)) {n : Nat} {c0 c1 c2 c3 : Value} {y : DataW H × List MemPlace} (h : DataW.trod enc Tryz.prog w base spare held n t [c0, c1, c2, c3] = some y) : ∃ x : Cr, [c0, c1, c2, c3] = (cCells x).toList ∧ x.Ok := by
  obtain ⟨y0, y1, y2, y3, m, _, h0, h1, h2, h3⟩ := trod_array4 ht cells_u8 h
  obtain ⟨a, rfl, a0, a1⟩ := byte_one h0
  obtain ⟨b, rfl, b0, b1⟩ := byte_one h1
  obtain ⟨c, rfl, e0, e1⟩ := byte_one h2
  obtain ⟨d, rfl, d0, d1⟩ := byte_one h3
  exact ⟨⟨a, b, c, d⟩, rfl, ⟨a0, a1, b0, b1, e0, e1, d0, d1⟩⟩
theorem okWide_four {P : Program} {t e : TypeId} {n : Nat} {r : Reach} {b0 : Nat} {v : Value} (ht : P.underlying t = some (.array n e)) (h : Value.okWide P w r b0 t v) : ∃ cs, v = .agg cs ∧ cs.size = P.cellsOf t := by
  unfold Value.okWide at h
  rw [ht] at h
  obtain ⟨cs, hv, hs, _⟩ := h
  exact ⟨cs, hv, hs⟩
set_option maxRecDepth 100000 in
theorem open_four {t : TypeId} (ht : Tryz.prog.underlying t = some (.array 4 5)) (hc : Tryz.prog.cellsOf t = 4) {r : Reach} {b0 : Nat} {v : Value} {d : DataW H} {p : List MemPlace} (hv : Value.okWide Tryz.prog w r b0 t v) (h : DataW.Trod enc Tryz.prog w base (fun _ => true) held t v d p) : ∃ x : Cr, v = .agg (cCells x) ∧ x.Ok := by
  obtain ⟨⟨L⟩, rfl, hs⟩ := okWide_four ht hv
  rw [hc] at hs
  obtain ⟨fuel, hf⟩ := h
  have hl : L.length = 4 := by simpa using hs
  match L, hl with
  | [c0, c1, c2, c3], _ =>
    have hf' : DataW.trod enc Tryz.prog w base (fun _ => true) held fuel t [c0, c1, c2, c3] = some (d, p) := hf
    obtain ⟨x, hx, hok⟩ := four_bytes ht hf'
    refine ⟨x, ?_, hok⟩
    rw [hx]
set_option maxRecDepth 100000 in
theorem open_color {r : Reach} {b0 : Nat} {v : Value} {d : DataW H} {p : List MemPlace} (hv : Value.okWide Tryz.prog w r b0 27 v) (h : DataW.Trod enc Tryz.prog w base (fun _ => true) held 27 v d p) : ∃ x : Cr, v = .agg (cCells x) ∧ x.Ok :=
  open_four Tryz.underlying27 cells_color hv h
set_option maxRecDepth 100000 in
theorem ck_cells {n : Nat} {cs : List Value} {x : DataW H × List MemPlace} (h : DataW.trod enc Tryz.prog w base spare held n 45 cs = some x) : ∃ k : Ck, cs = cl k ∧ k.p.Ok := by
  obtain ⟨xs, m, _, _, hlen, hxl, hf⟩ := DataW.trod_struct Tryz.underlying45 h
  rw [cells_ck] at hlen
  match cs, hlen with
  | [c0, c1, c2, c3, c4, c5, c6, c7, c8, c9], _ =>
    have f0 : DataW.trod enc Tryz.prog w base spare held m 2 (([c0, c1, c2, c3, c4, c5, c6, c7, c8, c9].drop 0).take (Tryz.prog.cellsOf 2)) = xs[0]? := hf 0 _ rfl
    have f1 : DataW.trod enc Tryz.prog w base spare held m 27 (([c0, c1, c2, c3, c4, c5, c6, c7, c8, c9].drop 1).take (Tryz.prog.cellsOf 27)) = xs[1]? := hf 1 _ rfl
    have f2 : DataW.trod enc Tryz.prog w base spare held m 3 (([c0, c1, c2, c3, c4, c5, c6, c7, c8, c9].drop 5).take (Tryz.prog.cellsOf 3)) = xs[2]? := hf 2 _ rfl
    have f3 : DataW.trod enc Tryz.prog w base spare held m 36 (([c0, c1, c2, c3, c4, c5, c6, c7, c8, c9].drop 6).take (Tryz.prog.cellsOf 36)) = xs[3]? := hf 3 _ rfl
    rw [cells_i64] at f0
    rw [cells_color] at f1
    rw [cells_int] at f2
    rw [cells_ease] at f3
    obtain ⟨y1, hy1⟩ := some_at (i := 1) hxl (by decide)
    rw [hy1] at f1
    obtain ⟨p, hp, hok⟩ := four_bytes Tryz.underlying27 (show DataW.trod enc Tryz.prog w base spare held m 27 [c1, c2, c3, c4] = some y1 from f1)
    obtain ⟨t, rfl⟩ := int_one Tryz.underlying2 f0 (some_at hxl (by decide))
    obtain ⟨k, rfl⟩ := int_one Tryz.underlying3 f2 (some_at hxl (by decide))
    obtain ⟨a, b, c, d, rfl, rfl, rfl, rfl⟩ := ease_cells f3 (some_at hxl (by decide))
    simp at hp
    obtain ⟨rfl, rfl, rfl, rfl⟩ := hp
    exact ⟨⟨t, p, k, a, b, c, d⟩, rfl, hok⟩

set_option maxRecDepth 100000 in
theorem open_cks {r : Reach} {b0 : Nat} {v : Value} {d : DataW H} {p : List MemPlace} (hv : Value.okWide Tryz.prog w r b0 32 v) (h : DataW.Trod enc Tryz.prog w base (fun _ => true) held 32 v d p) : ∃ ks, Carg w v ks := by
  obtain ⟨a0, len0, cap0, rfl⟩ := okWide_slice Tryz.underlying32 hv
  obtain ⟨fuel, hf⟩ := h
  rcases open_slice Tryz.underlying32 hf with ⟨hc, _⟩ | ⟨a, len, cap, m, n, D, Pl, hc, _, hl, hm, hmm, _, hi⟩
  · simp [Value.cells] at hc
    obtain ⟨rfl, rfl, rfl⟩ := hc
    exact ⟨[], Or.inl ⟨rfl, _, _, rfl⟩⟩
  · simp [Value.cells] at hc
    obtain ⟨rfl, rfl, rfl⟩ := hc
    rw [if_pos rfl] at hmm
    subst hmm
    by_cases h0 : len0 = 0
    · subst h0
      exact ⟨[], Or.inl ⟨rfl, _, _, rfl⟩⟩
    · have key : ∀ i, i < len0 → ∃ k : Ck, (∀ j u, (cl k)[j]? = some u → w.cell? (a.add (i * 10 + j)) = some u) ∧ k.p.Ok := by
        intro i hil
        obtain ⟨cs', hcs, ht⟩ := hi i (by omega)
        obtain ⟨k, rfl, hok⟩ := ck_cells ht
        rw [cells_ck] at hcs
        obtain ⟨_, hcl, hat⟩ := World.cells?_some hcs
        refine ⟨k, fun j u hu => ?_, hok⟩
        have hj : j < 10 := by
          have := (List.getElem?_eq_some_iff.1 hu).1
          simpa [cl] using this
        rw [← Go.Deep.add_add, hat j hj, hu]
      obtain ⟨f, hf'⟩ := choose_lt key
      have hspot : a.spot = none := by
        have := (hf' 0 (by omega)).1 0 _ rfl
        simpa [Addr.add] using World.cell?_spot this
      obtain ⟨g, o, sp⟩ := a
      simp only at hspot
      subst hspot
      have e2 : ∀ i, i < min len0 40 → ck ((List.range (min len0 40)).map f) i = f i := by
        intro i hi'
        unfold ck
        rw [List.getD_eq_getElem?_getD, List.getElem?_map, List.getElem?_range hi']
        rfl
      refine ⟨(List.range (min len0 40)).map f, Or.inr ⟨g, o, len0, _, rfl, by omega, hl, hm, by simp, ?_⟩⟩
      refine crow_of (by simp; omega) (fun i hi' => ?_) fun j u hu => ?_
      · have hi2 : i < min len0 40 := by simpa using hi'
        rw [e2 i hi2]
        exact (hf' i (by omega)).2
      have hj : j < min len0 40 * 10 := by
        have := (List.getElem?_eq_some_iff.1 hu).1
        rw [cls_length] at this
        simpa using this
      have e1 : j = j / 10 * 10 + j % 10 := by omega
      rw [e1] at hu ⊢
      rw [cls_at (by simp; omega) (by omega)] at hu
      rw [e2 (j / 10) (by omega)] at hu
      have := (hf' (j / 10) (by omega)).1 (j % 10) u hu
      rwa [Addr.add_lit] at this
end

end Go.Proofs.YtglbfpjjnboeaaaGreat

namespace Go.Proofs.YtglbfpjjnboeaaaGreat
open Go.RowKit Go.ChangeShapes Go.WideShapes Go.Deep
open M

theorem allS_weights {H : Type} {P : Program} {e : TypeId} : ∀ {l : List (DataW H)} {d : DataW H}, d ∈ l → ∀ n ∈ d.weights P e, n ∈ DataW.weightsAll P e l
  | x :: l, d, hd, n, hn => by
    simp only [DataW.weightsAll, List.mem_append]
    rcases List.mem_cons.1 hd with rfl | h
    · exact Or.inl hn
    · exact Or.inr (allS_weights h n hn)
  | [], _, hd, _, _ => by cases hd
section
variable {H : Type} {enc : TypeId × Value → H} {w : World} {base : Nat} {spare : Nat → Bool} {held : Bool}
/-- A list each element of which reads as L of something of which Pr holds: where it lies. -/
theorem open_rows {α : Type} [Inhabited α] {te ts : TypeId} {sz by_ : Nat} (L : α → List Value) (Pr : α → Prop) (hts : Tryz.prog.underlying ts = some (.slice te)) (hc : Tryz.prog.cellsOf te = sz) (hby : Tryz.prog.bytesOf te = by_) (hs0 : 0 < sz) (hL : ∀ k, (L k).length = sz)
    (elem : ∀ (n : Nat) (cs : List Value) (x : DataW H × List MemPlace), DataW.trod enc Tryz.prog w base (fun _ => true) held n te cs = some x → (∀ k ∈ x.1.weights Tryz.prog te, k ≤ reachBytes) → ∃ k, cs = L k ∧ Pr k)
    {n : Nat} {c1 : Value} {y : DataW H × List MemPlace} (h : DataW.trod enc Tryz.prog w base (fun _ => true) held n ts [c1] = some y) (hz : ∀ k ∈ y.1.weights Tryz.prog ts, k ≤ reachBytes) :
    ∃ (f : Nat → α) (ao : Option Addr) (len cap : Nat), c1 = .slice ao len cap ∧ (len ≤ cap ∧ cap ≤ maxLen) ∧ len * by_ ≤ reachBytes ∧ (∀ i, i < len → Pr (f i)) ∧ (0 < len → ∃ g o, ao = some ⟨g, o, none⟩ ∧ ∀ i j u, i < len → (L (f i))[j]? = some u → w.cell? ⟨g, o + i * sz + j, none⟩ = some u) := by
  rcases open_slice hts h with ⟨hc', _⟩ | ⟨a, len, cap, m', n, D, Pl, hc', _, hl, hm, hmm, hy, hi⟩
  · have hc1 : c1 = .slice none 0 0 := by simpa using hc'
    subst hc1
    exact ⟨fun _ => default, none, 0, 0, rfl, ⟨Nat.le_refl _, by decide⟩, by simp, fun i hi => by omega, fun h => by omega⟩
  · have hc1 : c1 = .slice (some a) len cap := by simpa using hc'
    subst hc1
    rw [if_pos rfl] at hmm
    subst hmm
    have hd : y.1 = .slice ((List.range len).map D) ((List.range (m' - len)).map fun j => D (len + j)) := congrArg Prod.fst hy
    have hb : len * by_ ≤ reachBytes := by
      have := hz _ (by rw [hd]; simp only [DataW.weights, hts]; exact List.mem_cons_self)
      rw [hby] at this
      simp only [List.length_map, List.length_range] at this
      exact Nat.le_trans (Nat.mul_le_mul_right _ (by omega)) this
    have key : ∀ i, i < len → ∃ k, (∀ j u, (L k)[j]? = some u → w.cell? (a.add (i * sz + j)) = some u) ∧ Pr k := by
      intro i hil
      obtain ⟨cs', hcs, ht⟩ := hi i (by omega)
      obtain ⟨k, rfl, hp⟩ := elem _ _ _ ht (fun q hq => hz q (by
        rw [hd]
        simp only [DataW.weights, hts]
        exact List.mem_cons_of_mem _ (List.mem_append.2 (Or.inl (allS_weights (d := D i) (List.mem_map.2 ⟨i, by simpa using hil, rfl⟩) q hq)))))
      rw [hc] at hcs
      obtain ⟨_, hcl, hat⟩ := World.cells?_some hcs
      refine ⟨k, fun j u hu => ?_, hp⟩
      have hj : j < sz := by
        have := (List.getElem?_eq_some_iff.1 hu).1
        rw [hL] at this
        exact this
      rw [← Go.Deep.add_add, hat j hj, hu]
    by_cases h0 : len = 0
    · subst h0
      exact ⟨fun _ => default, some a, 0, _, rfl, ⟨hl, hm⟩, hb, fun i hi => by omega, fun h => by omega⟩
    · obtain ⟨f, hf'⟩ := choose_lt key
      have hspot : a.spot = none := by
        obtain ⟨u, hu⟩ : ∃ u, (L (f 0))[0]? = some u := ⟨_, List.getElem?_eq_getElem (by rw [hL]; exact hs0)⟩
        have := (hf' 0 (by omega)).1 0 u hu
        simpa [Addr.add] using World.cell?_spot this
      obtain ⟨g, o, sp⟩ := a
      simp only at hspot
      subst hspot
      exact ⟨f, some ⟨g, o, none⟩, len, _, rfl, ⟨hl, hm⟩, hb, fun i hi => (hf' i hi).2, fun _ => ⟨g, o, rfl, fun i j u hi hu => by
        have := (hf' i hi).1 j u hu
        rwa [Addr.add_lit, ← Nat.add_assoc] at this⟩⟩

theorem bytes13_key : Tryz.prog.bytesOf 38 = 56 := by kernel_rfl
theorem bytes13_ck : Tryz.prog.bytesOf 45 = 56 := by kernel_rfl
theorem bytes13_i64 : Tryz.prog.bytesOf 2 = 8 := by kernel_rfl
theorem bytes13_pt : Tryz.prog.bytesOf 29 = 16 := by kernel_rfl
theorem bytes13_pk : Tryz.prog.bytesOf 43 = 80 := by kernel_rfl
theorem cells13_pt : Tryz.prog.cellsOf 29 = 2 := by kernel_rfl
theorem cells13_pk : Tryz.prog.cellsOf 43 = 8 := by kernel_rfl
theorem cells13_path : Tryz.prog.cellsOf 41 = 2 := by kernel_rfl
theorem cells13_bool : Tryz.prog.cellsOf 4 = 1 := by kernel_rfl
theorem cells13_pts : Tryz.prog.cellsOf 39 = 1 := by kernel_rfl
theorem div_mod_cell {α : Type} [Inhabited α] {sz len g o : Nat} {L : α → List Value} {f : Nat → α} {w : World} (h : ∀ i j u, i < len → (L (f i))[j]? = some u → w.cell? ⟨g, o + i * sz + j, none⟩ = some u) {j : Nat} {u : Value} (hj : j / sz < len) (hu : (L (f (j / sz)))[j % sz]? = some u) : w.cell? ⟨g, o + j, none⟩ = some u := by
  have := h _ _ _ hj hu
  rw [Nat.add_assoc, Nat.mul_comm, Nat.div_add_mod] at this
  exact this
set_option maxRecDepth 100000 in
theorem open_sl {n : Nat} {c1 : Value} {y : DataW H × List MemPlace} (h : DataW.trod enc Tryz.prog w base (fun _ => true) held n 24 [c1] = some y) (hz : ∀ k ∈ y.1.weights Tryz.prog 24, k ≤ reachBytes) : ∃ ks, Sl w c1 ks := by
  obtain ⟨f, ao, len, cap, rfl, -, hb, -, hr⟩ := open_rows kl (fun _ => True) Tryz.underlying24 cells_key bytes13_key (by decide) (fun k => rfl) (fun n cs x h _ => by obtain ⟨k, e⟩ := key_cells h; exact ⟨k, e, trivial⟩) h hz
  by_cases h0 : len = 0
  · subst h0
    exact ⟨[], Or.inl ⟨rfl, _, _, rfl⟩⟩
  · obtain ⟨g, o, rfl, hc⟩ := hr (by omega)
    have hl : len ≤ 8796093022208 := by simp only [reachBytes] at hb; omega
    refine ⟨(List.range len).map f, Or.inr ⟨by simp; omega, g, o, cap, by simp, row_of (by simpa using hl) fun j u hu => ?_⟩⟩
    have hj : j < len * 7 := by
      have := (List.getElem?_eq_some_iff.1 hu).1
      rw [kls_length] at this
      simpa using this
    have hd : j / 7 < len := by omega
    rw [show j = j / 7 * 7 + j % 7 by omega, kls_at (by simpa using hd) (by omega)] at hu
    refine div_mod_cell hc hd ?_
    have e2 : ky ((List.range len).map f) (j / 7) = f (j / 7) := by
      unfold ky
      rw [List.getD_eq_getElem?_getD, List.getElem?_map, List.getElem?_range hd]
      rfl
    rwa [e2] at hu
set_option maxRecDepth 100000 in
theorem open_csl {n : Nat} {c1 : Value} {y : DataW H × List MemPlace} (h : DataW.trod enc Tryz.prog w base (fun _ => true) held n 32 [c1] = some y) (hz : ∀ k ∈ y.1.weights Tryz.prog 32, k ≤ reachBytes) : ∃ ks, Csl w c1 ks := by
  obtain ⟨f, ao, len, cap, rfl, -, hb, hok, hr⟩ := open_rows cl (fun k => k.p.Ok) Tryz.underlying32 cells_ck bytes13_ck (by decide) (fun k => rfl) (fun n cs x h _ => ck_cells h) h hz
  by_cases h0 : len = 0
  · subst h0
    exact ⟨[], Or.inl ⟨rfl, _, _, rfl⟩⟩
  · obtain ⟨g, o, rfl, hc⟩ := hr (by omega)
    have hl : len ≤ 8796093022208 := by simp only [reachBytes] at hb; omega
    have e2 : ∀ i, i < len → ck ((List.range len).map f) i = f i := by
      intro i hi'
      unfold ck
      rw [List.getD_eq_getElem?_getD, List.getElem?_map, List.getElem?_range hi']
      rfl
    refine ⟨(List.range len).map f, Or.inr ⟨by simp; omega, g, o, cap, by simp, crow_of (by simpa using hl) (fun i hi' => ?_) fun j u hu => ?_⟩⟩
    · have hi2 : i < len := by simpa using hi'
      rw [e2 i hi2]
      exact hok i hi2
    have hj : j < len * 10 := by
      have := (List.getElem?_eq_some_iff.1 hu).1
      rw [cls_length] at this
      simpa using this
    have hd : j / 10 < len := by omega
    rw [show j = j / 10 * 10 + j % 10 by omega, cls_at (by simpa using hd) (by omega)] at hu
    refine div_mod_cell hc hd ?_
    rwa [e2 _ hd] at hu
set_option maxRecDepth 100000 in
theorem open_isl {n : Nat} {c1 : Value} {y : DataW H × List MemPlace} (h : DataW.trod enc Tryz.prog w base (fun _ => true) held n 22 [c1] = some y) (hz : ∀ k ∈ y.1.weights Tryz.prog 22, k ≤ reachBytes) : ∃ ks, Isl w c1 ks := by
  obtain ⟨f, ao, len, cap, rfl, -, hb, -, hr⟩ := open_rows (α := Int) (fun k => [.int .i64 k]) (fun _ => True) Tryz.underlying22 cells_i64 bytes13_i64 (by decide) (fun k => rfl) (fun n cs x h _ => by
    obtain ⟨k, e, _⟩ := DataW.trod_int Tryz.underlying2 h
    exact ⟨k, e, trivial⟩) h hz
  have hl : len ≤ 17592186044416 := by simp only [reachBytes] at hb; omega
  refine ⟨(List.range len).map f, ao, cap, by simp, by simpa using hl, fun h0 => ?_⟩
  have h0' : 0 < len := by simpa using h0
  obtain ⟨g, o, rfl, hc⟩ := hr h0'
  refine ⟨g, o, rfl, fun i hi => ?_⟩
  have hi' : i < len := by simpa using hi
  have e : nm ((List.range len).map f) i = f i := by
    unfold nm
    rw [List.getD_eq_getElem?_getD, List.getElem?_map, List.getElem?_range hi']
    rfl
  rw [e]
  have := hc i 0 _ hi' rfl
  rwa [Nat.mul_one, Nat.add_zero] at this
set_option maxRecDepth 100000 in
theorem pt13_cells {n : Nat} {cs : List Value} {x : DataW H × List MemPlace} (h : DataW.trod enc Tryz.prog w base spare held n 29 cs = some x) : ∃ p : Pt, cs = pl p := by
  obtain ⟨xs, m, _, _, hlen, hxl, hf⟩ := DataW.trod_struct Tryz.underlying29 h
  rw [cells13_pt] at hlen
  match cs, hlen with
  | [c0, c1], _ =>
    have f0 : DataW.trod enc Tryz.prog w base spare held m 2 (([c0, c1].drop 0).take (Tryz.prog.cellsOf 2)) = xs[0]? := hf 0 _ rfl
    have f1 : DataW.trod enc Tryz.prog w base spare held m 2 (([c0, c1].drop 1).take (Tryz.prog.cellsOf 2)) = xs[1]? := hf 1 _ rfl
    rw [cells_i64] at f0 f1
    obtain ⟨a, rfl⟩ := int_one Tryz.underlying2 f0 (some_at hxl (by decide))
    obtain ⟨b, rfl⟩ := int_one Tryz.underlying2 f1 (some_at hxl (by decide))
    exact ⟨⟨a, b⟩, rfl⟩
set_option maxRecDepth 100000 in
theorem open_psl {n : Nat} {c1 : Value} {y : DataW H × List MemPlace} (h : DataW.trod enc Tryz.prog w base (fun _ => true) held n 39 [c1] = some y) (hz : ∀ k ∈ y.1.weights Tryz.prog 39, k ≤ reachBytes) : ∃ ps, Psl w c1 ps := by
  obtain ⟨f, ao, len, cap, rfl, -, hb, -, hr⟩ := open_rows pl (fun _ => True) Tryz.underlying39 cells13_pt bytes13_pt (by decide) (fun k => rfl) (fun n cs x h _ => by obtain ⟨k, e⟩ := pt13_cells h; exact ⟨k, e, trivial⟩) h hz
  have hl : len ≤ 8796093022208 := by simp only [reachBytes] at hb; omega
  refine ⟨(List.range len).map f, ao, cap, by simp, by simpa using hl, fun h0 => ?_⟩
  have h0' : 0 < len := by simpa using h0
  obtain ⟨g, o, rfl, hc⟩ := hr h0'
  refine ⟨g, o, rfl, prow_of (by simpa using hl) fun j u hu => ?_⟩
  have hj : j < len * 2 := by
    have := (List.getElem?_eq_some_iff.1 hu).1
    rw [pls_length] at this
    simpa using this
  have hd : j / 2 < len := by omega
  rw [show j = j / 2 * 2 + j % 2 by omega, pls_at (by simpa using hd) (by omega)] at hu
  refine div_mod_cell hc hd ?_
  have e2 : pt ((List.range len).map f) (j / 2) = f (j / 2) := by
    unfold pt
    rw [List.getD_eq_getElem?_getD, List.getElem?_map, List.getElem?_range hd]
    rfl
  rwa [e2] at hu
set_option maxRecDepth 100000 in
/-- A key of a path. -/
theorem pk_cells {n : Nat} {cs : List Value} {x : DataW H × List MemPlace} (h : DataW.trod enc Tryz.prog w base (fun _ => true) held n 43 cs = some x) (hz : ∀ k ∈ x.1.weights Tryz.prog 43, k ≤ reachBytes) : ∃ k : Pk, cs = pkl k ∧ Psl w k.v k.ps := by
  obtain ⟨xs, m, _, hx, hlen, hxl, hf⟩ := DataW.trod_struct Tryz.underlying43 h
  rw [cells13_pk] at hlen
  match cs, hlen with
  | [c0, c1, c2, c3, c4, c5, c6, c7], _ =>
    have f0 : DataW.trod enc Tryz.prog w base (fun _ => true) held m 2 (([c0, c1, c2, c3, c4, c5, c6, c7].drop 0).take (Tryz.prog.cellsOf 2)) = xs[0]? := hf 0 _ rfl
    have f1 : DataW.trod enc Tryz.prog w base (fun _ => true) held m 41 (([c0, c1, c2, c3, c4, c5, c6, c7].drop 1).take (Tryz.prog.cellsOf 41)) = xs[1]? := hf 1 _ rfl
    have f2 : DataW.trod enc Tryz.prog w base (fun _ => true) held m 3 (([c0, c1, c2, c3, c4, c5, c6, c7].drop 3).take (Tryz.prog.cellsOf 3)) = xs[2]? := hf 2 _ rfl
    have f3 : DataW.trod enc Tryz.prog w base (fun _ => true) held m 36 (([c0, c1, c2, c3, c4, c5, c6, c7].drop 4).take (Tryz.prog.cellsOf 36)) = xs[3]? := hf 3 _ rfl
    rw [cells_i64] at f0
    rw [cells13_path] at f1
    rw [cells_int] at f2
    rw [cells_ease] at f3
    obtain ⟨y1, hy1⟩ := some_at (i := 1) hxl (by decide)
    rw [hy1] at f1
    have f1' : DataW.trod enc Tryz.prog w base (fun _ => true) held m 41 [c1, c2] = some y1 := f1
    obtain ⟨zs, q, _, hzx, _, hzl, hg⟩ := DataW.trod_struct Tryz.underlying41 f1'
    have g0 : DataW.trod enc Tryz.prog w base (fun _ => true) held q 4 (([c1, c2].drop 0).take (Tryz.prog.cellsOf 4)) = zs[0]? := hg 0 _ rfl
    have g1 : DataW.trod enc Tryz.prog w base (fun _ => true) held q 39 (([c1, c2].drop 1).take (Tryz.prog.cellsOf 39)) = zs[1]? := hg 1 _ rfl
    rw [cells13_bool] at g0
    rw [cells13_pts] at g1
    obtain ⟨u0, hu0⟩ := some_at (i := 0) hzl (by decide)
    obtain ⟨u1, hu1⟩ := some_at (i := 1) hzl (by decide)
    rw [hu0] at g0
    rw [hu1] at g1
    obtain ⟨c, hc, _⟩ := DataW.trod_bool Tryz.underlying4 g0
    have hc0 : c1 = .bool c := by simpa using hc
    subst hc0
    obtain ⟨ps, hp⟩ := open_psl (show DataW.trod enc Tryz.prog w base (fun _ => true) held q 39 [c2] = some u1 from g1) (fun k hk => by
      refine hz k ?_
      subst hx
      simp only [DataW.weights, Tryz.underlying43]
      refine DataW.weights_mem_each (j := 1) (t := 41) (d := y1.1) rfl (by rw [List.getElem?_map, hy1]; rfl) k ?_
      subst hzx
      simp only [DataW.weights, Tryz.underlying41]
      exact DataW.weights_mem_each (j := 1) (t := 39) (d := u1.1) rfl (by rw [List.getElem?_map, hu1]; rfl) k hk)
    obtain ⟨t, rfl⟩ := int_one Tryz.underlying2 f0 (some_at hxl (by decide))
    obtain ⟨k, rfl⟩ := int_one Tryz.underlying3 f2 (some_at hxl (by decide))
    obtain ⟨a, b, c', d, rfl, rfl, rfl, rfl⟩ := ease_cells f3 (some_at hxl (by decide))
    exact ⟨⟨t, c, c2, ps, k, a, b, c', d⟩, rfl, hp⟩
theorem cells13_keys : Tryz.prog.cellsOf 24 = 1 := by kernel_rfl
theorem cells13_pks : Tryz.prog.cellsOf 25 = 1 := by kernel_rfl
theorem cells13_cks : Tryz.prog.cellsOf 32 = 1 := by kernel_rfl
theorem cells13_i64s : Tryz.prog.cellsOf 22 = 1 := by kernel_rfl
theorem cells13_paint : Tryz.prog.cellsOf 31 = 14 := by kernel_rfl
theorem cells13_shape : Tryz.prog.cellsOf 34 = 32 := by kernel_rfl
set_option maxRecDepth 100000 in
theorem paint_cells {n : Nat} {e0 e1 e2 e3 e4 e5 e6 e7 e8 e9 e10 e11 e12 e13 : Value} {y : DataW H × List MemPlace} (h : DataW.trod enc Tryz.prog w base spare held n 31 [e0, e1, e2, e3, e4, e5, e6, e7, e8, e9, e10, e11, e12, e13] = some y) : ∃ k a b p q r, [e0, e1, e2, e3, e4, e5, e6, e7, e8, e9, e10, e11, e12, e13] = (paC k a b p q r).toList := by
  obtain ⟨xs, m, _, _, _, hxl, hf⟩ := DataW.trod_struct Tryz.underlying31 h
  have f0 : DataW.trod enc Tryz.prog w base spare held m 3 (([e0, e1, e2, e3, e4, e5, e6, e7, e8, e9, e10, e11, e12, e13].drop 0).take (Tryz.prog.cellsOf 3)) = xs[0]? := hf 0 _ rfl
  have f1 : DataW.trod enc Tryz.prog w base spare held m 27 (([e0, e1, e2, e3, e4, e5, e6, e7, e8, e9, e10, e11, e12, e13].drop 1).take (Tryz.prog.cellsOf 27)) = xs[1]? := hf 1 _ rfl
  have f2 : DataW.trod enc Tryz.prog w base spare held m 27 (([e0, e1, e2, e3, e4, e5, e6, e7, e8, e9, e10, e11, e12, e13].drop 5).take (Tryz.prog.cellsOf 27)) = xs[2]? := hf 2 _ rfl
  have f3 : DataW.trod enc Tryz.prog w base spare held m 29 (([e0, e1, e2, e3, e4, e5, e6, e7, e8, e9, e10, e11, e12, e13].drop 9).take (Tryz.prog.cellsOf 29)) = xs[3]? := hf 3 _ rfl
  have f4 : DataW.trod enc Tryz.prog w base spare held m 29 (([e0, e1, e2, e3, e4, e5, e6, e7, e8, e9, e10, e11, e12, e13].drop 11).take (Tryz.prog.cellsOf 29)) = xs[4]? := hf 4 _ rfl
  have f5 : DataW.trod enc Tryz.prog w base spare held m 2 (([e0, e1, e2, e3, e4, e5, e6, e7, e8, e9, e10, e11, e12, e13].drop 13).take (Tryz.prog.cellsOf 2)) = xs[5]? := hf 5 _ rfl
  rw [cells_int] at f0
  rw [cells_color] at f1 f2
  rw [cells13_pt] at f3 f4
  rw [cells_i64] at f5
  obtain ⟨y1, hy1⟩ := some_at (i := 1) hxl (by decide)
  obtain ⟨y2, hy2⟩ := some_at (i := 2) hxl (by decide)
  obtain ⟨y3, hy3⟩ := some_at (i := 3) hxl (by decide)
  obtain ⟨y4, hy4⟩ := some_at (i := 4) hxl (by decide)
  rw [hy1] at f1
  rw [hy2] at f2
  rw [hy3] at f3
  rw [hy4] at f4
  obtain ⟨k, rfl⟩ := int_one Tryz.underlying3 f0 (some_at hxl (by decide))
  obtain ⟨a, ha, -⟩ := four_bytes Tryz.underlying27 (show DataW.trod enc Tryz.prog w base spare held m 27 [e1, e2, e3, e4] = some y1 from f1)
  obtain ⟨b, hb, -⟩ := four_bytes Tryz.underlying27 (show DataW.trod enc Tryz.prog w base spare held m 27 [e5, e6, e7, e8] = some y2 from f2)
  obtain ⟨p, hp⟩ := pt13_cells (show DataW.trod enc Tryz.prog w base spare held m 29 [e9, e10] = some y3 from f3)
  obtain ⟨q, hq⟩ := pt13_cells (show DataW.trod enc Tryz.prog w base spare held m 29 [e11, e12] = some y4 from f4)
  obtain ⟨r, rfl⟩ := int_one Tryz.underlying2 f5 (some_at hxl (by decide))
  simp [pl] at ha hb hp hq
  obtain ⟨rfl, rfl, rfl, rfl⟩ := ha
  obtain ⟨rfl, rfl, rfl, rfl⟩ := hb
  obtain ⟨rfl, rfl⟩ := hp
  obtain ⟨rfl, rfl⟩ := hq
  exact ⟨k, a, b, p, q, r, rfl⟩
/-- A shape among the arguments: its lists lie in memory; of its keys of paths the first three, each path whole. -/
structure Sarg (w : World) (v : Value) (s : Shp) (ao : Option Addr) (nP cap : Nat) : Prop where
  v : v = .agg (shC s)
  vP : s.vP = .slice ao nP cap
  lie : ShIn w { s with vP := .slice ao (min nP 3) cap }
  len : nP ≤ cap ∧ cap ≤ maxLen
  few : nP ≤ 8796093022208
set_option maxRecDepth 100000 in
theorem open_shape {r : Reach} {b0 : Nat} {v : Value} {d : DataW H} {p : List MemPlace} (hv : Value.okWide Tryz.prog w r b0 34 v) (h : DataW.Trod enc Tryz.prog w base (fun _ => true) held 34 v d p) (hz : ∀ k ∈ d.weights Tryz.prog 34, k ≤ reachBytes) : ∃ x : Shp × Option Addr × Nat × Nat, Sarg w v x.1 x.2.1 x.2.2.1 x.2.2.2 := by
  obtain ⟨⟨L⟩, rfl, hs⟩ := okWide_struct Tryz.underlying34 hv
  rw [cells13_shape] at hs
  have hl32 : L.length = 32 := by simpa using hs
  obtain ⟨fuel, hf⟩ := h
  match L, hl32 with
  | [c0, c1, c2, c3, c4, c5, c6, c7, c8, c9, c10, c11, c12, c13, c14, c15, c16, c17, c18, c19, c20, c21, c22, c23, c24, c25, c26, c27, c28, c29, c30, c31], _ =>
    have hf' : DataW.trod enc Tryz.prog w base (fun _ => true) held fuel 34 [c0, c1, c2, c3, c4, c5, c6, c7, c8, c9, c10, c11, c12, c13, c14, c15, c16, c17, c18, c19, c20, c21, c22, c23, c24, c25, c26, c27, c28, c29, c30, c31] = some (d, p) := hf
    obtain ⟨xs, m, _, hx, _, hxl, hg⟩ := DataW.trod_struct Tryz.underlying34 hf'
    have hd : d = DataW.agg (xs.map fun x => x.1) := congrArg Prod.fst hx
    clear hx hv hs hf hf'
    have f0 : DataW.trod enc Tryz.prog w base (fun _ => true) held m 3 (([c0, c1, c2, c3, c4, c5, c6, c7, c8, c9, c10, c11, c12, c13, c14, c15, c16, c17, c18, c19, c20, c21, c22, c23, c24, c25, c26, c27, c28, c29, c30, c31].drop 0).take (Tryz.prog.cellsOf 3)) = xs[0]? := hg 0 _ rfl
    have f1 : DataW.trod enc Tryz.prog w base (fun _ => true) held m 3 (([c0, c1, c2, c3, c4, c5, c6, c7, c8, c9, c10, c11, c12, c13, c14, c15, c16, c17, c18, c19, c20, c21, c22, c23, c24, c25, c26, c27, c28, c29, c30, c31].drop 1).take (Tryz.prog.cellsOf 3)) = xs[1]? := hg 1 _ rfl
    have f2 : DataW.trod enc Tryz.prog w base (fun _ => true) held m 24 (([c0, c1, c2, c3, c4, c5, c6, c7, c8, c9, c10, c11, c12, c13, c14, c15, c16, c17, c18, c19, c20, c21, c22, c23, c24, c25, c26, c27, c28, c29, c30, c31].drop 2).take (Tryz.prog.cellsOf 24)) = xs[2]? := hg 2 _ rfl
    have f3 : DataW.trod enc Tryz.prog w base (fun _ => true) held m 24 (([c0, c1, c2, c3, c4, c5, c6, c7, c8, c9, c10, c11, c12, c13, c14, c15, c16, c17, c18, c19, c20, c21, c22, c23, c24, c25, c26, c27, c28, c29, c30, c31].drop 3).take (Tryz.prog.cellsOf 24)) = xs[3]? := hg 3 _ rfl
    have f4 : DataW.trod enc Tryz.prog w base (fun _ => true) held m 25 (([c0, c1, c2, c3, c4, c5, c6, c7, c8, c9, c10, c11, c12, c13, c14, c15, c16, c17, c18, c19, c20, c21, c22, c23, c24, c25, c26, c27, c28, c29, c30, c31].drop 4).take (Tryz.prog.cellsOf 25)) = xs[4]? := hg 4 _ rfl
    have f5 : DataW.trod enc Tryz.prog w base (fun _ => true) held m 4 (([c0, c1, c2, c3, c4, c5, c6, c7, c8, c9, c10, c11, c12, c13, c14, c15, c16, c17, c18, c19, c20, c21, c22, c23, c24, c25, c26, c27, c28, c29, c30, c31].drop 5).take (Tryz.prog.cellsOf 4)) = xs[5]? := hg 5 _ rfl
    have f6 : DataW.trod enc Tryz.prog w base (fun _ => true) held m 3 (([c0, c1, c2, c3, c4, c5, c6, c7, c8, c9, c10, c11, c12, c13, c14, c15, c16, c17, c18, c19, c20, c21, c22, c23, c24, c25, c26, c27, c28, c29, c30, c31].drop 6).take (Tryz.prog.cellsOf 3)) = xs[6]? := hg 6 _ rfl
    have f7 : DataW.trod enc Tryz.prog w base (fun _ => true) held m 31 (([c0, c1, c2, c3, c4, c5, c6, c7, c8, c9, c10, c11, c12, c13, c14, c15, c16, c17, c18, c19, c20, c21, c22, c23, c24, c25, c26, c27, c28, c29, c30, c31].drop 7).take (Tryz.prog.cellsOf 31)) = xs[7]? := hg 7 _ rfl
    have f8 : DataW.trod enc Tryz.prog w base (fun _ => true) held m 32 (([c0, c1, c2, c3, c4, c5, c6, c7, c8, c9, c10, c11, c12, c13, c14, c15, c16, c17, c18, c19, c20, c21, c22, c23, c24, c25, c26, c27, c28, c29, c30, c31].drop 21).take (Tryz.prog.cellsOf 32)) = xs[8]? := hg 8 _ rfl
    have f9 : DataW.trod enc Tryz.prog w base (fun _ => true) held m 4 (([c0, c1, c2, c3, c4, c5, c6, c7, c8, c9, c10, c11, c12, c13, c14, c15, c16, c17, c18, c19, c20, c21, c22, c23, c24, c25, c26, c27, c28, c29, c30, c31].drop 22).take (Tryz.prog.cellsOf 4)) = xs[9]? := hg 9 _ rfl
    have f10 : DataW.trod enc Tryz.prog w base (fun _ => true) held m 24 (([c0, c1, c2, c3, c4, c5, c6, c7, c8, c9, c10, c11, c12, c13, c14, c15, c16, c17, c18, c19, c20, c21, c22, c23, c24, c25, c26, c27, c28, c29, c30, c31].drop 23).take (Tryz.prog.cellsOf 24)) = xs[10]? := hg 10 _ rfl
    have f11 : DataW.trod enc Tryz.prog w base (fun _ => true) held m 27 (([c0, c1, c2, c3, c4, c5, c6, c7, c8, c9, c10, c11, c12, c13, c14, c15, c16, c17, c18, c19, c20, c21, c22, c23, c24, c25, c26, c27, c28, c29, c30, c31].drop 24).take (Tryz.prog.cellsOf 27)) = xs[11]? := hg 11 _ rfl
    have f12 : DataW.trod enc Tryz.prog w base (fun _ => true) held m 3 (([c0, c1, c2, c3, c4, c5, c6, c7, c8, c9, c10, c11, c12, c13, c14, c15, c16, c17, c18, c19, c20, c21, c22, c23, c24, c25, c26, c27, c28, c29, c30, c31].drop 28).take (Tryz.prog.cellsOf 3)) = xs[12]? := hg 12 _ rfl
    have f13 : DataW.trod enc Tryz.prog w base (fun _ => true) held m 22 (([c0, c1, c2, c3, c4, c5, c6, c7, c8, c9, c10, c11, c12, c13, c14, c15, c16, c17, c18, c19, c20, c21, c22, c23, c24, c25, c26, c27, c28, c29, c30, c31].drop 29).take (Tryz.prog.cellsOf 22)) = xs[13]? := hg 13 _ rfl
    have f14 : DataW.trod enc Tryz.prog w base (fun _ => true) held m 24 (([c0, c1, c2, c3, c4, c5, c6, c7, c8, c9, c10, c11, c12, c13, c14, c15, c16, c17, c18, c19, c20, c21, c22, c23, c24, c25, c26, c27, c28, c29, c30, c31].drop 30).take (Tryz.prog.cellsOf 24)) = xs[14]? := hg 14 _ rfl
    have f15 : DataW.trod enc Tryz.prog w base (fun _ => true) held m 24 (([c0, c1, c2, c3, c4, c5, c6, c7, c8, c9, c10, c11, c12, c13, c14, c15, c16, c17, c18, c19, c20, c21, c22, c23, c24, c25, c26, c27, c28, c29, c30, c31].drop 31).take (Tryz.prog.cellsOf 24)) = xs[15]? := hg 15 _ rfl
    rw [cells13_cks] at f8
    rw [cells13_keys] at f2 f3 f10 f14 f15
    rw [cells13_pks] at f4
    rw [cells13_i64s] at f13
    rw [cells_color] at f11
    rw [cells13_paint] at f7
    rw [cells13_bool] at f5 f9
    rw [cells_int] at f0 f1 f6 f12
    obtain ⟨y0, hy0⟩ := some_at (i := 0) hxl (by decide)
    rw [hy0] at f0
    obtain ⟨y1, hy1⟩ := some_at (i := 1) hxl (by decide)
    rw [hy1] at f1
    obtain ⟨y2, hy2⟩ := some_at (i := 2) hxl (by decide)
    rw [hy2] at f2
    obtain ⟨y3, hy3⟩ := some_at (i := 3) hxl (by decide)
    rw [hy3] at f3
    obtain ⟨y4, hy4⟩ := some_at (i := 4) hxl (by decide)
    rw [hy4] at f4
    obtain ⟨y5, hy5⟩ := some_at (i := 5) hxl (by decide)
    rw [hy5] at f5
    obtain ⟨y6, hy6⟩ := some_at (i := 6) hxl (by decide)
    rw [hy6] at f6
    obtain ⟨y7, hy7⟩ := some_at (i := 7) hxl (by decide)
    rw [hy7] at f7
    obtain ⟨y8, hy8⟩ := some_at (i := 8) hxl (by decide)
    rw [hy8] at f8
    obtain ⟨y9, hy9⟩ := some_at (i := 9) hxl (by decide)
    rw [hy9] at f9
    obtain ⟨y10, hy10⟩ := some_at (i := 10) hxl (by decide)
    rw [hy10] at f10
    obtain ⟨y11, hy11⟩ := some_at (i := 11) hxl (by decide)
    rw [hy11] at f11
    obtain ⟨y12, hy12⟩ := some_at (i := 12) hxl (by decide)
    rw [hy12] at f12
    obtain ⟨y13, hy13⟩ := some_at (i := 13) hxl (by decide)
    rw [hy13] at f13
    obtain ⟨y14, hy14⟩ := some_at (i := 14) hxl (by decide)
    rw [hy14] at f14
    obtain ⟨y15, hy15⟩ := some_at (i := 15) hxl (by decide)
    rw [hy15] at f15
    obtain ⟨i0, h0, _⟩ := DataW.trod_int Tryz.underlying3 f0
    obtain ⟨i1, h1, _⟩ := DataW.trod_int Tryz.underlying3 f1
    obtain ⟨i6, h6, _⟩ := DataW.trod_int Tryz.underlying3 f6
    obtain ⟨i12, h12, _⟩ := DataW.trod_int Tryz.underlying3 f12
    obtain ⟨b5, h5, _⟩ := DataW.trod_bool Tryz.underlying4 f5
    obtain ⟨b9, h9, _⟩ := DataW.trod_bool Tryz.underlying4 f9
    obtain ⟨ks2, sl2⟩ := open_sl (show DataW.trod enc Tryz.prog w base (fun _ => true) held m 24 [c2] = some y2 from f2) (fun q hq => hz q (by
      rw [hd]
      simp only [DataW.weights, Tryz.underlying34]
      exact DataW.weights_mem_each (j := 2) (t := 24) (d := y2.1) rfl (by rw [List.getElem?_map, hy2]; rfl) q hq))
    obtain ⟨ks3, sl3⟩ := open_sl (show DataW.trod enc Tryz.prog w base (fun _ => true) held m 24 [c3] = some y3 from f3) (fun q hq => hz q (by
      rw [hd]
      simp only [DataW.weights, Tryz.underlying34]
      exact DataW.weights_mem_each (j := 3) (t := 24) (d := y3.1) rfl (by rw [List.getElem?_map, hy3]; rfl) q hq))
    obtain ⟨ks8, sl8⟩ := open_csl (show DataW.trod enc Tryz.prog w base (fun _ => true) held m 32 [c21] = some y8 from f8) (fun q hq => hz q (by
      rw [hd]
      simp only [DataW.weights, Tryz.underlying34]
      exact DataW.weights_mem_each (j := 8) (t := 32) (d := y8.1) rfl (by rw [List.getElem?_map, hy8]; rfl) q hq))
    obtain ⟨ks10, sl10⟩ := open_sl (show DataW.trod enc Tryz.prog w base (fun _ => true) held m 24 [c23] = some y10 from f10) (fun q hq => hz q (by
      rw [hd]
      simp only [DataW.weights, Tryz.underlying34]
      exact DataW.weights_mem_each (j := 10) (t := 24) (d := y10.1) rfl (by rw [List.getElem?_map, hy10]; rfl) q hq))
    obtain ⟨ks13, sl13⟩ := open_isl (show DataW.trod enc Tryz.prog w base (fun _ => true) held m 22 [c29] = some y13 from f13) (fun q hq => hz q (by
      rw [hd]
      simp only [DataW.weights, Tryz.underlying34]
      exact DataW.weights_mem_each (j := 13) (t := 22) (d := y13.1) rfl (by rw [List.getElem?_map, hy13]; rfl) q hq))
    obtain ⟨ks14, sl14⟩ := open_sl (show DataW.trod enc Tryz.prog w base (fun _ => true) held m 24 [c30] = some y14 from f14) (fun q hq => hz q (by
      rw [hd]
      simp only [DataW.weights, Tryz.underlying34]
      exact DataW.weights_mem_each (j := 14) (t := 24) (d := y14.1) rfl (by rw [List.getElem?_map, hy14]; rfl) q hq))
    obtain ⟨ks15, sl15⟩ := open_sl (show DataW.trod enc Tryz.prog w base (fun _ => true) held m 24 [c31] = some y15 from f15) (fun q hq => hz q (by
      rw [hd]
      simp only [DataW.weights, Tryz.underlying34]
      exact DataW.weights_mem_each (j := 15) (t := 24) (d := y15.1) rfl (by rw [List.getElem?_map, hy15]; rfl) q hq))
    obtain ⟨pk_, pa, pb, pp, pq, pr, hpa⟩ := paint_cells (show DataW.trod enc Tryz.prog w base (fun _ => true) held m 31 [c7, c8, c9, c10, c11, c12, c13, c14, c15, c16, c17, c18, c19, c20] = some y7 from f7)
    obtain ⟨ln, hln, -⟩ := four_bytes Tryz.underlying27 (show DataW.trod enc Tryz.prog w base (fun _ => true) held m 27 [c24, c25, c26, c27] = some y11 from f11)
    obtain ⟨f, ao, len, cap, hv4, hcap, hb, hpk, hr⟩ := open_rows pkl (fun k => Psl w k.v k.ps) Tryz.underlying25 cells13_pk bytes13_pk (by decide) (fun k => rfl) (fun n cs x h hz => pk_cells h hz) (show DataW.trod enc Tryz.prog w base (fun _ => true) held m 25 [c4] = some y4 from f4) (fun q hq => hz q (by
      rw [hd]
      simp only [DataW.weights, Tryz.underlying34]
      exact DataW.weights_mem_each (j := 4) (t := 25) (d := y4.1) rfl (by rw [List.getElem?_map, hy4]; rfl) q hq))
    have qh0 : c0 = .int .i64 i0 := by simpa using h0
    have qh1 : c1 = .int .i64 i1 := by simpa using h1
    have qh6 : c6 = .int .i64 i6 := by simpa using h6
    have qh12 : c28 = .int .i64 i12 := by simpa using h12
    have qh5 : c5 = .bool b5 := by simpa using h5
    have qh9 : c22 = .bool b9 := by simpa using h9
    simp at hpa hln
    obtain ⟨rfl, rfl, rfl, rfl, rfl, rfl, rfl, rfl, rfl, rfl, rfl, rfl, rfl, rfl⟩ := hpa
    obtain ⟨rfl, rfl, rfl, rfl⟩ := hln
    clear h0 h1 h6 h12 h5 h9
    subst qh0 qh1 qh6 qh12 qh5 qh9 hv4
    have hl : len ≤ 8796093022208 := by simp only [reachBytes] at hb; omega
    have kl : Kl w (.slice ao (min len 3) cap) ((List.range (min len 3)).map f) := by
      refine ⟨ao, cap, by simp, by simp; omega, fun h0 => ?_⟩
      have h0' : 0 < len := by simp at h0; omega
      obtain ⟨g, o, rfl, hc⟩ := hr h0'
      have e2 : ∀ i, i < min len 3 → pk ((List.range (min len 3)).map f) i = f i := by
        intro i hi'
        unfold pk
        rw [List.getD_eq_getElem?_getD, List.getElem?_map, List.getElem?_range hi']
        rfl
      have key : ∀ i j u, i < ((List.range (min len 3)).map f).length → (pkl (pk ((List.range (min len 3)).map f) i))[j]? = some u → w.cell? ⟨g, o + i * 8 + j, none⟩ = some u := fun i j u hi hu => by
        have hi' : i < min len 3 := by simpa using hi
        rw [e2 i hi'] at hu
        exact hc i j u (by omega) hu
      refine ⟨g, o, rfl, ⟨by simp; omega, fun i hi => ?_, fun i hi => key i 0 _ hi rfl, fun i hi => key i 1 _ hi rfl, fun i hi => key i 2 _ hi rfl, fun i hi => key i 3 _ hi rfl, fun i hi => key i 4 _ hi rfl, fun i hi => key i 5 _ hi rfl, fun i hi => key i 6 _ hi rfl, fun i hi => key i 7 _ hi rfl⟩⟩
      have hi' : i < min len 3 := by simpa using hi
      rw [e2 i hi']
      exact hpk i (by omega)
    exact ⟨⟨{ form := i0, n := i1, W := ks2, vW := c2, H := ks3, vH := c3, P := (List.range (min len 3)).map f, vP := .slice ao len cap, fill := b5, rule := i6, kind := pk_, a := pa, b := pb, p := pp, q := pq, r := pr, C := ks8, vC := c21, stroke := b9, Wd := ks10, vWd := c23, line := ln, cap := i12, D := ks13, vD := c29, F := ks14, vF := c30, T := ks15, vT := c31 }, ao, len, cap⟩,
      rfl, rfl, ⟨sl2, sl3, kl, sl8, sl10, sl13, sl14, sl15⟩, hcap, hl⟩
end

end Go.Proofs.YtglbfpjjnboeaaaGreat

namespace Go.Proofs.YtglbfpjjnboeaaaGreat
open Go Go.RowKit
open M

theorem Made3.paths {s : Shp} (h : Made3 s) : Mk2 s.P := by
  rcases h.body with ⟨-, -, -, b⟩ | ⟨-, -, -, b, -⟩
  · rw [b]; exact Mk2.nil
  · exact b
theorem atps_19 {ks : List Pk} (h : Mk2 ks) (t : Int) : (atps ks t).length ≤ 19 := by
  by_cases h0 : ks.length = 0
  · unfold atps; rw [if_pos h0]; simp
  · exact (h.path (by omega) t).2.2
/-- Of a tape's shape with whatever form: the document's answer is the program's, a short path. -/
theorem Made3.two {s : Shp} (h : Made3 s) (form t : Int) : shAtR { s with form := form } t = shAt { s with form := form } t ∧ (shAt { s with form := form } t).length ≤ 8796093022208 := by
  have e := h.paths.same t
  have l := atps_19 h.paths t
  refine ⟨?_, ?_⟩
  · unfold shAtR shAt
    show (if form = 0 then _ else if form = 1 then _ else if form = 2 then _ else if form = 3 then ratps s.P t else []) = (if form = 0 then _ else if form = 1 then _ else if form = 2 then _ else if form = 3 then atps s.P t else [])
    rw [e]
  · unfold shAt
    show (if form = 0 then _ else if form = 1 then _ else if form = 2 then _ else if form = 3 then atps s.P t else []).length ≤ _
    split
    · unfold rectL; rw [straightL_length]; simp [rectP]
    · split
      · unfold ovalL ovalN; simp
      · split
        · exact Nat.le_trans (star_length _ _ _) (by decide)
        · split
          · omega
          · simp
theorem and_63 (c : Int) : bits .and .i64 c 63 = c % 64 := by
  show IntKind.i64.wrap ((BitVec.ofInt 64 c &&& BitVec.ofInt 64 (63 : Int)).toNat : Int) = _
  have e0 : (BitVec.ofInt 64 (63 : Int)).toNat = 63 := by decide
  have e1 : (BitVec.ofInt 64 c).toNat = (c % 18446744073709551616).toNat := by rw [BitVec.toNat_ofInt]; rfl
  have e2 : ∀ n : Nat, n &&& 63 = n % 64 := fun n => Nat.and_two_pow_sub_one_eq_mod n 6
  rw [BitVec.toNat_and, e0, e1, e2, IntKind.wrap_i64]
  omega

theorem int_wf {x : Int} (h : (Lit.int .i64 x).wf = true) : -9223372036854775808 ≤ x ∧ x ≤ 9223372036854775807 := by
  simp [Lit.wf, IntKind.min, IntKind.max, IntKind.signed, IntKind.bits] at h
  omega

set_option maxRecDepth 100000 in
set_option maxHeartbeats 8000000 in
theorem shapeTells_walk {w : World} (l1 : Value) (_ : Unit) (t x y n : Int) (v5 : Value) (raw : Shp × Option Addr × Nat × Nat) (form : Int) (hN1 : Nums w l1) (wx : (Lit.int .i64 x).wf = true) (wy : (Lit.int .i64 y).wf = true) (hR : Sarg w v5 raw.1 raw.2.1 raw.2.2.1 raw.2.2.2) :
    Calls Tryz.prog 4 #[l1, .int .i64 t, .int .i64 x, .int .i64 y, .int .i64 n, v5, .int .i64 form] w fun r w' => r = .returned (.bool true) ∧ Below w.heap.size w w' := by
  obtain ⟨ra, ao, nP, cap⟩ := raw
  obtain ⟨hv, hvP, hlie, hcap, hnP⟩ := hR
  simp only at hv hvP hlie hcap hnP
  subst hv
  obtain ⟨Z, hZ⟩ : ∃ Z, w.heap.size = Z := ⟨_, rfl⟩
  obtain ⟨B, hB⟩ : ∃ B, (w.alloc (.cells (shC ra) 34)).heap.size = B := ⟨_, rfl⟩
  obtain ⟨W, hW⟩ : ∃ W, (w.alloc (.cells (shC ra) 34)).alloc (.cells #[l1, .int .i64 0] 51) = W := ⟨_, rfl⟩
  have hb0 : Below w.heap.size w W := by rw [← hW]; exact ((Below.refl _ _).alloc (Nat.le_refl _) _).alloc (by simp) _
  have hz : Z + 1 = B := by rw [← hB, ← hZ]; simp
  have T1 : Tp W B l1 := tp_start hN1 (by rw [← hW]; exact has_new hB) hb0 (by omega)
  have sz0 : W.heap.size = B + 1 := by rw [← hW]; simp [hZ]; omega
  have KR : Has W Z (shC ra) 34 := by rw [← hW]; exact (has_new hZ).alloc _
  obtain ⟨a1, n1, c1, rfl⟩ := hN1.shape
  have HB := Lib.hid hB
  have HZ := Lib.hid hZ
  have HW := Lib.hid hW
  have HB0 := Lib.hid hb0
  have SZ := Lib.hid sz0
  have HZB := Lib.hid hz
  have HKR := Lib.hid KR
  have HVP := Lib.hid hvP
  have HLIE := Lib.hid hlie
  have HCAP := Lib.hid hcap
  have HNP := Lib.hid hnP
  have WX := Lib.hid wx
  have WY := Lib.hid wy
  have TS := Lib.hid (t_shapeL _ _ _ T1)
  clear hb0 T1 hW hN1 sz0 hz KR hvP hlie hcap hnP wx wy
  go_enter Tryz.func4, Tryz.ntmps4
  go_upto_region 2 with fail
  rw [HW.out]
  clear hB hZ
  apply wp_region_lit
  refine wpList_plain rfl fun K hK => ?_
  have HK := Lib.hid hK
  clear hK
  go_wp2_with fail
  refine HK.out _ _ ?_
  clear HK
  refine wpList_plain rfl fun K hK => ?_
  have HK := Lib.hid hK
  clear hK
  go_wp2_with fail
  refine TS.out.mono ?_
  rintro e w1 ⟨s, rfl, md, ⟨A, M, hA, ls⟩, -, hg⟩
  have MD := Lib.hid md
  have LS := Lib.hid ls
  have HG := Lib.hid hg
  have HA : Hid (Z < A) := Lib.hid (by have := SZ.out; have := HZB.out; omega)
  have BW : Hid (Below w.heap.size w w1) := Lib.hid (below_on HB0.out hg (by have := HZ.out; have := HZB.out; omega) HB0.out.size)
  have KZ : Hid (Has w1 Z (shC ra) 34) := Lib.hid (has_grown HKR.out hg (by have := HZB.out; omega))
  clear md ls hA hg TS HKR HB0
  refine HK.out _ _ ?_
  clear HK
  obtain ⟨S, hS⟩ : ∃ S, w1.heap.size = S := ⟨_, rfl⟩
  refine wpList_plain rfl fun K hK => ?_
  have HK := Lib.hid hK
  clear hK
  go_wp2_with fail
  refine HK.out _ _ ?_
  clear HK
  refine wpList_store_row rfl 34 _ _ rfl S (shC s) rfl rfl 34 _ (has_new hS) (by kernel_rfl) rfl LS.out.lie.ones ?_
  apply wpList_nil
  obtain ⟨X, hX⟩ : ∃ X, (w1.alloc (.cells (shC (shF 0 0)) 34)).setRow S (shC s) = X := ⟨_, rfl⟩
  have bX : Below w1.heap.size w1 X := by rw [← hX]; exact below_setRow ((Below.refl _ _).alloc (Nat.le_refl _) _) (by omega)
  have kX : Has X S (shC s) 34 := by rw [← hX]; exact has_setRow (has_new hS)
  try rw [hX]
  have BX := Lib.hid (BW.out.trans (bX.mono BW.out.size))
  have KZX := Lib.hid (KZ.out.below bX KZ.out.lt)
  have LX := Lib.hid (LS.out.kept (W' := X) (fun k hk _ _ => bX.block k hk))
  have KX := Lib.hid kX
  have HS : Hid (Z < S) := Lib.hid (by have := KZ.out.lt; omega)
  clear hX bX hS LS KZ BW HG SZ HW HB
  -- o: a copy of it, its form the argument
  obtain ⟨O, hO⟩ : ∃ O, X.heap.size = O := ⟨_, rfl⟩
  go_upto_region 3 with fail
  apply wp_region_lit
  refine wpList_load_row rfl 34 _ rfl S rfl 34 _ (0, 0) _ kX Tryz.underlying34 rfl (by kernel_rfl) ?_
  clear kX
  refine wpList_plain rfl fun K hK => ?_
  have HK := Lib.hid hK
  clear hK
  go_wp2_with fail
  refine HK.out _ _ ?_
  clear HK
  refine wpList_store_row rfl 34 _ _ rfl O (shC s) rfl rfl 34 _ (has_new hO) (by kernel_rfl) rfl LX.out.lie.ones ?_
  apply wpList_nil
  obtain ⟨Y, hY⟩ : ∃ Y, (X.alloc (.cells (shC (shF 0 0)) 34)).setRow O (shC s) = Y := ⟨_, rfl⟩
  have bY : Below X.heap.size X Y := by rw [← hY]; exact below_setRow ((Below.refl _ _).alloc (Nat.le_refl _) _) (by omega)
  have kY : Has Y O (shC s) 34 := by rw [← hY]; exact has_setRow (has_new hO)
  try rw [hY]
  have bY2 : Below X.heap.size X (Y.setCell ⟨O, 0, none⟩ (.int .i64 form)) := bY.setCell (by show X.heap.size ≤ O; omega) _
  have kY2 : Has (Y.setCell ⟨O, 0, none⟩ (.int .i64 form)) O (shC { s with form := form }) 34 := has_set kY 0 _
  have o0 := kY.cell 0 _ rfl
  have fz := has_fro kY
  obtain ⟨V, hV⟩ : ∃ V, Y.setCell ⟨O, 0, none⟩ (.int .i64 form) = V := ⟨_, rfl⟩
  rw [hV] at bY2 kY2
  have HV := Lib.hid hV
  have BV := Lib.hid (BX.out.trans (bY2.mono BX.out.size))
  have KZV := Lib.hid (KZX.out.below bY2 KZX.out.lt)
  have LV := Lib.hid (LX.out.kept (W' := V) (fun k hk _ _ => bY2.block k hk))
  have KSV := Lib.hid (KX.out.below bY2 KX.out.lt)
  have KOV := Lib.hid kY2
  have HO : Hid (Z < O) := Lib.hid (by have := KZX.out.lt; omega)
  clear hY hV bY bY2 kY kY2 hO LX KZX KX BX
  go_upto_region 5 with fail
  rw [HV.out]
  clear o0 fz HV
  -- raw's keys of paths, three at most
  have z4 := KZV.out.cell 4 ra.vP rfl
  rw [HVP.out] at z4
  have fz := has_fro KZV.out
  have c1 := HCAP.out.1
  have c2 : (nP : Int) ≤ 8796093022208 := by have := HNP.out; omega
  go_upto_if 29 with fail
  go_cut [29] (fun _ wx => Below w.heap.size w wx ∧ Has wx Z (shC { ra with vP := .slice ao (min nP 3) cap }) 34 ∧ Has wx S (shC s) 34 ∧ Has wx O (shC { s with form := form }) 34 ∧ ShIn wx s)
  case first =>
    by_cases h3 : 3 < nP
    · have e3 : decide ((3 : Int) < nP) = true := decide_eq_true (by omega)
      have em : min nP 3 = 3 := by omega
      obtain ⟨ao', cap', ev, -, hrow⟩ := HLIE.out.P
      simp only [em] at ev
      have el : ra.P.length = 3 := by simp at ev; omega
      obtain ⟨gp, op, ea, -⟩ := hrow (by show 0 < ra.P.length; omega)
      have eao : ao = some ⟨gp, op, none⟩ := by simp at ev; rw [ev.1, ea]
      subst eao
      clear ev el ea hrow em
      have c3 : 3 ≤ cap := by omega
      have c4 : (3 : Int) ≤ cap := by omega
      have c5 : ¬ cap = 0 := by omega
      have bx : Below w.heap.size w (V.setCell ⟨Z, 4, none⟩ (.slice (some ⟨gp, op, none⟩) 3 cap)) := BV.out.setCell (by show w.heap.size ≤ Z; have := HZ.out; omega) _
      have kz : Has (V.setCell ⟨Z, 4, none⟩ (.slice (some ⟨gp, op, none⟩) 3 cap)) Z (shC { ra with vP := .slice (some ⟨gp, op, none⟩) (min nP 3) cap }) 34 := by
        rw [show min nP 3 = 3 by omega]
        exact has_set KZV.out 4 _
      have ks : Has (V.setCell ⟨Z, 4, none⟩ (.slice (some ⟨gp, op, none⟩) 3 cap)) S (shC s) 34 := has_off1 KSV.out (by have := HS.out; omega) 4 _
      have ko : Has (V.setCell ⟨Z, 4, none⟩ (.slice (some ⟨gp, op, none⟩) 3 cap)) O (shC { s with form := form }) 34 := has_off1 KOV.out (by have := HO.out; omega) 4 _
      have hl : ShIn (V.setCell ⟨Z, 4, none⟩ (.slice (some ⟨gp, op, none⟩) 3 cap)) s := (LV.out.kept (fun k _ k1 _ => heap_setCell_other V ⟨Z, 4, none⟩ k _ (by have := HA.out; show k ≠ Z; omega))).lie
      have RX := Lib.hid (And.intro bx (And.intro kz (And.intro ks (And.intro ko hl))))
      clear bx kz ks ko hl
      go_wp2_with fail
      go_meet
      case rel => exact RX.out
    · have e3 : decide ((3 : Int) < nP) = false := decide_eq_false (by omega)
      have em : min nP 3 = nP := by omega
      have KZ2 : Hid (Has V Z (shC { ra with vP := .slice ao (min nP 3) cap }) 34) := Lib.hid (by rw [em, ← HVP.out]; exact KZV.out)
      clear em c1
      go_wp2_with fail
      go_meet
      case rel => exact ⟨BV.out, KZ2.out, KSV.out, KOV.out, LV.out.lie⟩
  case rest =>
    clear z4 fz c1 c2 BV KZV KSV KOV LV
    obtain ⟨hb, kz, ks, ko, hi⟩ := hcut
    have RI := (HLIE.out).below hb
    have OI : ShIn wc { s with form := form } := ⟨hi.W, hi.H, hi.P, hi.C, hi.Wd, hi.D, hi.F, hi.T⟩
    obtain ⟨p, hp, p0, p1⟩ : ∃ x, bits .and .i64 t 63 = x ∧ 0 ≤ x ∧ x ≤ 63 := ⟨_, rfl, by rw [and_63]; omega, by rw [and_63]; omega⟩
    have e1 : IntKind.i64.wrap (p - 4) = p - 4 := IntWalk.i64_in _ (by omega)
    obtain ⟨q, hq⟩ : ∃ x, bits .and .i64 t 31 = x := ⟨_, rfl⟩
    obtain ⟨n2, hn2⟩ : ∃ x, bits .and .i64 n 15 = x := ⟨_, rfl⟩
    obtain ⟨k, hk⟩ : ∃ k, okS { ra with vP := .slice ao (min nP 3) cap } = k := ⟨_, rfl⟩
    have bx : -9223372036854775808 ≤ x ∧ x ≤ 9223372036854775807 := int_wf WX.out
    have by_ : -9223372036854775808 ≤ y ∧ y ≤ 9223372036854775807 := int_wf WY.out
    have C1 : Hid (∀ z : Later wc, Calls Tryz.prog 6 #[.agg (shC s), .int .i64 (p - 4)] z.to fun e w' => e = .returned (.bool true) ∧ Below z.to.heap.size z.to w') := Lib.hid (fun z => by
      have tl := MD.out.tells (p - 4)
      have tw := MD.out.two s.form (p - 4)
      exact l13_same (hi.below z.below) (p - 4) ⟨by omega, by omega⟩ ⟨by omega, by omega⟩ tw.1 tw.2)
    have C2 : Hid (∀ z : Later wc, Calls Tryz.prog 6 #[.agg (shC s), .int .i64 t] z.to fun e w' => e = .returned (.bool true) ∧ Below z.to.heap.size z.to w') := Lib.hid (fun z => by
      have tl := MD.out.tells t
      have tw := MD.out.two s.form t
      exact l13_same (hi.below z.below) t ⟨by omega, by omega⟩ ⟨by omega, by omega⟩ tw.1 tw.2)
    have C3 : Hid (∀ z : Later wc, Calls Tryz.prog 6 #[.agg (shC { s with form := form }), .int .i64 q] z.to fun e w' => e = .returned (.bool true) ∧ Below z.to.heap.size z.to w') := Lib.hid (fun z => by
      have tl := MD.out.tells q
      have tw := MD.out.two form q
      exact l13_same (OI.below z.below) q ⟨by show _ ≤ atk s.W q 0; omega, by show atk s.W q 0 ≤ _; omega⟩ ⟨by show _ ≤ atk s.H q 0; omega, by show atk s.H q 0 ≤ _; omega⟩ tw.1 tw.2)
    have C4 : Hid (∀ z : Later wc, Calls Tryz.prog 9 #[.agg (shC { ra with vP := .slice ao (min nP 3) cap })] z.to fun e w' => e = .returned (.bool k) ∧ Below z.to.heap.size z.to w') := Lib.hid (fun z => by rw [← hk]; exact sh_right (RI.below z.below))
    have C5 : Hid (∀ z : Later wc, Calls Tryz.prog 10 #[.agg (shC { ra with vP := .slice ao (min nP 3) cap })] z.to fun e w' => e = .returned (.bool k) ∧ Below z.to.heap.size z.to w') := Lib.hid (fun z => by rw [← hk]; exact rh_right (RI.below z.below))
    have C6 : Hid (∀ (z : Later wc) (a b c : Int), -9223372036854775808 ≤ a ∧ a ≤ 9223372036854775807 → -9223372036854775808 ≤ b ∧ b ≤ 9223372036854775807 → Calls Tryz.prog 5 #[.int .i64 a, .int .i64 b, .int .i64 c] z.to fun e w' => e = .returned (.bool true) ∧ Below z.to.heap.size z.to w') := Lib.hid (fun z a b c ha hb => l13_forms a b c _ ha hb)
    have C7 : Hid (∀ z : Later wc, Calls Tryz.prog 7 #[] z.to fun e w' => e = .returned (.bool true) ∧ Below z.to.heap.size z.to w') := Lib.hid (fun z => known13 _)
    have KS : Hid (∀ w', (∃ z : Later wc, w' = z.to) → Has w' S (shC s) 34) := Lib.hid (fun w' ⟨z, e⟩ => by rw [e]; exact ks.below z.below ks.lt)
    have KO : Hid (∀ w', (∃ z : Later wc, w' = z.to) → Has w' O (shC { s with form := form }) 34) := Lib.hid (fun w' ⟨z, e⟩ => by rw [e]; exact ko.below z.below ko.lt)
    have KZ : Hid (∀ w', (∃ z : Later wc, w' = z.to) → Has w' Z (shC { ra with vP := .slice ao (min nP 3) cap }) 34) := Lib.hid (fun w' ⟨z, e⟩ => by rw [e]; exact kz.below z.below kz.lt)
    have HB := Lib.hid hb
    have ek : (k == k) = true := by simp
    clear hb kz ks ko hi RI OI hk
    obtain ⟨cs, hcs⟩ : ∃ c, shC s = c := ⟨_, rfl⟩
    obtain ⟨co, hco⟩ : ∃ c, shC { s with form := form } = c := ⟨_, rfl⟩
    obtain ⟨cz, hcz⟩ : ∃ c, shC { ra with vP := .slice ao (min nP 3) cap } = c := ⟨_, rfl⟩
    obtain ⟨r1, hr1⟩ : ∃ r, p - 4 = r := ⟨_, rfl⟩
    have zs : Hid ((Tryz.prog.info? 34).map (·.size) = some cs.size) := Lib.hid (by rw [← hcs]; kernel_rfl)
    have zo : Hid ((Tryz.prog.info? 34).map (·.size) = some co.size) := Lib.hid (by rw [← hco]; kernel_rfl)
    have zz : Hid ((Tryz.prog.info? 34).map (·.size) = some cz.size) := Lib.hid (by rw [← hcz]; kernel_rfl)
    rw [hcs] at C1 C2 KS
    rw [hco] at C3 KO
    rw [hcz] at C4 C5 KZ
    rw [hr1] at C1
    have e1' : IntKind.i64.wrap (p - 4) = r1 := by rw [e1, hr1]
    clear hcs hco hcz hr1 e1
    go_upto_region 7 with fail
    refine wp_region_class (C := fun w' => ∃ z : Later wc, w' = z.to) (by kernel_rfl) (by kernel_rfl) ⟨⟨_, below_drew (Below.refl _ _)⟩, rfl⟩ ?_
    (refine BigFrame.wpQuiet_want (by rfl) (fun K hK => quiet_load_row 34 _ rfl S rfl cs KS.out Tryz.underlying34 rfl zs.out (hK _ ?_)); go_simp)
    go_big_quiet_step (fail)
    go_big_quiet_step (fail)
    go_big_quiet_step (fail)
    go_big_quiet_step ((go_at_call 6; exact Later.calls (C1.out _)))
    go_big_quiet_step (fail)
    (refine BigFrame.wpQuiet_want (by rfl) (fun K hK => quiet_load_row 34 _ rfl S rfl cs KS.out Tryz.underlying34 rfl zs.out (hK _ ?_)); go_simp)
    go_big_quiet_step (fail)
    go_big_quiet_step ((go_at_call 6; exact Later.calls (C2.out _)))
    go_big_quiet_step (fail)
    go_big_quiet_step (fail)
    (refine BigFrame.wpQuiet_want (by rfl) (fun K hK => quiet_load_row 34 _ rfl O rfl co KO.out Tryz.underlying34 rfl zo.out (hK _ ?_)); go_simp)
    go_big_quiet_step (fail)
    go_big_quiet_step (fail)
    go_big_quiet_step ((go_at_call 6; exact Later.calls (C3.out _)))
    go_big_quiet_step (fail)
    go_big_quiet_step (fail)
    (refine BigFrame.wpQuiet_want (by rfl) (fun K hK => quiet_load_row 34 _ rfl Z rfl cz KZ.out Tryz.underlying34 rfl zz.out (hK _ ?_)); go_simp)
    go_big_quiet_step ((go_at_call 9; exact Later.calls (C4.out _)))
    (refine BigFrame.wpQuiet_want (by rfl) (fun K hK => quiet_load_row 34 _ rfl Z rfl cz KZ.out Tryz.underlying34 rfl zz.out (hK _ ?_)); go_simp)
    go_big_quiet_step ((go_at_call 10; exact Later.calls (C5.out _)))
    go_big_quiet_step (fail)
    go_big_quiet_step (fail)
    go_big_quiet_step (fail)
    go_big_quiet_step (fail)
    go_big_quiet_step (fail)
    go_big_quiet_step (fail)
    go_big_quiet_step ((go_at_call 5; exact Later.calls (C6.out _ x y n bx by_)))
    go_big_quiet_step (fail)
    go_big_quiet_step (fail)
    go_big_quiet_step (fail)
    go_big_quiet_step (fail)
    go_big_quiet_step (fail)
    go_big_quiet_step (fail)
    go_big_quiet_step (fail)
    go_big_quiet_step (fail)
    go_big_quiet_step ((go_at_call 5; exact Later.calls (C6.out _ _ _ _ (by omega) (by omega))))
    go_big_quiet_step (fail)
    go_big_quiet_step (fail)
    go_big_quiet_step ((go_at_call 7; exact Later.calls (C7.out _)))
    go_big_quiet_step (fail)
    go_big_quiet_step (fail)
    refine wpQuiet_nil ?_
    intro z
    have R := Lib.hid (HB.out.trans (z.below.mono HB.out.size))
    go_wp2
    go_ret
    exact ⟨rfl, R.out⟩

end Go.Proofs.YtglbfpjjnboeaaaGreat

namespace Go.Proofs.YtglbfpjjnboeaaaGreat
open Go.RowKit Go.ChangeShapes Go.WideShapes Go.Deep
open M

section
variable {H : Type} {enc : TypeId × Value → H} {w : World} {base : Nat} {held : Bool}
theorem cell_int : Tryz.prog.cellsOf 3 = 1 := by kernel_rfl
set_option maxRecDepth 100000 in
theorem open_tape {r : Reach} {b0 : Nat} {v : Value} {d : DataW H} {p : List MemPlace} (hv : Value.okWide Tryz.prog w r b0 48 v) (h : DataW.Trod enc Tryz.prog w base (fun _ => true) held 48 v d p) : ∃ _ : Unit, Nums w v := by
  refine ⟨(), ?_⟩
  obtain ⟨a0, len0, cap0, rfl⟩ := okWide_slice Tryz.underlying48 hv
  obtain ⟨fuel, hf⟩ := h
  rcases open_slice1 Tryz.underlying48 cell_int hf with ⟨hc, _⟩ | ⟨a, len, cap, m, n, V, D, Pl, hc, _, hl, hm, hmm, _, hi⟩
  · simp [Value.cells] at hc
    obtain ⟨rfl, rfl, rfl⟩ := hc
    exact Or.inl ⟨_, _, rfl⟩
  · simp [Value.cells] at hc
    obtain ⟨rfl, rfl, rfl⟩ := hc
    rw [if_pos rfl] at hmm
    subst hmm
    by_cases h0 : len0 = 0
    · subst h0
      exact Or.inl ⟨_, _, rfl⟩
    · have hspot : a.spot = none := by
        have := (hi 0 (by omega)).1
        simpa [Addr.add] using World.cell?_spot this
      obtain ⟨b, o, sp⟩ := a
      simp only at hspot
      subst hspot
      have h63 : len0 ≤ 9223372036854775807 := by
        have h := hm
        simp [maxLen] at h
        omega
      refine Or.inr ⟨b, o, len0, _, rfl, by omega, h63, fun i hil => ?_⟩
      obtain ⟨h1, h2⟩ := hi i (by omega)
      obtain ⟨k, hk, _⟩ := DataW.trod_int Tryz.underlying3 h2
      rw [Addr.add_lit] at h1
      refine ⟨k, h1.trans ?_⟩
      simpa using hk
end

end Go.Proofs.YtglbfpjjnboeaaaGreat

namespace Go.Proofs.YtglbfpjjnboeaaaGreat.shapeTells
open Go.ChangeShapes Go.WideShapes Go.ChangeAt Go.RowKit

theorem post_below {H : Type} {enc : TypeId × Value → H} {P : Program} {f : Func} {s : ChangeSpec} {apart fresh handsOn : Bool} {W V : World} {args : Array Value} {v : Value} {ds gs : List (DataW H)} {before pa pv : List MemPlace}
    (hW : DataW.Whole enc P f.params.toList s.vars apart W args.toList ds gs before)
    (hres : ∀ (b : Nat) (sp : Nat → Bool) (hd : Bool), DataW.TrodAll enc P V b sp hd f.resultTypes.toList (v.resultList f.resultTypes.size) (s.fn H (ds ++ gs)).results [])
    (hargs : ∀ sp : Nat → Bool, (∀ p ∈ before, sp p.block = true) → DataW.TrodAll enc P V 0 sp true f.params.toList args.toList (s.fn H (ds ++ gs)).args pa)
    (hvars : ∀ sp : Nat → Bool, (∀ p ∈ before, sp p.block = true) → DataW.TrodVars enc P V sp s.vars (s.fn H (ds ++ gs)).vars pv)
    (hps : before = pa ++ pv) (hb : Below W.heap.size W V) : s.post enc P f apart fresh handsOn false W args v V := by
  have hl : ∀ p ∈ before, (fun b => decide (b < W.heap.size)) p.block = true := fun p hp => by simpa using hW.lt p hp
  refine ⟨ds, gs, before, [], pa, pv, hW, hres _ _ _, hargs _ hl, hvars _ hl, World.keptBut_mono (fun p hp => ⟨hp, ?_⟩) (hb.frame (· ∈ before)), fun h => by cases h⟩
  rw [hps, List.mem_append] at hp
  exact Or.inr hp

theorem own : ownKnob Tryz.prog.godebug = none := by kernel_rfl
theorem laid : laidOutB Tryz.prog = true := by kernel_rfl

set_option maxRecDepth 100000 in
theorem lifted (os : Os) (started : os.Started) (H : Type) (enc : TypeId × Value → H) :
    ReturnsInHanded {} Tryz.checked os 4 .any (Rows.shapeTellsSpec.pre6 enc Tryz.prog Tryz.f4 Rows.shapeTellsRow.domain false) (Rows.shapeTellsSpec.post enc Tryz.prog Tryz.f4 false true false false) := by
  refine returnsInHanded_of_change_sized (C := Tryz.checked) own started (by kernel_rfl) Tryz.func4
    (ChangeSpec.witness6 (enc := enc) (C := Tryz.checked) false ⟨#[], #[.slice none 0 0, .int .i64 0, .int .i64 0, .int .i64 0, .int .i64 0, .agg #[.int .i64 0, .int .i64 0, .slice none 0 0, .slice none 0 0, .slice none 0 0, .bool false, .int .i64 0, .int .i64 0, .int .u8 0, .int .u8 0, .int .u8 0, .int .u8 0, .int .u8 0, .int .u8 0, .int .u8 0, .int .u8 0, .int .i64 0, .int .i64 0, .int .i64 0, .int .i64 0, .int .i64 0, .slice none 0 0, .bool false, .slice none 0 0, .int .u8 0, .int .u8 0, .int .u8 0, .int .u8 0, .int .i64 0, .slice none 0 0, .slice none 0 0, .slice none 0 0], .int .i64 0], []⟩ 8 (by kernel_rfl) (by kernel_rfl) (by kernel_rfl) (by kernel_rfl)) ?_
  intro W base args ds gs before hval0 hW hcnd hsz0 _
  have hval : ∀ (j : Nat) t v, Tryz.f4.params[j]? = some t → args[j]? = some v → Value.okWide Tryz.prog W .any base t v := hval0
  have hW' := hW
  obtain ⟨p, q, hA0, hV, rfl, hfz, hnd⟩ := hW
  have hA : DataW.TrodAll enc Tryz.prog W 0 (fun _ => true) true Tryz.f4.params.toList args.toList ds p := hA0
  rw [Tryz.params4] at hA hval
  obtain ⟨v0, vs0, d0, ds0, p0, q0, hargs, rfl, rfl, h0, r0⟩ := trodAll_cons hA
  obtain ⟨v1, vs1, d1, ds1, p1, q1, rfl, rfl, rfl, h1, r1⟩ := trodAll_cons r0
  obtain ⟨v2, vs2, d2, ds2, p2, q2, rfl, rfl, rfl, h2, r2⟩ := trodAll_cons r1
  obtain ⟨v3, vs3, d3, ds3, p3, q3, rfl, rfl, rfl, h3, r3⟩ := trodAll_cons r2
  obtain ⟨v4, vs4, d4, ds4, p4, q4, rfl, rfl, rfl, h4, r4⟩ := trodAll_cons r3
  obtain ⟨v5, vs5, d5, ds5, p5, q5, rfl, rfl, rfl, h5, r5⟩ := trodAll_cons r4
  obtain ⟨v6, vs6, d6, ds6, p6, q6, rfl, rfl, rfl, h6, r6⟩ := trodAll_cons r5
  obtain ⟨rfl, rfl, rfl⟩ := trodAll_nil r6
  obtain rfl : args = #[v0, v1, v2, v3, v4, v5, v6] := by cases args; simp_all
  obtain ⟨rfl, rfl⟩ := trodVars_none hV
  have hsz : (DataW.weightsEach Tryz.prog (Tryz.f4.params.toList ++ Rows.shapeTellsSpec.plain.varTypes Tryz.prog) ([d0, d1, d2, d3, d4, d5, d6] ++ [])).all (· ≤ reachBytes) = true := hsz0
  rw [Tryz.params4] at hsz
  obtain ⟨a0, w0⟩ := open_tape (hval 0 48 v0 rfl rfl) h0
  obtain ⟨a1, rfl, rfl, rfl, w1⟩ := open_int Tryz.underlying2 (hval 1 2 v1 rfl rfl) h1
  obtain ⟨a2, rfl, rfl, rfl, w2⟩ := open_int Tryz.underlying2 (hval 2 2 v2 rfl rfl) h2
  obtain ⟨a3, rfl, rfl, rfl, w3⟩ := open_int Tryz.underlying2 (hval 3 2 v3 rfl rfl) h3
  obtain ⟨a4, rfl, rfl, rfl, w4⟩ := open_int Tryz.underlying3 (hval 4 3 v4 rfl rfl) h4
  obtain ⟨a5, w5⟩ := open_shape (hval 5 34 v5 rfl rfl) h5 (fun q hq => by simpa using List.all_eq_true.1 hsz _ (DataW.weights_mem_each (j := 5) (t := 34) rfl rfl q hq))
  obtain ⟨a6, rfl, rfl, rfl, w6⟩ := open_int Tryz.underlying3 (hval 6 3 v6 rfl rfl) h6
  clear hA0 hval0
  simp only [List.append_nil] at hW'
  refine (shapeTells_walk (w := W) v0 a0 a1 a2 a3 a4 v5 a5 a6 w0 w2 w3 w5).mono fun e W' ⟨he, hg⟩ => ?_
  subst he
  exact ⟨_, rfl, post_below (pv := []) hW' (fun _ _ _ => (trodAll_cons_mk (shut_bool Tryz.underlying4 _) trodAll_mk0)) (fun sp hsp => (trodAll_cons_mk (WideElems.Trod_stays laid (by kernel_rfl) (of_decide_eq_true (by kernel_rfl)) h0 (fun x hx => hg.same (by simpa using hW'.lt x (by simp [hx]))) (fun x hx => hsp x (by simp [hx]))) (trodAll_cons_mk (shut_int Tryz.underlying2 w1) (trodAll_cons_mk (shut_int Tryz.underlying2 w2) (trodAll_cons_mk (shut_int Tryz.underlying2 w3) (trodAll_cons_mk (shut_int Tryz.underlying3 w4) (trodAll_cons_mk (WideElems.Trod_stays laid (by kernel_rfl) (of_decide_eq_true (by kernel_rfl)) h5 (fun x hx => hg.same (by simpa using hW'.lt x (by simp [hx]))) (fun x hx => hsp x (by simp [hx]))) (trodAll_cons_mk (shut_int Tryz.underlying3 w6) trodAll_mk0)))))))) (fun _ _ => rfl) (by simp) hg⟩

theorem over : Rows.shapeTellsRow.holds Tryz.pinned (OpenSpec.ofChange Rows.shapeTellsSpec) :=
  OpenClaim.holds_of_wide 4 Tryz.f4 rfl rfl rfl rfl rfl rfl rfl ⟨rfl, rfl, rfl, rfl, rfl⟩ rfl rfl rfl rfl rfl (by kernel_rfl) Tryz.func4 (by kernel_rfl)
    (of_decide_eq_true (by kernel_rfl)) (by unfold Func.isWrapper; first | (rw [if_pos (by decide +kernel)]; kernel_rfl) | (rw [if_neg (by decide +kernel)]; exact ⟨rfl, rfl⟩))
    (fun os started H enc _ => lifted os started H enc)

end Go.Proofs.YtglbfpjjnboeaaaGreat.shapeTells
namespace Go.Proofs.YtglbfpjjnboeaaaGreat
theorem shapeTells_holds : Rows.ShapeTellsSaid := shapeTells.over
#print axioms shapeTells_holds
end Go.Proofs.YtglbfpjjnboeaaaGreat
