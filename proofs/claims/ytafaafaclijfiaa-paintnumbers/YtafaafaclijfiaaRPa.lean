/- Contracts of mutoscoperef13.near and .Paint: for all paints what the plain data says; of the memory nothing that was there turns. -/
import Derived.Test.YtafaafaclijfiaaPaN
import Derived.Test.YtafaafaclijfiaaMake
import Derived.Test.YtafaafaclijfiaaQt
import Derived.Laws.Rows
namespace Go.Proofs.Ytafaafaclijfiaa
open Go Go.RowKit
open M

theorem rh_near (a : Int) (w : World) : Calls Try.prog 29 #[.int .i64 a] w fun e w' => e = .returned (.bool (nearN a)) ∧ Below w.heap.size w w' := by
  obtain ⟨K, hK⟩ : ∃ K, nearN a = K := ⟨_, rfl⟩
  have EK := Lib.hid hK
  rw [hK]
  clear hK
  go_enter Try.func29, Try.ntmps29
  go_wp2
  all_goals
    go_ret
    refine ⟨?_, Below.refl _ _⟩
    rw [← EK.out]
    clear EK
    unfold nearN
    first | (simp_all; done) | (simp_all; omega; done)
set_option maxRecDepth 100000 in
set_option maxHeartbeats 4000000 in
theorem rh_paint (k : Int) (a b : Cr) (p q : Pt) (r : Int) (w : World) : Calls Try.prog 13 #[.agg (paC k a b p q r)] w fun e w' => e = .returned (.bool (decide (k = 0 ∨ k = 1 ∨ k = 2) && (nearN p.x && nearN p.y && nearN q.x && nearN q.y && nearN r))) ∧ Below w.heap.size w w' := by
  obtain ⟨px, py⟩ := p
  obtain ⟨qx, qy⟩ := q
  simp only
  obtain ⟨n0, h0⟩ : ∃ x, nearN px = x := ⟨_, rfl⟩
  have N0 : Hid (∀ w, Calls Try.prog 29 #[.int .i64 px] w fun e w' => e = .returned (.bool n0) ∧ Below w.heap.size w w') := Lib.hid (fun w => by rw [← h0]; exact rh_near _ w)
  obtain ⟨n1, h1⟩ : ∃ x, nearN py = x := ⟨_, rfl⟩
  have N1 : Hid (∀ w, Calls Try.prog 29 #[.int .i64 py] w fun e w' => e = .returned (.bool n1) ∧ Below w.heap.size w w') := Lib.hid (fun w => by rw [← h1]; exact rh_near _ w)
  obtain ⟨n2, h2⟩ : ∃ x, nearN qx = x := ⟨_, rfl⟩
  have N2 : Hid (∀ w, Calls Try.prog 29 #[.int .i64 qx] w fun e w' => e = .returned (.bool n2) ∧ Below w.heap.size w w') := Lib.hid (fun w => by rw [← h2]; exact rh_near _ w)
  obtain ⟨n3, h3⟩ : ∃ x, nearN qy = x := ⟨_, rfl⟩
  have N3 : Hid (∀ w, Calls Try.prog 29 #[.int .i64 qy] w fun e w' => e = .returned (.bool n3) ∧ Below w.heap.size w w') := Lib.hid (fun w => by rw [← h3]; exact rh_near _ w)
  obtain ⟨n4, h4⟩ : ∃ x, nearN r = x := ⟨_, rfl⟩
  have N4 : Hid (∀ w, Calls Try.prog 29 #[.int .i64 r] w fun e w' => e = .returned (.bool n4) ∧ Below w.heap.size w w') := Lib.hid (fun w => by rw [← h4]; exact rh_near _ w)
  rw [h0, h1, h2, h3, h4]
  clear h0 h1 h2 h3 h4
  obtain ⟨B, hB⟩ : ∃ B, w.heap.size = B := ⟨_, rfl⟩
  by_cases hk : k = 0 ∨ k = 1 ∨ k = 2
  · rw [decide_eq_true hk]
    obtain ⟨W, hW⟩ : ∃ W, w.alloc (.cells (paC k a b ⟨px, py⟩ ⟨qx, qy⟩ r) 27) = W := ⟨_, rfl⟩
    have hkk : Has W B (paC k a b ⟨px, py⟩ ⟨qx, qy⟩ r) 27 := by rw [← hW]; exact has_new hB
    have hb : Below B w W := by rw [← hW]; exact (Below.refl _ _).alloc (by omega) _
    have HF := Lib.hid (show ∀ w', Below W.heap.size W w' → ∀ j u, (paC k a b ⟨px, py⟩ ⟨qx, qy⟩ r)[j]? = some u → w'.cell? ⟨B, j, none⟩ = some u from fun w' h' j u hu => (hkk.below h' hkk.lt).cell j u hu)
    have R0 : Hid (Below W.heap.size W W) := Lib.hid (Below.refl _ _)
    have FIN := Lib.hid (show ∀ w', Below W.heap.size W w' → Below w.heap.size w w' from fun w' h' => by rw [hB]; exact hb.trans (h'.mono (by have := hkk.lt; omega)))
    have HW := Lib.hid hW
    clear hkk hb hW
    rcases hk with rfl | rfl | rfl
    all_goals
      go_enter Try.func13, Try.ntmps13
      go_wp2_with fail
      rw [HW.out]
      clear hB
      refine (N0.out _).mono ?_
      rintro e w1 ⟨rfl, q1⟩
      have R1 := Lib.hid (R0.out.trans (q1.mono R0.out.size))
      clear q1
      cases n0
      · go_wp2
        go_ret
        exact ⟨rfl, FIN.out _ R1.out⟩
      have g10 := HF.out w1 R1.out 10 _ rfl
      go_wp2_with fail
      refine (N1.out _).mono ?_
      rintro e w2 ⟨rfl, q2⟩
      have R2 := Lib.hid (R1.out.trans (q2.mono R1.out.size))
      clear q2
      cases n1
      · go_wp2
        go_ret
        exact ⟨rfl, FIN.out _ R2.out⟩
      have g11 := HF.out w2 R2.out 11 _ rfl
      go_wp2_with fail
      refine (N2.out _).mono ?_
      rintro e w3 ⟨rfl, q3⟩
      have R3 := Lib.hid (R2.out.trans (q3.mono R2.out.size))
      clear q3
      cases n2
      · go_wp2
        go_ret
        exact ⟨rfl, FIN.out _ R3.out⟩
      have g12 := HF.out w3 R3.out 12 _ rfl
      go_wp2_with fail
      refine (N3.out _).mono ?_
      rintro e w4 ⟨rfl, q4⟩
      have R4 := Lib.hid (R3.out.trans (q4.mono R3.out.size))
      clear q4
      cases n3
      · go_wp2
        go_ret
        exact ⟨rfl, FIN.out _ R4.out⟩
      have g13 := HF.out w4 R4.out 13 _ rfl
      go_wp2_with fail
      refine (N4.out _).mono ?_
      rintro e w5 ⟨rfl, q5⟩
      have R5 := Lib.hid (R4.out.trans (q5.mono R4.out.size))
      clear q5
      go_wp2
      go_ret
      exact ⟨by simp, FIN.out _ R5.out⟩
  · rw [decide_eq_false hk]
    clear hB
    rcases (show k < 0 ∨ (0 ≤ k ∧ 2 < k) by omega) with h0 | ⟨h0, h1⟩
    all_goals
      go_enter Try.func13, Try.ntmps13
      go_wp2
      go_ret
      exact ⟨by first | (simp; done) | (simp; omega), (Below.refl _ _).alloc (Nat.le_refl _) _⟩

end Go.Proofs.Ytafaafaclijfiaa
