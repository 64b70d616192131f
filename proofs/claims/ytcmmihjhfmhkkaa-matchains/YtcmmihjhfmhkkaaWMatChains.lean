/- The walk of mutoscopelaw3.MatChains: for all numbers it returns true; of the memory nothing that was there turns. -/
import Derived.Test.YtcmmihjhfmhkkaaP3
namespace Go.Proofs.Ytcmmihjhfmhkkaa
open Go.RowKit
open M

theorem made_go {a b : Int} (a1 : -67108863 ≤ a) (a2 : a ≤ 67108863) (b1 : -67108863 ≤ b) (b2 : b ≤ 67108863) (w : World) :
    Calls Try.prog 7 #[.int .i64 a, .int .i64 b, .int .i64 0, .int .i64 0, .int .i64 65536, .int .i64 65536, .int .i64 0] w fun r w' => r = .returned (.agg #[.int .i64 65536, .int .i64 0, .int .i64 0, .int .i64 65536, .int .i64 a, .int .i64 b]) ∧ Below w.heap.size w w' := by
  have h := made_move a1 a2 b1 b2 (c := 0) (d := 0) (by omega) (by omega) (by omega) (by omega) w
  rw [Int.sub_zero, Int.sub_zero] at h
  exact h

set_option maxHeartbeats 2000000 in
theorem matChains_walk (xa xb xc xd px py : Int) (_ : (Lit.int .i64 xa).wf = true) (_ : (Lit.int .i64 xb).wf = true) (_ : (Lit.int .i64 xc).wf = true) (_ : (Lit.int .i64 xd).wf = true) (_ : (Lit.int .i64 px).wf = true) (_ : (Lit.int .i64 py).wf = true) (w : World) :
    Calls Try.prog 6 #[.int .i64 xa, .int .i64 xb, .int .i64 xc, .int .i64 xd, .agg #[.int .i64 px, .int .i64 py]] w fun r w' => r = .returned (.bool true) ∧ Below w.heap.size w w' := by
  obtain ⟨a1, a2⟩ := near_bd xa
  obtain ⟨a, ha⟩ : ∃ a, xa.tmod 67108864 = a := ⟨_, rfl⟩
  rw [ha] at a1 a2
  obtain ⟨b1, b2⟩ := near_bd xb
  obtain ⟨b, hb⟩ : ∃ b, xb.tmod 67108864 = b := ⟨_, rfl⟩
  rw [hb] at b1 b2
  obtain ⟨c1, c2⟩ := near_bd xc
  obtain ⟨c, hc⟩ : ∃ c, xc.tmod 67108864 = c := ⟨_, rfl⟩
  rw [hc] at c1 c2
  obtain ⟨d1, d2⟩ := near_bd xd
  obtain ⟨d, hd⟩ : ∃ d, xd.tmod 67108864 = d := ⟨_, rfl⟩
  rw [hd] at d1 d2
  obtain ⟨u1, u2⟩ := near_bd px
  obtain ⟨u, hu⟩ : ∃ u, px.tmod 67108864 = u := ⟨_, rfl⟩
  rw [hu] at u1 u2
  obtain ⟨v1, v2⟩ := near_bd py
  obtain ⟨v, hv⟩ : ∃ v, py.tmod 67108864 = v := ⟨_, rfl⟩
  rw [hv] at v1 v2
  have h1 : add (mul 65536 65536) (mul 0 0) = 65536 := by decide
  have h2 : add (mul 0 65536) (mul 65536 0) = 0 := by decide
  have h3 : add (mul 65536 0) (mul 0 65536) = 0 := by decide
  have h4 : add (mul 0 0) (mul 65536 65536) = 65536 := by decide
  have e1 : add (add (mul 65536 c) (mul 0 d)) a = c + a := by rw [chain_x (by omega) (by omega) (by omega) (by omega)] <;> omega
  have e2 : add (add (mul 0 c) (mul 65536 d)) b = d + b := by rw [chain_y (by omega) (by omega) (by omega) (by omega)] <;> omega
  have e3 : add (add (mul 65536 a) (mul 0 b)) c = c + a := by rw [chain_x (by omega) (by omega) (by omega) (by omega)] <;> omega
  have e4 : add (add (mul 0 a) (mul 65536 b)) d = d + b := by rw [chain_y (by omega) (by omega) (by omega) (by omega)] <;> omega
  have g1 : place (add (add (mul 65536 u) (mul 0 v)) (c + a)) = u + (c + a) := by rw [move_x (by omega) (by omega) (by omega) (by omega)] <;> omega
  have g2 : place (add (add (mul 0 u) (mul 65536 v)) (d + b)) = v + (d + b) := by rw [move_y (by omega) (by omega) (by omega) (by omega)] <;> omega
  have g3 : place (add (add (mul 65536 u) (mul 0 v)) c) = u + c := by rw [move_x (by omega) (by omega) (by omega) (by omega)] <;> omega
  have g4 : place (add (add (mul 0 u) (mul 65536 v)) d) = v + d := by rw [move_y (by omega) (by omega) (by omega) (by omega)] <;> omega
  have g5 : place (add (add (mul 65536 (u + c)) (mul 0 (v + d))) a) = u + (c + a) := by rw [move_x (by omega) (by omega) (by omega) (by omega)] <;> omega
  have g6 : place (add (add (mul 0 (u + c)) (mul 65536 (v + d))) b) = v + (d + b) := by rw [move_y (by omega) (by omega) (by omega) (by omega)] <;> omega
  have g7 : place (add (add (mul 65536 u) (mul 0 v)) 0) = u := by rw [move_x (by omega) (by omega) (by omega) (by omega)] <;> omega
  have g8 : place (add (add (mul 0 u) (mul 65536 v)) 0) = v := by rw [move_y (by omega) (by omega) (by omega) (by omega)] <;> omega
  have e5 : add (add (mul 65536 a) (mul 0 b)) 0 = a := by rw [chain_x (by omega) (by omega) (by omega) (by omega)] <;> omega
  have e6 : add (add (mul 0 a) (mul 65536 b)) 0 = b := by rw [chain_y (by omega) (by omega) (by omega) (by omega)] <;> omega
  have e7 : add (add (mul 65536 0) (mul 0 0)) c = c := by rw [chain_x (by omega) (by omega) (by omega) (by omega)] <;> omega
  have e8 : add (add (mul 0 0) (mul 65536 0)) d = d := by rw [chain_y (by omega) (by omega) (by omega) (by omega)] <;> omega
  go_enter Try.func6, Try.ntmps6
  go_wp2_with fail
  refine (made_go a1 a2 b1 b2 _).mono ?_
  rintro e w1 ⟨rfl, hk⟩
  have hp : Has w1 w.heap.size #[.int .i64 px, .int .i64 py] 28 := (has_new rfl).below hk (by simp)
  have hB0 : Below w.heap.size w w1 := ((Below.refl _ _).alloc (Nat.le_refl _) _).trans (hk.mono (by simp))
  have B0 := Lib.hid hB0
  have HP := Lib.hid hp
  clear hk hp hB0
  go_wp2_with fail
  refine (made_go c1 c2 d1 d2 _).mono ?_
  rintro e w2 ⟨rfl, hk⟩
  have hp : Has w2 w.heap.size #[.int .i64 px, .int .i64 py] 28 := (HP.out.alloc _).below hk (by have := HP.out.lt; simp; omega)
  have hm : Has w2 w1.heap.size #[.int .i64 65536, .int .i64 0, .int .i64 0, .int .i64 65536, .int .i64 a, .int .i64 b] 24 := (has_new rfl).below hk (by simp)
  have hB1 : Below w.heap.size w w2 := (B0.out.alloc B0.out.size _).trans (hk.mono (by have := B0.out.size; simp; omega))
  have c0 := hp.cell 0 _ rfl
  have c3 := hp.cell 1 _ rfl
  have l1 := hp.lt
  have B1 := Lib.hid hB1
  have HM := Lib.hid hm
  clear hk hp hB1 hm B0 HP
  go_wp2_with fail
  obtain ⟨W, hW⟩ : ∃ W, (w2.alloc (.cells #[.int .i64 65536, .int .i64 0, .int .i64 0, .int .i64 65536, .int .i64 c, .int .i64 d] 24)).alloc (.cells #[.int .i64 u, .int .i64 v] 28) = W := ⟨_, rfl⟩
  have H0 : Has W w1.heap.size #[.int .i64 65536, .int .i64 0, .int .i64 0, .int .i64 65536, .int .i64 a, .int .i64 b] 24 := by rw [← hW]; exact (HM.out.alloc _).alloc _
  have H1 : Has W w2.heap.size #[.int .i64 65536, .int .i64 0, .int .i64 0, .int .i64 65536, .int .i64 c, .int .i64 d] 24 := by rw [← hW]; exact (has_new rfl).alloc _
  have H2 : Has W (w2.heap.size + 1) #[.int .i64 u, .int .i64 v] 28 := by rw [← hW]; exact has_new (by simp)
  have hB2 : Below w.heap.size w W := by
    rw [← hW]
    exact (B1.out.alloc (by omega) _).alloc (by simp; omega) _
  rw [hW]
  have r0 := Later.read H0 0 _ rfl
  have r1 := Later.read H0 1 _ rfl
  have r2 := Later.read H0 2 _ rfl
  have r3 := Later.read H0 3 _ rfl
  have r4 := Later.read H0 4 _ rfl
  have r5 := Later.read H0 5 _ rfl
  have s0 := Later.read H1 0 _ rfl
  have s1 := Later.read H1 1 _ rfl
  have s2 := Later.read H1 2 _ rfl
  have s3 := Later.read H1 3 _ rfl
  have s4 := Later.read H1 4 _ rfl
  have s5 := Later.read H1 5 _ rfl
  have t0 := Later.read H2 0 _ rfl
  have t1 := Later.read H2 1 _ rfl
  have B2 := Lib.hid hB2
  clear H0 H1 H2 hB2 hW B1 HM c0 c3 l1
  refine wp_region_class (C := fun w' => ∃ z : Later W, w' = z.to) (by kernel_rfl) (by kernel_rfl) ⟨⟨_, below_drew (Below.refl _ _)⟩, rfl⟩ ?_
  try simp only [List.append_eq, List.cons_append, List.nil_append]
  repeat (go_big_quiet_step (first | (go_at_call 12; exact Later.calls (m_apply _ _ _ _ _ _ _ _ _)) | (go_at_call 13; exact Later.calls (m_after _ _ _ _ _ _ _ _ _ _ _ _ _)) | (go_at_call 14; exact Later.calls (m_same _)) | (go_at_call 10; exact Later.calls (known3 _))))
  refine wpQuiet_nil ?_
  rintro _ ⟨z, rfl⟩
  go_wp2
  go_ret
  exact ⟨rfl, B2.out.trans (z.below.mono B2.out.size)⟩

end Go.Proofs.Ytcmmihjhfmhkkaa
