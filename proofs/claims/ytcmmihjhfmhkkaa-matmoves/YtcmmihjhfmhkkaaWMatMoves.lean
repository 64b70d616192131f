/- The walk of mutoscopelaw3.MatMoves: for all numbers it returns true; of the memory nothing that was there turns. -/
import Derived.Test.YtcmmihjhfmhkkaaP3
namespace Go.Proofs.Ytcmmihjhfmhkkaa
open Go.RowKit
open M

set_option maxHeartbeats 2000000 in
theorem matMoves_walk (x y ax ay px py t : Int) (_ : (Lit.int .i64 x).wf = true) (_ : (Lit.int .i64 y).wf = true) (_ : (Lit.int .i64 ax).wf = true) (_ : (Lit.int .i64 ay).wf = true) (_ : (Lit.int .i64 px).wf = true) (_ : (Lit.int .i64 py).wf = true) (_ : (Lit.int .i64 t).wf = true) (w : World) :
    Calls Try.prog 5 #[.int .i64 x, .int .i64 y, .int .i64 ax, .int .i64 ay, .agg #[.int .i64 px, .int .i64 py], .int .i64 t] w fun r w' => r = .returned (.bool true) ∧ Below w.heap.size w w' := by
  obtain ⟨a1, a2⟩ := near_bd x
  obtain ⟨a, ha⟩ : ∃ a, x.tmod 67108864 = a := ⟨_, rfl⟩
  rw [ha] at a1 a2
  obtain ⟨b1, b2⟩ := near_bd y
  obtain ⟨b, hb⟩ : ∃ b, y.tmod 67108864 = b := ⟨_, rfl⟩
  rw [hb] at b1 b2
  obtain ⟨c1, c2⟩ := near_bd ax
  obtain ⟨c, hc⟩ : ∃ c, ax.tmod 67108864 = c := ⟨_, rfl⟩
  rw [hc] at c1 c2
  obtain ⟨d1, d2⟩ := near_bd ay
  obtain ⟨d, hd⟩ : ∃ d, ay.tmod 67108864 = d := ⟨_, rfl⟩
  rw [hd] at d1 d2
  obtain ⟨u1, u2⟩ := near_bd px
  obtain ⟨u, hu⟩ : ∃ u, px.tmod 67108864 = u := ⟨_, rfl⟩
  rw [hu] at u1 u2
  obtain ⟨v1, v2⟩ := near_bd py
  obtain ⟨v, hv⟩ : ∃ v, py.tmod 67108864 = v := ⟨_, rfl⟩
  rw [hv] at v1 v2
  have g1 : place (add (add (mul 65536 u) (mul 0 v)) (a - c)) = u + a - c := by rw [move_x (by omega) (by omega) (by omega) (by omega)]; omega
  have g2 : place (add (add (mul 0 u) (mul 65536 v)) (b - d)) = v + b - d := by rw [move_y (by omega) (by omega) (by omega) (by omega)]; omega
  have h1 : add (mul 65536 65536) (mul 0 0) = 65536 := by decide
  have h2 : add (mul 0 65536) (mul 65536 0) = 0 := by decide
  have h3 : add (mul 65536 0) (mul 0 65536) = 0 := by decide
  have h4 : add (mul 0 0) (mul 65536 65536) = 65536 := by decide
  have h5 : add (add (mul 65536 0) (mul 0 0)) (a - c) = a - c := by rw [chain_x (by omega) (by omega) (by omega) (by omega)]; omega
  have h6 : add (add (mul 0 0) (mul 65536 0)) (b - d) = b - d := by rw [chain_y (by omega) (by omega) (by omega) (by omega)]; omega
  have h7 : add (add (mul 65536 (a - c)) (mul 0 (b - d))) 0 = a - c := by rw [chain_x (by omega) (by omega) (by omega) (by omega)]; omega
  have h8 : add (add (mul 0 (a - c)) (mul 65536 (b - d))) 0 = b - d := by rw [chain_y (by omega) (by omega) (by omega) (by omega)]; omega
  obtain ⟨C, S, T, E, F, f1, f2, hmade⟩ := made_turn (t.tmod 1099511627776) a1 a2 b1 b2 c1 c2 d1 d2
  have HM := Lib.hid hmade
  have F1 := Lib.hid f1
  have F2 := Lib.hid f2
  clear hmade f1 f2
  go_enter Try.func5, Try.ntmps5
  go_wp2_with fail
  refine (made_move a1 a2 b1 b2 c1 c2 d1 d2 _).mono ?_
  rintro e w1 ⟨rfl, hb⟩
  have hp : Has w1 w.heap.size #[.int .i64 px, .int .i64 py] 28 := (has_new rfl).below hb (by simp)
  have c0 := hp.cell 0 _ rfl
  have c3 := hp.cell 1 _ rfl
  have l1 := hp.lt
  have hb0 : Below w.heap.size w w1 := ((Below.refl _ _).alloc (Nat.le_refl _) _).trans (hb.mono (by simp))
  have B0 := Lib.hid hb0
  clear hb hp hb0
  go_wp2_with fail
  obtain ⟨W, hW⟩ : ∃ W, (w1.alloc (.cells #[.int .i64 65536, .int .i64 0, .int .i64 0, .int .i64 65536, .int .i64 (a - c), .int .i64 (b - d)] 24)).alloc (.cells #[.int .i64 u, .int .i64 v] 28) = W := ⟨_, rfl⟩
  have H0 : Has W w1.heap.size #[.int .i64 65536, .int .i64 0, .int .i64 0, .int .i64 65536, .int .i64 (a - c), .int .i64 (b - d)] 24 := by rw [← hW]; exact (has_new rfl).alloc _
  have H1 : Has W (w1.heap.size + 1) #[.int .i64 u, .int .i64 v] 28 := by rw [← hW]; exact has_new (by simp)
  have hB1 : Below w.heap.size w W := by
    rw [← hW]
    exact (B0.out.alloc (by omega) _).alloc (by simp; omega) _
  rw [hW]
  have r0 := Later.read H0 0 _ rfl
  have r1 := Later.read H0 1 _ rfl
  have r2 := Later.read H0 2 _ rfl
  have r3 := Later.read H0 3 _ rfl
  have r4 := Later.read H0 4 _ rfl
  have r5 := Later.read H0 5 _ rfl
  have s0 := Later.read H1 0 _ rfl
  have s1 := Later.read H1 1 _ rfl
  have B1 := Lib.hid hB1
  have HH0 := Lib.hid H0
  clear H0 H1 hB1 hW B0 c0 c3 l1
  refine wp_region_class (C := fun w' => ∃ z : Later W, w' = z.to) (by kernel_rfl) (by kernel_rfl) ⟨⟨_, below_drew (Below.refl _ _)⟩, rfl⟩ ?_
  repeat (go_big_quiet_step (first | (go_at_call 12; exact Later.calls (m_apply _ _ _ _ _ _ _ _ _))))
  refine wpQuiet_nil ?_
  rintro _ ⟨z, rfl⟩
  have hz0 : Has z.to w1.heap.size #[.int .i64 65536, .int .i64 0, .int .i64 0, .int .i64 65536, .int .i64 (a - c), .int .i64 (b - d)] 24 := HH0.out.below z.below HH0.out.lt
  have hB2 : Below w.heap.size w z.to := B1.out.trans (z.below.mono B1.out.size)
  have HZ := Lib.hid hz0
  have B2 := Lib.hid hB2
  clear r0 r1 r2 r3 r4 r5 s0 s1 hz0 hB2 B1 HH0 g1 g2
  obtain ⟨wz, hwz⟩ : ∃ wz, z.to = wz := ⟨_, rfl⟩
  rw [hwz] at HZ B2 ⊢
  clear hwz
  go_wp2_with fail
  refine (HM.out _).mono ?_
  rintro e w2 ⟨rfl, hk⟩
  have hz0 : Has w2 w1.heap.size #[.int .i64 65536, .int .i64 0, .int .i64 0, .int .i64 65536, .int .i64 (a - c), .int .i64 (b - d)] 24 := HZ.out.below hk HZ.out.lt
  have hB3 : Below w.heap.size w w2 := B2.out.trans (hk.mono B2.out.size)
  have B3 := Lib.hid hB3
  have HY := Lib.hid hz0
  clear HZ B2 hB3 hz0 hk HM
  go_wp2_with fail
  refine (m_apply _ _ _ _ _ _ _ _ _).mono ?_
  rintro e w3 ⟨rfl, hk⟩
  rw [F1.out, F2.out]
  have hz0 : Has w3 w1.heap.size #[.int .i64 65536, .int .i64 0, .int .i64 0, .int .i64 65536, .int .i64 (a - c), .int .i64 (b - d)] 24 := (HY.out.alloc _).below hk (by have := HY.out.lt; simp; omega)
  have hB4 : Below w.heap.size w w3 := (B3.out.alloc B3.out.size _).trans (hk.mono (by have := B3.out.size; simp; omega))
  have B4 := Lib.hid hB4
  have HX := Lib.hid hz0
  clear HY B3 hB4 hz0 hk F1 F2
  have k1 : a - 3 ≤ a := by omega
  have k2 : a ≤ a + 3 := by omega
  have k3 : b - 3 ≤ b := by omega
  have k4 : b ≤ b + 3 := by omega
  go_wp2_with fail
  obtain ⟨W', hW⟩ : ∃ W', w3.alloc (.cells #[.int .i64 a, .int .i64 b] 28) = W' := ⟨_, rfl⟩
  have H0 : Has W' w1.heap.size #[.int .i64 65536, .int .i64 0, .int .i64 0, .int .i64 65536, .int .i64 (a - c), .int .i64 (b - d)] 24 := by rw [← hW]; exact HX.out.alloc _
  have H1 : Has W' w3.heap.size #[.int .i64 a, .int .i64 b] 28 := by rw [← hW]; exact has_new rfl
  have hB5 : Below w.heap.size w W' := by rw [← hW]; exact B4.out.alloc B4.out.size _
  rw [hW]
  have r0 := Later.read H0 0 _ rfl
  have r1 := Later.read H0 1 _ rfl
  have r2 := Later.read H0 2 _ rfl
  have r3 := Later.read H0 3 _ rfl
  have r4 := Later.read H0 4 _ rfl
  have r5 := Later.read H0 5 _ rfl
  have s0 := Later.read H1 0 _ rfl
  have s1 := Later.read H1 1 _ rfl
  have B5 := Lib.hid hB5
  clear H0 H1 hB5 hW HX B4
  refine wp_region_class (C := fun w' => ∃ z : Later W', w' = z.to) (by kernel_rfl) (by kernel_rfl) ⟨⟨_, below_drew (Below.refl _ _)⟩, rfl⟩ ?_
  try simp only [List.append_eq, List.cons_append, List.nil_append]
  repeat (go_big_quiet_step (first | (go_at_call 13; exact Later.calls (m_after _ _ _ _ _ _ _ _ _ _ _ _ _)) | (go_at_call 14; exact Later.calls (m_same _)) | (go_at_call 10; exact Later.calls (known3 _))))
  refine wpQuiet_nil ?_
  rintro _ ⟨z', rfl⟩
  go_wp2
  go_ret
  exact ⟨rfl, B5.out.trans (z'.below.mono B5.out.size)⟩

end Go.Proofs.Ytcmmihjhfmhkkaa
