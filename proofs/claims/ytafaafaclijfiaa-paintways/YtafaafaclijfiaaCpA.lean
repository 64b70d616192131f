/- Contracts of paint.near, .nearPoint, .held, .middle, .less, .share, .both, .along and .round: what the plain arithmetic says; of the memory nothing that was there turns. Conditions: those that each theorem names. -/
import Derived.Test.YtafaafaclijfiaaPaD
import Derived.Test.YtafaafaclijfiaaMake
import Derived.Test.YtafaafaclijfiaaQt
import Derived.Test.YtafaafaclijfiaaA
import Derived.Test.YtafaafaclijfiaaD
import Derived.Test.YtafaafaclijfiaaG
import Derived.Laws.Rows
import Derived.Deep.DeepCutAuto
import Derived.BigRegion
import Derived.Deep.RegionWith
namespace Go.Proofs.Ytafaafaclijfiaa
open Go Go.RowKit
open M

theorem drawn_below {P : Program} {f : FuncId} {args : Array Value} {w : World} {v : Value} (h : Calls P f args w (Drawn v w)) : Calls P f args w fun e w' => e = .returned v ∧ Below w.heap.size w w' :=
  h.mono fun _ _ ⟨a, n, b⟩ => ⟨a, by rw [b]; exact below_drewN (Below.refl _ _) n⟩
theorem has_setO {w : World} {g k : Nat} {cs : Array Value} {t : TypeId} (h : Has w g cs t) (hne : g ≠ k) (j : Nat) (u : Value) : Has (w.setCell ⟨k, j, none⟩ u) g cs t :=
  (heap_setCell_other _ ⟨k, _, none⟩ g _ (fun e => hne (by simpa using e))).trans h
theorem p_near (a : Int) (w : World) : Calls Try.prog 28 #[.int .i64 a] w fun e w' => e = .returned (.bool (nearN a)) ∧ w = w' := by
  obtain ⟨K, hK⟩ : ∃ K, nearN a = K := ⟨_, rfl⟩
  have EK := Lib.hid hK
  rw [hK]
  clear hK
  go_enter Try.func28, Try.ntmps28
  go_wp2
  all_goals
    go_ret
    refine ⟨?_, rfl⟩
    rw [← EK.out]
    clear EK
    unfold nearN
    first | (simp_all; done) | (simp_all; omega; done)
theorem p_nearPoint (x y : Int) (w : World) : Calls Try.prog 27 #[.agg #[.int .i64 x, .int .i64 y]] w fun e w' => e = .returned (.bool (nearN x && nearN y)) ∧ Below w.heap.size w w' := by
  have NX := Lib.hid (fun w => p_near x w)
  have NY := Lib.hid (fun w => p_near y w)
  obtain ⟨a, ha⟩ : ∃ K, nearN x = K := ⟨_, rfl⟩
  obtain ⟨b, hb⟩ : ∃ K, nearN y = K := ⟨_, rfl⟩
  rw [ha] at NX ⊢
  rw [hb] at NY ⊢
  clear ha hb
  go_enter Try.func27, Try.ntmps27
  go_wp2_with fail
  refine (NX.out _).mono ?_
  rintro e w' ⟨rfl, rfl⟩
  cases a
  · go_wp2
    go_ret
    exact ⟨rfl, (Below.refl _ _).alloc (Nat.le_refl _) _⟩
  · go_wp2_with fail
    refine (NY.out _).mono ?_
    rintro e w' ⟨rfl, rfl⟩
    go_wp2
    go_ret
    exact ⟨by simp, (Below.refl _ _).alloc (Nat.le_refl _) _⟩
theorem p_middle (x : Int) (w : World) : Calls Try.prog 22 #[.int .i64 x] w fun e w' => e = .returned (.int .i64 (midX x)) ∧ w = w' := by
  obtain ⟨c, hc, c0, c1⟩ : ∃ c, clamp x (-256) 256 = c ∧ -256 ≤ c ∧ c ≤ 256 := ⟨_, rfl, by unfold clamp; split <;> (try split) <;> omega, by unfold clamp; split <;> (try split) <;> omega⟩
  have HC := Lib.hid hc
  unfold midX
  rw [hc]
  clear hc
  go_enter Try.func22, Try.ntmps22
  go_wp2_with (go_at_call 44; refine (q_clamp x _ _ _).mono ?_; rintro e w' ⟨rfl, rfl⟩; rw [HC.out])
  go_ret
  exact ⟨rfl, rfl⟩
theorem p_share (x : Int) (w : World) : Calls Try.prog 23 #[.int .i64 x] w fun e w' => e = .returned (.int .i64 (clamp x 0 65536)) ∧ w = w' := by
  go_enter Try.func23, Try.ntmps23
  go_wp2_with (go_at_call 44; refine (q_clamp x _ _ _).mono ?_; rintro e w' ⟨rfl, rfl⟩)
  go_ret
  exact ⟨rfl, rfl⟩
set_option maxHeartbeats 1000000 in
theorem p_held (x y : Int) (w : World) :
    Calls Try.prog 20 #[.agg #[.int .i64 x, .int .i64 y]] w fun r w' => r = .returned (.agg #[.int .i64 (place x), .int .i64 (place y)]) ∧ Below w.heap.size w w' := by
  go_enter Try.func20, Try.ntmps20
  go_wp2
  refine wp_region_draws_tail 7 (by kernel_rfl) (by kernel_rfl) (by kernel_rfl) (by kernel_rfl) ?_
  simp only [List.take_succ_cons, List.take_zero, List.drop_succ_cons, List.drop_zero]
  repeat (go_big_quiet_step (first | (go_at_call 43; exact quiet1 (q_place _ _))))
  refine wpQuiet_nil ?_
  rintro _ ⟨nq, rfl⟩
  obtain ⟨w1, hw1⟩ : ∃ w1, w.drewN nq = w1 := ⟨_, rfl⟩
  have hs : w.heap.size = w1.heap.size := by rw [← hw1]; rfl
  have hb : Below w.heap.size w w1 := by rw [← hw1]; exact below_drewN (Below.refl _ _) _
  change wpList _ _ _ _ _ (((w.drewN nq).alloc _).alloc _)
  rw [hw1]
  have HB := Lib.hid hb
  clear hb hw1
  go_wp2
  refine bodyPost_ret (v := .agg #[.int .i64 (place x), .int .i64 (place y)]) (by simp [results, Try.results20, go_sem, hs]) rfl ⟨rfl, ?_⟩
  repeat (first | exact HB.out | refine Below.alloc ?_ (by first | (simp [hs]; done) | (simp [hs]; omega)) _)
theorem p_less {a b c d : Int} (a0 : -536870912 ≤ a) (a1 : a ≤ 536870912) (b0 : -536870912 ≤ b) (b1 : b ≤ 536870912) (c0 : -536870912 ≤ c) (c1 : c ≤ 536870912) (d0 : -536870912 ≤ d) (d1 : d ≤ 536870912) (w : World) :
    Calls Try.prog 21 #[.agg #[.int .i64 a, .int .i64 b], .agg #[.int .i64 c, .int .i64 d]] w fun r w' => r = .returned (.agg #[.int .i64 (a - c), .int .i64 (b - d)]) ∧ Below w.heap.size w w' := by
  go_enter Try.func21, Try.ntmps21
  go_wp2
  refine bodyPost_ret (v := .agg #[.int .i64 (a - c), .int .i64 (b - d)]) (by simp [results, Try.results21, go_sem]) rfl ⟨rfl, ?_⟩
  repeat (first | exact Below.refl _ _ | refine Below.alloc ?_ (by first | (simp; done) | (simp; omega)) _)
theorem p_both {a b c d : Int} (a0 : -1073741824 ≤ a) (a1 : a ≤ 1073741824) (b0 : -1073741824 ≤ b) (b1 : b ≤ 1073741824) (c0 : -1073741824 ≤ c) (c1 : c ≤ 1073741824) (d0 : -1073741824 ≤ d) (d1 : d ≤ 1073741824) (w : World) :
    Calls Try.prog 46 #[.agg #[.int .i64 a, .int .i64 b], .agg #[.int .i64 c, .int .i64 d]] w fun r w' => r = .returned (.int .i64 (linD a b c d)) ∧ Below w.heap.size w w' := by
  obtain ⟨⟨l1, l2⟩, l3, l4⟩ := lin_in a0 a1 b0 b1 c0 c1 d0 d1
  have HB := Lib.hid (((Below.refl w.heap.size w).alloc (Nat.le_refl _) (.cells #[.int .i64 a, .int .i64 b] 25)).alloc (by simp) (.cells #[.int .i64 c, .int .i64 d] 25))
  unfold linD
  go_enter Try.func46, Try.ntmps46
  go_wp2
  go_ret
  exact ⟨rfl, HB.out⟩
set_option maxRecDepth 100000 in
set_option maxHeartbeats 1000000 in
theorem p_along {a b c d : Int} (a0 : -1073741824 ≤ a) (a1 : a ≤ 1073741824) (b0 : -1073741824 ≤ b) (b1 : b ≤ 1073741824) (c0 : -1073741824 ≤ c) (c1 : c ≤ 1073741824) (d0 : -1073741824 ≤ d) (d1 : d ≤ 1073741824) (w : World) :
    Calls Try.prog 24 #[.agg #[.int .i64 a, .int .i64 b], .agg #[.int .i64 c, .int .i64 d]] w fun r w' => r = .returned (.int .i64 (dv (linD a b c d) (linD c d c d))) ∧ Below w.heap.size w w' := by
  have B1 := Lib.hid (fun w => p_both a0 a1 b0 b1 c0 c1 d0 d1 w)
  have B2 := Lib.hid (fun w => p_both c0 c1 d0 d1 c0 c1 d0 d1 w)
  obtain ⟨n, hn⟩ : ∃ K, linD a b c d = K := ⟨_, rfl⟩
  obtain ⟨m, hm⟩ : ∃ K, linD c d c d = K := ⟨_, rfl⟩
  rw [hn] at B1 ⊢
  rw [hm] at B2 ⊢
  clear hn hm a0 a1 b0 b1 c0 c1 d0 d1
  have DV := Lib.hid (fun w => drawn_below (q_div n m w))
  obtain ⟨v, hv⟩ : ∃ K, dv n m = K := ⟨_, rfl⟩
  rw [hv] at DV ⊢
  clear hv
  obtain ⟨B, hB⟩ : ∃ B, w.heap.size = B := ⟨_, rfl⟩
  obtain ⟨W, hW⟩ : ∃ W, (w.alloc (.cells #[.int .i64 a, .int .i64 b] 25)).alloc (.cells #[.int .i64 c, .int .i64 d] 25) = W := ⟨_, rfl⟩
  have ha : Has W B #[.int .i64 a, .int .i64 b] 25 := by rw [← hW]; exact (has_new hB).alloc _
  have hm : Has W (B + 1) #[.int .i64 c, .int .i64 d] 25 := by rw [← hW]; exact has_new (by simp [hB])
  have hb : Below w.heap.size w W := by rw [← hW]; exact ((Below.refl _ _).alloc (Nat.le_refl _) _).alloc (by simp) _
  have HW := Lib.hid hW
  have HA := Lib.hid ha
  have HM := Lib.hid hm
  have HB := Lib.hid hb
  clear hW ha hm hb
  go_enter Try.func24, Try.ntmps24
  go_upto_region 1 with fail
  rw [HW.out]
  clear hB
  have e0 := Later.read HA.out 0 _ rfl
  have e1 := Later.read HA.out 1 _ rfl
  have d0 := Later.read HM.out 0 _ rfl
  have d1 := Later.read HM.out 1 _ rfl
  refine wp_region_class (C := fun w' => ∃ z : Later W, w' = z.to) (by kernel_rfl) (by kernel_rfl) ⟨⟨_, below_drew (Below.refl _ _)⟩, rfl⟩ ?_
  repeat (go_big_quiet_step (first | (go_at_call_of 46 a; exact Later.calls (B1.out _)) | (go_at_call 46; exact Later.calls (B2.out _)) | (go_at_call 45; exact Later.calls (DV.out _))))
  refine wpQuiet_nil ?_
  rintro _ ⟨z, rfl⟩
  go_wp2
  go_ret
  exact ⟨rfl, HB.out.trans (z.below.mono HB.out.size)⟩
theorem p_round (x y r : Int) (w : World) :
    Calls Try.prog 25 #[.agg #[.int .i64 x, .int .i64 y], .int .i64 r] w fun e w' => e = .returned (.int .i64 (if 0 < r then dv (hyp x y) r else 65536)) ∧ Below w.heap.size w w' := by
  obtain ⟨W, hW⟩ : ∃ W, w.alloc (.cells #[.int .i64 x, .int .i64 y] 25) = W := ⟨_, rfl⟩
  have hb : Below w.heap.size w W := by rw [← hW]; exact (Below.refl _ _).alloc (Nat.le_refl _) _
  have HB := Lib.hid hb
  have HW := Lib.hid hW
  clear hb hW
  by_cases hr : 0 < r
  · rw [if_pos hr]
    have HY := Lib.hid (fun w => q_hyp x y w)
    obtain ⟨h, hh⟩ : ∃ h, hyp x y = h := ⟨_, rfl⟩
    rw [hh] at HY ⊢
    clear hh
    have DV := Lib.hid (fun w => q_div h r w)
    obtain ⟨v, hv⟩ : ∃ v, dv h r = v := ⟨_, rfl⟩
    rw [hv] at DV ⊢
    clear hv
    go_enter Try.func25, Try.ntmps25
    go_wp2_with fail
    refine (HY.out _).mono ?_
    rintro e w' ⟨rfl, rfl⟩
    go_wp2_with fail
    refine (DV.out _).mono ?_
    rintro e w' ⟨rfl, nd, rfl⟩
    rw [HW.out]
    go_wp2
    go_ret
    exact ⟨rfl, below_drewN HB.out _⟩
  · rw [if_neg hr]
    go_enter Try.func25, Try.ntmps25
    go_wp2
    go_ret
    rw [HW.out]
    exact ⟨rfl, HB.out⟩

end Go.Proofs.Ytafaafaclijfiaa
