/- Contracts of mutoscoperef5 (within, Ease, Bend, Part, Curve): for all numbers what the plain arithmetic says; of the memory nothing that was there turns. -/
import Derived.Test.YtglbfpjjnboeaaaGreatJ
import Derived.Test.YtglbfpjjnboeaaaGreatE4
namespace Go.Proofs.YtglbfpjjnboeaaaGreat
open Go.RowKit
open M

theorem below_drawn {P : Program} {f : FuncId} {args : Array Value} {w : World} {v : Value} (h : Calls P f args w (Drawn v w)) :
    Calls P f args w fun e w' => e = .returned v ∧ Below w.heap.size w w' := h.mono fun _ _ ⟨a, n, b⟩ => ⟨a, by rw [b]; exact below_drewN (Below.refl _ _) _⟩

theorem r5_within (x lo hi : Int) (w : World) :
    Calls Tryz.prog 59 #[.int .i64 x, .int .i64 lo, .int .i64 hi] w fun e w' => e = .returned (.bool (decide (lo ≤ x) && decide (x ≤ hi))) ∧ w = w' := by
  go_enter Tryz.func59, Tryz.ntmps59
  go_wp2
  all_goals
    go_ret
    exact ⟨by congr 2; simp [*]; try omega, rfl⟩

theorem okE_and (x1 y1 x2 y2 : Int) : okE x1 y1 x2 y2 = ((okT x1 && okT x2) && (okV y1 && okV y2)) := by unfold okE; rw [Bool.and_assoc]
theorem r5_ease (x1 y1 x2 y2 : Int) (w : World) :
    Calls Tryz.prog 90 #[.agg #[.int .i64 x1, .int .i64 y1, .int .i64 x2, .int .i64 y2]] w fun e w' => e = .returned (.bool (okE x1 y1 x2 y2)) ∧ Below w.heap.size w w' := by
  have t1 : (decide (0 ≤ x1) && decide (x1 ≤ 65536)) = okT x1 := rfl
  have t2 : (decide (0 ≤ x2) && decide (x2 ≤ 65536)) = okT x2 := rfl
  have v1 : (decide (-131072 ≤ y1) && decide (y1 ≤ 196608)) = okV y1 := rfl
  have v2 : (decide (-131072 ≤ y2) && decide (y2 ≤ 196608)) = okV y2 := rfl
  rw [show okE x1 y1 x2 y2 = ((okT x1 && okT x2) && okV y1 && okV y2) from rfl]
  generalize okT x1 = a at *
  generalize okT x2 = b at *
  generalize okV y1 = c at *
  generalize okV y2 = d at *
  have T1 := Lib.hid t1
  have T2 := Lib.hid t2
  have V1 := Lib.hid v1
  have V2 := Lib.hid v2
  clear t1 t2 v1 v2
  go_enter Tryz.func90, Tryz.ntmps90
  go_wp2_with (first | (go_at_call 59; refine (r5_within _ _ _ _).mono ?_; rintro e w' ⟨rfl, rfl⟩; first | rw [T1.out] | rw [T2.out] | rw [V1.out] | rw [V2.out]))
  all_goals
    go_ret
    exact ⟨by simp [*], (Below.refl _ _).alloc (Nat.le_refl _) _⟩

theorem r5_bend (a b t : Int) (w : World) :
    Calls Tryz.prog 111 #[.int .i64 a, .int .i64 b, .int .i64 t] w (Drawn (.int .i64 (bend a b t)) w) := by
  obtain ⟨t0, t1⟩ := clamp_share t
  unfold bend
  obtain ⟨s, hs⟩ : ∃ s, clamp t 0 65536 = s := ⟨_, rfl⟩
  rw [hs] at t0 t1 ⊢
  have HS := Lib.hid hs
  clear hs
  obtain ⟨P, e1, a0, a1, _, _⟩ := twice (x := 65536 - s) (y := 65536 - s) (t := s) (by omega) (by omega) (by omega) (by omega) t0 t1
  obtain ⟨L, e2, b0, b1, _, _⟩ := twice (x := 65536 - s) (y := s) (t := s) (by omega) (by omega) t0 t1 t0 t1
  obtain ⟨E, e3, c0, c1, _, _⟩ := twice (x := s) (y := s) (t := s) t0 t1 t0 t1 t0 t1
  unfold bendc
  rw [e1, e2, e3]
  have H1 := Lib.hid e1
  have H2 := Lib.hid e2
  have H3 := Lib.hid e3
  clear e1 e2 e3
  go_enter Tryz.func111, Tryz.ntmps111
  go_wp2_with (first | (go_at_call 92; refine (r_clamp _ _ _ _).mono ?_; rintro e w' ⟨rfl, rfl⟩; rw [HS.out]) | (go_at_call 101; refine (r_add _ _ _).mono ?_; rintro e w' ⟨rfl, rfl⟩) | (go_at_call 41; refine (r_mul _ _ _).mono ?_; rintro e w' ⟨rfl, n, rfl⟩; first | rw [H1.out] | rw [H2.out] | rw [H3.out] | skip))
  go_ret
  exact ⟨rfl, _, rfl⟩

theorem r5_part (f o t : Int) (w : World) :
    Calls Tryz.prog 81 #[.int .i64 f, .int .i64 o, .int .i64 t] w fun e w' => e = .returned (.int .i64 (prt f o t)) ∧ w = w' := by
  have f1 := hold_lo f; have f2 := hold_hi f
  have o1 := hold_lo o; have o2 := hold_hi o
  have t1 := hold_lo t; have t2 := hold_hi t
  have hc := part_cases f o t
  generalize prt f o t = R at *
  obtain ⟨F, hF⟩ : ∃ F, hold f = F := ⟨_, rfl⟩
  obtain ⟨O, hO⟩ : ∃ O, hold o = O := ⟨_, rfl⟩
  obtain ⟨T, hT⟩ : ∃ T, hold t = T := ⟨_, rfl⟩
  rw [hF, hO, hT] at hc
  rw [hF] at f1 f2
  rw [hO] at o1 o2
  rw [hT] at t1 t2
  have HF := Lib.hid hF
  have HO := Lib.hid hO
  have HT := Lib.hid hT
  clear hF hO hT
  rcases hc with ⟨h1, rfl⟩ | ⟨h1, h2, rfl⟩ | ⟨h1, h2, rfl⟩
  · go_enter Tryz.func81, Tryz.ntmps81
    go_wp2_with (go_at_call 66; refine (r_hold _ _).mono ?_; rintro e w' ⟨rfl, rfl⟩; first | rw [HF.out] | rw [HO.out] | rw [HT.out])
    go_ret
    exact ⟨rfl, rfl⟩
  · go_enter Tryz.func81, Tryz.ntmps81
    go_wp2_with (go_at_call 66; refine (r_hold _ _).mono ?_; rintro e w' ⟨rfl, rfl⟩; first | rw [HF.out] | rw [HO.out] | rw [HT.out])
    go_ret
    exact ⟨rfl, rfl⟩
  · have q := quo_bd (n := T - F) (d := O - F) (by omega) (by omega) (by omega)
    rw [Int.mul_comm 65536] at q ⊢
    have e1 : ((T - F) * 65536).tdiv (O - F) = (T - F) * 65536 / (O - F) := Int.tdiv_eq_ediv_of_nonneg (by omega)
    obtain ⟨V, hV⟩ : ∃ V, (T - F) * 65536 / (O - F) = V := ⟨_, rfl⟩
    rw [hV] at q e1 ⊢
    clear hV
    go_enter Tryz.func81, Tryz.ntmps81
    go_wp2_with (go_at_call 66; refine (r_hold _ _).mono ?_; rintro e w' ⟨rfl, rfl⟩; first | rw [HF.out] | rw [HO.out] | rw [HT.out])
    go_ret
    exact ⟨rfl, rfl⟩

set_option maxHeartbeats 1000000 in
theorem r5_curve (x1 y1 x2 y2 x : Int) (w : World) :
    Calls Tryz.prog 102 #[.agg #[.int .i64 x1, .int .i64 y1, .int .i64 x2, .int .i64 y2], .int .i64 x] w fun e w' => e = .returned (.int .i64 (curve x1 y1 x2 y2 x)) ∧ Below w.heap.size w w' := by
  rcases curve_cases x1 y1 x2 y2 x with ⟨h1, e⟩ | ⟨h1, h2, e⟩ | ⟨h1, h2, e⟩
  · rw [e]; clear e
    go_enter Tryz.func102, Tryz.ntmps102
    go_wp2
    go_ret
    exact ⟨rfl, (Below.refl _ _).alloc (Nat.le_refl _) _⟩
  · rw [e]; clear e
    go_enter Tryz.func102, Tryz.ntmps102
    go_wp2
    go_ret
    exact ⟨rfl, (Below.refl _ _).alloc (Nat.le_refl _) _⟩
  · rw [e]; clear e
    go_enter Tryz.func102, Tryz.ntmps102
    have hs0 := share_bd x1 x2 x
    have H0 : Has (w.alloc (.cells #[.int .i64 x1, .int .i64 y1, .int .i64 x2, .int .i64 y2] 36)) w.heap.size #[.int .i64 x1, .int .i64 y1, .int .i64 x2, .int .i64 y2] 36 := has_new rfl
    have hB : Below w.heap.size w (w.alloc (.cells #[.int .i64 x1, .int .i64 y1, .int .i64 x2, .int .i64 y2] 36)) := (Below.refl _ _).alloc (Nat.le_refl _) _
    have HH := Lib.hid H0
    have HB := Lib.hid hB
    clear H0 hB
    go_wp2
    go_loopw [5, 6, 7, 8] (fun a b c _ wr => ∃ n : Nat, n ≤ 16 ∧ a = .int .i64 (lohi x1 x2 x n).1 ∧ b = .int .i64 (lohi x1 x2 x n).2 ∧ c = .int .i64 n ∧ Has wr w.heap.size #[.int .i64 x1, .int .i64 y1, .int .i64 x2, .int .i64 y2] 36 ∧ Below w.heap.size w wr) (fun _ _ c _ _ => 16 - (intOf c).toNat)
    case atStart => exact ⟨0, by omega, rfl, rfl, rfl, HH.out, HB.out⟩
    case round =>
      clear HH HB
      obtain ⟨n, hn, rfl, rfl, rfl, hh, hb0⟩ := hrel
      have c0 := hh.cell 0 _ rfl
      have c1 := hh.cell 1 _ rfl
      have c2 := hh.cell 2 _ rfl
      have c3 := hh.cell 3 _ rfl
      have HH := Lib.hid hh
      have HB := Lib.hid hb0
      clear hh hb0
      have hb := lohi_bd x1 x2 x n
      by_cases hlt : n < 16
      · have hs := lohi_step x1 x2 x n
        obtain ⟨lo, hlo⟩ : ∃ lo, (lohi x1 x2 x n).1 = lo := ⟨_, rfl⟩
        obtain ⟨hi, hhi⟩ : ∃ hi, (lohi x1 x2 x n).2 = hi := ⟨_, rfl⟩
        rw [hlo, hhi] at hb hs ⊢
        clear hlo hhi
        obtain ⟨m, hm⟩ : ∃ m, (lo + hi) / 2 = m := ⟨_, rfl⟩
        have m0 : 0 ≤ m := by omega
        have m1 : m ≤ 65536 := by omega
        rw [hm] at hs
        obtain ⟨B, hB⟩ : ∃ B, bend x1 x2 m = B := ⟨_, rfl⟩
        rw [hB] at hs
        have HE := Lib.hid hB
        clear hB hs0
        by_cases hle : B ≤ x
        · rw [if_pos hle] at hs
          have HS := Lib.hid hs
          clear hs
          go_wp2_with (go_at_call 111; rw [hm]; refine (r5_bend _ _ _ _).mono ?_; rintro e w' ⟨rfl, k, rfl⟩; rw [HE.out])
          go_roundw
          case rel => exact ⟨n + 1, by omega, by rw [HS.out], by rw [HS.out], by go_num, HH.out.drewN _, below_drewN HB.out _⟩
          case measure => simp [intOf]; omega
        · rw [if_neg hle] at hs
          have HS := Lib.hid hs
          clear hs
          go_wp2_with (go_at_call 111; rw [hm]; refine (r5_bend _ _ _ _).mono ?_; rintro e w' ⟨rfl, k, rfl⟩; rw [HE.out])
          go_roundw
          case rel => exact ⟨n + 1, by omega, by rw [HS.out], by rw [HS.out], by go_num, HH.out.drewN _, below_drewN HB.out _⟩
          case measure => simp [intOf]; omega
      · obtain rfl : n = 16 := by omega
        go_wp2_with (go_at_call 111; refine (r5_bend _ _ _ _).mono ?_; rintro e w' ⟨rfl, k, rfl⟩)
        go_ret
        exact ⟨rfl, below_drewN HB.out _⟩

end Go.Proofs.YtglbfpjjnboeaaaGreat
