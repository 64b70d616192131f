/- Contracts of package ease (Right, Bend, Part, share, At): for all numbers what the plain arithmetic says; of the memory nothing that was there turns (a struct by value is laid in a new block). share alone has no bounds of its own: it halves whatever it is given. -/
import Derived.Test.YtglbfpjjnboeaaaGreatC
import Derived.Test.YtglbfpjjnboeaaaGreatEMath
import Derived.Test.YtglbfpjjnboeaaaGreatTail
import Derived.WalkLawsBesides
import Derived.Lib.Hide
import Derived.Below
namespace Go.Proofs.YtglbfpjjnboeaaaGreat
open Go.RowKit
open M

theorem below_of {P : Program} {f : FuncId} {args : Array Value} {w : World} {v : Value} (h : Calls P f args w fun e w' => e = .returned v ∧ w = w') :
    Calls P f args w fun e w' => e = .returned v ∧ Below w.heap.size w w' := h.mono fun _ _ ⟨a, b⟩ => ⟨a, by rw [← b]; exact Below.refl _ _⟩

theorem e_time (x : Int) (w : World) :
    Calls Tryz.prog 118 #[.int .i64 x] w fun e w' => e = .returned (.bool (okT x)) ∧ w = w' := by
  unfold okT
  go_enter Tryz.func118, Tryz.ntmps118
  go_wp2
  all_goals
    go_ret
    exact ⟨by congr 2; simp [*]; try omega, rfl⟩
theorem e_value (x : Int) (w : World) :
    Calls Tryz.prog 119 #[.int .i64 x] w fun e w' => e = .returned (.bool (okV x)) ∧ w = w' := by
  unfold okV
  go_enter Tryz.func119, Tryz.ntmps119
  go_wp2
  all_goals
    go_ret
    exact ⟨by congr 2; simp [*]; try omega, rfl⟩

theorem e_right (x1 y1 x2 y2 : Int) (w : World) :
    Calls Tryz.prog 112 #[.agg #[.int .i64 x1, .int .i64 y1, .int .i64 x2, .int .i64 y2]] w fun e w' => e = .returned (.bool (okE x1 y1 x2 y2)) ∧ Below w.heap.size w w' := by
  unfold okE
  go_enter Tryz.func112, Tryz.ntmps112
  go_wp2_with (first | (go_at_call 118; refine (e_time _ _).mono ?_; rintro e w' ⟨rfl, rfl⟩) | (go_at_call 119; refine (e_value _ _).mono ?_; rintro e w' ⟨rfl, rfl⟩))
  all_goals
    go_ret
    exact ⟨by simp [*], (Below.refl _ _).alloc (Nat.le_refl _) _⟩

theorem e_bend (a b t : Int) (w : World) :
    Calls Tryz.prog 116 #[.int .i64 a, .int .i64 b, .int .i64 t] w fun e w' => e = .returned (.int .i64 (bend a b t)) ∧ w = w' := by
  obtain ⟨t0, t1⟩ := clamp_share t
  unfold bend
  obtain ⟨s, hs⟩ : ∃ s, clamp t 0 65536 = s := ⟨_, rfl⟩
  rw [hs] at t0 t1 ⊢
  have HS := Lib.hid hs
  clear hs
  obtain ⟨P, e1, a0, a1, _, _⟩ := twice (x := 65536 - s) (y := 65536 - s) (t := s) (by omega) (by omega) (by omega) (by omega) t0 t1
  obtain ⟨L, e2, b0, b1, _, _⟩ := twice (x := 65536 - s) (y := s) (t := s) (by omega) (by omega) t0 t1 t0 t1
  obtain ⟨E, e3, c0, c1, _, _⟩ := twice (x := s) (y := s) (t := s) t0 t1 t0 t1 t0 t1
  unfold bendc
  rw [e1, e2, e3]
  have H1 := Lib.hid e1
  have H2 := Lib.hid e2
  have H3 := Lib.hid e3
  clear e1 e2 e3
  go_enter Tryz.func116, Tryz.ntmps116
  go_wp2_with (first | (go_at_call 42; refine (q_clamp _ _ _ _).mono ?_; rintro e w' ⟨rfl, rfl⟩; rw [HS.out]) | (go_at_call 109; refine (q_add _ _ _).mono ?_; rintro e w' ⟨rfl, rfl⟩) | (go_at_call 40; refine (q_mul _ _ _).mono ?_; rintro e w' ⟨rfl, rfl⟩; first | rw [H1.out] | rw [H2.out] | rw [H3.out] | skip))
  go_ret
  exact ⟨rfl, rfl⟩

theorem part_cases (f o t : Int) : (hold t ≤ hold f ∧ prt f o t = 0) ∨ (hold f < hold t ∧ hold o ≤ hold t ∧ prt f o t = 65536) ∨ (hold f < hold t ∧ hold t < hold o ∧ prt f o t = 65536 * (hold t - hold f) / (hold o - hold f)) := by
  unfold prt
  by_cases h1 : hold t ≤ hold f
  · exact Or.inl ⟨h1, if_pos h1⟩
  · by_cases h2 : hold o ≤ hold t
    · exact Or.inr (Or.inl ⟨by omega, h2, by rw [if_neg h1, if_pos h2]⟩)
    · exact Or.inr (Or.inr ⟨by omega, by omega, by rw [if_neg h1, if_neg h2]⟩)
theorem quo_bd {n d : Int} (n0 : 0 ≤ n) (nd : n ≤ d) (d0 : 0 < d) : 0 ≤ 65536 * n / d ∧ 65536 * n / d ≤ 65536 := by
  refine ⟨Int.ediv_nonneg (by omega) (by omega), ?_⟩
  have : 65536 * n / d ≤ 65536 * d / d := Int.ediv_le_ediv d0 (by omega)
  rw [Int.mul_ediv_cancel _ (by omega)] at this
  exact this

theorem e_part (f o t : Int) (w : World) :
    Calls Tryz.prog 98 #[.int .i64 f, .int .i64 o, .int .i64 t] w fun e w' => e = .returned (.int .i64 (prt f o t)) ∧ w = w' := by
  have f1 := hold_lo f; have f2 := hold_hi f
  have o1 := hold_lo o; have o2 := hold_hi o
  have t1 := hold_lo t; have t2 := hold_hi t
  have hc := part_cases f o t
  generalize prt f o t = R at *
  obtain ⟨F, hF⟩ : ∃ F, hold f = F := ⟨_, rfl⟩
  obtain ⟨O, hO⟩ : ∃ O, hold o = O := ⟨_, rfl⟩
  obtain ⟨T, hT⟩ : ∃ T, hold t = T := ⟨_, rfl⟩
  rw [hF, hO, hT] at hc
  rw [hF] at f1 f2
  rw [hO] at o1 o2
  rw [hT] at t1 t2
  have HF := Lib.hid hF
  have HO := Lib.hid hO
  have HT := Lib.hid hT
  clear hF hO hT
  rcases hc with ⟨h1, rfl⟩ | ⟨h1, h2, rfl⟩ | ⟨h1, h2, rfl⟩
  · go_enter Tryz.func98, Tryz.ntmps98
    go_wp2_with (go_at_call 64; refine (q_hold _ _).mono ?_; rintro e w' ⟨rfl, rfl⟩; first | rw [HF.out] | rw [HO.out] | rw [HT.out])
    go_ret
    exact ⟨rfl, rfl⟩
  · go_enter Tryz.func98, Tryz.ntmps98
    go_wp2_with (go_at_call 64; refine (q_hold _ _).mono ?_; rintro e w' ⟨rfl, rfl⟩; first | rw [HF.out] | rw [HO.out] | rw [HT.out])
    go_ret
    exact ⟨rfl, rfl⟩
  · have q := quo_bd (n := T - F) (d := O - F) (by omega) (by omega) (by omega)
    have e1 : (65536 * (T - F)).tdiv (O - F) = 65536 * (T - F) / (O - F) := Int.tdiv_eq_ediv_of_nonneg (by omega)
    obtain ⟨V, hV⟩ : ∃ V, 65536 * (T - F) / (O - F) = V := ⟨_, rfl⟩
    rw [hV] at q e1 ⊢
    clear hV
    go_enter Tryz.func98, Tryz.ntmps98
    go_wp2_with (go_at_call 64; refine (q_hold _ _).mono ?_; rintro e w' ⟨rfl, rfl⟩; first | rw [HF.out] | rw [HO.out] | rw [HT.out])
    go_ret
    exact ⟨rfl, rfl⟩

theorem e_share (x1 y1 x2 y2 x : Int) (w : World) :
    Calls Tryz.prog 117 #[.agg #[.int .i64 x1, .int .i64 y1, .int .i64 x2, .int .i64 y2], .int .i64 x] w fun e w' => e = .returned (.int .i64 (share x1 x2 x)) ∧ Below w.heap.size w w' := by
  go_enter Tryz.func117, Tryz.ntmps117
  go_wp2
  go_loop [5, 6, 7, 8] (fun a b _ c => ∃ n : Nat, n ≤ 16 ∧ a = .int .i64 (lohi x1 x2 x n).1 ∧ b = .int .i64 (lohi x1 x2 x n).2 ∧ c = .int .i64 n) (fun _ _ _ c => 16 - (intOf c).toNat)
  case atStart => exact ⟨0, by omega, rfl, rfl, rfl⟩
  case round =>
    obtain ⟨n, hn, rfl, rfl, rfl⟩ := hrel
    have hb := lohi_bd x1 x2 x n
    by_cases hlt : n < 16
    · have hs := lohi_step x1 x2 x n
      obtain ⟨lo, hlo⟩ : ∃ lo, (lohi x1 x2 x n).1 = lo := ⟨_, rfl⟩
      obtain ⟨hi, hhi⟩ : ∃ hi, (lohi x1 x2 x n).2 = hi := ⟨_, rfl⟩
      rw [hlo, hhi] at hb hs ⊢
      clear hlo hhi
      obtain ⟨m, hm⟩ : ∃ m, (lo + hi) / 2 = m := ⟨_, rfl⟩
      have m0 : 0 ≤ m := by omega
      have m1 : m ≤ 65536 := by omega
      rw [hm] at hs
      obtain ⟨B, hB⟩ : ∃ B, bend x1 x2 m = B := ⟨_, rfl⟩
      rw [hB] at hs
      have HB := Lib.hid hB
      clear hB
      by_cases hle : B ≤ x
      · rw [if_pos hle] at hs
        have HS := Lib.hid hs
        clear hs
        go_wp2_with (go_at_call 116; rw [hm]; refine (e_bend _ _ _ _).mono ?_; rintro e w' ⟨rfl, rfl⟩; rw [HB.out])
        go_round
        case rel => exact ⟨n + 1, by omega, by rw [HS.out], by rw [HS.out], by go_num⟩
        case measure => simp [intOf]; omega
      · rw [if_neg hle] at hs
        have HS := Lib.hid hs
        clear hs
        go_wp2_with (go_at_call 116; rw [hm]; refine (e_bend _ _ _ _).mono ?_; rintro e w' ⟨rfl, rfl⟩; rw [HB.out])
        go_round
        case rel => exact ⟨n + 1, by omega, by rw [HS.out], by rw [HS.out], by go_num⟩
        case measure => simp [intOf]; omega
    · obtain rfl : n = 16 := by omega
      go_wp2
      go_ret
      exact ⟨rfl, (Below.refl _ _).alloc (Nat.le_refl _) _⟩

theorem curve_cases (x1 y1 x2 y2 x : Int) : (x ≤ 0 ∧ curve x1 y1 x2 y2 x = 0) ∨ (0 < x ∧ 65536 ≤ x ∧ curve x1 y1 x2 y2 x = 65536) ∨ (0 < x ∧ x < 65536 ∧ curve x1 y1 x2 y2 x = bend y1 y2 (share x1 x2 x)) := by
  unfold curve
  by_cases h1 : x ≤ 0
  · exact Or.inl ⟨h1, if_pos h1⟩
  · by_cases h2 : 65536 ≤ x
    · exact Or.inr (Or.inl ⟨by omega, h2, by rw [if_neg h1, if_pos h2]⟩)
    · exact Or.inr (Or.inr ⟨by omega, by omega, by rw [if_neg h1, if_neg h2]⟩)

theorem e_at (x1 y1 x2 y2 x : Int) (w : World) :
    Calls Tryz.prog 110 #[.agg #[.int .i64 x1, .int .i64 y1, .int .i64 x2, .int .i64 y2], .int .i64 x] w fun e w' => e = .returned (.int .i64 (curve x1 y1 x2 y2 x)) ∧ Below w.heap.size w w' := by
  rcases curve_cases x1 y1 x2 y2 x with ⟨h1, e⟩ | ⟨h1, h2, e⟩ | ⟨h1, h2, e⟩
  · rw [e]; clear e
    go_enter Tryz.func110, Tryz.ntmps110
    go_wp2
    go_ret
    exact ⟨rfl, (Below.refl _ _).alloc (Nat.le_refl _) _⟩
  · rw [e]; clear e
    go_enter Tryz.func110, Tryz.ntmps110
    go_wp2
    go_ret
    exact ⟨rfl, (Below.refl _ _).alloc (Nat.le_refl _) _⟩
  · rw [e]; clear e
    go_enter Tryz.func110, Tryz.ntmps110
    go_wp2_with fail
    obtain ⟨W, hW⟩ : ∃ W, w.alloc (.cells #[.int .i64 x1, .int .i64 y1, .int .i64 x2, .int .i64 y2] 36) = W := ⟨_, rfl⟩
    have H0 : Has W w.heap.size #[.int .i64 x1, .int .i64 y1, .int .i64 x2, .int .i64 y2] 36 := by rw [← hW]; exact has_new rfl
    have HB : Below w.heap.size w W := by rw [← hW]; exact (Below.refl _ _).alloc (Nat.le_refl _) _
    rw [hW]
    have r0 := Later.read H0 0 _ rfl
    have r1 := Later.read H0 1 _ rfl
    have r2 := Later.read H0 2 _ rfl
    have r3 := Later.read H0 3 _ rfl
    have HC := Lib.hid HB
    clear H0 HB hW
    refine wp_region_class (C := fun w' => ∃ z : Later W, w' = z.to) (by kernel_rfl) (by kernel_rfl) ⟨⟨_, below_drew (Below.refl _ _)⟩, rfl⟩ ?_
    repeat (go_big_quiet_step (first | (go_at_call 117; exact Later.calls (e_share _ _ _ _ _ _)) | (go_at_call 116; exact Later.calls (below_of (e_bend _ _ _ _)))))
    refine wpQuiet_nil ?_
    rintro _ ⟨z, rfl⟩
    go_wp2
    go_ret
    exact ⟨rfl, HC.out.trans (z.below.mono HC.out.size)⟩

end Go.Proofs.YtglbfpjjnboeaaaGreat
