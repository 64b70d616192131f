/- Contracts of mutoscoperef1.Div, .root, .Root, .Hyp, .Mid and of mutoscopelaw1.same: for all numbers; nothing in memory turns. -/
import Derived.Test.YtafaafaclijfiaaJ
import Derived.Test.YtafaafaclijfiaaG
namespace Go.Proofs.Ytafaafaclijfiaa
open Go.RowKit
open M

theorem r_downD (m d : Int) (minus : Bool) (w : World) (m0 : 0 ≤ m) (m1 : m ≤ 18446744073709551615) (d0 : 0 < d) (d1 : d ≤ 18446744073709551615) :
    Calls Try.prog 58 #[.int .u64 0, .int .u64 m, .int .u64 d, .bool minus] w (Drawn (.int .i64 (dnr (m / d) (m % d) minus)) w) := by
  have a := Int.ediv_nonneg m0 (by omega : 0 ≤ d)
  have b := Int.ediv_le_self d m0
  have c := Int.emod_nonneg m (by omega : d ≠ 0)
  refine r_down_core _ _ _ _ _ minus w d0 a (by omega) c (fun w => ?_)
  have h := div64 0 m d w (by decide) m0 m1 d0 d1 (Or.inl rfl)
  rw [Int.zero_mul, Int.zero_add] at h
  exact h
theorem flo_pos {a b : Int} (h : 0 < b) : flo a b = a / b := if_pos h
theorem flo_neg {a b : Int} (h : ¬ 0 < b) : flo a b = (-a) / (-b) := if_neg h
theorem dv_signs (a b : Int) (h : ¬ hold b = 0) : dnr (absq (hold a) * 65536 / absq (hold b)) (absq (hold a) * 65536 % absq (hold b)) (!(isNeg (hold a) == isNeg (hold b))) = dv a b := by
  have e : dv a b = hold (flo (hold a * 65536) (hold b)) := if_neg h
  rw [e]
  by_cases ha : hold a < 0 <;> by_cases hb : hold b < 0
  · rw [isNeg_true ha, isNeg_true hb, show absq (hold a) = -(hold a) from if_pos ha, show absq (hold b) = -(hold b) from if_pos hb, flo_neg (by omega), Int.neg_mul]
    exact dnr_false _ _
  · rw [isNeg_true ha, isNeg_false hb, show absq (hold a) = -(hold a) from if_pos ha, show absq (hold b) = hold b from if_neg hb, flo_pos (by omega), Int.neg_mul]
    show dnr _ _ true = _
    rw [dnr_true _ _ (by omega), Int.neg_neg]
  · rw [isNeg_false ha, isNeg_true hb, show absq (hold a) = hold a from if_neg ha, show absq (hold b) = -(hold b) from if_pos hb, flo_neg (by omega)]
    show dnr _ _ true = _
    rw [dnr_true _ _ (by omega)]
  · rw [isNeg_false ha, isNeg_false hb, show absq (hold a) = hold a from if_neg ha, show absq (hold b) = hold b from if_neg hb, flo_pos (by omega)]
    exact dnr_false _ _
theorem one_hi {x : Int} (x0 : 0 ≤ x) (x1 : x ≤ 1099511627776) : hiP x 65536 = 0 ∧ loP x 65536 = x * 65536 := by unfold hiP loP; omega

theorem r_div (a b : Int) (w : World) :
    Calls Try.prog 38 #[.int .i64 a, .int .i64 b] w (Drawn (.int .i64 (dv a b)) w) := by
  obtain ⟨x0, x1⟩ := absq_bd a
  obtain ⟨y0, y1⟩ := absq_bd b
  by_cases hb : hold b = 0
  · have e : dv a b = 0 := if_pos hb
    have y : absq (hold b) = 0 := by rw [hb]; rfl
    rw [e]; clear e hb y0 y1
    go_enter Try.func38, Try.ntmps38
    go_wp2_with (first | (go_at_call 56; refine (r_hold _ _).mono ?_; rintro e w' ⟨rfl, rfl⟩) | (go_at_call 55; refine (r_size _ _ (hold_lo _) (hold_hi _)).mono ?_; rintro e w' ⟨rfl, rfl⟩))
    go_ret
    exact Drawn.same
  · have y2 : 0 < absq (hold b) := by unfold absq; split <;> omega
    obtain ⟨e1, e2⟩ := one_hi x0 x1
    rw [← dv_signs a b hb]
    clear hb
    go_enter Try.func38, Try.ntmps38
    go_wp2_with (first | (go_at_call 56; refine (r_hold _ _).mono ?_; rintro e w' ⟨rfl, rfl⟩) | (go_at_call 55; refine (r_size _ _ (hold_lo _) (hold_hi _)).mono ?_; rintro e w' ⟨rfl, rfl⟩) | (go_at_call 57; refine (mul64i _ _ (by omega) (by omega) (by omega) (by omega) _).mono ?_; rintro e w' ⟨rfl, rfl⟩) | (go_at_call 58; refine (r_downD _ _ _ _ (by omega) (by omega) (by omega) (by omega)).mono ?_; rintro e w' ⟨rfl, n, rfl⟩))
    go_ret
    exact ⟨rfl, n, rfl⟩

theorem r_rootn (n : Nat) (hn : n < 18446744073709551616) (w : World) :
    Calls Try.prog 59 #[.int .u64 n] w fun e w' => e = .returned (.int .u64 (isq n)) ∧ w = w' := by
  go_enter Try.func59, Try.ntmps59
  go_wp2
  go_loop [3, 4] (fun a b => ∃ R B : Nat, a = .int .u64 R ∧ b = .int .u64 B ∧ Inw n R B) (fun _ b => (intOf b).toNat)
  case atStart => exact ⟨0, 2147483648, rfl, rfl, Inw.begin hn⟩
  case round =>
    obtain ⟨R, B, rfl, rfl, hi⟩ := hrel
    have HI := Lib.hid hi
    clear hi
    by_cases hB : 0 < B
    · obtain ⟨u1, u2⟩ := HI.out.bound hB
      have u3 : ((R : Int) + B) * (R + B) = (((R + B) * (R + B) : Nat) : Int) := by simp
      by_cases hN : (R + B) * (R + B) ≤ n
      · obtain ⟨S, hS⟩ : ∃ S : Nat, (R + B) * (R + B) = S := ⟨_, rfl⟩
        have HT := Lib.hid (HI.out.take hB hN)
        rw [hS] at u2 u3 hN
        clear hS
        go_wp2
        go_round
        case rel => exact ⟨R + B, B / 2, val_eq (by omega), val_eq (by omega), HT.out⟩
        case measure => simp [intOf]; omega
      · obtain ⟨S, hS⟩ : ∃ S : Nat, (R + B) * (R + B) = S := ⟨_, rfl⟩
        have HT := Lib.hid (HI.out.leave hB (by omega))
        rw [hS] at u2 u3 hN
        clear hS
        go_wp2
        go_round
        case rel => exact ⟨R, B / 2, rfl, val_eq (by omega), HT.out⟩
        case measure => simp [intOf]; omega
    · obtain rfl : B = 0 := by omega
      have HE := Lib.hid (HI.out.done)
      go_wp2
      go_ret
      exact ⟨ret_int (by rw [HE.out]), rfl⟩

end Go.Proofs.Ytafaafaclijfiaa
