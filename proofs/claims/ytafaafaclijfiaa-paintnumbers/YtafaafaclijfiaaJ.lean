/- Contracts of mutoscoperef1.size, .down, .Mul and .Div: for all numbers what the plain arithmetic says; nothing in memory turns. -/
import Derived.Test.YtafaafaclijfiaaI
import Derived.WalkLawsBesides
namespace Go.Proofs.Ytafaafaclijfiaa
open Go.RowKit
open M

theorem r_size_neg (a : Int) (w : World) (a1 : -1099511627776 ≤ a) (h : a < 0) :
    Calls Try.prog 55 #[.int .i64 a] w fun e w' => e = .returned (.tuple #[.int .u64 (-a), .bool true]) ∧ w = w' := by
  go_enter Try.func55, Try.ntmps55
  go_wp2
  go_ret2
  exact ⟨rfl, rfl⟩
theorem r_size_pos (a : Int) (w : World) (a2 : a ≤ 1099511627776) (h : 0 ≤ a) :
    Calls Try.prog 55 #[.int .i64 a] w fun e w' => e = .returned (.tuple #[.int .u64 a, .bool false]) ∧ w = w' := by
  go_enter Try.func55, Try.ntmps55
  go_wp2
  go_ret2
  exact ⟨rfl, rfl⟩
def absq (a : Int) : Int := if a < 0 then -a else a
def isNeg (a : Int) : Bool := decide (a < 0)
theorem r_size (a : Int) (w : World) (a1 : -1099511627776 ≤ a) (a2 : a ≤ 1099511627776) :
    Calls Try.prog 55 #[.int .i64 a] w fun e w' => e = .returned (.tuple #[.int .u64 (absq a), .bool (isNeg a)]) ∧ w = w' := by
  by_cases h : a < 0
  · have e1 : absq a = -a := if_pos h
    have e2 : isNeg a = true := by unfold isNeg; simpa using h
    rw [e1, e2]; exact r_size_neg a w a1 h
  · have e1 : absq a = a := if_neg h
    have e2 : isNeg a = false := by unfold isNeg; simpa using h
    rw [e1, e2]; exact r_size_pos a w a2 (by omega)

def dnr (N R : Int) (minus : Bool) : Int := hold (if minus then -(if 0 < R then N + 1 else N) else N)
theorem dn_pos (N R : Int) (n0 : 0 ≤ N) : hold (min N 4611686018427387904) = dnr N R false := by
  unfold dnr; rw [if_neg (by decide)]
  by_cases h : N ≤ 4611686018427387904
  · rw [show min N 4611686018427387904 = N by omega]
  · rw [hold_ge (by omega), hold_ge (by omega)]
theorem dn_neg0 (N R : Int) (n0 : 0 ≤ N) (h : ¬ 0 < R) : hold (-(min N 4611686018427387904)) = dnr N R true := by
  unfold dnr; rw [if_pos rfl, if_neg h]
  by_cases h : N ≤ 4611686018427387904
  · rw [show min N 4611686018427387904 = N by omega]
  · rw [hold_le (by omega), hold_le (by omega)]
theorem dn_neg1 (N R : Int) (n0 : 0 ≤ N) (h : 0 < R) (g : N < 4611686018427387904) : hold (-(min (N + 1) 4611686018427387904)) = dnr N R true := by
  unfold dnr; rw [if_pos rfl, if_pos h, show min (N + 1) 4611686018427387904 = N + 1 by omega]
theorem dn_neg2 (N R : Int) (h : 0 < R) (g : ¬ N < 4611686018427387904) : hold (-(min N 4611686018427387904)) = dnr N R true := by
  unfold dnr; rw [if_pos rfl, if_pos h, hold_le (by omega), hold_le (by omega)]

theorem r_down_core (h l d N R : Int) (minus : Bool) (w : World) (hd : h < d) (n0 : 0 ≤ N) (n1 : N ≤ 18446744073709551615) (r0 : 0 ≤ R)
    (dc : ∀ w, Calls Try.prog 63 #[.int .u64 h, .int .u64 l, .int .u64 d] w (Drawn (.tuple #[.int .u64 N, .int .u64 R]) w)) :
    Calls Try.prog 58 #[.int .u64 h, .int .u64 l, .int .u64 d, .bool minus] w (Drawn (.int .i64 (dnr N R minus)) w) := by
  have DC := Lib.hid dc
  clear dc
  cases minus
  · go_enter Try.func58, Try.ntmps58
    go_wp2_with (first | (go_at_call 63; refine (DC.out _).mono ?_; rintro e w' ⟨rfl, n, rfl⟩) | (go_at_call 56; refine (r_hold _ _).mono ?_; rintro e w' ⟨rfl, rfl⟩))
    go_ret
    exact ⟨ret_int (dn_pos N R n0), n, rfl⟩
  · by_cases hR : 0 < R
    · by_cases hN : N < 4611686018427387904
      · go_enter Try.func58, Try.ntmps58
        go_wp2_with (first | (go_at_call 63; refine (DC.out _).mono ?_; rintro e w' ⟨rfl, n, rfl⟩) | (go_at_call 56; refine (r_hold _ _).mono ?_; rintro e w' ⟨rfl, rfl⟩))
        go_ret
        exact ⟨ret_int (dn_neg1 N R n0 hR hN), n, rfl⟩
      · go_enter Try.func58, Try.ntmps58
        go_wp2_with (first | (go_at_call 63; refine (DC.out _).mono ?_; rintro e w' ⟨rfl, n, rfl⟩) | (go_at_call 56; refine (r_hold _ _).mono ?_; rintro e w' ⟨rfl, rfl⟩))
        go_ret
        exact ⟨ret_int (dn_neg2 N R hR (by omega)), n, rfl⟩
    · go_enter Try.func58, Try.ntmps58
      go_wp2_with (first | (go_at_call 63; refine (DC.out _).mono ?_; rintro e w' ⟨rfl, n, rfl⟩) | (go_at_call 56; refine (r_hold _ _).mono ?_; rintro e w' ⟨rfl, rfl⟩))
      go_ret
      exact ⟨ret_int (dn_neg0 N R n0 (by omega)), n, rfl⟩

theorem hl_eq (x y : Int) : hiP x y * 18446744073709551616 + loP x y = x * y := by unfold hiP loP; omega
theorem r_down_top (h l d : Int) (minus : Bool) (w : World) (hd : d ≤ h) :
    Calls Try.prog 58 #[.int .u64 h, .int .u64 l, .int .u64 d, .bool minus] w (Drawn (.int .i64 (if minus then -1099511627776 else 1099511627776)) w) := by
  cases minus
  all_goals
    go_enter Try.func58, Try.ntmps58
    go_wp2
    go_ret
    exact Drawn.same
theorem dnr_top {N R : Int} (minus : Bool) (h : 1099511627776 ≤ N) : (if minus then -1099511627776 else 1099511627776 : Int) = dnr N R minus := by
  unfold dnr
  cases minus
  · rw [if_neg (by decide), if_neg (by decide), hold_ge h]
  · rw [if_pos rfl, if_pos rfl]
    split <;> rw [hold_le (by omega)]
theorem r_downM (x y : Int) (minus : Bool) (w : World) (x0 : 0 ≤ x) (x1 : x ≤ 1099511627776) (y0 : 0 ≤ y) (y1 : y ≤ 1099511627776) :
    Calls Try.prog 58 #[.int .u64 (hiP x y), .int .u64 (loP x y), .int .u64 65536, .bool minus] w (Drawn (.int .i64 (dnr (x * y / 65536) (x * y % 65536) minus)) w) := by
  have b := held_prod (a := x) (b := y) (by omega) x1 (by omega) y1
  have p := Int.mul_nonneg x0 y0
  have e := hl_eq x y
  have l := lo_bd x y
  by_cases h : hiP x y < 65536
  · have hh : 0 ≤ hiP x y := by unfold hiP; omega
    refine r_down_core _ _ _ _ _ minus w h (by omega) (by omega) (by omega) (fun w => ?_)
    rw [← e]
    exact div64 _ _ _ w hh l.1 l.2 (by decide) (by decide) (Or.inr ⟨rfl, h⟩)
  · rw [← dnr_top minus (by omega)]
    exact r_down_top _ _ _ minus w (by omega)
theorem floor_neg (m d : Int) (d0 : 0 < d) : (-m) / d = -(if 0 < m % d then m / d + 1 else m / d) := by
  have e := Int.mul_ediv_add_emod m d
  have r0 := Int.emod_nonneg m (by omega : d ≠ 0)
  have r1 := Int.emod_lt_of_pos m d0
  split
  · have e' : d * -(m / d + 1) = -(d * (m / d)) - d := by rw [Int.mul_neg, Int.mul_add, Int.mul_one]; omega
    exact div_eq d0 (by omega) (by omega)
  · have e' : d * -(m / d) = -(d * (m / d)) := Int.mul_neg _ _
    exact div_eq d0 (by omega) (by omega)
theorem dnr_true (m d : Int) (d0 : 0 < d) : dnr (m / d) (m % d) true = hold ((-m) / d) := by
  unfold dnr; rw [if_pos rfl, floor_neg m d d0]
theorem dnr_false (m d : Int) : dnr (m / d) (m % d) false = hold (m / d) := by
  unfold dnr; rw [if_neg (by decide)]
theorem isNeg_true {a : Int} (h : a < 0) : isNeg a = true := by unfold isNeg; simpa using h
theorem isNeg_false {a : Int} (h : ¬ a < 0) : isNeg a = false := by unfold isNeg; simpa using h
theorem mul_signs (a b : Int) : dnr (absq (hold a) * absq (hold b) / 65536) (absq (hold a) * absq (hold b) % 65536) (!(isNeg (hold a) == isNeg (hold b))) = mul a b := by
  unfold mul
  by_cases ha : hold a < 0 <;> by_cases hb : hold b < 0
  · rw [isNeg_true ha, isNeg_true hb, show absq (hold a) = -(hold a) from if_pos ha, show absq (hold b) = -(hold b) from if_pos hb, Int.neg_mul_neg]
    exact dnr_false _ _
  · rw [isNeg_true ha, isNeg_false hb, show absq (hold a) = -(hold a) from if_pos ha, show absq (hold b) = hold b from if_neg hb, Int.neg_mul]
    show dnr _ _ true = _
    rw [dnr_true _ _ (by decide), Int.neg_neg]
  · rw [isNeg_false ha, isNeg_true hb, show absq (hold a) = hold a from if_neg ha, show absq (hold b) = -(hold b) from if_pos hb, Int.mul_neg]
    show dnr _ _ true = _
    rw [dnr_true _ _ (by decide), Int.neg_neg]
  · rw [isNeg_false ha, isNeg_false hb, show absq (hold a) = hold a from if_neg ha, show absq (hold b) = hold b from if_neg hb]
    exact dnr_false _ _
theorem absq_bd (a : Int) : 0 ≤ absq (hold a) ∧ absq (hold a) ≤ 1099511627776 := by
  have := hold_lo a; have := hold_hi a; unfold absq; split <;> omega

theorem r_mul (a b : Int) (w : World) :
    Calls Try.prog 34 #[.int .i64 a, .int .i64 b] w (Drawn (.int .i64 (mul a b)) w) := by
  obtain ⟨x0, x1⟩ := absq_bd a
  obtain ⟨y0, y1⟩ := absq_bd b
  rw [← mul_signs]
  go_enter Try.func34, Try.ntmps34
  go_wp2_with (first | (go_at_call 56; refine (r_hold _ _).mono ?_; rintro e w' ⟨rfl, rfl⟩) | (go_at_call 55; refine (r_size _ _ (hold_lo _) (hold_hi _)).mono ?_; rintro e w' ⟨rfl, rfl⟩) | (go_at_call 57; refine (mul64i _ _ (by omega) (by omega) (by omega) (by omega) _).mono ?_; rintro e w' ⟨rfl, rfl⟩) | (go_at_call 58; refine (r_downM _ _ _ _ (by omega) (by omega) (by omega) (by omega)).mono ?_; rintro e w' ⟨rfl, n, rfl⟩))
  go_ret
  exact ⟨rfl, n, rfl⟩

end Go.Proofs.Ytafaafaclijfiaa
