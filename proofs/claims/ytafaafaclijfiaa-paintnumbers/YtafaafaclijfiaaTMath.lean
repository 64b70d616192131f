/- The plain arithmetic that the document's second chapter speaks of (what is left by a round, the hump of a sine, sine and cosine), on Lean's own integers, and what follows of it: bounds, rises, mirrors: no condition but those each row names; no program is named here. -/
import Derived.Test.YtafaafaclijfiaaMath
namespace Go.Proofs.Ytafaafaclijfiaa
namespace M

def turn (a : Int) : Int := a % 23592960
def hpP (x : Int) : Int := x * (11796480 - x) / 65536
def hpV (p : Int) : Int := 4 * p * 65536 / (2654208000 - p)
def hump (x : Int) : Int := hpV (hpP x)
def sin (a : Int) : Int := if turn a < 11796480 then hump (turn a) else -(hump (turn a - 11796480))
def cos (a : Int) : Int := sin (turn a + 5898240)

theorem turn_lo (a : Int) : 0 ≤ turn a := by unfold turn; omega
theorem turn_hi (a : Int) : turn a ≤ 23592959 := by unfold turn; omega
theorem turn_in {a : Int} (h0 : 0 ≤ a) (h1 : a ≤ 23592959) : turn a = a := by unfold turn; omega
theorem turn_tmod (a : Int) : (a.tmod 23592960 < 0 ∧ turn a = a.tmod 23592960 + 23592960) ∨ (¬ a.tmod 23592960 < 0 ∧ turn a = a.tmod 23592960) := by
  have e := Int.mul_tdiv_add_tmod a 23592960
  have l := tmod_lt a 23592960 (by decide)
  unfold turn
  generalize a.tmod 23592960 = r at *
  generalize a.tdiv 23592960 = t at *
  omega
theorem tmod_bd (a : Int) : -23592959 ≤ a.tmod 23592960 ∧ a.tmod 23592960 ≤ 23592959 := by
  have := tmod_lt a 23592960 (by decide); omega
theorem turn_twice (a : Int) : (a.tmod 23592960 + 23592960) % 23592960 = turn a := by
  have b := tmod_bd a
  rcases turn_tmod a with ⟨h, e⟩ | ⟨h, e⟩ <;> rw [e] <;> generalize a.tmod 23592960 = r at * <;> omega

theorem sq_gap (x : Int) : x * (11796480 - x) = 34789235097600 - (5898240 - x) * (5898240 - x) := by
  have e1 : x * (11796480 - x) = 11796480 * x - x * x := by rw [Int.mul_sub]; omega
  have e2 : (5898240 - x) * (5898240 - x) = 34789235097600 - 11796480 * x + x * x := by
    rw [Int.mul_sub, Int.sub_mul, Int.sub_mul]; omega
  omega
theorem prod_lo {x : Int} (h0 : 0 ≤ x) (h1 : x ≤ 11796480) : 0 ≤ x * (11796480 - x) := Int.mul_nonneg h0 (by omega)
theorem sq_pos (x : Int) : 0 ≤ x * x := by
  have := Int.natAbs_mul_self (a := x); omega
theorem prod_hi (x : Int) : x * (11796480 - x) ≤ 34789235097600 := by
  rw [sq_gap]; have := sq_pos (5898240 - x); omega
theorem hpP_lo {x : Int} (h0 : 0 ≤ x) (h1 : x ≤ 11796480) : 0 ≤ hpP x := by
  have := prod_lo h0 h1; unfold hpP; generalize x * (11796480 - x) = p at *; omega
theorem hpP_hi (x : Int) : hpP x ≤ 530841600 := by
  have := prod_hi x; unfold hpP; generalize x * (11796480 - x) = p at *; omega
theorem hpP_mirror (x : Int) : hpP (11796480 - x) = hpP x := by
  unfold hpP; rw [show (11796480 : Int) - (11796480 - x) = x by omega, Int.mul_comm]
theorem hpP_mono {x y : Int} (h : x ≤ y) (h1 : y ≤ 5898240) : hpP x ≤ hpP y := by
  have e : (5898240 - y) * (5898240 - y) ≤ (5898240 - x) * (5898240 - x) :=
    Int.mul_le_mul (by omega) (by omega) (by omega) (by omega)
  unfold hpP
  rw [sq_gap x, sq_gap y]
  generalize (5898240 - y) * (5898240 - y) = p at *
  generalize (5898240 - x) * (5898240 - x) = q at *
  omega
theorem div_mono {a b c d : Int} (ha : 0 ≤ a) (h : a ≤ b) (hd : 0 < d) (hc : d ≤ c) : a / c ≤ b / d := by
  apply Int.le_ediv_of_mul_le hd
  have q0 : 0 ≤ a / c := Int.ediv_nonneg ha (by omega)
  have l1 : a / c * d ≤ a / c * c := Int.mul_le_mul_of_nonneg_left hc q0
  have l2 : a / c * c ≤ a := Int.ediv_mul_le a (by omega)
  omega
theorem hpV_mono {p q : Int} (h0 : 0 ≤ p) (h : p ≤ q) (h1 : q ≤ 530841600) : hpV p ≤ hpV q := by
  unfold hpV; exact div_mono (by omega) (by omega) (by omega) (by omega)
theorem hump_mirror (x : Int) : hump (11796480 - x) = hump x := by unfold hump; rw [hpP_mirror]
theorem hump_mono {x y : Int} (h0 : 0 ≤ x) (h : x ≤ y) (h1 : y ≤ 5898240) : hump x ≤ hump y :=
  hpV_mono (hpP_lo h0 (by omega)) (hpP_mono h h1) (hpP_hi y)
theorem hump_lo {x : Int} (h0 : 0 ≤ x) (h1 : x ≤ 11796480) : 0 ≤ hump x := by
  have a := hpP_lo h0 h1
  have b := hpP_hi x
  unfold hump hpV; exact Int.ediv_nonneg (by omega) (by omega)
theorem hump_hi {x : Int} (h0 : 0 ≤ x) (h1 : x ≤ 11796480) : hump x ≤ 65536 := by
  have a := hpP_lo h0 h1
  have b := hpP_hi x
  have c := hpV_mono a b (by decide)
  have d : hpV 530841600 = 65536 := by decide
  unfold hump; omega
theorem hump_zero : hump 0 = 0 := by decide

theorem sin_up {a : Int} (h : turn a < 11796480) : sin a = hump (turn a) := if_pos h
theorem sin_down {a : Int} (h : ¬ turn a < 11796480) : sin a = -(hump (turn a - 11796480)) := if_neg h
theorem sin_bd (a : Int) : -65536 ≤ sin a ∧ sin a ≤ 65536 := by
  have l := turn_lo a; have g := turn_hi a
  by_cases h : turn a < 11796480
  · rw [sin_up h]; have := hump_lo (x := turn a) l (by omega); have := hump_hi (x := turn a) l (by omega); omega
  · rw [sin_down h]; have := hump_lo (x := turn a - 11796480) (by omega) (by omega); have := hump_hi (x := turn a - 11796480) (by omega) (by omega); omega
theorem cos_bd (a : Int) : -65536 ≤ cos a ∧ cos a ≤ 65536 := sin_bd _
theorem sin_round (x : Int) : sin (x + 23592960) = sin x := by
  have e : turn (x + 23592960) = turn x := by unfold turn; omega
  unfold sin; rw [e]
theorem cos_round (x : Int) : cos (x + 23592960) = cos x := by
  have e : turn (x + 23592960) = turn x := by unfold turn; omega
  unfold cos; rw [e]
theorem sin_half (x : Int) : sin (x + 11796480) = -(sin x) := by
  have l := turn_lo x; have g := turn_hi x
  by_cases h : turn x < 11796480
  · have e : turn (x + 11796480) = turn x + 11796480 := by unfold turn at *; omega
    rw [sin_up h, sin_down (by omega), e, show turn x + 11796480 - 11796480 = turn x by omega]
  · have e : turn (x + 11796480) = turn x - 11796480 := by unfold turn at *; omega
    rw [sin_down h, sin_up (by omega), e]; omega
theorem sin_in {x : Int} (h0 : 0 ≤ x) (h1 : x < 11796480) : sin x = hump x := by
  have e := turn_in h0 (by omega)
  rw [sin_up (by omega), e]
theorem sin_at_half : sin 11796480 = 0 := by decide
theorem sin_in' {x : Int} (h0 : 0 ≤ x) (h1 : x ≤ 11796480) : sin x = hump x := by
  rcases (by omega : x < 11796480 ∨ x = 11796480) with h | rfl
  · exact sin_in h0 h
  · decide
theorem hump_fall {x y : Int} (h0 : 5898240 ≤ x) (h : x ≤ y) (h1 : y ≤ 11796480) : hump y ≤ hump x := by
  rw [← hump_mirror x, ← hump_mirror y]; exact hump_mono (by omega) (by omega) (by omega)

/-- On each of 1,024 pieces of a quarter the squares' sum keeps its bounds, by the ends of the piece. -/
def near (k : Nat) : Bool :=
  decide (64881 * 65536 ≤ hump (5760 * (k : Int)) * hump (5760 * (k : Int)) + hump (5898240 - 5760 * ((k : Int) + 1)) * hump (5898240 - 5760 * ((k : Int) + 1)) ∧
    hump (5760 * ((k : Int) + 1)) * hump (5760 * ((k : Int) + 1)) + hump (5898240 - 5760 * (k : Int)) * hump (5898240 - 5760 * (k : Int)) < 66191 * 65536)
theorem near_all : ∀ k, k < 1024 → near k = true := by
  have h : (List.range 1024).all near = true := by decide +kernel
  intro k hk
  exact List.all_eq_true.mp h k (List.mem_range.mpr hk)
theorem sq_mono {a b : Int} (h0 : 0 ≤ a) (h : a ≤ b) : a * a ≤ b * b := Int.mul_le_mul h h h0 (by omega)
theorem quarter_near {x : Int} (h0 : 0 ≤ x) (h1 : x < 5898240) :
    64881 * 65536 ≤ hump x * hump x + hump (5898240 - x) * hump (5898240 - x) ∧ hump x * hump x + hump (5898240 - x) * hump (5898240 - x) < 66191 * 65536 := by
  obtain ⟨k, hk⟩ : ∃ k : Nat, (k : Int) = x / 5760 := ⟨(x / 5760).toNat, by omega⟩
  have n := of_decide_eq_true (near_all k (by omega))
  have b1 : 5760 * (k : Int) ≤ x := by omega
  have b2 : x ≤ 5760 * ((k : Int) + 1) := by omega
  have b3 : 5760 * ((k : Int) + 1) ≤ 5898240 := by omega
  have b4 : 0 ≤ (k : Int) := by omega
  generalize (k : Int) = m at *
  have s1 := sq_mono (hump_lo (x := 5760 * m) (by omega) (by omega)) (hump_mono (x := 5760 * m) (y := x) (by omega) b1 (by omega))
  have s2 := sq_mono (hump_lo (x := x) (by omega) (by omega)) (hump_mono (x := x) (y := 5760 * (m + 1)) (by omega) b2 (by omega))
  have s3 := sq_mono (hump_lo (x := 5898240 - 5760 * (m + 1)) (by omega) (by omega)) (hump_mono (x := 5898240 - 5760 * (m + 1)) (y := 5898240 - x) (by omega) (by omega) (by omega))
  have s4 := sq_mono (hump_lo (x := 5898240 - x) (by omega) (by omega)) (hump_mono (x := 5898240 - x) (y := 5898240 - 5760 * m) (by omega) (by omega) (by omega))
  generalize hump x * hump x = p at *
  generalize hump (5898240 - x) * hump (5898240 - x) = q at *
  generalize hump (5760 * m) * hump (5760 * m) = p1 at *
  generalize hump (5760 * (m + 1)) * hump (5760 * (m + 1)) = p2 at *
  generalize hump (5898240 - 5760 * (m + 1)) * hump (5898240 - 5760 * (m + 1)) = q1 at *
  generalize hump (5898240 - 5760 * m) * hump (5898240 - 5760 * m) = q2 at *
  omega
theorem sq_neg (x : Int) : (-x) * (-x) = x * x := Int.neg_mul_neg x x
/-- The quarter's two numbers, for any angle: where it lies in its quarter, sine and cosine are the humps, but for signs and which is which. -/
theorem squares_near (a : Int) : 64881 * 65536 ≤ sin a * sin a + cos a * cos a ∧ sin a * sin a + cos a * cos a < 66191 * 65536 := by
  have l := turn_lo a; have g := turn_hi a
  unfold cos
  have es : sin a = sin (turn a) := by
    have e : turn (turn a) = turn a := turn_in l g
    unfold sin; rw [e]
  rw [es]
  generalize turn a = x at *
  rcases (by omega : x < 5898240 ∨ (5898240 ≤ x ∧ x < 11796480) ∨ (11796480 ≤ x ∧ x < 17694720) ∨ 17694720 ≤ x) with h | h | h | h
  · have c : sin (x + 5898240) = hump (5898240 - x) := by
      rw [sin_in (by omega) (by omega), ← hump_mirror]; congr 1; omega
    rw [sin_in l (by omega), c]
    exact quarter_near l h
  · have c : sin (x + 5898240) = -(hump (x - 5898240)) := by
      rw [show x + 5898240 = (x - 5898240) + 11796480 by omega, sin_half, sin_in (by omega) (by omega)]
    have s : sin x = hump (5898240 - (x - 5898240)) := by
      rw [sin_in l (by omega), ← hump_mirror]; congr 1; omega
    rw [c, s, sq_neg, Int.add_comm]
    exact quarter_near (by omega) (by omega)
  · have c : sin (x + 5898240) = -(hump (5898240 - (x - 11796480))) := by
      rw [show x + 5898240 = (x - 5898240) + 11796480 by omega, sin_half, sin_in (by omega) (by omega), ← hump_mirror]; congr 2; omega
    have s : sin x = -(hump (x - 11796480)) := by
      conv => lhs; rw [show x = (x - 11796480) + 11796480 by omega]
      rw [sin_half, sin_in (by omega) (by omega)]
    rw [c, s, sq_neg, sq_neg]
    exact quarter_near (by omega) (by omega)
  · have c : sin (x + 5898240) = hump (x - 17694720) := by
      rw [show x + 5898240 = (x - 17694720) + 23592960 by omega, sin_round, sin_in (by omega) (by omega)]
    have s : sin x = -(hump (5898240 - (x - 17694720))) := by
      conv => lhs; rw [show x = (x - 11796480) + 11796480 by omega]
      rw [sin_half, sin_in (by omega) (by omega), ← hump_mirror]; congr 2; omega
    rw [c, s, sq_neg, Int.add_comm]
    exact quarter_near (by omega) (by omega)

end M
end Go.Proofs.Ytafaafaclijfiaa
