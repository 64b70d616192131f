/- The plain arithmetic that the document's first chapter speaks of (numbers that are held, products and quotients rounded down, roots), on Lean's own integers: no condition; no program is named here. -/
namespace Go.Proofs.Ytibgilaeepmheaa
namespace M

def clamp (a lo hi : Int) : Int := if a < lo then lo else if hi < a then hi else a
def hold (a : Int) : Int := clamp a (-1099511627776) 1099511627776
def place (a : Int) : Int := clamp a (-536870912) 536870912
def wide (a : Int) : Int := clamp a (-1073741824) 1073741824
def add (a b : Int) : Int := hold (hold a + hold b)
def mul (a b : Int) : Int := hold (hold a * hold b / 65536)
def flo (a b : Int) : Int := if 0 < b then a / b else (-a) / (-b)
def dv (a b : Int) : Int := if hold b = 0 then 0 else hold (flo (hold a * 65536) (hold b))
def isq : Nat → Nat
  | 0 => 0
  | n + 1 => if (isq n + 1) * (isq n + 1) ≤ n + 1 then isq n + 1 else isq n
def root (a : Int) : Int := if hold a < 0 then 0 else ((isq ((hold a).toNat * 65536) : Nat) : Int)
def hyp (x y : Int) : Int := ((isq (wide x * wide x + wide y * wide y).toNat : Nat) : Int)
def mid (a b t : Int) : Int := add a (mul (add b (-(hold a))) t)

theorem hold_lo (a : Int) : -1099511627776 ≤ hold a := by unfold hold clamp; split <;> (try split) <;> omega
theorem hold_hi (a : Int) : hold a ≤ 1099511627776 := by unfold hold clamp; split <;> (try split) <;> omega
theorem place_lo (a : Int) : -536870912 ≤ place a := by unfold place clamp; split <;> (try split) <;> omega
theorem place_hi (a : Int) : place a ≤ 536870912 := by unfold place clamp; split <;> (try split) <;> omega
theorem wide_lo (a : Int) : -1073741824 ≤ wide a := by unfold wide clamp; split <;> (try split) <;> omega
theorem wide_hi (a : Int) : wide a ≤ 1073741824 := by unfold wide clamp; split <;> (try split) <;> omega
theorem hold_in {a : Int} (h1 : -1099511627776 ≤ a) (h2 : a ≤ 1099511627776) : hold a = a := by
  unfold hold clamp; rw [if_neg (by omega), if_neg (by omega)]
theorem wide_in {a : Int} (h1 : -1073741824 ≤ a) (h2 : a ≤ 1073741824) : wide a = a := by
  unfold wide clamp; rw [if_neg (by omega), if_neg (by omega)]
theorem place_in {a : Int} (h1 : -536870912 ≤ a) (h2 : a ≤ 536870912) : place a = a := by
  unfold place clamp; rw [if_neg (by omega), if_neg (by omega)]
theorem hold_hold (a : Int) : hold (hold a) = hold a := hold_in (hold_lo a) (hold_hi a)
theorem place_place (a : Int) : place (place a) = place a := place_in (place_lo a) (place_hi a)
theorem hold_mono {a b : Int} (h : a ≤ b) : hold a ≤ hold b := by
  unfold hold clamp; split <;> split <;> (try split) <;> (try split) <;> omega
theorem clamp_mono {a b lo hi : Int} (h : a ≤ b) (hl : lo ≤ hi) : clamp a lo hi ≤ clamp b lo hi := by
  unfold clamp; split <;> split <;> (try split) <;> (try split) <;> omega
theorem hold_ge {a : Int} (h : 1099511627776 ≤ a) : hold a = 1099511627776 := by
  unfold hold clamp; rw [if_neg (by omega)]; split <;> omega
theorem hold_le {a : Int} (h : a ≤ -1099511627776) : hold a = -1099511627776 := by
  unfold hold clamp; split
  · rfl
  · rw [if_neg (by omega)]; omega

theorem isq_spec (n : Nat) : isq n * isq n ≤ n ∧ n < (isq n + 1) * (isq n + 1) := by
  induction n with
  | zero => exact ⟨by simp [isq], by simp [isq]⟩
  | succ n ih =>
    unfold isq
    split
    · rename_i h
      refine ⟨h, ?_⟩
      have e : (isq n + 1 + 1) * (isq n + 1 + 1) = (isq n + 1) * (isq n + 1) + 2 * isq n + 3 := by
        simp only [Nat.add_mul, Nat.mul_add]; omega
      omega
    · rename_i h
      exact ⟨by omega, by omega⟩
theorem sq_lt {a b : Nat} (h : a * a < b * b) : a < b := by
  rcases Nat.lt_or_ge a b with h1 | h1
  · exact h1
  · exact absurd (Nat.mul_le_mul h1 h1) (by omega)
theorem isq_eq {n r : Nat} (h1 : r * r ≤ n) (h2 : n < (r + 1) * (r + 1)) : isq n = r := by
  have ⟨s1, s2⟩ := isq_spec n
  have a := sq_lt (a := r) (b := isq n + 1) (by omega)
  have b := sq_lt (a := isq n) (b := r + 1) (by omega)
  omega
theorem isq_lt {n r : Nat} (h : n < r * r) : isq n < r := sq_lt (by have := (isq_spec n).1; omega)
theorem isq_mono {m n : Nat} (h : m ≤ n) : isq m ≤ isq n := by
  have a := isq_spec m
  have b := isq_spec n
  have := sq_lt (a := isq m) (b := isq n + 1) (by omega)
  omega

theorem root_lo (a : Int) : 0 ≤ root a := by unfold root; split <;> omega
theorem root_hi (a : Int) : root a ≤ 268435456 := by
  have h2 := hold_hi a
  unfold root; split
  · omega
  · have := isq_lt (n := (hold a).toNat * 65536) (r := 268435457) (by omega)
    omega
theorem sq_bound {x : Int} {b : Nat} (h1 : -(b : Int) ≤ x) (h2 : x ≤ b) : 0 ≤ x * x ∧ x * x ≤ (b * b : Nat) := by
  have e : x * x = ((x.natAbs * x.natAbs : Nat) : Int) := by rw [Int.natAbs_mul_self]
  have h : x.natAbs * x.natAbs ≤ b * b := Nat.mul_le_mul (by omega) (by omega)
  rw [e]
  exact ⟨Int.natCast_nonneg _, Int.ofNat_le.mpr h⟩
theorem wide_sq (x : Int) : 0 ≤ wide x * wide x ∧ wide x * wide x ≤ 1152921504606846976 := by
  have h := sq_bound (x := wide x) (b := 1073741824) (by have := wide_lo x; omega) (by have := wide_hi x; omega)
  exact ⟨h.1, by have := h.2; omega⟩
theorem hyp_lo (x y : Int) : 0 ≤ hyp x y := by unfold hyp; omega
theorem hyp_hi (x y : Int) : hyp x y ≤ 1518500249 := by
  have a := wide_sq x
  have b := wide_sq y
  have := isq_lt (n := (wide x * wide x + wide y * wide y).toNat) (r := 1518500250) (by omega)
  unfold hyp; omega

theorem div_eq {a b q : Int} (hb : 0 < b) (h1 : b * q ≤ a) (h2 : a < b * q + b) : a / b = q := by
  have e : b * q = q * b := Int.mul_comm b q
  have l := Int.le_ediv_of_mul_le hb (by omega : q * b ≤ a)
  have g := Int.ediv_lt_of_lt_mul hb (by rw [Int.add_mul]; omega : a < (q + 1) * b)
  omega
theorem tmod_lt (a b : Int) (hb : ¬ b = 0) : (a.tmod b).natAbs < b.natAbs := by
  rw [Int.natAbs_tmod]; exact Nat.mod_lt _ (by omega)
theorem tdiv_le (a b : Int) : (a.tdiv b).natAbs ≤ a.natAbs := by
  rw [Int.natAbs_tdiv]; exact Nat.div_le_self _ _
theorem flo_stay {a b : Int} (hb : ¬ b = 0) (h : a.tmod b = 0 ∨ ((a.tmod b < 0) ↔ (b < 0))) : flo a b = a.tdiv b := by
  have e := Int.mul_tdiv_add_tmod a b
  have l := tmod_lt a b hb
  unfold flo
  split
  · apply div_eq (by omega) <;> omega
  · have e' : (-b) * a.tdiv b = -(b * a.tdiv b) := Int.neg_mul _ _
    apply div_eq (by omega) <;> omega
theorem flo_less {a b : Int} (hb : ¬ b = 0) (h0 : ¬ a.tmod b = 0) (h : ¬ ((a.tmod b < 0) ↔ (b < 0))) : flo a b = a.tdiv b - 1 := by
  have e := Int.mul_tdiv_add_tmod a b
  have l := tmod_lt a b hb
  unfold flo
  split
  · have e2 : b * (a.tdiv b - 1) = b * a.tdiv b - b := by rw [Int.mul_sub, Int.mul_one]
    apply div_eq (by omega) <;> omega
  · have e' : (-b) * (a.tdiv b - 1) = -(b * a.tdiv b) + b := by rw [Int.mul_sub, Int.mul_one, Int.neg_mul]; omega
    apply div_eq (by omega) <;> omega

end M
end Go.Proofs.Ytibgilaeepmheaa
