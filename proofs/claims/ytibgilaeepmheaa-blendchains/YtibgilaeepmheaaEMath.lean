/- The plain arithmetic of the document's fourth chapter (curves of time, halving, parts), on Lean's own integers: no condition but those that the theorems name; no program is named here. -/
import Derived.Test.YtibgilaeepmheaaMath
namespace Go.Proofs.Ytibgilaeepmheaa
namespace M

def bendc (a b t : Int) : Int := add (add (mul (3 * mul (mul (65536 - t) (65536 - t)) t) a) (mul (3 * mul (mul (65536 - t) t) t) b)) (mul (mul t t) t)
def bend (a b t : Int) : Int := bendc a b (clamp t 0 65536)
def lohi (p q x : Int) : Nat → Int × Int
  | 0 => (0, 65536)
  | n + 1 => if bend p q (((lohi p q x n).1 + (lohi p q x n).2) / 2) ≤ x then (((lohi p q x n).1 + (lohi p q x n).2) / 2, (lohi p q x n).2) else ((lohi p q x n).1, ((lohi p q x n).1 + (lohi p q x n).2) / 2)
theorem lohi_step (p q x : Int) (n : Nat) : lohi p q x (n + 1) = if bend p q (((lohi p q x n).1 + (lohi p q x n).2) / 2) ≤ x then (((lohi p q x n).1 + (lohi p q x n).2) / 2, (lohi p q x n).2) else ((lohi p q x n).1, ((lohi p q x n).1 + (lohi p q x n).2) / 2) := rfl
def share (p q x : Int) : Int := (lohi p q x 16).1
def curve (x1 y1 x2 y2 x : Int) : Int := if x ≤ 0 then 0 else if 65536 ≤ x then 65536 else bend y1 y2 (share x1 x2 x)
def prt (f o t : Int) : Int := if hold t ≤ hold f then 0 else if hold o ≤ hold t then 65536 else 65536 * (hold t - hold f) / (hold o - hold f)
def okT (x : Int) : Bool := decide (0 ≤ x) && decide (x ≤ 65536)
def okV (x : Int) : Bool := decide (-131072 ≤ x) && decide (x ≤ 196608)
def okE (x1 y1 x2 y2 : Int) : Bool := okT x1 && okT x2 && okV y1 && okV y2

theorem mul_small {x y : Int} (x0 : 0 ≤ x) (x1 : x ≤ 1048576) (y0 : 0 ≤ y) (y1 : y ≤ 1048576) : mul x y = x * y / 65536 ∧ 0 ≤ x * y := by
  have p0 : 0 ≤ x * y := Int.mul_nonneg x0 y0
  have p1 : x * y ≤ 1048576 * 1048576 := Int.mul_le_mul x1 y1 y0 (by omega)
  unfold mul
  rw [hold_in (a := x) (by omega) (by omega), hold_in (a := y) (by omega) (by omega), hold_in (a := x * y / 65536) (by omega) (by omega)]
  exact ⟨rfl, p0⟩
theorem add_small {x y : Int} (x0 : 0 ≤ x) (x1 : x ≤ 1048576) (y0 : 0 ≤ y) (y1 : y ≤ 1048576) : add x y = x + y := by
  unfold add
  rw [hold_in (a := x) (by omega) (by omega), hold_in (a := y) (by omega) (by omega), hold_in (a := x + y) (by omega) (by omega)]

/- Two products, each rounded down: what is lost. -/
theorem twice {x y t : Int} (x0 : 0 ≤ x) (x1 : x ≤ 65536) (y0 : 0 ≤ y) (y1 : y ≤ 65536) (t0 : 0 ≤ t) (t1 : t ≤ 65536) :
    ∃ L, mul (mul x y) t = L ∧ 0 ≤ L ∧ L ≤ 65536 ∧ 4294967296 * L ≤ x * y * t ∧ x * y * t ≤ 4294967296 * L + 8589803520 := by
  obtain ⟨e1, p0⟩ := mul_small x0 (by omega) y0 (by omega)
  have p1 : x * y ≤ 65536 * 65536 := Int.mul_le_mul x1 y1 y0 (by omega)
  obtain ⟨A, hA⟩ : ∃ A, x * y / 65536 = A := ⟨_, rfl⟩
  have a0 : 0 ≤ A := by omega
  have a1 : A ≤ 65536 := by omega
  obtain ⟨e2, q0⟩ := mul_small (x := A) (y := t) a0 (by omega) t0 (by omega)
  have q1 : A * t ≤ 65536 * 65536 := Int.mul_le_mul a1 t1 t0 (by omega)
  refine ⟨A * t / 65536, by rw [e1, hA, e2], by omega, by omega, ?_⟩
  have h1 : (65536 * A) * t ≤ x * y * t := Int.mul_le_mul_of_nonneg_right (by omega) t0
  have h2 : (x * y - 65535) * t ≤ (65536 * A) * t := Int.mul_le_mul_of_nonneg_right (by omega) t0
  have e3 : 65536 * A * t = 65536 * (A * t) := Int.mul_assoc _ _ _
  have e4 : (x * y - 65535) * t = x * y * t - 65535 * t := Int.sub_mul _ _ _
  constructor <;> omega

theorem clamp_share (t : Int) : 0 ≤ clamp t 0 65536 ∧ clamp t 0 65536 ≤ 65536 := by
  unfold clamp; split <;> (try split) <;> omega
theorem clamp_in {t : Int} (t0 : 0 ≤ t) (t1 : t ≤ 65536) : clamp t 0 65536 = t := by
  unfold clamp; rw [if_neg (by omega), if_neg (by omega)]
theorem bend_in {a b t : Int} (t0 : 0 ≤ t) (t1 : t ≤ 65536) : bend a b t = bendc a b t := by unfold bend; rw [clamp_in t0 t1]
theorem mul_zero_any (a : Int) : mul 0 a = 0 := by
  unfold mul; rw [show hold 0 = 0 by decide, Int.zero_mul]; decide
theorem bend_zero (a b : Int) : bend a b 0 = 0 := by
  rw [bend_in (by omega) (by omega)]; unfold bendc
  rw [show mul (mul (65536 - 0) (65536 - 0)) 0 = 0 by decide, show mul (mul (65536 - 0) 0) 0 = 0 by decide, show mul (mul 0 0) 0 = 0 by decide, show (3 : Int) * 0 = 0 by decide, mul_zero_any, mul_zero_any]; decide
theorem bend_one (a b : Int) : bend a b 65536 = 65536 := by
  rw [bend_in (by omega) (by omega)]; unfold bendc
  rw [show mul (mul (65536 - 65536) (65536 - 65536)) 65536 = 0 by decide, show mul (mul (65536 - 65536) 65536) 65536 = 0 by decide, show mul (mul 65536 65536) 65536 = 65536 by decide, show (3 : Int) * 0 = 0 by decide, mul_zero_any, mul_zero_any]; decide

theorem lohi_bd (p q x : Int) : ∀ n, 0 ≤ (lohi p q x n).1 ∧ (lohi p q x n).1 ≤ (lohi p q x n).2 ∧ (lohi p q x n).2 ≤ 65536
  | 0 => by show (0 : Int) ≤ 0 ∧ (0 : Int) ≤ 65536 ∧ (65536 : Int) ≤ 65536; decide
  | n + 1 => by
    have ih := lohi_bd p q x n
    unfold lohi
    split <;> (dsimp only; omega)
theorem share_bd (p q x : Int) : 0 ≤ share p q x ∧ share p q x ≤ 65536 := by
  have h := lohi_bd p q x 16
  unfold share; omega
theorem lohi_gap (p q x : Int) : ∀ n, n ≤ 16 → (lohi p q x n).2 = (lohi p q x n).1 + ((2 ^ (16 - n) : Nat) : Int)
  | 0, _ => by show (65536 : Int) = 0 + ((2 ^ (16 - 0) : Nat) : Int); decide
  | n + 1, h => by
    have ih := lohi_gap p q x n (by omega)
    have e : 16 - n = (16 - (n + 1)) + 1 := by omega
    rw [e, Nat.pow_succ] at ih
    unfold lohi
    split <;> (dsimp only; omega)
theorem lohi_in (p q : Int) {x : Int} (x0 : 0 ≤ x) (x1 : x < 65536) : ∀ n, bend p q (lohi p q x n).1 ≤ x ∧ x < bend p q (lohi p q x n).2
  | 0 => by
    show bend p q 0 ≤ x ∧ x < bend p q 65536
    rw [bend_zero, bend_one]; omega
  | n + 1 => by
    have ih := lohi_in p q x0 x1 n
    unfold lohi
    split
    · rename_i h; exact ⟨h, ih.2⟩
    · rename_i h; exact ⟨ih.1, by dsimp only; omega⟩
theorem share_in (p q : Int) {x : Int} (x0 : 0 ≤ x) (x1 : x < 65536) : bend p q (share p q x) ≤ x ∧ x < bend p q (share p q x + 1) ∧ share p q x + 1 ≤ 65536 := by
  have h := lohi_in p q x0 x1 16
  have g := lohi_gap p q x 16 (by omega)
  have b := lohi_bd p q x 16
  rw [show (2 ^ (16 - 16) : Nat) = 1 by decide] at g
  unfold share
  rw [g] at h b
  exact ⟨h.1, h.2, by omega⟩
theorem lohi_apart (p q : Int) {x y : Int} (h : x ≤ y) : ∀ n, lohi p q x n = lohi p q y n ∨ (lohi p q x n).2 ≤ (lohi p q y n).1
  | 0 => Or.inl rfl
  | n + 1 => by
    have bx := lohi_bd p q x n
    have by' := lohi_bd p q y n
    rcases lohi_apart p q h n with e | e
    · unfold lohi
      rw [e]
      split
      · rw [if_pos (by omega)]; exact Or.inl rfl
      · split
        · right; dsimp only; omega
        · exact Or.inl rfl
    · right
      unfold lohi
      split <;> split <;> (dsimp only; omega)
theorem share_mono (p q : Int) {x y : Int} (h : x ≤ y) : share p q x ≤ share p q y := by
  have bx := lohi_bd p q x 16
  unfold share
  rcases lohi_apart p q h 16 with e | e
  · rw [e]; omega
  · omega

/- The curve of heights 0 and One. -/
theorem bend_rise {t : Int} (t0 : 0 ≤ t) (t1 : t ≤ 65536) : 0 ≤ bend 0 65536 t ∧
    4294967296 * bend 0 65536 t ≤ 3 * ((65536 - t) * t * t) + t * t * t ∧ 3 * ((65536 - t) * t * t) + t * t * t ≤ 4294967296 * bend 0 65536 t + 34359214080 := by
  obtain ⟨P, e1, a0, a1, _, _⟩ := twice (x := 65536 - t) (y := 65536 - t) (t := t) (by omega) (by omega) (by omega) (by omega) t0 t1
  obtain ⟨L, e2, b0, b1, b2, b3⟩ := twice (x := 65536 - t) (y := t) (t := t) (by omega) (by omega) t0 t1 t0 t1
  obtain ⟨E, e3, c0, c1, c2, c3⟩ := twice (x := t) (y := t) (t := t) t0 t1 t0 t1 t0 t1
  have m1 : mul (3 * P) 0 = 0 := by rw [(mul_small (x := 3 * P) (y := 0) (by omega) (by omega) (by omega) (by omega)).1]; omega
  have m2 : mul (3 * L) 65536 = 3 * L := by rw [(mul_small (x := 3 * L) (y := 65536) (by omega) (by omega) (by omega) (by omega)).1]; omega
  have e : bend 0 65536 t = 3 * L + E := by
    rw [bend_in t0 t1]; unfold bendc
    rw [e1, e2, e3, m1, m2, add_small (x := 0) (by omega) (by omega) (by omega) (by omega), add_small (by omega) (by omega) c0 (by omega)]; omega
  rw [e]
  refine ⟨by omega, by omega, by omega⟩
theorem cubic {s t : Int} (s0 : 0 ≤ s) (st : s ≤ t) (t1 : t ≤ 65536) : 3 * ((65536 - s) * s * s) + s * s * s ≤ 3 * ((65536 - t) * t * t) + t * t * t := by
  obtain ⟨d, rfl⟩ : ∃ d, t = s + d := ⟨t - s, by omega⟩
  obtain ⟨r, hr⟩ : ∃ r, 65536 = s + d + r := ⟨65536 - (s + d), by omega⟩
  have d0 : 0 ≤ d := by omega
  have r0 : 0 ≤ r := by omega
  rw [hr, show s + d + r - s = d + r by omega, show s + d + r - (s + d) = r by omega]
  have p1 : 0 ≤ s * s * d := Int.mul_nonneg (Int.mul_nonneg s0 s0) d0
  have p2 : 0 ≤ s * d * d := Int.mul_nonneg (Int.mul_nonneg s0 d0) d0
  have p3 : 0 ≤ d * d * d := Int.mul_nonneg (Int.mul_nonneg d0 d0) d0
  have p4 : 0 ≤ s * d * r := Int.mul_nonneg (Int.mul_nonneg s0 d0) r0
  have p5 : 0 ≤ d * d * r := Int.mul_nonneg (Int.mul_nonneg d0 d0) r0
  have e1 : (d + r) * s * s = s * s * d + s * s * r := by
    rw [Int.add_mul, Int.add_mul, Int.mul_comm d s, Int.mul_comm r s, Int.mul_right_comm s d s, Int.mul_right_comm s r s]
  have e2 : r * (s + d) * (s + d) = s * s * r + 2 * (s * d * r) + d * d * r := by
    simp only [Int.mul_add, Int.add_mul, Int.mul_comm r s, Int.mul_comm r d, Int.mul_right_comm s r s, Int.mul_right_comm s r d, Int.mul_right_comm d r s, Int.mul_right_comm d r d, Int.mul_comm d s]; omega
  have e3 : (s + d) * (s + d) * (s + d) = s * s * s + 3 * (s * s * d) + 3 * (s * d * d) + d * d * d := by
    simp only [Int.mul_add, Int.add_mul, Int.mul_comm d s, Int.mul_right_comm s d s, Int.mul_right_comm d d s]; omega
  omega
theorem curve_rise (p q : Int) {x y : Int} (h : x ≤ y) : bend 0 65536 (share p q x) ≤ bend 0 65536 (share p q y) + 7 := by
  have bx := share_bd p q x
  have by' := share_bd p q y
  have a := (bend_rise bx.1 bx.2).2.1
  have b := (bend_rise by'.1 by'.2).2.2
  have c := cubic bx.1 (share_mono p q h) by'.2
  omega
theorem cubic_one {t : Int} (t0 : 0 ≤ t) (t1 : t ≤ 65536) : bend 0 65536 t ≤ 65536 := by
  have a := (bend_rise t0 t1).2.1
  have c := cubic t0 t1 (Int.le_refl 65536)
  omega

/- The curve whose points lie on the straight line. -/
theorem even_near {t : Int} (t0 : 0 ≤ t) (t1 : t ≤ 65536) : t - 13 ≤ bend 21845 43690 t ∧ bend 21845 43690 t ≤ t := by
  obtain ⟨P, e1, a0, a1, a2, a3⟩ := twice (x := 65536 - t) (y := 65536 - t) (t := t) (by omega) (by omega) (by omega) (by omega) t0 t1
  obtain ⟨L, e2, b0, b1, b2, b3⟩ := twice (x := 65536 - t) (y := t) (t := t) (by omega) (by omega) t0 t1 t0 t1
  obtain ⟨E, e3, c0, c1, c2, c3⟩ := twice (x := t) (y := t) (t := t) t0 t1 t0 t1 t0 t1
  have m1 := (mul_small (x := 3 * P) (y := 21845) (by omega) (by omega) (by omega) (by omega)).1
  have m2 := (mul_small (x := 3 * L) (y := 43690) (by omega) (by omega) (by omega) (by omega)).1
  have e : bend 21845 43690 t = 3 * P * 21845 / 65536 + 3 * L * 43690 / 65536 + E := by
    rw [bend_in t0 t1]; unfold bendc
    rw [e1, e2, e3, m1, m2, add_small (x := 3 * P * 21845 / 65536) (y := 3 * L * 43690 / 65536) (by omega) (by omega) (by omega) (by omega), add_small (x := 3 * P * 21845 / 65536 + 3 * L * 43690 / 65536) (by omega) (by omega) c0 (by omega)]
  rw [e]
  obtain ⟨u, hu⟩ : ∃ u, 65536 - t = u := ⟨_, rfl⟩
  rw [hu] at a2 a3 b2 b3
  have u0 : 0 ≤ u := by omega
  have u1 : u ≤ 65536 := by omega
  have s1 : u * u * t + 2 * (u * t * t) + t * t * t = 4294967296 * t := by
    have h : (u + t) * (u + t) * t = 4294967296 * t := by rw [show u + t = 65536 by omega]; omega
    rw [← h]
    simp only [Int.mul_add, Int.add_mul, Int.mul_comm t u]; omega
  have n1 : 0 ≤ u * u * t := Int.mul_nonneg (Int.mul_nonneg u0 u0) t0
  have n2 : 0 ≤ u * t * t := Int.mul_nonneg (Int.mul_nonneg u0 t0) t0
  have n3 : 0 ≤ t * t * t := Int.mul_nonneg (Int.mul_nonneg t0 t0) t0
  generalize u * u * t = X at *
  generalize u * t * t = Y at *
  generalize t * t * t = Z at *
  constructor <;> omega
theorem even_at {x : Int} (x0 : 0 ≤ x) (x1 : x < 65536) : x - 13 ≤ bend 21845 43690 (share 21845 43690 x) ∧ bend 21845 43690 (share 21845 43690 x) ≤ x := by
  have h := share_in 21845 43690 x0 x1
  have b := share_bd 21845 43690 x
  have c := (even_near b.1 b.2).1
  have d := (even_near (t := share 21845 43690 x + 1) (by omega) (by omega)).2
  omega

end M
end Go.Proofs.Ytibgilaeepmheaa
