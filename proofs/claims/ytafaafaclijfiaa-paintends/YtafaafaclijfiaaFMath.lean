/- The plain arithmetic of the document's eighth chapter (half way between two places; a bent part as eight straight ones; a path as straight lines), on Lean's own integers and lists: no condition but those that the theorems name; no program is named here. -/
import Derived.Test.YtafaafaclijfiaaPMath
import Derived.Laws.BitsAllLaws
namespace Go.Proofs.Ytafaafaclijfiaa
namespace M

/-- Half the sums, rounded down. -/
def hvP (p q : Pt) : Pt := ⟨(p.x + q.x) / 2, (p.y + q.y) / 2⟩
/-- Numbers of 64 bits. -/
def In64 (x : Int) : Prop := -9223372036854775808 ≤ x ∧ x ≤ 9223372036854775807
def Rg (p : Pt) : Prop := In64 p.x ∧ In64 p.y
theorem Rg.hv {p q : Pt} (h : Rg p) (h2 : Rg q) : Rg (hvP p q) := by
  unfold Rg In64 at *
  simp only [hvP]
  omega
theorem Rg.small {ps : List Pt} {i : Nat} (h : Small ps) (hi : i < ps.length) : Rg (pt ps i) := by
  have := h i hi
  unfold Rg In64
  omega
theorem Rg.near {p : Pt} (h : nearP p = true) : Rg p := by
  simp [nearP, nearN] at h
  unfold Rg In64
  omega

/-- A part that is parted n times: the ends behind a. -/
def bendL : Nat → Pt → Pt → Pt → Pt → List Pt
  | 0, _, _, _, d => [d]
  | n + 1, a, b, c, d =>
    bendL n a (hvP a b) (hvP (hvP a b) (hvP b c)) (hvP (hvP (hvP a b) (hvP b c)) (hvP (hvP b c) (hvP c d))) ++
    bendL n (hvP (hvP (hvP a b) (hvP b c)) (hvP (hvP b c) (hvP c d))) (hvP (hvP b c) (hvP c d)) (hvP c d) d
theorem bendL_length : ∀ (n : Nat) (a b c d : Pt), (bendL n a b c d).length = 2 ^ n
  | 0, _, _, _, _ => rfl
  | n + 1, a, b, c, d => by unfold bendL; rw [List.length_append, bendL_length n, bendL_length n, Nat.pow_succ]; omega
theorem pt_right {ps qs : List Pt} {i : Nat} (h : ps.length ≤ i) : pt (ps ++ qs) i = pt qs (i - ps.length) := by
  unfold pt; simp [List.getD, List.getElem?_append_right h]
theorem pt_lefts {ps qs : List Pt} {i : Nat} (h : i < ps.length) : pt (ps ++ qs) i = pt ps i := by
  unfold pt; simp [List.getD, List.getElem?_append_left h]
theorem bendL_last : ∀ (n : Nat) (a b c d : Pt), pt (bendL n a b c d) (2 ^ n - 1) = d
  | 0, _, _, _, _ => rfl
  | n + 1, a, b, c, d => by
    have h0 : 0 < 2 ^ n := Nat.pow_pos (by omega)
    unfold bendL
    rw [pt_right (by rw [bendL_length, Nat.pow_succ]; omega), bendL_length]
    have e : 2 ^ (n + 1) - 1 - 2 ^ n = 2 ^ n - 1 := by rw [Nat.pow_succ]; omega
    rw [e]
    exact bendL_last n _ _ _ d
/-- Within a box. -/
def Bx (x0 x1 y0 y1 : Int) (p : Pt) : Prop := x0 ≤ p.x ∧ p.x ≤ x1 ∧ y0 ≤ p.y ∧ p.y ≤ y1
theorem Bx.hv {x0 x1 y0 y1 : Int} {p q : Pt} (h : Bx x0 x1 y0 y1 p) (h2 : Bx x0 x1 y0 y1 q) : Bx x0 x1 y0 y1 (hvP p q) := by
  unfold Bx at *
  simp only [hvP]
  omega
theorem bendL_box {x0 x1 y0 y1 : Int} : ∀ (n : Nat) (a b c d : Pt), Bx x0 x1 y0 y1 a → Bx x0 x1 y0 y1 b → Bx x0 x1 y0 y1 c → Bx x0 x1 y0 y1 d → ∀ i, i < 2 ^ n → Bx x0 x1 y0 y1 (pt (bendL n a b c d) i)
  | 0, _, _, _, _, _, _, _, h, i, hi => by
    obtain rfl : i = 0 := by simp at hi; omega
    exact h
  | n + 1, a, b, c, d, ha, hb, hc, hd, i, hi => by
    unfold bendL
    by_cases hl : i < 2 ^ n
    · rw [pt_lefts (by rw [bendL_length]; exact hl)]
      exact bendL_box n _ _ _ _ ha (ha.hv hb) ((ha.hv hb).hv (hb.hv hc)) (((ha.hv hb).hv (hb.hv hc)).hv ((hb.hv hc).hv (hc.hv hd))) i hl
    · rw [pt_right (by rw [bendL_length]; omega), bendL_length]
      exact bendL_box n _ _ _ _ (((ha.hv hb).hv (hb.hv hc)).hv ((hb.hv hc).hv (hc.hv hd))) ((hb.hv hc).hv (hc.hv hd)) (hc.hv hd) hd _ (by rw [Nat.pow_succ] at hi; omega)

/-- A part's ends: the last one alone if it is straight. -/
def partL (a b c d : Pt) : List Pt := if b = a ∧ c = d then [d] else bendL 3 a b c d
theorem partL_pos (a b c d : Pt) : 0 < (partL a b c d).length ∧ (partL a b c d).length ≤ 8 := by
  unfold partL
  split
  · simp
  · rw [bendL_length]; omega
theorem partL_last (a b c d : Pt) : pt (partL a b c d) ((partL a b c d).length - 1) = d := by
  unfold partL
  split
  · rfl
  · rw [bendL_length]; exact bendL_last 3 a b c d
/-- The first k parts of a path in straight lines. -/
def polyN (ps : List Pt) : Nat → List Pt
  | 0 => [pt ps 0]
  | k + 1 => polyN ps k ++ partL (pt ps (3 * k)) (pt ps (3 * k + 1)) (pt ps (3 * k + 2)) (pt ps (3 * k + 3))
theorem polyN_length (ps : List Pt) : ∀ k, k + 1 ≤ (polyN ps k).length ∧ (polyN ps k).length ≤ 8 * k + 1
  | 0 => by simp [polyN]
  | k + 1 => by
    have h := polyN_length ps k
    have h2 := partL_pos (pt ps (3 * k)) (pt ps (3 * k + 1)) (pt ps (3 * k + 2)) (pt ps (3 * k + 3))
    unfold polyN
    rw [List.length_append]
    omega
/-- A path in straight lines. -/
def flatL (c : Bool) (ps : List Pt) : List Pt := if ps.length = 0 ∨ okP c ps = false then [] else polyN ps ((ps.length - 1) / 3)
theorem polyN_last (ps : List Pt) : ∀ k, pt (polyN ps k) ((polyN ps k).length - 1) = pt ps (3 * k)
  | 0 => rfl
  | k + 1 => by
    have h2 := partL_pos (pt ps (3 * k)) (pt ps (3 * k + 1)) (pt ps (3 * k + 2)) (pt ps (3 * k + 3))
    unfold polyN
    rw [List.length_append, pt_right (by omega)]
    have e : (polyN ps k).length + (partL (pt ps (3 * k)) (pt ps (3 * k + 1)) (pt ps (3 * k + 2)) (pt ps (3 * k + 3))).length - 1 - (polyN ps k).length = (partL (pt ps (3 * k)) (pt ps (3 * k + 1)) (pt ps (3 * k + 2)) (pt ps (3 * k + 3))).length - 1 := by omega
    rw [e, partL_last]
    congr 1
theorem polyN_le (ps : List Pt) {k : Nat} (j : Nat) (h : k ≤ j) : (polyN ps k).length ≤ (polyN ps j).length := by
  induction j with
  | zero => obtain rfl : k = 0 := by omega
            exact Nat.le_refl _
  | succ j ih =>
    by_cases e : k = j + 1
    · subst e; exact Nat.le_refl _
    · have := ih (by omega)
      have h3 : (polyN ps (j + 1)).length = (polyN ps j).length + (partL (pt ps (3 * j)) (pt ps (3 * j + 1)) (pt ps (3 * j + 2)) (pt ps (3 * j + 3))).length := by
        show (polyN ps j ++ _).length = _
        rw [List.length_append]
      omega
theorem polyN_pre (ps : List Pt) {k : Nat} (n : Nat) (h : k ≤ n) (i : Nat) (hi : i < (polyN ps k).length) : pt (polyN ps n) i = pt (polyN ps k) i := by
  induction n with
  | zero => obtain rfl : k = 0 := by omega
            rfl
  | succ n ih =>
    by_cases e : k = n + 1
    · subst e; rfl
    · rw [← ih (by omega)]
      have hm := polyN_le ps n (show k ≤ n by omega)
      show pt (polyN ps n ++ _) i = _
      exact pt_lefts (by omega)
theorem polyN_grow (ps : List Pt) (k : Nat) : (polyN ps (k + 1)).length = (polyN ps k).length + (partL (pt ps (3 * k)) (pt ps (3 * k + 1)) (pt ps (3 * k + 2)) (pt ps (3 * k + 3))).length := by
  show (polyN ps k ++ _).length = _
  rw [List.length_append]

/- Bits: what both have, twice, and what one has. -/
theorem and_xor (a b : Nat) : a + b = 2 * (a &&& b) + (a ^^^ b) := by
  induction a using Nat.strongRecOn generalizing b with
  | _ a ih =>
    by_cases h : a = 0
    · subst h; simp
    · have := ih (a / 2) (by omega) (b / 2)
      have e1 : (a &&& b) / 2 = a / 2 &&& b / 2 := Nat.and_div_two
      have e2 : (a ^^^ b) / 2 = a / 2 ^^^ b / 2 := Nat.xor_div_two
      have e3 : (a &&& b) % 2 = 1 ↔ a % 2 = 1 ∧ b % 2 = 1 := Nat.and_mod_two_eq_one
      have e4 : (a ^^^ b) % 2 = 1 ↔ ¬ (a % 2 = 1 ↔ b % 2 = 1) := Nat.xor_mod_two_eq_one
      omega
end M
open Go Go.RowKit M
theorem bits_facts (x y : Int) (hx : In64 x) (hy : In64 y) : ∃ A X : Int, bits .and .i64 x y = A ∧ bits .xor .i64 x y = X ∧ x + y = 2 * A + X ∧ In64 A ∧ In64 X ∧ (A % 2 = 1 ↔ x % 2 = 1 ∧ y % 2 = 1) := by
  obtain ⟨n, hn⟩ : ∃ n, (BitVec.ofInt 64 x).toNat = n := ⟨_, rfl⟩
  obtain ⟨m, hm⟩ : ∃ n, (BitVec.ofInt 64 y).toNat = n := ⟨_, rfl⟩
  have e1 : n = (x % 18446744073709551616).toNat := by rw [← hn, BitVec.toNat_ofInt]; rfl
  have e2 : m = (y % 18446744073709551616).toNat := by rw [← hm, BitVec.toNat_ofInt]; rfl
  have a1 : bits .and .i64 x y = IntKind.i64.wrap ((n &&& m : Nat) : Int) := by
    show IntKind.i64.wrap ((BitVec.ofInt 64 x &&& BitVec.ofInt 64 y).toNat : Int) = _
    rw [BitVec.toNat_and, hn, hm]
  have a2 : bits .xor .i64 x y = IntKind.i64.wrap ((n ^^^ m : Nat) : Int) := by
    show IntKind.i64.wrap ((BitVec.ofInt 64 x ^^^ BitVec.ofInt 64 y).toNat : Int) = _
    rw [BitVec.toNat_xor, hn, hm]
  have b1 := BitVec.msb_eq_decide (BitVec.ofInt 64 x)
  have b2 := BitVec.msb_eq_decide (BitVec.ofInt 64 y)
  have b3 := BitVec.msb_eq_decide (BitVec.ofInt 64 x &&& BitVec.ofInt 64 y)
  have b4 := BitVec.msb_eq_decide (BitVec.ofInt 64 x ^^^ BitVec.ofInt 64 y)
  have l3 := (BitVec.ofInt 64 x &&& BitVec.ofInt 64 y).isLt
  have l4 := (BitVec.ofInt 64 x ^^^ BitVec.ofInt 64 y).isLt
  rw [BitVec.msb_and, b1, b2, BitVec.toNat_and, hn, hm] at b3
  rw [BitVec.msb_xor, b1, b2, BitVec.toNat_xor, hn, hm] at b4
  rw [BitVec.toNat_and, hn, hm] at l3
  rw [BitVec.toNat_xor, hn, hm] at l4
  have s := and_xor n m
  have e3 : (n &&& m) % 2 = 1 ↔ n % 2 = 1 ∧ m % 2 = 1 := Nat.and_mod_two_eq_one
  rw [IntKind.wrap_i64] at a1 a2
  generalize n &&& m = A at *
  generalize n ^^^ m = X at *
  clear hn hm b1 b2
  unfold In64 at *
  have c3 : 9223372036854775808 ≤ A ↔ 9223372036854775808 ≤ n ∧ 9223372036854775808 ≤ m := by
    clear a1 a2 e1 e2 s e3 hx hy b4
    simp at b3
    by_cases h1 : 9223372036854775808 ≤ n <;> by_cases h2 : 9223372036854775808 ≤ m <;> simp [h1, h2] at b3 ⊢ <;> omega
  have c4 : 9223372036854775808 ≤ X ↔ ¬ (9223372036854775808 ≤ n ↔ 9223372036854775808 ≤ m) := by
    clear a1 a2 e1 e2 s e3 hx hy b3 c3
    simp at b4
    by_cases h1 : 9223372036854775808 ≤ n <;> by_cases h2 : 9223372036854775808 ≤ m <;> simp [h1, h2] at b4 ⊢ <;> omega
  clear b3 b4
  have sg : ∀ k : Nat, k < 2 ^ 64 → ∃ z : Int, (((k : Int) + 9223372036854775808) % 18446744073709551616 - 9223372036854775808) = z ∧ (9223372036854775808 ≤ k → z = k - 18446744073709551616) ∧ (¬ 9223372036854775808 ≤ k → z = k) ∧ -9223372036854775808 ≤ z ∧ z ≤ 9223372036854775807 := by
    intro k hk
    refine ⟨_, rfl, fun h => ?_, fun h => ?_, ?_, ?_⟩ <;> omega
  obtain ⟨zA, hA, A1, A2, A3, A4⟩ := sg A l3
  obtain ⟨zX, hX, X1, X2, X3, X4⟩ := sg X l4
  have ex : (9223372036854775808 ≤ n → x = n - 18446744073709551616) ∧ (¬ 9223372036854775808 ≤ n → x = n) := by
    clear a1 a2 e2 s e3 hy c3 c4 sg hA hX A1 A2 X1 X2
    constructor <;> intro <;> omega
  have ey : (9223372036854775808 ≤ m → y = m - 18446744073709551616) ∧ (¬ 9223372036854775808 ≤ m → y = m) := by
    clear a1 a2 e1 s e3 hx c3 c4 sg hA hX A1 A2 X1 X2 ex
    constructor <;> intro <;> omega
  rw [hA] at a1
  rw [hX] at a2
  refine ⟨zA, zX, a1, a2, ?_, ⟨A3, A4⟩, ⟨X3, X4⟩, ?_⟩
  · clear a1 a2 e1 e2 sg hA hX e3 l3 l4 A3 A4 X3 X4 hx hy
    by_cases h1 : 9223372036854775808 ≤ n <;> by_cases h2 : 9223372036854775808 ≤ m
    · have := A1 (c3.2 ⟨h1, h2⟩); have := X2 (fun h => c4.1 h ⟨fun _ => h2, fun _ => h1⟩); have := ex.1 h1; have := ey.1 h2; omega
    · have := A2 (fun h => h2 (c3.1 h).2); have := X1 (c4.2 (fun h => h2 (h.1 h1))); have := ex.1 h1; have := ey.2 h2; omega
    · have := A2 (fun h => h1 (c3.1 h).1); have := X1 (c4.2 (fun h => h1 (h.2 h2))); have := ex.2 h1; have := ey.1 h2; omega
    · have := A2 (fun h => h1 (c3.1 h).1); have := X2 (fun h => c4.1 h ⟨fun h => absurd h h1, fun h => absurd h h2⟩); have := ex.2 h1; have := ey.2 h2; omega
  · have pA : zA % 2 = (A : Int) % 2 := by
      clear a1 a2 e1 e2 sg hA hX e3 l3 l4 A3 A4 X3 X4 hx hy c3 c4 ex ey s X1 X2
      by_cases h : 9223372036854775808 ≤ A
      · have := A1 h; omega
      · have := A2 h; omega
    have px : x % 2 = (n : Int) % 2 := by
      clear a1 a2 e1 e2 sg hA hX e3 l3 l4 A3 A4 X3 X4 hx hy c3 c4 ey s X1 X2 A1 A2 pA
      by_cases h : 9223372036854775808 ≤ n
      · have := ex.1 h; omega
      · have := ex.2 h; omega
    have py : y % 2 = (m : Int) % 2 := by
      clear a1 a2 e1 e2 sg hA hX e3 l3 l4 A3 A4 X3 X4 hx hy c3 c4 ex s X1 X2 A1 A2 pA px
      by_cases h : 9223372036854775808 ≤ m
      · have := ey.1 h; omega
      · have := ey.2 h; omega
    rw [pA, px, py]
    clear a1 a2 e1 e2 sg hA hX l3 l4 A3 A4 X3 X4 hx hy c3 c4 ex ey s X1 X2 A1 A2 pA px py
    omega
theorem and_one1 (c : Int) : bits .and .i64 c 1 = c % 2 := by
  show IntKind.i64.wrap ((BitVec.ofInt 64 c &&& BitVec.ofInt 64 (1 : Int)).toNat : Int) = _
  have e0 : (BitVec.ofInt 64 (1 : Int)).toNat = 1 := by decide
  have e1 : (BitVec.ofInt 64 c).toNat = (c % 18446744073709551616).toNat := by rw [BitVec.toNat_ofInt]; rfl
  have e2 : ∀ n : Nat, n &&& 1 = n % 2 := fun n => Nat.and_two_pow_sub_one_eq_mod n 1
  rw [BitVec.toNat_and, e0, e1, e2, IntKind.wrap_i64]
  omega
theorem half_bits {x y : Int} (hx : In64 x) (hy : In64 y) : wrap64 (bits .and .i64 x y + bits .xor .i64 x y / 2) = (x + y) / 2 := by
  obtain ⟨A, X, h1, h2, h3, h4, h5, _⟩ := bits_facts x y hx hy
  rw [h1, h2]
  have e : A + X / 2 = (x + y) / 2 := by rw [h3]; omega
  rw [e]
  unfold In64 at *
  exact IntWalk.wrap64_in _ ⟨by omega, by omega⟩
theorem half_ref {x y : Int} (hx : In64 x) (hy : In64 y) : wrap64 (wrap64 (x / 2 + y / 2) + bits .and .i64 (bits .and .i64 x y) 1) = (x + y) / 2 := by
  obtain ⟨A, X, h1, h2, h3, h4, h5, h6⟩ := bits_facts x y hx hy
  rw [h1, and_one1]
  unfold In64 at *
  rw [show wrap64 (x / 2 + y / 2) = x / 2 + y / 2 from IntWalk.wrap64_in _ ⟨by omega, by omega⟩]
  have e : x / 2 + y / 2 + A % 2 = (x + y) / 2 := by omega
  rw [e]
  exact IntWalk.wrap64_in _ ⟨by omega, by omega⟩
end Go.Proofs.Ytafaafaclijfiaa
