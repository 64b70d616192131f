/- Contracts of mutoscoperef8.Bend, .Flat: for all places and paths what the plain arithmetic says, in memory of its own; of the memory nothing that was there turns. -/
import Derived.Test.YtopepgifhnfbiaaPMath
import Derived.Laws.BitsAllLaws
import Derived.Test.YtopepgifhnfbiaaPM
import Derived.Test.YtopepgifhnfbiaaMake
import Derived.Test.YtopepgifhnfbiaaAP8
import Derived.Test.YtopepgifhnfbiaaKN7
import Derived.Test.YtopepgifhnfbiaaC
import Derived.Test.YtopepgifhnfbiaaTail
import Derived.Test.YtopepgifhnfbiaaQt
import Derived.Test.YtopepgifhnfbiaaMath
import Derived.Test.YtopepgifhnfbiaaD
import Derived.Test.YtopepgifhnfbiaaJ
import Derived.Test.YtopepgifhnfbiaaE4
import Derived.Test.YtopepgifhnfbiaaTK5
import Derived.Deep.RegionHeld3
import Derived.Deep.RegionLaw
import Derived.Deep.DeepCutAuto
import Derived.Test.YtopepgifhnfbiaaVar
namespace Go.Proofs.Ytopepgifhnfbiaa
namespace M

/-- Half the sums, rounded down. -/
def hvP (p q : Pt) : Pt := ⟨(p.x + q.x) / 2, (p.y + q.y) / 2⟩
/-- Numbers of 64 bits. -/
def In64 (x : Int) : Prop := -9223372036854775808 ≤ x ∧ x ≤ 9223372036854775807
def Rg (p : Pt) : Prop := In64 p.x ∧ In64 p.y
theorem Rg.hv {p q : Pt} (h : Rg p) (h2 : Rg q) : Rg (hvP p q) := by
  unfold Rg In64 at *
  simp only [hvP]
  omega
theorem Rg.small {ps : List Pt} {i : Nat} (h : Small ps) (hi : i < ps.length) : Rg (pt ps i) := by
  have := h i hi
  unfold Rg In64
  omega
theorem Rg.near {p : Pt} (h : nearP p = true) : Rg p := by
  simp [nearP, nearN] at h
  unfold Rg In64
  omega

/-- A part that is parted n times: the ends behind a. -/
def bendL : Nat → Pt → Pt → Pt → Pt → List Pt
  | 0, _, _, _, d => [d]
  | n + 1, a, b, c, d =>
    bendL n a (hvP a b) (hvP (hvP a b) (hvP b c)) (hvP (hvP (hvP a b) (hvP b c)) (hvP (hvP b c) (hvP c d))) ++
    bendL n (hvP (hvP (hvP a b) (hvP b c)) (hvP (hvP b c) (hvP c d))) (hvP (hvP b c) (hvP c d)) (hvP c d) d
theorem bendL_length : ∀ (n : Nat) (a b c d : Pt), (bendL n a b c d).length = 2 ^ n
  | 0, _, _, _, _ => rfl
  | n + 1, a, b, c, d => by unfold bendL; rw [List.length_append, bendL_length n, bendL_length n, Nat.pow_succ]; omega
theorem pt_right {ps qs : List Pt} {i : Nat} (h : ps.length ≤ i) : pt (ps ++ qs) i = pt qs (i - ps.length) := by
  unfold pt; simp [List.getD, List.getElem?_append_right h]
theorem pt_lefts {ps qs : List Pt} {i : Nat} (h : i < ps.length) : pt (ps ++ qs) i = pt ps i := by
  unfold pt; simp [List.getD, List.getElem?_append_left h]
theorem bendL_last : ∀ (n : Nat) (a b c d : Pt), pt (bendL n a b c d) (2 ^ n - 1) = d
  | 0, _, _, _, _ => rfl
  | n + 1, a, b, c, d => by
    have h0 : 0 < 2 ^ n := Nat.pow_pos (by omega)
    unfold bendL
    rw [pt_right (by rw [bendL_length, Nat.pow_succ]; omega), bendL_length]
    have e : 2 ^ (n + 1) - 1 - 2 ^ n = 2 ^ n - 1 := by rw [Nat.pow_succ]; omega
    rw [e]
    exact bendL_last n _ _ _ d
/-- Within a box. -/
def Bx (x0 x1 y0 y1 : Int) (p : Pt) : Prop := x0 ≤ p.x ∧ p.x ≤ x1 ∧ y0 ≤ p.y ∧ p.y ≤ y1
theorem Bx.hv {x0 x1 y0 y1 : Int} {p q : Pt} (h : Bx x0 x1 y0 y1 p) (h2 : Bx x0 x1 y0 y1 q) : Bx x0 x1 y0 y1 (hvP p q) := by
  unfold Bx at *
  simp only [hvP]
  omega
theorem bendL_box {x0 x1 y0 y1 : Int} : ∀ (n : Nat) (a b c d : Pt), Bx x0 x1 y0 y1 a → Bx x0 x1 y0 y1 b → Bx x0 x1 y0 y1 c → Bx x0 x1 y0 y1 d → ∀ i, i < 2 ^ n → Bx x0 x1 y0 y1 (pt (bendL n a b c d) i)
  | 0, _, _, _, _, _, _, _, h, i, hi => by
    obtain rfl : i = 0 := by simp at hi; omega
    exact h
  | n + 1, a, b, c, d, ha, hb, hc, hd, i, hi => by
    unfold bendL
    by_cases hl : i < 2 ^ n
    · rw [pt_lefts (by rw [bendL_length]; exact hl)]
      exact bendL_box n _ _ _ _ ha (ha.hv hb) ((ha.hv hb).hv (hb.hv hc)) (((ha.hv hb).hv (hb.hv hc)).hv ((hb.hv hc).hv (hc.hv hd))) i hl
    · rw [pt_right (by rw [bendL_length]; omega), bendL_length]
      exact bendL_box n _ _ _ _ (((ha.hv hb).hv (hb.hv hc)).hv ((hb.hv hc).hv (hc.hv hd))) ((hb.hv hc).hv (hc.hv hd)) (hc.hv hd) hd _ (by rw [Nat.pow_succ] at hi; omega)

/-- A part's ends: the last one alone if it is straight. -/
def partL (a b c d : Pt) : List Pt := if b = a ∧ c = d then [d] else bendL 3 a b c d
theorem partL_pos (a b c d : Pt) : 0 < (partL a b c d).length ∧ (partL a b c d).length ≤ 8 := by
  unfold partL
  split
  · simp
  · rw [bendL_length]; omega
theorem partL_last (a b c d : Pt) : pt (partL a b c d) ((partL a b c d).length - 1) = d := by
  unfold partL
  split
  · rfl
  · rw [bendL_length]; exact bendL_last 3 a b c d
/-- The first k parts of a path in straight lines. -/
def polyN (ps : List Pt) : Nat → List Pt
  | 0 => [pt ps 0]
  | k + 1 => polyN ps k ++ partL (pt ps (3 * k)) (pt ps (3 * k + 1)) (pt ps (3 * k + 2)) (pt ps (3 * k + 3))
theorem polyN_length (ps : List Pt) : ∀ k, k + 1 ≤ (polyN ps k).length ∧ (polyN ps k).length ≤ 8 * k + 1
  | 0 => by simp [polyN]
  | k + 1 => by
    have h := polyN_length ps k
    have h2 := partL_pos (pt ps (3 * k)) (pt ps (3 * k + 1)) (pt ps (3 * k + 2)) (pt ps (3 * k + 3))
    unfold polyN
    rw [List.length_append]
    omega
/-- A path in straight lines. -/
def flatL (c : Bool) (ps : List Pt) : List Pt := if ps.length = 0 ∨ okP c ps = false then [] else polyN ps ((ps.length - 1) / 3)
theorem polyN_last (ps : List Pt) : ∀ k, pt (polyN ps k) ((polyN ps k).length - 1) = pt ps (3 * k)
  | 0 => rfl
  | k + 1 => by
    have h2 := partL_pos (pt ps (3 * k)) (pt ps (3 * k + 1)) (pt ps (3 * k + 2)) (pt ps (3 * k + 3))
    unfold polyN
    rw [List.length_append, pt_right (by omega)]
    have e : (polyN ps k).length + (partL (pt ps (3 * k)) (pt ps (3 * k + 1)) (pt ps (3 * k + 2)) (pt ps (3 * k + 3))).length - 1 - (polyN ps k).length = (partL (pt ps (3 * k)) (pt ps (3 * k + 1)) (pt ps (3 * k + 2)) (pt ps (3 * k + 3))).length - 1 := by omega
    rw [e, partL_last]
    congr 1
theorem polyN_le (ps : List Pt) {k : Nat} (j : Nat) (h : k ≤ j) : (polyN ps k).length ≤ (polyN ps j).length := by
  induction j with
  | zero => obtain rfl : k = 0 := by omega
            exact Nat.le_refl _
  | succ j ih =>
    by_cases e : k = j + 1
    · subst e; exact Nat.le_refl _
    · have := ih (by omega)
      have h3 : (polyN ps (j + 1)).length = (polyN ps j).length + (partL (pt ps (3 * j)) (pt ps (3 * j + 1)) (pt ps (3 * j + 2)) (pt ps (3 * j + 3))).length := by
        show (polyN ps j ++ _).length = _
        rw [List.length_append]
      omega
theorem polyN_pre (ps : List Pt) {k : Nat} (n : Nat) (h : k ≤ n) (i : Nat) (hi : i < (polyN ps k).length) : pt (polyN ps n) i = pt (polyN ps k) i := by
  induction n with
  | zero => obtain rfl : k = 0 := by omega
            rfl
  | succ n ih =>
    by_cases e : k = n + 1
    · subst e; rfl
    · rw [← ih (by omega)]
      have hm := polyN_le ps n (show k ≤ n by omega)
      show pt (polyN ps n ++ _) i = _
      exact pt_lefts (by omega)
theorem polyN_grow (ps : List Pt) (k : Nat) : (polyN ps (k + 1)).length = (polyN ps k).length + (partL (pt ps (3 * k)) (pt ps (3 * k + 1)) (pt ps (3 * k + 2)) (pt ps (3 * k + 3))).length := by
  show (polyN ps k ++ _).length = _
  rw [List.length_append]

/- Bits: what both have, twice, and what one has. -/
theorem and_xor (a b : Nat) : a + b = 2 * (a &&& b) + (a ^^^ b) := by
  induction a using Nat.strongRecOn generalizing b with
  | _ a ih =>
    by_cases h : a = 0
    · subst h; simp
    · have := ih (a / 2) (by omega) (b / 2)
      have e1 : (a &&& b) / 2 = a / 2 &&& b / 2 := Nat.and_div_two
      have e2 : (a ^^^ b) / 2 = a / 2 ^^^ b / 2 := Nat.xor_div_two
      have e3 : (a &&& b) % 2 = 1 ↔ a % 2 = 1 ∧ b % 2 = 1 := Nat.and_mod_two_eq_one
      have e4 : (a ^^^ b) % 2 = 1 ↔ ¬ (a % 2 = 1 ↔ b % 2 = 1) := Nat.xor_mod_two_eq_one
      omega
end M
open Go Go.RowKit M
theorem bits_facts (x y : Int) (hx : In64 x) (hy : In64 y) : ∃ A X : Int, bits .and .i64 x y = A ∧ bits .xor .i64 x y = X ∧ x + y = 2 * A + X ∧ In64 A ∧ In64 X ∧ (A % 2 = 1 ↔ x % 2 = 1 ∧ y % 2 = 1) := by
  obtain ⟨n, hn⟩ : ∃ n, (BitVec.ofInt 64 x).toNat = n := ⟨_, rfl⟩
  obtain ⟨m, hm⟩ : ∃ n, (BitVec.ofInt 64 y).toNat = n := ⟨_, rfl⟩
  have e1 : n = (x % 18446744073709551616).toNat := by rw [← hn, BitVec.toNat_ofInt]; rfl
  have e2 : m = (y % 18446744073709551616).toNat := by rw [← hm, BitVec.toNat_ofInt]; rfl
  have a1 : bits .and .i64 x y = IntKind.i64.wrap ((n &&& m : Nat) : Int) := by
    show IntKind.i64.wrap ((BitVec.ofInt 64 x &&& BitVec.ofInt 64 y).toNat : Int) = _
    rw [BitVec.toNat_and, hn, hm]
  have a2 : bits .xor .i64 x y = IntKind.i64.wrap ((n ^^^ m : Nat) : Int) := by
    show IntKind.i64.wrap ((BitVec.ofInt 64 x ^^^ BitVec.ofInt 64 y).toNat : Int) = _
    rw [BitVec.toNat_xor, hn, hm]
  have b1 := BitVec.msb_eq_decide (BitVec.ofInt 64 x)
  have b2 := BitVec.msb_eq_decide (BitVec.ofInt 64 y)
  have b3 := BitVec.msb_eq_decide (BitVec.ofInt 64 x &&& BitVec.ofInt 64 y)
  have b4 := BitVec.msb_eq_decide (BitVec.ofInt 64 x ^^^ BitVec.ofInt 64 y)
  have l3 := (BitVec.ofInt 64 x &&& BitVec.ofInt 64 y).isLt
  have l4 := (BitVec.ofInt 64 x ^^^ BitVec.ofInt 64 y).isLt
  rw [BitVec.msb_and, b1, b2, BitVec.toNat_and, hn, hm] at b3
  rw [BitVec.msb_xor, b1, b2, BitVec.toNat_xor, hn, hm] at b4
  rw [BitVec.toNat_and, hn, hm] at l3
  rw [BitVec.toNat_xor, hn, hm] at l4
  have s := and_xor n m
  have e3 : (n &&& m) % 2 = 1 ↔ n % 2 = 1 ∧ m % 2 = 1 := Nat.and_mod_two_eq_one
  rw [IntKind.wrap_i64] at a1 a2
  generalize n &&& m = A at *
  generalize n ^^^ m = X at *
  clear hn hm b1 b2
  unfold In64 at *
  have c3 : 9223372036854775808 ≤ A ↔ 9223372036854775808 ≤ n ∧ 9223372036854775808 ≤ m := by
    clear a1 a2 e1 e2 s e3 hx hy b4
    simp at b3
    by_cases h1 : 9223372036854775808 ≤ n <;> by_cases h2 : 9223372036854775808 ≤ m <;> simp [h1, h2] at b3 ⊢ <;> omega
  have c4 : 9223372036854775808 ≤ X ↔ ¬ (9223372036854775808 ≤ n ↔ 9223372036854775808 ≤ m) := by
    clear a1 a2 e1 e2 s e3 hx hy b3 c3
    simp at b4
    by_cases h1 : 9223372036854775808 ≤ n <;> by_cases h2 : 9223372036854775808 ≤ m <;> simp [h1, h2] at b4 ⊢ <;> omega
  clear b3 b4
  have sg : ∀ k : Nat, k < 2 ^ 64 → ∃ z : Int, (((k : Int) + 9223372036854775808) % 18446744073709551616 - 9223372036854775808) = z ∧ (9223372036854775808 ≤ k → z = k - 18446744073709551616) ∧ (¬ 9223372036854775808 ≤ k → z = k) ∧ -9223372036854775808 ≤ z ∧ z ≤ 9223372036854775807 := by
    intro k hk
    refine ⟨_, rfl, fun h => ?_, fun h => ?_, ?_, ?_⟩ <;> omega
  obtain ⟨zA, hA, A1, A2, A3, A4⟩ := sg A l3
  obtain ⟨zX, hX, X1, X2, X3, X4⟩ := sg X l4
  have ex : (9223372036854775808 ≤ n → x = n - 18446744073709551616) ∧ (¬ 9223372036854775808 ≤ n → x = n) := by
    clear a1 a2 e2 s e3 hy c3 c4 sg hA hX A1 A2 X1 X2
    constructor <;> intro <;> omega
  have ey : (9223372036854775808 ≤ m → y = m - 18446744073709551616) ∧ (¬ 9223372036854775808 ≤ m → y = m) := by
    clear a1 a2 e1 s e3 hx c3 c4 sg hA hX A1 A2 X1 X2 ex
    constructor <;> intro <;> omega
  rw [hA] at a1
  rw [hX] at a2
  refine ⟨zA, zX, a1, a2, ?_, ⟨A3, A4⟩, ⟨X3, X4⟩, ?_⟩
  · clear a1 a2 e1 e2 sg hA hX e3 l3 l4 A3 A4 X3 X4 hx hy
    by_cases h1 : 9223372036854775808 ≤ n <;> by_cases h2 : 9223372036854775808 ≤ m
    · have := A1 (c3.2 ⟨h1, h2⟩); have := X2 (fun h => c4.1 h ⟨fun _ => h2, fun _ => h1⟩); have := ex.1 h1; have := ey.1 h2; omega
    · have := A2 (fun h => h2 (c3.1 h).2); have := X1 (c4.2 (fun h => h2 (h.1 h1))); have := ex.1 h1; have := ey.2 h2; omega
    · have := A2 (fun h => h1 (c3.1 h).1); have := X1 (c4.2 (fun h => h1 (h.2 h2))); have := ex.2 h1; have := ey.1 h2; omega
    · have := A2 (fun h => h1 (c3.1 h).1); have := X2 (fun h => c4.1 h ⟨fun h => absurd h h1, fun h => absurd h h2⟩); have := ex.2 h1; have := ey.2 h2; omega
  · have pA : zA % 2 = (A : Int) % 2 := by
      clear a1 a2 e1 e2 sg hA hX e3 l3 l4 A3 A4 X3 X4 hx hy c3 c4 ex ey s X1 X2
      by_cases h : 9223372036854775808 ≤ A
      · have := A1 h; omega
      · have := A2 h; omega
    have px : x % 2 = (n : Int) % 2 := by
      clear a1 a2 e1 e2 sg hA hX e3 l3 l4 A3 A4 X3 X4 hx hy c3 c4 ey s X1 X2 A1 A2 pA
      by_cases h : 9223372036854775808 ≤ n
      · have := ex.1 h; omega
      · have := ex.2 h; omega
    have py : y % 2 = (m : Int) % 2 := by
      clear a1 a2 e1 e2 sg hA hX e3 l3 l4 A3 A4 X3 X4 hx hy c3 c4 ex s X1 X2 A1 A2 pA px
      by_cases h : 9223372036854775808 ≤ m
      · have := ey.1 h; omega
      · have := ey.2 h; omega
    rw [pA, px, py]
    clear a1 a2 e1 e2 sg hA hX l3 l4 A3 A4 X3 X4 hx hy c3 c4 ex ey s X1 X2 A1 A2 pA px py
    omega
theorem and_one1 (c : Int) : bits .and .i64 c 1 = c % 2 := by
  show IntKind.i64.wrap ((BitVec.ofInt 64 c &&& BitVec.ofInt 64 (1 : Int)).toNat : Int) = _
  have e0 : (BitVec.ofInt 64 (1 : Int)).toNat = 1 := by decide
  have e1 : (BitVec.ofInt 64 c).toNat = (c % 18446744073709551616).toNat := by rw [BitVec.toNat_ofInt]; rfl
  have e2 : ∀ n : Nat, n &&& 1 = n % 2 := fun n => Nat.and_two_pow_sub_one_eq_mod n 1
  rw [BitVec.toNat_and, e0, e1, e2, IntKind.wrap_i64]
  omega
theorem half_bits {x y : Int} (hx : In64 x) (hy : In64 y) : wrap64 (bits .and .i64 x y + bits .xor .i64 x y / 2) = (x + y) / 2 := by
  obtain ⟨A, X, h1, h2, h3, h4, h5, _⟩ := bits_facts x y hx hy
  rw [h1, h2]
  have e : A + X / 2 = (x + y) / 2 := by rw [h3]; omega
  rw [e]
  unfold In64 at *
  exact IntWalk.wrap64_in _ ⟨by omega, by omega⟩
theorem half_ref {x y : Int} (hx : In64 x) (hy : In64 y) : wrap64 (wrap64 (x / 2 + y / 2) + bits .and .i64 (bits .and .i64 x y) 1) = (x + y) / 2 := by
  obtain ⟨A, X, h1, h2, h3, h4, h5, h6⟩ := bits_facts x y hx hy
  rw [h1, and_one1]
  unfold In64 at *
  rw [show wrap64 (x / 2 + y / 2) = x / 2 + y / 2 from IntWalk.wrap64_in _ ⟨by omega, by omega⟩]
  have e : x / 2 + y / 2 + A % 2 = (x + y) / 2 := by omega
  rw [e]
  exact IntWalk.wrap64_in _ ⟨by omega, by omega⟩
end Go.Proofs.Ytopepgifhnfbiaa

namespace Go.Proofs.Ytopepgifhnfbiaa
open Go Go.RowKit
open M

def hf (x y : Int) : Int := wrap64 (bits .and .i64 x y + bits .xor .i64 x y / 2)
def hr (x y : Int) : Int := wrap64 (wrap64 (x / 2 + y / 2) + bits .and .i64 (bits .and .i64 x y) 1)
def hfP (p q : Pt) : Pt := ⟨hf p.x q.x, hf p.y q.y⟩
def hrP (p q : Pt) : Pt := ⟨hr p.x q.x, hr p.y q.y⟩
theorem hfP_eq {p q : Pt} (hp : Rg p) (hq : Rg q) : hfP p q = hvP p q := by
  unfold hfP hvP hf
  rw [half_bits hp.1 hq.1, half_bits hp.2 hq.2]
theorem hrP_eq {p q : Pt} (hp : Rg p) (hq : Rg q) : hrP p q = hvP p q := by
  unfold hrP hvP hr
  rw [half_ref hp.1 hq.1, half_ref hp.2 hq.2]
theorem r8_half (x y : Int) (w : World) : Calls Try.prog 68 #[.int .i64 x, .int .i64 y] w fun e w' => e = .returned (.int .i64 (hr x y)) ∧ w = w' := by
  go_enter Try.func68, Try.ntmps68
  go_wp2
  go_ret
  exact ⟨rfl, rfl⟩

set_option maxHeartbeats 1000000 in
theorem r8_Half (p q : Pt) (w : World) :
    Calls Try.prog 61 #[.agg (pCells p), .agg (pCells q)] w fun r w' => r = .returned (.agg (pCells (hrP p q))) ∧ Below w.heap.size w w' := by
  obtain ⟨x, y⟩ := p
  obtain ⟨x2, y2⟩ := q
  go_enter Try.func61, Try.ntmps61
  go_wp2
  refine wp_region_draws_tail 11 (by kernel_rfl) (by kernel_rfl) (by kernel_rfl) (by kernel_rfl) ?_
  simp only [List.take_succ_cons, List.take_zero, List.drop_succ_cons, List.drop_zero]
  repeat (go_big_quiet_step (first | (go_at_call 68; exact quiet1 (r8_half _ _ _))))
  refine wpQuiet_nil ?_
  rintro _ ⟨nq, rfl⟩
  obtain ⟨w1, hw1⟩ : ∃ w1, w.drewN nq = w1 := ⟨_, rfl⟩
  have hs : w.heap.size = w1.heap.size := by rw [← hw1]; rfl
  have hb : Below w.heap.size w w1 := by rw [← hw1]; exact below_drewN (Below.refl _ _) _
  change wpList _ _ _ _ _ ((((w.drewN nq).alloc _).alloc _).alloc _)
  rw [hw1]
  have HB := Lib.hid hb
  clear hb hw1
  go_wp2
  refine bodyPost_ret (v := .agg #[.int .i64 (hr x x2), .int .i64 (hr y y2)]) (by simp [results, Try.results61, go_sem, hs]) rfl ⟨rfl, ?_⟩
  repeat (first | exact HB.out | refine Below.alloc ?_ (by first | (simp [hs]; done) | (simp [hs]; omega)) _)

end Go.Proofs.Ytopepgifhnfbiaa

namespace Go.Proofs.Ytopepgifhnfbiaa
open Go Go.RowKit
open M

abbrev zp : Obj := .cells #[.int .i64 0, .int .i64 0] 28
/-- The list v of the call's own, of the places ps, has grown by rs. -/
def Hlv (w : World) (B : Nat) (v : Value) (ps rs : List Pt) (e : Ending) (w' : World) : Prop :=
  ∃ g cap N, e = .returned (.slice (some ⟨g, 0, none⟩) N cap) ∧ (ps ++ rs).length = N ∧ Pown w' B (.slice (some ⟨g, 0, none⟩) N cap) (ps ++ rs) ∧ w.grownBy w' v.ownBlock ∧ (v.ownBlock = some g ∨ w.heap.size ≤ g)
theorem grow_chain {w X w4 w5 : World} {r : Option Nat} {ga : Nat} (h1 : w.grownBy X none) (h2 : X.grownBy w4 r) (h3 : w4.grownBy w5 (some ga)) (hat : r = some ga ∨ X.heap.size ≤ ga) : w.grownBy w5 r :=
  ⟨h3.os.trans (h2.os.trans h1.os), h3.tape.trans (h2.tape.trans h1.tape), h3.output.trans (h2.output.trans h1.output), Nat.le_trans h1.size (Nat.le_trans h2.size h3.size), fun k hk hr => by
    have := h1.size
    have := h2.size
    refine (h3.block k (by omega) (fun e => ?_)).trans ((h2.block k (by omega) hr).trans (h1.block k hk (by simp)))
    rcases hat with h | h
    · exact hr (by rw [h]; exact e)
    · simp at e; omega⟩

theorem hset2 {W : World} {k : Nat} {t : TypeId} {a' b' : Value} (h : Has W k #[a', b'] t) (a b : Value) : Has ((W.setCell ⟨k, 0, none⟩ a).setCell ⟨k, 1, none⟩ b) k #[a, b] t := by
  have := has_set (has_set h 0 a) 1 b
  simpa using this
theorem hoff2 {W : World} {k k' : Nat} {t : TypeId} {cs : Array Value} (h : Has W k cs t) (hne : k' ≠ k) (a b : Value) : Has ((W.setCell ⟨k', 0, none⟩ a).setCell ⟨k', 1, none⟩ b) k cs t :=
  (heap_setCell_other _ ⟨k', _, none⟩ k _ (fun e => hne (by simpa using e.symm))).trans ((heap_setCell_other _ ⟨k', _, none⟩ k _ (fun e => hne (by simpa using e.symm))).trans h)
theorem below_set2 {W : World} {k B : Nat} (hk : B ≤ k) (a b : Value) : Below B W ((W.setCell ⟨k, 0, none⟩ a).setCell ⟨k, 1, none⟩ b) := ((Below.refl _ _).setCell hk _).setCell hk _
theorem put3 {w1 : World} {g0 g1 g2 B : Nat} {t : TypeId} {a0 b0 a1 b1 a2 b2 : Value} (k0 : Has w1 g0 #[a0, b0] t) (k1 : Has w1 g1 #[a1, b1] t) (k2 : Has w1 g2 #[a2, b2] t) (l0 : B ≤ g0) (l1 : B ≤ g1) (l2 : B ≤ g2) (n01 : g0 ≠ g1) (n02 : g0 ≠ g2) (n12 : g1 ≠ g2) (p q r : Pt) :
    ∃ V, (((((w1.setCell ⟨g0, 0, none⟩ (.int .i64 p.x)).setCell ⟨g0, 1, none⟩ (.int .i64 p.y)).setCell ⟨g1, 0, none⟩ (.int .i64 q.x)).setCell ⟨g1, 1, none⟩ (.int .i64 q.y)).setCell ⟨g2, 0, none⟩ (.int .i64 r.x)).setCell ⟨g2, 1, none⟩ (.int .i64 r.y) = V ∧ Has V g0 (pCells p) t ∧ Has V g1 (pCells q) t ∧ Has V g2 (pCells r) t ∧ Below B w1 V :=
  ⟨_, rfl, hoff2 (hoff2 (hset2 k0 _ _) (Ne.symm n01) _ _) (Ne.symm n02) _ _, hoff2 (hset2 (hoff2 k1 n01 _ _) _ _) (Ne.symm n12) _ _, hset2 (hoff2 (hoff2 k2 n02 _ _) n12 _ _) _ _, ((below_set2 l0 _ _).trans (below_set2 l1 _ _)).trans (below_set2 l2 _ _)⟩
theorem put2 {w1 : World} {g0 g1 B : Nat} {t : TypeId} {a0 b0 a1 b1 : Value} (k0 : Has w1 g0 #[a0, b0] t) (k1 : Has w1 g1 #[a1, b1] t) (l0 : B ≤ g0) (l1 : B ≤ g1) (n01 : g0 ≠ g1) (p q : Pt) :
    ∃ V, (((w1.setCell ⟨g0, 0, none⟩ (.int .i64 p.x)).setCell ⟨g0, 1, none⟩ (.int .i64 p.y)).setCell ⟨g1, 0, none⟩ (.int .i64 q.x)).setCell ⟨g1, 1, none⟩ (.int .i64 q.y) = V ∧ Has V g0 (pCells p) t ∧ Has V g1 (pCells q) t ∧ Below B w1 V :=
  ⟨_, rfl, hoff2 (hset2 k0 _ _) (Ne.symm n01) _ _, hset2 (hoff2 k1 n01 _ _) _ _, (below_set2 l0 _ _).trans (below_set2 l1 _ _)⟩

end Go.Proofs.Ytopepgifhnfbiaa

namespace Go.Proofs.Ytopepgifhnfbiaa
open Go Go.RowKit
open M

theorem make_room (w : World) : (Instr.makeSlice 29 (.int .i64 0) (.int .i64 8)).run Try.prog w = .ok (.slice (some ⟨w.heap.size, 0, none⟩) 0 8) (w.alloc (.cells (zer 8) 28)) := by
  obtain ⟨i0, hi, hz0, hz1, hz2⟩ := info_parts Try.infoPt
  have h := run_make (P := Try.prog) w 29 28 i0 _ Try.underlying29 hi hz0 .i64 .i64 0 8 (by omega) (by omega) (by rw [hz2]; decide) (by omega)
  rw [hz1] at h
  exact h
theorem own_room {w : World} {B : Nat} (hb : B ≤ w.heap.size) : Pown (w.alloc (.cells (zer 8) 28)) B (.slice (some ⟨w.heap.size, 0, none⟩) 0 8) [] :=
  ⟨rfl, Or.inr ⟨w.heap.size, 8, zer 8, rfl, hb, (MapKept.heap_alloc w _).1, by decide, by unfold maxLen; decide, by simp [zer, size_madeCells], rfl⟩⟩
theorem Ht.four {W w' : World} {ga gb gc gd : Nat} {a b c d : Pt} {t : TypeId} (h : Ht W w') (H0 : Has W ga (pCells a) t) (H1 : Has W gb (pCells b) t) (H2 : Has W gc (pCells c) t) (H3 : Has W gd (pCells d) t) :
    Ht W w' ∧ w'.cell? ⟨ga, 0, none⟩ = some (.int .i64 a.x) ∧ w'.cell? ⟨ga, 1, none⟩ = some (.int .i64 a.y) ∧ w'.cell? ⟨gb, 0, none⟩ = some (.int .i64 b.x) ∧ w'.cell? ⟨gb, 1, none⟩ = some (.int .i64 b.y) ∧ w'.cell? ⟨gc, 0, none⟩ = some (.int .i64 c.x) ∧ w'.cell? ⟨gc, 1, none⟩ = some (.int .i64 c.y) ∧ w'.cell? ⟨gd, 0, none⟩ = some (.int .i64 d.x) ∧ w'.cell? ⟨gd, 1, none⟩ = some (.int .i64 d.y) := by
  have K0 := H0.below h.below H0.lt
  have K1 := H1.below h.below H1.lt
  have K2 := H2.below h.below H2.lt
  have K3 := H3.below h.below H3.lt
  exact ⟨h, K0.cell 0 _ rfl, K0.cell 1 _ rfl, K1.cell 0 _ rfl, K1.cell 1 _ rfl, K2.cell 0 _ rfl, K2.cell 1 _ rfl, K3.cell 0 _ rfl, K3.cell 1 _ rfl⟩

theorem Ht.row {W X w4 : World} {n cap : Nat} (hbw : Below W.heap.size W X) (hg : X.grownBy w4 (Value.ownBlock (.slice (some ⟨W.heap.size, 0, none⟩) n cap))) : Ht W w4 :=
  ⟨hbw.grown hg hbw.size (fun k hk => by have hk' : some W.heap.size = some k := hk; simp at hk'; omega)⟩
/-- A list of places of the call's own. -/
def Lst (w : World) (rs : List Pt) (e : Ending) (w' : World) : Prop := ∃ g cap, e = .returned (.slice (some ⟨g, 0, none⟩) rs.length cap) ∧ Pown w' w.heap.size (.slice (some ⟨g, 0, none⟩) rs.length cap) rs ∧ Below w.heap.size w w'

end Go.Proofs.Ytopepgifhnfbiaa

namespace Go.Proofs.Ytopepgifhnfbiaa
open Go.RowKit
open M

theorem r8_near (x y : Int) (w : World) : Calls Try.prog 46 #[.agg #[.int .i64 x, .int .i64 y]] w fun e w' => e = .returned (.bool (nearP ⟨x, y⟩)) ∧ Below w.heap.size w w' := by
  by_cases h0 : -67108864 ≤ x
  · by_cases h1 : x ≤ 67108864
    · by_cases h2 : -67108864 ≤ y
      · by_cases h3 : y ≤ 67108864
        · rw [show nearP ⟨x, y⟩ = true by simp [nearP, nearN, h0, h1, h2, h3]]
          go_enter Try.func46, Try.ntmps46
          go_wp2
          go_ret
          exact ⟨rfl, (Below.refl _ _).alloc (Nat.le_refl _) _⟩
        · rw [show nearP ⟨x, y⟩ = false by simp [nearP, nearN, h3]]
          go_enter Try.func46, Try.ntmps46
          go_wp2
          go_ret
          exact ⟨rfl, (Below.refl _ _).alloc (Nat.le_refl _) _⟩
      · rw [show nearP ⟨x, y⟩ = false by simp [nearP, nearN, h2]]
        go_enter Try.func46, Try.ntmps46
        go_wp2
        go_ret
        exact ⟨rfl, (Below.refl _ _).alloc (Nat.le_refl _) _⟩
    · rw [show nearP ⟨x, y⟩ = false by simp [nearP, nearN, h1]]
      go_enter Try.func46, Try.ntmps46
      go_wp2
      go_ret
      exact ⟨rfl, (Below.refl _ _).alloc (Nat.le_refl _) _⟩
  · rw [show nearP ⟨x, y⟩ = false by simp [nearP, nearN, h0]]
    go_enter Try.func46, Try.ntmps46
    go_wp2
    go_ret
    exact ⟨rfl, (Below.refl _ _).alloc (Nat.le_refl _) _⟩

theorem okLen_cases (N : Nat) : (¬ 4 ≤ N ∧ okLen N = false) ∨ (4 ≤ N ∧ ¬ N ≤ 97 ∧ okLen N = false) ∨ (4 ≤ N ∧ N ≤ 97 ∧ ¬ N % 3 = 1 ∧ okLen N = false) ∨ (4 ≤ N ∧ N ≤ 97 ∧ N % 3 = 1 ∧ okLen N = true) := by
  by_cases h0 : 4 ≤ N
  · by_cases h1 : N ≤ 97
    · by_cases h2 : N % 3 = 1
      · exact Or.inr (Or.inr (Or.inr ⟨h0, h1, h2, by simp [okLen, h0, h1, h2]⟩))
      · exact Or.inr (Or.inr (Or.inl ⟨h0, h1, h2, by simp [okLen, h2]⟩))
    · exact Or.inr (Or.inl ⟨h0, h1, by simp [okLen, h1]⟩)
  · exact Or.inl ⟨h0, by simp [okLen, h0]⟩
set_option maxHeartbeats 1000000 in
theorem r8_right {v : Value} {ps : List Pt} {w : World} (c : Bool) (h : Psl w v ps) :
    Calls Try.prog 31 #[.agg #[.bool c, v]] w fun e w' => e = .returned (.bool (okP c ps)) ∧ Below w.heap.size w w' := by
  obtain ⟨B, hB⟩ : ∃ B, w.heap.size = B := ⟨_, rfl⟩
  obtain ⟨W, hW⟩ : ∃ W, w.alloc (.cells #[.bool c, v] 45) = W := ⟨_, rfl⟩
  have h0 : Has W B #[.bool c, v] 45 := by rw [← hW]; exact has_new hB
  have hb : Below B w W := by rw [← hW]; exact (Below.refl _ _).alloc (by omega) _
  have hs := h.below hb (by omega)
  obtain ⟨ao, cap, rfl, hf, _⟩ := h
  obtain ⟨N, hN⟩ : ∃ N, ps.length = N := ⟨_, rfl⟩
  rw [hN] at hf hs h0 hW ⊢
  have HN := Lib.hid hN
  have HB := Lib.hid hB
  have HW := Lib.hid hW
  have H0 := Lib.hid h0
  have HBW := Lib.hid hb
  have HS := Lib.hid hs
  have sW : B < W.heap.size := h0.lt
  clear hN hW h0 hb hs
  by_cases e : N = 0
  · subst e
    go_enter Try.func31, Try.ntmps31
    go_wp2
    go_ret
    exact ⟨by rw [okP_zero HN.out]; rfl, by rw [HW.out, HB.out]; exact HBW.out⟩
  · have o0 : ¬ (N : Int) = 0 := by omega
    have a1 := H0.out.cell 1 _ rfl
    have hw0 := eqz e
    have EP : Hid (okP c ps = (okLen N && nearL ps N)) := Lib.hid (by rw [okP_pos (by rw [HN.out]; exact e), HN.out])
    go_enter Try.func31, Try.ntmps31
    go_wp2
    rw [HW.out]
    clear hB a1
    go_loopw [4] (fun i wr => ∃ n : Nat, n ≤ N ∧ i = .int .i64 n ∧ nearL ps n = true ∧ Below W.heap.size W wr) (fun i _ => N - (intOf i).toNat)
    case atStart => exact ⟨0, by omega, rfl, rfl, Below.refl _ _⟩
    case round =>
      obtain ⟨n, hn, rfl, hst, hbd⟩ := hrel
      have HST := Lib.hid hst
      have HBD := Lib.hid hbd
      have BF : Hid (Below B w wr) := Lib.hid (HBW.out.trans (hbd.mono (by omega)))
      have sr : W.heap.size ≤ wr.heap.size := hbd.size
      clear hst
      by_cases hlt : n < N
      · have k0 := H0.out.below hbd H0.out.lt
        obtain ⟨g, o, rfl, r, l⟩ := (HS.out.below hbd (Nat.le_refl _)).row (by omega)
        have a1 := k0.cell 1 _ rfl
        have c0 := r.c0 n (by omega)
        have c1 := r.c1 n (by omega)
        obtain ⟨p, hp⟩ : ∃ p, pt ps n = p := ⟨_, rfl⟩
        rw [hp] at c0 c1
        have HP := Lib.hid hp
        have o1 : (n : Int) < N := by omega
        clear k0 r l hp hbd HS H0 HW
        obtain ⟨x, y⟩ := p
        simp only at c0 c1
        by_cases hx : nearP ⟨x, y⟩ = true
        · go_wp2_with fail
          refine (r8_near x y _).mono ?_
          rw [hx]
          rintro e w2 ⟨rfl, hq⟩
          have R := Lib.hid (HBD.out.trans (hq.mono sr))
          clear hq
          go_wp2
          go_roundw
          case rel => exact ⟨n + 1, by omega, by go_num, by unfold nearL; rw [HST.out, HP.out, hx]; rfl, R.out⟩
          case measure => simp [intOf]; omega
        · have hx' : nearP ⟨x, y⟩ = false := by simpa using hx
          have EH := Lib.hid (nearL_off hlt (by rw [HP.out]; exact hx'))
          clear hx
          go_wp2_with fail
          refine (r8_near x y _).mono ?_
          rw [hx']
          rintro e w2 ⟨rfl, hq⟩
          have R := Lib.hid (BF.out.trans (hq.mono (by omega)))
          clear hq
          go_wp2
          go_ret
          exact ⟨by rw [EP.out, EH.out]; simp, by rw [HB.out]; exact R.out⟩
      · obtain rfl : n = N := by omega
        have o1 : (n : Int) ≤ n := by omega
        clear hbd HS H0 HW
        rcases okLen_cases n with ⟨p0, p3⟩ | ⟨p0, p1, p3⟩ | ⟨p0, p1, p2, p3⟩ | ⟨p0, p1, p2, p3⟩
        · have o2 : (n : Int) < 4 := by omega
          have EL := Lib.hid p3
          clear p3
          go_wp2
          go_ret
          exact ⟨by rw [EP.out, HST.out, EL.out]; rfl, by rw [HB.out]; exact BF.out⟩
        · have o2 : (4 : Int) ≤ n := by omega
          have o3 : (97 : Int) < n := by omega
          have EL := Lib.hid p3
          clear p3
          go_wp2
          go_ret
          exact ⟨by rw [EP.out, HST.out, EL.out]; rfl, by rw [HB.out]; exact BF.out⟩
        · have o2 : (4 : Int) ≤ n := by omega
          have o3 : (n : Int) ≤ 97 := by omega
          have o4 : ((n : Int) % 3 == 1) = false := by simp; omega
          have EL := Lib.hid p3
          clear p3
          go_wp2
          go_ret
          exact ⟨by rw [EP.out, HST.out, EL.out]; first | rfl | exact ret_b (by simp; omega), by rw [HB.out]; exact BF.out⟩
        · have o2 : (4 : Int) ≤ n := by omega
          have o3 : (n : Int) ≤ 97 := by omega
          have o4 : (n : Int) % 3 = 1 := by omega
          have EL := Lib.hid p3
          clear p3
          go_wp2
          go_ret
          exact ⟨by rw [EP.out, HST.out, EL.out]; rfl, by rw [HB.out]; exact BF.out⟩

end Go.Proofs.Ytopepgifhnfbiaa

namespace Go.Proofs.Ytopepgifhnfbiaa
open Go.RowKit
open M

abbrev mCells (a b c d e f : Int) : Array Value := #[.int .i64 a, .int .i64 b, .int .i64 c, .int .i64 d, .int .i64 e, .int .i64 f]
theorem mapL_range (a b c d e f : Int) (ps : List Pt) : (List.range ps.length).map (fun i => applyP a b c d e f (pt ps i)) = mapL a b c d e f ps := by
  apply pts_ext (by simp [mapL])
  intro i hi
  have hi' : i < ps.length := by simpa using hi
  rw [pt_mapIdx _ hi']
  unfold mapL
  rw [pt_map _ hi']

end Go.Proofs.Ytopepgifhnfbiaa

namespace Go.Proofs.Ytopepgifhnfbiaa
namespace M

def turn (a : Int) : Int := a % 23592960
def hpP (x : Int) : Int := x * (11796480 - x) / 65536
def hpV (p : Int) : Int := 4 * p * 65536 / (2654208000 - p)
def hump (x : Int) : Int := hpV (hpP x)
def sin (a : Int) : Int := if turn a < 11796480 then hump (turn a) else -(hump (turn a - 11796480))
def cos (a : Int) : Int := sin (turn a + 5898240)

theorem turn_lo (a : Int) : 0 ≤ turn a := by unfold turn; omega
theorem turn_hi (a : Int) : turn a ≤ 23592959 := by unfold turn; omega
theorem turn_in {a : Int} (h0 : 0 ≤ a) (h1 : a ≤ 23592959) : turn a = a := by unfold turn; omega
theorem turn_tmod (a : Int) : (a.tmod 23592960 < 0 ∧ turn a = a.tmod 23592960 + 23592960) ∨ (¬ a.tmod 23592960 < 0 ∧ turn a = a.tmod 23592960) := by
  have e := Int.mul_tdiv_add_tmod a 23592960
  have l := tmod_lt a 23592960 (by decide)
  unfold turn
  generalize a.tmod 23592960 = r at *
  generalize a.tdiv 23592960 = t at *
  omega
theorem tmod_bd (a : Int) : -23592959 ≤ a.tmod 23592960 ∧ a.tmod 23592960 ≤ 23592959 := by
  have := tmod_lt a 23592960 (by decide); omega
theorem turn_twice (a : Int) : (a.tmod 23592960 + 23592960) % 23592960 = turn a := by
  have b := tmod_bd a
  rcases turn_tmod a with ⟨h, e⟩ | ⟨h, e⟩ <;> rw [e] <;> generalize a.tmod 23592960 = r at * <;> omega

theorem sq_gap (x : Int) : x * (11796480 - x) = 34789235097600 - (5898240 - x) * (5898240 - x) := by
  have e1 : x * (11796480 - x) = 11796480 * x - x * x := by rw [Int.mul_sub]; omega
  have e2 : (5898240 - x) * (5898240 - x) = 34789235097600 - 11796480 * x + x * x := by
    rw [Int.mul_sub, Int.sub_mul, Int.sub_mul]; omega
  omega
theorem prod_lo {x : Int} (h0 : 0 ≤ x) (h1 : x ≤ 11796480) : 0 ≤ x * (11796480 - x) := Int.mul_nonneg h0 (by omega)
theorem sq_pos (x : Int) : 0 ≤ x * x := by
  have := Int.natAbs_mul_self (a := x); omega
theorem prod_hi (x : Int) : x * (11796480 - x) ≤ 34789235097600 := by
  rw [sq_gap]; have := sq_pos (5898240 - x); omega
theorem hpP_lo {x : Int} (h0 : 0 ≤ x) (h1 : x ≤ 11796480) : 0 ≤ hpP x := by
  have := prod_lo h0 h1; unfold hpP; generalize x * (11796480 - x) = p at *; omega
theorem hpP_hi (x : Int) : hpP x ≤ 530841600 := by
  have := prod_hi x; unfold hpP; generalize x * (11796480 - x) = p at *; omega
theorem hpP_mirror (x : Int) : hpP (11796480 - x) = hpP x := by
  unfold hpP; rw [show (11796480 : Int) - (11796480 - x) = x by omega, Int.mul_comm]
theorem hpP_mono {x y : Int} (h : x ≤ y) (h1 : y ≤ 5898240) : hpP x ≤ hpP y := by
  have e : (5898240 - y) * (5898240 - y) ≤ (5898240 - x) * (5898240 - x) :=
    Int.mul_le_mul (by omega) (by omega) (by omega) (by omega)
  unfold hpP
  rw [sq_gap x, sq_gap y]
  generalize (5898240 - y) * (5898240 - y) = p at *
  generalize (5898240 - x) * (5898240 - x) = q at *
  omega
theorem div_mono {a b c d : Int} (ha : 0 ≤ a) (h : a ≤ b) (hd : 0 < d) (hc : d ≤ c) : a / c ≤ b / d := by
  apply Int.le_ediv_of_mul_le hd
  have q0 : 0 ≤ a / c := Int.ediv_nonneg ha (by omega)
  have l1 : a / c * d ≤ a / c * c := Int.mul_le_mul_of_nonneg_left hc q0
  have l2 : a / c * c ≤ a := Int.ediv_mul_le a (by omega)
  omega
theorem hpV_mono {p q : Int} (h0 : 0 ≤ p) (h : p ≤ q) (h1 : q ≤ 530841600) : hpV p ≤ hpV q := by
  unfold hpV; exact div_mono (by omega) (by omega) (by omega) (by omega)
theorem hump_mirror (x : Int) : hump (11796480 - x) = hump x := by unfold hump; rw [hpP_mirror]
theorem hump_mono {x y : Int} (h0 : 0 ≤ x) (h : x ≤ y) (h1 : y ≤ 5898240) : hump x ≤ hump y :=
  hpV_mono (hpP_lo h0 (by omega)) (hpP_mono h h1) (hpP_hi y)
theorem hump_lo {x : Int} (h0 : 0 ≤ x) (h1 : x ≤ 11796480) : 0 ≤ hump x := by
  have a := hpP_lo h0 h1
  have b := hpP_hi x
  unfold hump hpV; exact Int.ediv_nonneg (by omega) (by omega)
theorem hump_hi {x : Int} (h0 : 0 ≤ x) (h1 : x ≤ 11796480) : hump x ≤ 65536 := by
  have a := hpP_lo h0 h1
  have b := hpP_hi x
  have c := hpV_mono a b (by decide)
  have d : hpV 530841600 = 65536 := by decide
  unfold hump; omega
theorem hump_zero : hump 0 = 0 := by decide

theorem sin_up {a : Int} (h : turn a < 11796480) : sin a = hump (turn a) := if_pos h
theorem sin_down {a : Int} (h : ¬ turn a < 11796480) : sin a = -(hump (turn a - 11796480)) := if_neg h
theorem sin_bd (a : Int) : -65536 ≤ sin a ∧ sin a ≤ 65536 := by
  have l := turn_lo a; have g := turn_hi a
  by_cases h : turn a < 11796480
  · rw [sin_up h]; have := hump_lo (x := turn a) l (by omega); have := hump_hi (x := turn a) l (by omega); omega
  · rw [sin_down h]; have := hump_lo (x := turn a - 11796480) (by omega) (by omega); have := hump_hi (x := turn a - 11796480) (by omega) (by omega); omega
theorem cos_bd (a : Int) : -65536 ≤ cos a ∧ cos a ≤ 65536 := sin_bd _
theorem sin_round (x : Int) : sin (x + 23592960) = sin x := by
  have e : turn (x + 23592960) = turn x := by unfold turn; omega
  unfold sin; rw [e]
theorem cos_round (x : Int) : cos (x + 23592960) = cos x := by
  have e : turn (x + 23592960) = turn x := by unfold turn; omega
  unfold cos; rw [e]
theorem sin_half (x : Int) : sin (x + 11796480) = -(sin x) := by
  have l := turn_lo x; have g := turn_hi x
  by_cases h : turn x < 11796480
  · have e : turn (x + 11796480) = turn x + 11796480 := by unfold turn at *; omega
    rw [sin_up h, sin_down (by omega), e, show turn x + 11796480 - 11796480 = turn x by omega]
  · have e : turn (x + 11796480) = turn x - 11796480 := by unfold turn at *; omega
    rw [sin_down h, sin_up (by omega), e]; omega
theorem sin_in {x : Int} (h0 : 0 ≤ x) (h1 : x < 11796480) : sin x = hump x := by
  have e := turn_in h0 (by omega)
  rw [sin_up (by omega), e]
theorem sin_at_half : sin 11796480 = 0 := by decide
theorem sin_in' {x : Int} (h0 : 0 ≤ x) (h1 : x ≤ 11796480) : sin x = hump x := by
  rcases (by omega : x < 11796480 ∨ x = 11796480) with h | rfl
  · exact sin_in h0 h
  · decide
theorem hump_fall {x y : Int} (h0 : 5898240 ≤ x) (h : x ≤ y) (h1 : y ≤ 11796480) : hump y ≤ hump x := by
  rw [← hump_mirror x, ← hump_mirror y]; exact hump_mono (by omega) (by omega) (by omega)

/-- On each of 1,024 pieces of a quarter the squares' sum keeps its bounds, by the ends of the piece. -/
def near (k : Nat) : Bool :=
  decide (64881 * 65536 ≤ hump (5760 * (k : Int)) * hump (5760 * (k : Int)) + hump (5898240 - 5760 * ((k : Int) + 1)) * hump (5898240 - 5760 * ((k : Int) + 1)) ∧
    hump (5760 * ((k : Int) + 1)) * hump (5760 * ((k : Int) + 1)) + hump (5898240 - 5760 * (k : Int)) * hump (5898240 - 5760 * (k : Int)) < 66191 * 65536)
theorem near_all : ∀ k, k < 1024 → near k = true := by
  have h : (List.range 1024).all near = true := by decide +kernel
  intro k hk
  exact List.all_eq_true.mp h k (List.mem_range.mpr hk)
theorem sq_mono {a b : Int} (h0 : 0 ≤ a) (h : a ≤ b) : a * a ≤ b * b := Int.mul_le_mul h h h0 (by omega)
theorem quarter_near {x : Int} (h0 : 0 ≤ x) (h1 : x < 5898240) :
    64881 * 65536 ≤ hump x * hump x + hump (5898240 - x) * hump (5898240 - x) ∧ hump x * hump x + hump (5898240 - x) * hump (5898240 - x) < 66191 * 65536 := by
  obtain ⟨k, hk⟩ : ∃ k : Nat, (k : Int) = x / 5760 := ⟨(x / 5760).toNat, by omega⟩
  have n := of_decide_eq_true (near_all k (by omega))
  have b1 : 5760 * (k : Int) ≤ x := by omega
  have b2 : x ≤ 5760 * ((k : Int) + 1) := by omega
  have b3 : 5760 * ((k : Int) + 1) ≤ 5898240 := by omega
  have b4 : 0 ≤ (k : Int) := by omega
  generalize (k : Int) = m at *
  have s1 := sq_mono (hump_lo (x := 5760 * m) (by omega) (by omega)) (hump_mono (x := 5760 * m) (y := x) (by omega) b1 (by omega))
  have s2 := sq_mono (hump_lo (x := x) (by omega) (by omega)) (hump_mono (x := x) (y := 5760 * (m + 1)) (by omega) b2 (by omega))
  have s3 := sq_mono (hump_lo (x := 5898240 - 5760 * (m + 1)) (by omega) (by omega)) (hump_mono (x := 5898240 - 5760 * (m + 1)) (y := 5898240 - x) (by omega) (by omega) (by omega))
  have s4 := sq_mono (hump_lo (x := 5898240 - x) (by omega) (by omega)) (hump_mono (x := 5898240 - x) (y := 5898240 - 5760 * m) (by omega) (by omega) (by omega))
  generalize hump x * hump x = p at *
  generalize hump (5898240 - x) * hump (5898240 - x) = q at *
  generalize hump (5760 * m) * hump (5760 * m) = p1 at *
  generalize hump (5760 * (m + 1)) * hump (5760 * (m + 1)) = p2 at *
  generalize hump (5898240 - 5760 * (m + 1)) * hump (5898240 - 5760 * (m + 1)) = q1 at *
  generalize hump (5898240 - 5760 * m) * hump (5898240 - 5760 * m) = q2 at *
  omega
theorem sq_neg (x : Int) : (-x) * (-x) = x * x := Int.neg_mul_neg x x
/-- The quarter's two numbers, for any angle: where it lies in its quarter, sine and cosine are the humps, but for signs and which is which. -/
theorem squares_near (a : Int) : 64881 * 65536 ≤ sin a * sin a + cos a * cos a ∧ sin a * sin a + cos a * cos a < 66191 * 65536 := by
  have l := turn_lo a; have g := turn_hi a
  unfold cos
  have es : sin a = sin (turn a) := by
    have e : turn (turn a) = turn a := turn_in l g
    unfold sin; rw [e]
  rw [es]
  generalize turn a = x at *
  rcases (by omega : x < 5898240 ∨ (5898240 ≤ x ∧ x < 11796480) ∨ (11796480 ≤ x ∧ x < 17694720) ∨ 17694720 ≤ x) with h | h | h | h
  · have c : sin (x + 5898240) = hump (5898240 - x) := by
      rw [sin_in (by omega) (by omega), ← hump_mirror]; congr 1; omega
    rw [sin_in l (by omega), c]
    exact quarter_near l h
  · have c : sin (x + 5898240) = -(hump (x - 5898240)) := by
      rw [show x + 5898240 = (x - 5898240) + 11796480 by omega, sin_half, sin_in (by omega) (by omega)]
    have s : sin x = hump (5898240 - (x - 5898240)) := by
      rw [sin_in l (by omega), ← hump_mirror]; congr 1; omega
    rw [c, s, sq_neg, Int.add_comm]
    exact quarter_near (by omega) (by omega)
  · have c : sin (x + 5898240) = -(hump (5898240 - (x - 11796480))) := by
      rw [show x + 5898240 = (x - 5898240) + 11796480 by omega, sin_half, sin_in (by omega) (by omega), ← hump_mirror]; congr 2; omega
    have s : sin x = -(hump (x - 11796480)) := by
      conv => lhs; rw [show x = (x - 11796480) + 11796480 by omega]
      rw [sin_half, sin_in (by omega) (by omega)]
    rw [c, s, sq_neg, sq_neg]
    exact quarter_near (by omega) (by omega)
  · have c : sin (x + 5898240) = hump (x - 17694720) := by
      rw [show x + 5898240 = (x - 17694720) + 23592960 by omega, sin_round, sin_in (by omega) (by omega)]
    have s : sin x = -(hump (5898240 - (x - 17694720))) := by
      conv => lhs; rw [show x = (x - 11796480) + 11796480 by omega]
      rw [sin_half, sin_in (by omega) (by omega), ← hump_mirror]; congr 2; omega
    rw [c, s, sq_neg, Int.add_comm]
    exact quarter_near (by omega) (by omega)

end M
end Go.Proofs.Ytopepgifhnfbiaa

namespace Go.Proofs.Ytopepgifhnfbiaa
open Go.RowKit
open M

theorem hump_q {x : Int} (h0 : 0 ≤ x) (h1 : x ≤ 11796480) : mul x (11796480 - x) = hpP x := by
  have a := hpP_lo h0 h1; have b := hpP_hi x
  unfold mul; rw [hold_in (a := x) (by omega) (by omega), hold_in (a := 11796480 - x) (by omega) (by omega)]
  unfold hpP at *
  exact hold_in (by omega) (by omega)
theorem hump_dv {p : Int} (h0 : 0 ≤ p) (h1 : p ≤ 530841600) : dv (4 * p) (2654208000 - p) = hpV p := by
  have m := hpV_mono h0 h1 (by decide)
  have d : hpV 530841600 = 65536 := by decide
  have l : 0 ≤ hpV p := by unfold hpV; exact Int.ediv_nonneg (by omega) (by omega)
  unfold dv
  rw [hold_in (a := 4 * p) (by omega) (by omega), hold_in (a := 2654208000 - p) (by omega) (by omega), if_neg (by omega)]
  unfold flo
  rw [if_pos (by omega)]
  exact hold_in (by unfold hpV at l; omega) (by unfold hpV at m d; omega)


end Go.Proofs.Ytopepgifhnfbiaa

namespace Go.Proofs.Ytopepgifhnfbiaa
open Go.RowKit
open M

theorem tdiv_p {x : Int} (h0 : 0 ≤ x) (h1 : x ≤ 11796480) : (x * (11796480 - x)).tdiv 65536 = hpP x := Int.tdiv_eq_ediv_of_nonneg (prod_lo h0 h1)
theorem tdiv_v {p : Int} (h0 : 0 ≤ p) : (4 * p * 65536).tdiv (2654208000 - p) = hpV p := Int.tdiv_eq_ediv_of_nonneg (by omega)

end Go.Proofs.Ytopepgifhnfbiaa

namespace Go.Proofs.Ytopepgifhnfbiaa
open Go.RowKit
open M

theorem add_none (p q : Int) : add (add p q) 0 = add p q := by
  have l := hold_lo (hold p + hold q); have g := hold_hi (hold p + hold q)
  show hold (hold (add p q) + hold 0) = add p q
  rw [show hold (add p q) = add p q from hold_hold _, show hold 0 = 0 by decide, Int.add_zero]
  exact hold_hold _
end Go.Proofs.Ytopepgifhnfbiaa

namespace Go.Proofs.Ytopepgifhnfbiaa
open Go.RowKit
open M

theorem below_drawn {P : Program} {f : FuncId} {args : Array Value} {w : World} {v : Value} (h : Calls P f args w (Drawn v w)) :
    Calls P f args w fun e w' => e = .returned v ∧ Below w.heap.size w w' := h.mono fun _ _ ⟨a, n, b⟩ => ⟨a, by rw [b]; exact below_drewN (Below.refl _ _) _⟩

theorem okE_and (x1 y1 x2 y2 : Int) : okE x1 y1 x2 y2 = ((okT x1 && okT x2) && (okV y1 && okV y2)) := by unfold okE; rw [Bool.and_assoc]
end Go.Proofs.Ytopepgifhnfbiaa

namespace Go.Proofs.Ytopepgifhnfbiaa
open Go.RowKit
open M

/-- A list of places that grows: in blocks from 'base' on. -/
theorem wp_append_one {W : World} {base : Nat} {l : Value} {rs : List Pt} {o : Oper} {a : Act} {K : Act → World → Prop} {Q : Exit → Act → World → Prop} (s x : Operand)
    (ho : o.op = .call { callee := .builtin .append, args := #[s, x], argTypes := #[29, 29] }) (N : Nat) (hN : rs.length = N) (hf : N < 8796093022208) (hs : a.eval s = l) (H : Nat) (hx : a.eval x = .slice (some ⟨H, 0, none⟩) 1 1)
    (p : Pt) (cs : Array Value) (hn : Has W H cs 28) (hcs : cs.toList = pl p) (hT : Pown W base l rs) (hb : base ≤ W.heap.size)
    (h : ∀ g' cap' w', Pown w' base (.slice (some ⟨g', 0, none⟩) (N + 1) cap') (rs ++ [p]) → W.grownBy w' l.ownBlock → K (a.put o.dst (.slice (some ⟨g', 0, none⟩) (N + 1) cap')) w') : o.wp Try.prog a W K Q := by
  obtain ⟨i0, hi, hz0, hz1, hz2⟩ := info_parts Try.infoPt
  subst hN
  refine wp_append_lies W s x 29 ho base 28 i0 _ 2 16 Try.underlying29 hi hz0 hz1 hz2 rfl (by decide) l rs.length (pls rs) hs hT ⟨H, 0, none⟩ 1 1 (pl p) hx rfl ?_ (by have := ones_pls [p]; simpa [pls] using this) (by decide) (by unfold maxLen; omega) (by omega) hb _ rfl ?_
  · intro j u hu
    rw [Addr.add_lit, Nat.zero_add]
    refine hn.cell j u ?_
    rw [← hcs] at hu
    simpa using hu
  intro g' cap' w' hown' hg _ _
  refine h g' cap' w' ?_ hg
  unfold Pown
  rw [List.length_append, pls_append]
  have e : pls [p] = pl p := by simp [pls]
  rw [e]
  exact hown'
theorem wpList_append_one {W : World} {base : Nat} {l : Value} {rs : List Pt} {ops : Array Oper} {rest : List Oper} {o : Oper} {a : Act} {Q : Exit → Act → World → Prop} (hgd : o.guard = none) (s x : Operand)
    (ho : o.op = .call { callee := .builtin .append, args := #[s, x], argTypes := #[29, 29] }) (N : Nat) (hN : rs.length = N) (hf : N < 8796093022208) (hs : a.eval s = l) (H : Nat) (hx : a.eval x = .slice (some ⟨H, 0, none⟩) 1 1)
    (p : Pt) (cs : Array Value) (hn : Has W H cs 28) (hcs : cs.toList = pl p) (hT : Pown W base l rs) (hb : base ≤ W.heap.size)
    (h : ∀ g' cap' w', Pown w' base (.slice (some ⟨g', 0, none⟩) (N + 1) cap') (rs ++ [p]) → W.grownBy w' l.ownBlock → wpList Try.prog ops Q rest (a.put o.dst (.slice (some ⟨g', 0, none⟩) (N + 1) cap')) w') : wpList Try.prog ops Q (o :: rest) a W :=
  wpList_plain hgd fun _ hK => wp_append_one s x ho N hN hf hs H hx p cs hn hcs hT hb fun g' cap' w' h1 h2 => hK _ _ (h g' cap' w' h1 h2)
theorem step_append_one {W : World} {base : Nat} {l : Value} {rs : List Pt} {ops : Array Oper} {o : Oper} {a : Act} {K : Act → World → Prop} {Q : Exit → Act → World → Prop} {E : Prop} (hw : Region.wanted o (yielded ops a.tmps) = true) (s x : Operand)
    (ho : o.op = .call { callee := .builtin .append, args := #[s, x], argTypes := #[29, 29] }) (N : Nat) (hN : rs.length = N) (hf : N < 8796093022208) (hs : a.eval s = l) (H : Nat) (hx : a.eval x = .slice (some ⟨H, 0, none⟩) 1 1)
    (p : Pt) (cs : Array Value) (hn : Has W H cs 28) (hcs : cs.toList = pl p) (hT : Pown W base l rs) (hb : base ≤ W.heap.size)
    (h : ∀ g' cap' w', Pown w' base (.slice (some ⟨g', 0, none⟩) (N + 1) cap') (rs ++ [p]) → W.grownBy w' l.ownBlock → K (a.put o.dst (.slice (some ⟨g', 0, none⟩) (N + 1) cap')) w') :
    if Region.wanted o (yielded ops a.tmps) = true then Oper.wp Try.prog o a W K Q else E := by
  rw [if_pos hw]
  exact wp_append_one s x ho N hN hf hs H hx p cs hn hcs hT hb h
theorem pts_snoc {rs qs : List Pt} {n : Nat} (hl : rs.length = n) (h : ∀ j, j < n → pt rs j = pt qs j) : ∀ j, j < n + 1 → pt (rs ++ [pt qs n]) j = pt qs j := by
  intro j hj
  by_cases e : j < n
  · rw [pt_left (by omega)]; exact h j e
  · obtain rfl : j = n := by omega
    subst hl
    exact pt_last _ _

/-- A path that grows place by place: in block go, its list in blocks behind it. -/
structure Rpa (w1 : World) (go : Nat) (c : Bool) (n : Nat) (qs : List Pt) (l : Value) (wr : World) : Prop where
  own : ∃ rs, rs.length = n ∧ (∀ j, j < n → pt rs j = pt qs j) ∧ Pown wr (go + 1) l rs
  out : Has wr go #[.bool c, l] 45
  below : Below w1.heap.size w1 wr
  hgo : w1.heap.size = go
theorem Rpa.call {w1 wr w' : World} {go n : Nat} {c : Bool} {qs : List Pt} {l : Value} (h : Rpa w1 go c n qs l wr) (hq : Below wr.heap.size wr w') : Rpa w1 go c n qs l w' := by
  obtain ⟨rs, h1, h2, h3⟩ := h.own
  exact ⟨⟨rs, h1, h2, h3.below hq (Nat.le_refl _)⟩, h.out.below hq h.out.lt, h.below.trans (hq.mono h.below.size), h.hgo⟩
theorem Rpa.len {w1 wr : World} {go n : Nat} {c : Bool} {qs : List Pt} {l : Value} (h : Rpa w1 go c n qs l wr) : ∃ ao cap, l = .slice ao n cap := by
  obtain ⟨rs, h1, h2, h3⟩ := h.own
  subst h1
  exact h3.len
theorem Rpa.snoc {w1 W w' : World} {go n g' cap' : Nat} {c : Bool} {qs rs : List Pt} {l : Value} (h : Rpa w1 go c n qs l W) (h1 : rs.length = n) (h2 : ∀ j, j < n → pt rs j = pt qs j) (h3 : Pown W (go + 1) l rs)
    (ho : Pown w' (go + 1) (.slice (some ⟨g', 0, none⟩) (n + 1) cap') (rs ++ [pt qs n])) (hg : W.grownBy w' l.ownBlock) : Rpa w1 go c (n + 1) qs (.slice (some ⟨g', 0, none⟩) (n + 1) cap') (w'.setCell ⟨go, 1, none⟩ (.slice (some ⟨g', 0, none⟩) (n + 1) cap')) := by
  have hne : l.ownBlock ≠ some go := fun e => by have := (h3.base go e).1; omega
  have hk : Has w' go #[.bool c, l] 45 := (hg.block go h.out.lt (fun e => hne e.symm)).trans h.out
  have hb := h.hgo
  have hs := h.below.size
  refine ⟨⟨_, by simp [h1], pts_snoc h1 h2, ?_⟩, ?_, ?_, h.hgo⟩
  · exact ho.kept (grownBy_set (World.grownBy.refl _ _) _ _) (fun k hk e => by simp at hk; have := (ho.base k e).1; omega)
  · have := has_set hk 1 (.slice (some ⟨g', 0, none⟩) (n + 1) cap')
    simpa using this
  · exact (h.below.grown hg (by omega) (fun k e => by have := (h3.base k e).1; omega)).setCell (Nat.le_of_eq h.hgo) _
theorem Rpa.fine {w1 W w' : World} {go n : Nat} {c : Bool} {qs rs : List Pt} {l : Value} (h : Rpa w1 go c n qs l W) (h3 : Pown W (go + 1) l rs) (hg : W.grownBy w' l.ownBlock) : w'.cell? ⟨go, 1, none⟩ = some l ∧ w'.frozen? ⟨go, 1, none⟩ = false := by
  have hne : l.ownBlock ≠ some go := fun e => by have := (h3.base go e).1; omega
  have hk : Has w' go #[.bool c, l] 45 := (hg.block go h.out.lt (fun e => hne e.symm)).trans h.out
  exact ⟨hk.cell 1 _ rfl, has_fro hk 1⟩

theorem Rpa.set {w1 w0 wr : World} {go n : Nat} {c : Bool} {qs : List Pt} {l : Value} (h0 : Rpa w1 go c n qs l w0) (h : Rpa w1 go c n qs l wr) {k : Nat} (hk : w0.heap.size ≤ k) (j : Nat) (u : Value) : Rpa w1 go c n qs l (wr.setCell ⟨k, j, none⟩ u) := by
  obtain ⟨rs0, _, _, o0⟩ := h0.own
  obtain ⟨rs, h1, h2, h3⟩ := h.own
  have hs : wr.grownBy (wr.setCell ⟨k, j, none⟩ u) (some k) := grownBy_set (World.grownBy.refl _ _) _ _
  have a1 := h0.out.lt
  have a2 := h.hgo
  exact ⟨⟨rs, h1, h2, h3.kept hs (fun i hi e => by simp at hi; have := (o0.base i e).2; omega)⟩, has_grown h.out hs (by omega), h.below.setCell (by show w1.heap.size ≤ k; omega) _, h.hgo⟩
theorem Rpa.alloc {w1 wr : World} {go n : Nat} {c : Bool} {qs : List Pt} {l : Value} (h : Rpa w1 go c n qs l wr) (o : Obj) : Rpa w1 go c n qs l (wr.alloc o) := h.call ((Below.refl _ _).alloc (Nat.le_refl _) _)

end Go.Proofs.Ytopepgifhnfbiaa

namespace Go.Proofs.Ytopepgifhnfbiaa
open Go Go.RowKit
open M

/-- Seven places in a later world. -/
theorem Ht.seven {W w' : World} {g1 g2 g3 g4 g5 g6 g7 : Nat} {p1 p2 p3 p4 p5 p6 p7 : Pt} {t : TypeId} (h : Ht W w') (H1 : Has W g1 (pCells p1) t) (H2 : Has W g2 (pCells p2) t) (H3 : Has W g3 (pCells p3) t) (H4 : Has W g4 (pCells p4) t) (H5 : Has W g5 (pCells p5) t) (H6 : Has W g6 (pCells p6) t) (H7 : Has W g7 (pCells p7) t) :
    Ht W w' ∧ w'.cell? ⟨g1, 0, none⟩ = some (.int .i64 p1.x) ∧ w'.cell? ⟨g1, 1, none⟩ = some (.int .i64 p1.y) ∧ w'.cell? ⟨g2, 0, none⟩ = some (.int .i64 p2.x) ∧ w'.cell? ⟨g2, 1, none⟩ = some (.int .i64 p2.y) ∧ w'.cell? ⟨g3, 0, none⟩ = some (.int .i64 p3.x) ∧ w'.cell? ⟨g3, 1, none⟩ = some (.int .i64 p3.y) ∧ w'.cell? ⟨g4, 0, none⟩ = some (.int .i64 p4.x) ∧ w'.cell? ⟨g4, 1, none⟩ = some (.int .i64 p4.y) ∧ w'.cell? ⟨g5, 0, none⟩ = some (.int .i64 p5.x) ∧ w'.cell? ⟨g5, 1, none⟩ = some (.int .i64 p5.y) ∧ w'.cell? ⟨g6, 0, none⟩ = some (.int .i64 p6.x) ∧ w'.cell? ⟨g6, 1, none⟩ = some (.int .i64 p6.y) ∧ w'.cell? ⟨g7, 0, none⟩ = some (.int .i64 p7.x) ∧ w'.cell? ⟨g7, 1, none⟩ = some (.int .i64 p7.y) := by
  have K1 := H1.below h.below H1.lt
  have K2 := H2.below h.below H2.lt
  have K3 := H3.below h.below H3.lt
  have K4 := H4.below h.below H4.lt
  have K5 := H5.below h.below H5.lt
  have K6 := H6.below h.below H6.lt
  have K7 := H7.below h.below H7.lt
  exact ⟨h, K1.cell 0 _ rfl, K1.cell 1 _ rfl, K2.cell 0 _ rfl, K2.cell 1 _ rfl, K3.cell 0 _ rfl, K3.cell 1 _ rfl, K4.cell 0 _ rfl, K4.cell 1 _ rfl, K5.cell 0 _ rfl, K5.cell 1 _ rfl, K6.cell 0 _ rfl, K6.cell 1 _ rfl, K7.cell 0 _ rfl, K7.cell 1 _ rfl⟩
theorem Ht.grownR {W w' w'' : World} {row : Option Nat} (h : Ht W w') (hg : w'.grownBy w'' row) (hr : ∀ k, row = some k → W.heap.size ≤ k) : Ht W w'' := ⟨h.below.grown hg h.below.size hr⟩

/-- A list of places of the call's own, n of them. -/
def Lsn (w : World) (n : Nat) (rs : List Pt) (e : Ending) (w' : World) : Prop := ∃ g cap, e = .returned (.slice (some ⟨g, 0, none⟩) n cap) ∧ rs.length = n ∧ Pown w' w.heap.size (.slice (some ⟨g, 0, none⟩) n cap) rs ∧ Below w.heap.size w w'

set_option maxRecDepth 100000 in
set_option maxHeartbeats 2000000 in
theorem r8_bend : ∀ (n : Nat) (a b c d : Pt) (w : World), n ≤ 3 → Rg a → Rg b → Rg c → Rg d →
    Calls Try.prog 47 #[.agg (pCells a), .agg (pCells b), .agg (pCells c), .agg (pCells d), .int .i64 (n : Int)] w (Lsn w (2 ^ n) (bendL n a b c d))
  | 0, a, b, c, d, w, hn, ha, hb, hc, hd => by
    obtain ⟨S, hS⟩ : ∃ S, w.heap.size = S := ⟨_, rfl⟩
    obtain ⟨W, hW⟩ : ∃ W, (((w.alloc (.cells (pCells a) 28)).alloc (.cells (pCells b) 28)).alloc (.cells (pCells c) 28)).alloc (.cells (pCells d) 28) = W := ⟨_, rfl⟩
    have bW : Below S w W := by rw [← hW]; exact ((((Below.refl _ _).alloc (by omega) _).alloc (by simp; omega) _).alloc (by simp; omega) _).alloc (by simp; omega) _
    have kd : Has W (S + 1 + 1 + 1) (pCells d) 28 := by rw [← hW]; exact has_new (by simp [hS])
    have d0 := kd.cell 0 _ rfl
    have d1 := kd.cell 1 _ rfl
    have RR : Lsn w 1 (bendL 0 a b c d) (.returned (.slice (some ⟨W.heap.size, 0, none⟩) 1 1)) (W.alloc (.cells (pCells d) 28)) := by
      have q := bW.size
      refine ⟨_, 1, rfl, rfl, World.ownsRow_lit W (pCells d) 1 (by omega) (by unfold maxLen; omega) rfl, ?_⟩
      rw [hS]
      exact bW.alloc (by omega) _
    have RRH := Lib.hid RR
    have HW := Lib.hid hW
    clear bW hW kd RR
    go_enter Try.func47, Try.ntmps47
    go_upto_region 2 with fail
    rw [HW.out]
    clear hS
    go_wp2
    go_ret
    exact RRH.out
  | n + 1, a, b, c, d, w, hn, ha, hb, hc, hd => by
    obtain ⟨S, hS⟩ : ∃ S, w.heap.size = S := ⟨_, rfl⟩
    obtain ⟨W, hW⟩ : ∃ W, (((w.alloc (.cells (pCells a) 28)).alloc (.cells (pCells b) 28)).alloc (.cells (pCells c) 28)).alloc (.cells (pCells d) 28) = W := ⟨_, rfl⟩
    have bW : Below S w W := by rw [← hW]; exact ((((Below.refl _ _).alloc (by omega) _).alloc (by simp; omega) _).alloc (by simp; omega) _).alloc (by simp; omega) _
    have ka : Has W S (pCells a) 28 := by rw [← hW]; exact (((has_new hS).alloc _).alloc _).alloc _
    have kb : Has W (S + 1) (pCells b) 28 := by rw [← hW]; exact ((has_new (by simp [hS])).alloc _).alloc _
    have kc : Has W (S + 1 + 1) (pCells c) 28 := by rw [← hW]; exact (has_new (by simp [hS])).alloc _
    have kd : Has W (S + 1 + 1 + 1) (pCells d) 28 := by rw [← hW]; exact has_new (by simp [hS])
    have KA := Lib.hid ka
    have KB := Lib.hid kb
    have KC := Lib.hid kc
    have KD := Lib.hid kd
    have BW := Lib.hid bW
    have HW := Lib.hid hW
    have HS := Lib.hid hS
    have o1 : ¬ ((n : Int) + 1 = 0) := by omega
    clear bW hW ka kb kc kd
    go_enter Try.func47, Try.ntmps47
    go_wp2_with fail
    rw [HW.out]
    clear hS
    refine wp_region_make3 9 zp zp zp (by kernel_rfl) (by kernel_rfl) (by kernel_rfl) ⟨_, rfl, fun x w => by simp [go_sem, ptr]⟩ ⟨_, rfl, fun x w => by simp [go_sem, ptr]⟩ ⟨_, rfl, fun x w => by simp [go_sem, ptr]⟩ ?_
    apply Exists.intro
    refine ⟨fun R hR hN => ?_, ?_⟩
    · have a0 := fun z => LaterR.read (R := R) KA.out 0 _ rfl z
      have a1 := fun z => LaterR.read (R := R) KA.out 1 _ rfl z
      have b0 := fun z => LaterR.read (R := R) KB.out 0 _ rfl z
      have b1 := fun z => LaterR.read (R := R) KB.out 1 _ rfl z
      have c0 := fun z => LaterR.read (R := R) KC.out 0 _ rfl z
      have c1 := fun z => LaterR.read (R := R) KC.out 1 _ rfl z
      have d0 := fun z => LaterR.read (R := R) KD.out 0 _ rfl z
      have d1 := fun z => LaterR.read (R := R) KD.out 1 _ rfl z
      simp only [List.take_succ_cons, List.take_zero]
      repeat (go_big_quiet_step (first | (go_at_call 61; exact LaterR.calls hR (r8_Half _ _ _))))
      exact wpQuiet_nil rfl
    · intro g0 g1 g2 w1 hb1 h0 h1 h2 l0 l1 l2 n01 n02 n12
      have k0 : Has w1 g0 #[.int .i64 0, .int .i64 0] 28 := h0
      have k1 : Has w1 g1 #[.int .i64 0, .int .i64 0] 28 := h1
      have k2 : Has w1 g2 #[.int .i64 0, .int .i64 0] 28 := h2
      clear h0 h1 h2
      simp only [List.drop_succ_cons, List.drop_zero]
      have c00 := k0.cell 0 _ rfl
      have c01 := k0.cell 1 _ rfl
      have c10 := k1.cell 0 _ rfl
      have c11 := k1.cell 1 _ rfl
      have c20 := k2.cell 0 _ rfl
      have c21 := k2.cell 1 _ rfl
      have f0 := has_fro k0
      have f1 := has_fro k1
      have f2 := has_fro k2
      have HB1 := Lib.hid hb1
      have K0 := Lib.hid k0
      have K1 := Lib.hid k1
      have K2 := Lib.hid k2
      clear hb1 k0 k1 k2
      obtain ⟨ab, hab⟩ : ∃ p, hvP a b = p := ⟨_, rfl⟩
      obtain ⟨bc, hbc⟩ : ∃ p, hvP b c = p := ⟨_, rfl⟩
      obtain ⟨cd, hcd⟩ : ∃ p, hvP c d = p := ⟨_, rfl⟩
      have e1 : hrP a b = ab := (hrP_eq ha hb).trans hab
      have e2 : hrP b c = bc := (hrP_eq hb hc).trans hbc
      have e3 : hrP c d = cd := (hrP_eq hc hd).trans hcd
      rw [e1, e2, e3]
      have rab : Rg ab := hab ▸ ha.hv hb
      have rbc : Rg bc := hbc ▸ hb.hv hc
      have rcd : Rg cd := hcd ▸ hc.hv hd
      have EAB := Lib.hid (And.intro hab (And.intro hbc hcd))
      clear e1 e2 e3 hab hbc hcd
      go_upto_region 4 with fail
      clear c00 c01 c10 c11 c20 c21 f0 f1 f2
      obtain ⟨V, hV, v0, v1, v2, bV⟩ := put3 K0.out K1.out K2.out l0 l1 l2 n01 n02 n12 ab bc cd
      rw [hV]
      have BV := Lib.hid (HB1.out.trans bV)
      have V0 := Lib.hid v0
      have V1 := Lib.hid v1
      have V2 := Lib.hid v2
      have sV : Hid (W.heap.size ≤ V.heap.size) := Lib.hid BV.out.size
      clear hV v0 v1 v2 bV K0 K1 K2 HB1
      refine wp_region_make2 6 zp zp (by kernel_rfl) (by kernel_rfl) (by kernel_rfl) ⟨_, rfl, fun x w => by simp [go_sem, ptr]⟩ ⟨_, rfl, fun x w => by simp [go_sem, ptr]⟩ ?_
      apply Exists.intro
      refine ⟨fun R hR hN => ?_, ?_⟩
      · have a0 := fun z => LaterR.read (R := R) V0.out 0 _ rfl z
        have a1 := fun z => LaterR.read (R := R) V0.out 1 _ rfl z
        have b0 := fun z => LaterR.read (R := R) V1.out 0 _ rfl z
        have b1 := fun z => LaterR.read (R := R) V1.out 1 _ rfl z
        have c0 := fun z => LaterR.read (R := R) V2.out 0 _ rfl z
        have c1 := fun z => LaterR.read (R := R) V2.out 1 _ rfl z
        simp only [List.take_succ_cons, List.take_zero]
        repeat (go_big_quiet_step (first | (go_at_call 61; exact LaterR.calls hR (r8_Half _ _ _))))
        exact wpQuiet_nil rfl
      · intro g3 g4 w2 hb2 h3 h4 l3 l4 n34
        have k3 : Has w2 g3 #[.int .i64 0, .int .i64 0] 28 := h3
        have k4 : Has w2 g4 #[.int .i64 0, .int .i64 0] 28 := h4
        clear h3 h4
        simp only [List.drop_succ_cons, List.drop_zero]
        have c00 := k3.cell 0 _ rfl
        have c01 := k3.cell 1 _ rfl
        have c10 := k4.cell 0 _ rfl
        have c11 := k4.cell 1 _ rfl
        have f0 := has_fro k3
        have f1 := has_fro k4
        have HB2 := Lib.hid hb2
        have K3 := Lib.hid k3
        have K4 := Lib.hid k4
        clear hb2 k3 k4
        obtain ⟨abc, habc⟩ : ∃ p, hvP ab bc = p := ⟨_, rfl⟩
        obtain ⟨bcd, hbcd⟩ : ∃ p, hvP bc cd = p := ⟨_, rfl⟩
        have e1 : hrP ab bc = abc := (hrP_eq rab rbc).trans habc
        have e2 : hrP bc cd = bcd := (hrP_eq rbc rcd).trans hbcd
        rw [e1, e2]
        have rabc : Rg abc := habc ▸ rab.hv rbc
        have rbcd : Rg bcd := hbcd ▸ rbc.hv rcd
        have EABC := Lib.hid (And.intro habc hbcd)
        clear e1 e2 habc hbcd
        go_upto_region 5 with fail
        clear c00 c01 c10 c11 f0 f1
        obtain ⟨U, hU, v3, v4, bU⟩ := put2 K3.out K4.out l3 l4 n34 abc bcd
        rw [hU]
        have BU := Lib.hid (HB2.out.trans bU)
        have U0 := Lib.hid (V0.out.below BU.out V0.out.lt)
        have U2 := Lib.hid (V2.out.below BU.out V2.out.lt)
        have U3 := Lib.hid v3
        have U4 := Lib.hid v4
        have x0 := v3.cell 0 _ rfl
        have x1 := v3.cell 1 _ rfl
        have y0 := v4.cell 0 _ rfl
        have y1 := v4.cell 1 _ rfl
        have sU : Hid (V.heap.size ≤ U.heap.size) := Lib.hid BU.out.size
        have LO := Lib.hid (And.intro l0 (And.intro l2 (And.intro l3 l4)))
        clear hU v3 v4 bU K3 K4 HB2 V0 V1 V2 l0 l1 l2 l3 l4 n01 n02 n12 n34
        go_wp2_with fail
        refine (r8_Half _ _ _).mono ?_
        rintro e w3 ⟨rfl, hq3⟩
        obtain ⟨md, hmd⟩ : ∃ p, hvP abc bcd = p := ⟨_, rfl⟩
        have e1 : hrP abc bcd = md := (hrP_eq rabc rbcd).trans hmd
        rw [e1]
        have rmd : Rg md := hmd ▸ rabc.hv rbcd
        have EM := Lib.hid hmd
        obtain ⟨X, hX⟩ : ∃ X, w3.alloc (.cells (pCells md) 28) = X := ⟨_, rfl⟩
        obtain ⟨gm, hgm⟩ : ∃ g, w3.heap.size = g := ⟨_, rfl⟩
        have bX : Below U.heap.size U X := by rw [← hX]; exact hq3.alloc hq3.size _
        have km : Has X gm (pCells md) 28 := by rw [← hX]; exact has_new hgm
        have sX : U.heap.size ≤ gm := by rw [← hgm]; exact hq3.size
        have bVX : Below V.heap.size V X := BU.out.trans (bX.mono sU.out)
        have bWX : Below W.heap.size W X := BV.out.trans (bVX.mono sV.out)
        have bwX : Below S w X := BW.out.trans (bWX.mono (by have := BW.out.size; have := HS.out; omega))
        have ka := KA.out.below bWX KA.out.lt
        have kd := KD.out.below bWX KD.out.lt
        have kab := U0.out.below bX U0.out.lt
        have kcd := U2.out.below bX U2.out.lt
        have kabc := U3.out.below bX U3.out.lt
        have kbcd := U4.out.below bX U4.out.lt
        have a0 := ka.cell 0 _ rfl
        have KAX := Lib.hid ka
        have KABX := Lib.hid kab
        have KABCX := Lib.hid kabc
        have KMX := Lib.hid km
        have KDX := Lib.hid kd
        have KCDX := Lib.hid kcd
        have KBCDX := Lib.hid kbcd
        have BX := Lib.hid bwX
        have sXX : Hid (S ≤ X.heap.size) := Lib.hid (by have := bwX.size; have := HS.out; omega)
        have HX := Lib.hid hX
        have HT0 : Hid (Ht X X) := Lib.hid (Ht.refl X)
        have S7 := Lib.hid (fun (w' : World) (h : Ht X w') => h.seven ka kab kabc km kbcd kcd kd)
        have C1 := Lib.hid (fun w => r8_bend n a ab abc md w (by omega) ha rab rabc rmd)
        have C2 := Lib.hid (fun w => r8_bend n md bcd cd d w (by omega) rmd rbcd rcd hd)
        have o2 : ((n : Int) + 1 - 1) = (n : Int) := by omega
        have o3 : (n : Int) ≤ 2 := by omega
        have o4 : IntKind.i64.wrap (n : Int) = (n : Int) := IntWalk.i64_in _ ⟨by omega, by omega⟩
        obtain ⟨P2, hP2⟩ : ∃ p, 2 ^ n = p := ⟨_, rfl⟩
        have hP0 : 0 < P2 ∧ P2 ≤ 8 := by
          rw [← hP2]
          rcases (show n = 0 ∨ n = 1 ∨ n = 2 by omega) with rfl | rfl | rfl <;> decide
        rw [hP2] at C1 C2
        have PP := Lib.hid hP0
        have EP := Lib.hid hP2
        clear hP2 hP0 a0 e1 hmd hX bX km sX bVX bWX bwX ka kd kab kcd kabc kbcd x0 x1 y0 y1 hq3 U0 U2 U3 U4 BU BV BW KA KB KC KD HW
        go_upto_region 6 with fail
        rw [HX.out]
        clear hgm
        go_region_held3 (fun w' => Ht X w' ∧ w'.cell? ⟨S, 0, none⟩ = some (.int .i64 a.x) ∧ w'.cell? ⟨S, 1, none⟩ = some (.int .i64 a.y) ∧ w'.cell? ⟨g0, 0, none⟩ = some (.int .i64 ab.x) ∧ w'.cell? ⟨g0, 1, none⟩ = some (.int .i64 ab.y) ∧ w'.cell? ⟨g3, 0, none⟩ = some (.int .i64 abc.x) ∧ w'.cell? ⟨g3, 1, none⟩ = some (.int .i64 abc.y) ∧ w'.cell? ⟨gm, 0, none⟩ = some (.int .i64 md.x) ∧ w'.cell? ⟨gm, 1, none⟩ = some (.int .i64 md.y) ∧ w'.cell? ⟨g4, 0, none⟩ = some (.int .i64 bcd.x) ∧ w'.cell? ⟨g4, 1, none⟩ = some (.int .i64 bcd.y) ∧ w'.cell? ⟨g2, 0, none⟩ = some (.int .i64 cd.x) ∧ w'.cell? ⟨g2, 1, none⟩ = some (.int .i64 cd.y) ∧ w'.cell? ⟨S + 1 + 1 + 1, 0, none⟩ = some (.int .i64 d.x) ∧ w'.cell? ⟨S + 1 + 1 + 1, 1, none⟩ = some (.int .i64 d.y))
          ((go_split_ands; first | exact S7.out _ HT0.out.drew | exact S7.out _ h5 | exact S7.out _ h4 | exact S7.out _ h3))
          (first
            | (have mm := h4; clear mm; refine step_append_pl (base := S) (by rfl) (.tmp 45) (.tmp 52) (by rfl) P2 L4.out (by rfl) gb 0 P2 capb (by rfl) (bendL n md bcd cd d) L5.out PP.out.1 NF.out R5.out O4.out S5.out ?_; intro g' cap' w6 ho6 hg6 hat6; have h5 := Ht.grownR h4 hg6 G6.out)
            | (have mm := h3; clear mm; go_at_call 47; refine (C2.out _).mono ?_; rintro e w5 ⟨gb, capb, rfl, hlb, hob, hbb⟩; have h4 := Ht.call h3 hbb; have L5 := Lib.hid hlb; have R5 := Lib.hid (hob.row (by have := PP.out; omega) (by have := PP.out; omega)); have O4 := Lib.hid (O3.out.below hbb (Nat.le_refl _)); have S5 : Hid (S ≤ w5.heap.size) := Lib.hid (by have := h4.below.size; have := sXX.out; omega))
            | (go_at_call 47; refine (C1.out _).mono ?_; rintro e w4 ⟨ga, capa, rfl, hla, hoa, hba⟩; have h3 := Ht.call HT0.out.drew hba; have L4 := Lib.hid hla; have O3 := Lib.hid (hoa.lower (by have := sXX.out; show S ≤ X.heap.size; omega)); have G6 : Hid (∀ k, Value.ownBlock (.slice (some ⟨ga, 0, none⟩) P2 capa) = some k → X.heap.size ≤ k) := Lib.hid (fun k hk => (hoa.base k hk).1); have NF : Hid (P2 + P2 ≤ 8796093022208) := Lib.hid (by have := PP.out; omega)))
        all_goals
          have ee : bendL n a ab abc md ++ bendL n md bcd cd d = bendL (n + 1) a b c d := by
            show _ = bendL n a (hvP a b) (hvP (hvP a b) (hvP b c)) (hvP (hvP (hvP a b) (hvP b c)) (hvP (hvP b c) (hvP c d))) ++ bendL n (hvP (hvP (hvP a b) (hvP b c)) (hvP (hvP b c) (hvP c d))) (hvP (hvP b c) (hvP c d)) (hvP c d) d
            rw [EAB.out.1, EAB.out.2.1, EAB.out.2.2, EABC.out.1, EABC.out.2, EM.out]
          rw [ee] at ho6
          have RR : Lsn w (2 ^ (n + 1)) (bendL (n + 1) a b c d) (.returned (.slice (some ⟨g', 0, none⟩) (P2 + P2) cap')) w6 := by
            have q := HS.out
            have e2 : 2 ^ (n + 1) = P2 + P2 := by rw [Nat.pow_succ, EP.out]; omega
            refine ⟨g', cap', by rw [e2], bendL_length _ _ _ _ _, by rw [e2, q]; exact ho6, ?_⟩
            rw [q]
            exact BX.out.trans (h5.below.mono sXX.out)
          have RRH := Lib.hid RR
          clear RR ho6 hg6 hat6 ee
          go_wp2
          go_ret
          exact RRH.out

end Go.Proofs.Ytopepgifhnfbiaa

namespace Go.Proofs.Ytopepgifhnfbiaa
open Go Go.RowKit
open M

/-- A poly that grows: in block go, its list in blocks behind it; the result's block is r, the path's own is q. -/
structure Gro (w1 : World) (q r go : Nat) (c : Bool) (vp : Value) (rs : List Pt) (l : Value) (wr : World) : Prop where
  own : Pown wr (go + 1) l rs
  out : Has wr go #[.bool c, l] 31
  res : Has wr r #[.bool false, .slice none 0 0] 31
  src : Has wr q #[.bool c, vp] 45
  below : Below w1.heap.size w1 wr
  lq : w1.heap.size ≤ q
  lr : q < r
  lo : r < go
section
variable {w1 W w' : World} {q r go : Nat} {c : Bool} {rs qs : List Pt} {vp l l' : Value}
theorem Gro.later (h : Gro w1 q r go c vp rs l W) (hq : Below W.heap.size W w') : Gro w1 q r go c vp rs l w' :=
  ⟨h.own.below hq (Nat.le_refl _), h.out.below hq h.out.lt, h.res.below hq h.res.lt, h.src.below hq h.src.lt, h.below.trans (hq.mono h.below.size), h.lq, h.lr, h.lo⟩
theorem Gro.away (h : Gro w1 q r go c vp rs l W) : l.ownBlock ≠ some go ∧ l.ownBlock ≠ some r ∧ l.ownBlock ≠ some q := ⟨fun e => by have := (h.own.base go e).1; omega, fun e => by have := (h.own.base r e).1; have := h.lo; omega, fun e => by have := (h.own.base q e).1; have := h.lo; have := h.lr; omega⟩
/-- The list has grown, and is stored. -/
theorem Gro.put (h : Gro w1 q r go c vp rs l W) (ho : Pown w' (go + 1) l' qs) (hg : W.grownBy w' l.ownBlock) : Gro w1 q r go c vp qs l' (w'.setCell ⟨go, 1, none⟩ l') := by
  have hk : Has w' go #[.bool c, l] 31 := (hg.block go h.out.lt (fun e => h.away.1 e.symm)).trans h.out
  have hr : Has w' r #[.bool false, .slice none 0 0] 31 := (hg.block r h.res.lt (fun e => h.away.2.1 e.symm)).trans h.res
  have hq : Has w' q #[.bool c, vp] 45 := (hg.block q h.src.lt (fun e => h.away.2.2 e.symm)).trans h.src
  have hs := h.below.size
  have h1 := h.lr
  have h0 := h.lq
  have h2 := h.lo
  refine ⟨ho.kept (grownBy_set (World.grownBy.refl _ _) _ _) (fun k hk e => by simp at hk; have := (ho.base k e).1; omega), ?_, has_grown hr (grownBy_set (World.grownBy.refl _ _) _ _) (by omega), has_grown hq (grownBy_set (World.grownBy.refl _ _) _ _) (by omega), ?_, h0, h1, h2⟩
  · have := has_set hk 1 l'
    simpa using this
  · exact (h.below.grown hg (by omega) (fun k e => by have := (h.own.base k e).1; omega)).setCell (show w1.heap.size ≤ go by omega) _
theorem Gro.fine (h : Gro w1 q r go c vp rs l W) (hg : W.grownBy w' l.ownBlock) : w'.cell? ⟨go, 1, none⟩ = some l ∧ w'.frozen? ⟨go, 1, none⟩ = false := by
  have hk : Has w' go #[.bool c, l] 31 := (hg.block go h.out.lt (fun e => h.away.1 e.symm)).trans h.out
  exact ⟨hk.cell 1 _ rfl, has_fro hk 1⟩
end
/-- A slice has room for what it holds. -/
def capOk : Value → Prop
  | .slice _ n c => n ≤ c
  | _ => False
def lenOf : Value → Nat
  | .slice _ n _ => n
  | _ => 0
theorem flatL_no {c : Bool} {ps : List Pt} (h : ps.length = 0 ∨ okP c ps = false) : flatL c ps = [] := by unfold flatL; rw [if_pos h]
theorem flatL_yes {c : Bool} {ps : List Pt} (h : ¬ (ps.length = 0 ∨ okP c ps = false)) : flatL c ps = polyN ps ((ps.length - 1) / 3) := by unfold flatL; rw [if_neg h]
theorem nearL_at {ps : List Pt} : ∀ {n : Nat}, nearL ps n = true → ∀ i, i < n → nearP (pt ps i) = true
  | 0, _, i, hi => by omega
  | n + 1, h, i, hi => by
    unfold nearL at h
    rw [Bool.and_eq_true] at h
    by_cases e : i = n
    · rw [e]; exact h.2
    · exact nearL_at h.1 i (by omega)
theorem okP_rg {c : Bool} {ps : List Pt} (h0 : ¬ ps.length = 0) (h : okP c ps = true) : 4 ≤ ps.length ∧ ps.length ≤ 97 ∧ ps.length % 3 = 1 ∧ ∀ i, i < ps.length → Rg (pt ps i) := by
  rw [okP_pos h0, Bool.and_eq_true] at h
  have h1 := h.1
  simp [okLen] at h1
  exact ⟨h1.1.1, h1.1.2, h1.2, fun i hi => Rg.near (nearL_at h.2 i hi)⟩

end Go.Proofs.Ytopepgifhnfbiaa

namespace Go.Proofs.Ytopepgifhnfbiaa
open Go Go.RowKit
open M

theorem r8_Bend {a b c d : Pt} (w : World) (ha : Rg a) (hb : Rg b) (hc : Rg c) (hd : Rg d) :
    Calls Try.prog 32 #[.agg (pCells a), .agg (pCells b), .agg (pCells c), .agg (pCells d)] w (Lsn w 8 (bendL 3 a b c d)) := by
  obtain ⟨W, hW⟩ : ∃ W, (((w.alloc (.cells (pCells a) 28)).alloc (.cells (pCells b) 28)).alloc (.cells (pCells c) 28)).alloc (.cells (pCells d) 28) = W := ⟨_, rfl⟩
  have bW : Below w.heap.size w W := by rw [← hW]; exact ((((Below.refl _ _).alloc (by omega) _).alloc (by simp) _).alloc (by simp; omega) _).alloc (by simp; omega) _
  have C := r8_bend 3 a b c d W (by omega) ha hb hc hd
  have CH := Lib.hid C
  have BW := Lib.hid bW
  have HW := Lib.hid hW
  clear C bW hW
  go_enter Try.func32, Try.ntmps32
  go_wp2_with fail
  rw [HW.out]
  refine CH.out.mono ?_
  rintro e w1 ⟨g, cap, rfl, hl, ho, hb⟩
  have RR : Lsn w 8 (bendL 3 a b c d) (.returned (.slice (some ⟨g, 0, none⟩) 8 cap)) w1 := ⟨g, cap, rfl, hl, ho.lower BW.out.size, BW.out.trans (hb.mono BW.out.size)⟩
  have RRH := Lib.hid RR
  clear RR hl ho hb
  go_wp2
  go_ret
  exact RRH.out

/-- A poly that grows: in block go, its list in other blocks behind the result's, r; the path's own block is q. -/
structure Grp (w1 : World) (q r go : Nat) (c : Bool) (vp : Value) (rs : List Pt) (l : Value) (wr : World) : Prop where
  own : Pown wr (r + 1) l rs
  away : l.ownBlock ≠ some go
  out : Has wr go #[.bool c, l] 31
  res : Has wr r #[.bool false, .slice none 0 0] 31
  src : Has wr q #[.bool c, vp] 45
  below : Below w1.heap.size w1 wr
  lq : w1.heap.size ≤ q
  lr : q < r
  lo : r < go
section
variable {w1 W w' : World} {q r go : Nat} {c : Bool} {rs qs : List Pt} {vp l l' : Value}
theorem Grp.later (h : Grp w1 q r go c vp rs l W) (hq : Below W.heap.size W w') : Grp w1 q r go c vp rs l w' :=
  ⟨h.own.below hq (Nat.le_refl _), h.away, h.out.below hq h.out.lt, h.res.below hq h.res.lt, h.src.below hq h.src.lt, h.below.trans (hq.mono h.below.size), h.lq, h.lr, h.lo⟩
theorem Grp.far (h : Grp w1 q r go c vp rs l W) : l.ownBlock ≠ some r ∧ l.ownBlock ≠ some q := ⟨fun e => by have := (h.own.base r e).1; omega, fun e => by have := (h.own.base q e).1; have := h.lr; omega⟩
/-- The list has grown, and is stored. -/
theorem Grp.put {g' n' cap' : Nat} (h : Grp w1 q r go c vp rs l W) (ho : Pown w' (r + 1) (.slice (some ⟨g', 0, none⟩) n' cap') qs) (hg : W.grownBy w' l.ownBlock) (hat : l.ownBlock = some g' ∨ W.heap.size ≤ g') : Grp w1 q r go c vp qs (.slice (some ⟨g', 0, none⟩) n' cap') (w'.setCell ⟨go, 1, none⟩ (.slice (some ⟨g', 0, none⟩) n' cap')) := by
  have hk : Has w' go #[.bool c, l] 31 := (hg.block go h.out.lt (fun e => h.away e.symm)).trans h.out
  have hr : Has w' r #[.bool false, .slice none 0 0] 31 := (hg.block r h.res.lt (fun e => h.far.1 e.symm)).trans h.res
  have hq : Has w' q #[.bool c, vp] 45 := (hg.block q h.src.lt (fun e => h.far.2 e.symm)).trans h.src
  have hne : g' ≠ go := by
    rcases hat with e | e
    · intro e2; subst e2; exact h.away e
    · have := h.out.lt; omega
  have hs := h.below.size
  have h0 := h.lq
  have h1 := h.lr
  have h2 := h.lo
  refine ⟨ho.kept (grownBy_set (World.grownBy.refl _ _) _ _) (fun k hk e => by have e' : some g' = some k := e; simp at hk e'; omega), fun e => by have e' : some g' = some go := e; simp at e'; omega, ?_, has_grown hr (grownBy_set (World.grownBy.refl _ _) _ _) (by omega), has_grown hq (grownBy_set (World.grownBy.refl _ _) _ _) (by omega), ?_, h0, h1, h2⟩
  · have := has_set hk 1 (.slice (some ⟨g', 0, none⟩) n' cap')
    simpa using this
  · exact (h.below.grown hg (by omega) (fun k e => by have := (h.own.base k e).1; omega)).setCell (show w1.heap.size ≤ go by omega) _
theorem Grp.fine (h : Grp w1 q r go c vp rs l W) (hg : W.grownBy w' l.ownBlock) : w'.cell? ⟨go, 1, none⟩ = some l ∧ w'.frozen? ⟨go, 1, none⟩ = false := by
  have hk : Has w' go #[.bool c, l] 31 := (hg.block go h.out.lt (fun e => h.away e.symm)).trans h.out
  exact ⟨hk.cell 1 _ rfl, has_fro hk 1⟩
end
abbrev zc : Array Value := #[.int .i64 0, .int .i64 0]
/-- Four variables of one statement. -/
abbrev vs4 (n m : Nat) (a b c d : Pt) : List (Nat × Nat × Array Value) := [(n, m, pCells a), (n + 1, m + 1, pCells b), (n + 2, m + 2, pCells c), (n + 3, m + 3, pCells d)]
/-- The value v is a list of the call's own, of these places. -/
def LstV (base n : Nat) (rs : List Pt) (v : Value) (w : World) : Prop := ∃ g cap, v = .slice (some ⟨g, 0, none⟩) n cap ∧ rs.length = n ∧ Pown w base v rs
theorem LstV.stay {base n : Nat} {rs : List Pt} {v : Value} {w w' : World} (h : LstV base n rs v w) (hb : Below w.heap.size w w') : LstV base n rs v w' := by
  obtain ⟨g, cap, e, hl, ho⟩ := h
  exact ⟨g, cap, e, hl, ho.below hb (Nat.le_refl _)⟩
theorem own_lit1 {W : World} {H base : Nat} (p : Pt) (hH : W.heap.size = H) (hb : base ≤ W.heap.size) : Pown (W.alloc (.cells (pCells p) 28)) base (.slice (some ⟨H, 0, none⟩) 1 1) [p] := by
  subst hH
  exact World.ownsRow_lit W (pCells p) 1 hb (by unfold maxLen; omega) rfl

set_option maxRecDepth 100000 in
set_option maxHeartbeats 2000000 in
theorem r8_flat {v : Value} {ps : List Pt} {w : World} (c : Bool) (h : Psl w v ps) : Calls Try.prog 16 #[.agg #[.bool c, v]] w (Gives w c (flatL c ps)) := by
  obtain ⟨B, hB⟩ : ∃ B, w.heap.size = B := ⟨_, rfl⟩
  obtain ⟨W, hW⟩ : ∃ W, (w.alloc (.cells #[.bool c, v] 45)).alloc (.cells #[.bool false, .slice none 0 0] 31) = W := ⟨_, rfl⟩
  have ha : Has W B #[.bool c, v] 45 := by rw [← hW]; exact (has_new hB).alloc _
  have hr : Has W (B + 1) #[.bool false, .slice none 0 0] 31 := by rw [← hW]; exact has_new (by simp [hB])
  have hbl : Below B w W := by rw [← hW]; exact ((Below.refl _ _).alloc (by omega) _).alloc (by simp; omega) _
  have hsz : W.heap.size = B + 1 + 1 := by rw [← hW]; simp [hB]
  have h' := h.below hbl (by omega)
  have hsw := h
  obtain ⟨ao, cap, rfl, hf, _⟩ := h
  obtain ⟨N, hN⟩ : ∃ N, ps.length = N := ⟨_, rfl⟩
  rw [hN] at h' ha hf hW hsw ⊢
  have HSW := Lib.hid hsw
  have HE := Lib.hid (r8_right c h')
  have HS := Lib.hid h'
  have HA := Lib.hid ha
  have HR := Lib.hid hr
  have HBL := Lib.hid hbl
  have HSZ := Lib.hid hsz
  have HW := Lib.hid hW
  have HB := Lib.hid hB
  have HN := Lib.hid hN
  clear ha hr hbl hsz hW h' hN hsw
  go_enter Try.func16, Try.ntmps16
  go_upto_region 1 with fail
  rw [HW.out]
  have a0 := HA.out.cell 0 _ rfl
  have a1 := HA.out.cell 1 _ rfl
  clear hB HW
  go_wp2_with fail
  refine HE.out.mono ?_
  rintro e w2 ⟨rfl, b2⟩
  have B2 := Lib.hid b2
  have ka := HA.out.below b2 HA.out.lt
  have kr := HR.out.below b2 HR.out.lt
  have a0 := ka.cell 0 _ rfl
  have a1 := ka.cell 1 _ rfl
  have r0 := kr.cell 0 _ rfl
  have r1 := kr.cell 1 _ rfl
  have fz := has_fro kr
  by_cases hok : okP c ps = false
  · rw [hok]
    have RR : Gives w c (flatL c ps) (.returned (.agg #[.bool c, .slice none 0 0])) ((w2.setCell ⟨B + 1, 0, none⟩ (.bool c)).setCell ⟨B + 1, 1, none⟩ (.slice none 0 0)) := by
      rw [flatL_no (Or.inr hok)]
      exact gives_put (w := w) HB.out (Pown.nil _ _) (by simp [Value.ownBlock]) (by omega) (HBL.out.trans (b2.mono (by have := HSZ.out; omega))) rfl _ _ rfl
    have RRH := Lib.hid RR
    clear RR kr ka b2 hok
    go_wp2
    refine bodyPost_ret (v := .agg #[.bool c, .slice none 0 0]) (by simp [results, Try.results16, go_sem, r0, r1]) rfl ?_
    exact RRH.out
  · have hok' : okP c ps = true := by simpa using hok
    rw [hok']
    by_cases h0 : N = 0
    · have RR : Gives w c (flatL c ps) (.returned (.agg #[.bool c, .slice none 0 0])) ((w2.setCell ⟨B + 1, 0, none⟩ (.bool c)).setCell ⟨B + 1, 1, none⟩ (.slice none 0 0)) := by
        rw [flatL_no (Or.inl (by rw [HN.out]; exact h0))]
        exact gives_put (w := w) HB.out (Pown.nil _ _) (by simp [Value.ownBlock]) (by omega) (HBL.out.trans (b2.mono (by have := HSZ.out; omega))) rfl _ _ rfl
      have RRH := Lib.hid RR
      have o1 : ((N : Int) == 0) = true := by simp; omega
      clear RR kr ka b2 hok hok'
      go_wp2
      refine bodyPost_ret (v := .agg #[.bool c, .slice none 0 0]) (by simp [results, Try.results16, go_sem, r0, r1]) rfl ?_
      exact RRH.out
    · have EF := Lib.hid (flatL_yes (c := c) (ps := ps) (by rw [HN.out]; rintro (h | h); exact h0 h; exact hok h))
      obtain ⟨q1, q2, q3, q4⟩ := okP_rg (by rw [HN.out]; exact h0) hok'
      rw [HN.out] at q1 q2 q3 q4 EF
      have RG := Lib.hid q4
      have o1 : ((N : Int) == 0) = false := eqz h0
      have bS : w2.heap.size > B + 1 := by have := b2.size; have := HSZ.out; omega
      obtain ⟨g, o, e1, r, l1⟩ := (HS.out.below b2 (Nat.le_refl _)).row (by omega)
      subst e1
      have x0 := r.c0 0 (by omega)
      have x1 := r.c1 0 (by omega)
      simp only [Nat.zero_mul, Nat.add_zero] at x0 x1
      obtain ⟨p, hp⟩ : ∃ p, pt ps 0 = p := ⟨_, rfl⟩
      rw [hp] at x0 x1
      have HP := Lib.hid hp
      have o2 : 0 < N := by omega
      have KA := Lib.hid ka
      have KR := Lib.hid kr
      clear hok hok' q4 r l1 hp b2 ka kr
      obtain ⟨px, py⟩ := p
      simp only at x0 x1
      have ka2 := fun ob => (KA.out.alloc ob).cell 0 _ rfl
      have ka3 := fun ob => (KA.out.alloc ob).cell 1 _ rfl
      have ka4 := fun ob ob' => ((KA.out.alloc ob).alloc ob').cell 0 _ rfl
      have ka5 := fun ob ob' => ((KA.out.alloc ob).alloc ob').cell 1 _ rfl
      have xl : ∀ ob, (w2.alloc ob).cell? ⟨g, o, none⟩ = some (.int .i64 px) := fun ob => (((Below.refl w2.heap.size w2).alloc (Nat.le_refl _) ob).cell (p := ⟨g, o, none⟩) (World.block_lt_of_cell? w2 _ x0)).trans x0
      have yl : ∀ ob, (w2.alloc ob).cell? ⟨g, o + 1, none⟩ = some (.int .i64 py) := fun ob => (((Below.refl w2.heap.size w2).alloc (Nat.le_refl _) ob).cell (p := ⟨g, o + 1, none⟩) (World.block_lt_of_cell? w2 _ x1)).trans x1
      have xl2 : ∀ ob ob', ((w2.alloc ob).alloc ob').cell? ⟨g, o, none⟩ = some (.int .i64 px) := fun ob ob' => (((Below.refl w2.heap.size w2).alloc (Nat.le_refl _) ob |>.alloc (by simp) ob').cell (p := ⟨g, o, none⟩) (World.block_lt_of_cell? w2 _ x0)).trans x0
      have yl2 : ∀ ob ob', ((w2.alloc ob).alloc ob').cell? ⟨g, o + 1, none⟩ = some (.int .i64 py) := fun ob ob' => (((Below.refl w2.heap.size w2).alloc (Nat.le_refl _) ob |>.alloc (by simp) ob').cell (p := ⟨g, o + 1, none⟩) (World.block_lt_of_cell? w2 _ x1)).trans x1
      have GA : Hid (Grp w B (B + 1) (w2.heap.size + 1) c (.slice (some ⟨g, o, none⟩) N cap) [⟨px, py⟩] (.slice (some ⟨w2.heap.size, 0, none⟩) 1 1) ((w2.alloc (.cells (pCells ⟨px, py⟩) 28)).alloc (.cells #[.bool c, .slice (some ⟨w2.heap.size, 0, none⟩) 1 1] 31)).drew) := Lib.hid
        ⟨((own_lit1 ⟨px, py⟩ rfl (by omega)).alloc _).drew, by simp [Value.ownBlock], (has_new (by simp)).drew, ((KR.out.alloc _).alloc _).drew, ((KA.out.alloc _).alloc _).drew, below_drew (by rw [HB.out]; exact ((HBL.out.trans (B2.out.mono (by have := HSZ.out; omega))).alloc (by omega) _).alloc (by simp; omega) _), by rw [HB.out]; omega, by omega, by omega⟩
      have GB : Hid (Grp w B (B + 1) w2.heap.size c (.slice (some ⟨g, o, none⟩) N cap) [⟨px, py⟩] (.slice (some ⟨w2.heap.size + 1, 0, none⟩) 1 1) ((w2.alloc (.cells #[.bool c, .slice (some ⟨w2.heap.size + 1, 0, none⟩) 1 1] 31)).alloc (.cells (pCells ⟨px, py⟩) 28)).drew) := Lib.hid
        ⟨(own_lit1 ⟨px, py⟩ (by simp) (by simp; omega)).drew, by simp [Value.ownBlock], ((has_new rfl).alloc _).drew, ((KR.out.alloc _).alloc _).drew, ((KA.out.alloc _).alloc _).drew, below_drew (by rw [HB.out]; exact ((HBL.out.trans (B2.out.mono (by have := HSZ.out; omega))).alloc (by omega) _).alloc (by simp; omega) _), by rw [HB.out]; omega, by omega, by omega⟩
      clear r0 r1 fz
      go_upto_region 3 with fail
      go_cut [3] (fun so wx => ∃ go gs, so = .pointer (some ⟨go, 0, none⟩) ∧ Grp w B (B + 1) go c (.slice (some ⟨g, o, none⟩) N cap) [⟨px, py⟩] (.slice (some ⟨gs, 0, none⟩) 1 1) wx)
      case first =>
        go_region
        all_goals
          go_wp2_with fail
          go_meet
          case rel => first | exact ⟨_, _, rfl, GA.out⟩ | exact ⟨_, _, rfl, GB.out⟩
      case rest =>
        obtain ⟨go, gs, rfl, hG⟩ := hcut
        have RW := Lib.hid (fun (wr : World) (hb : Below w.heap.size w wr) => (HSW.out.below hb (Nat.le_refl _)))
        have H0 := Lib.hid hG
        clear GA GB xl yl xl2 yl2 ka4 ka5 ka2 ka3 x0 x1 a0 a1 hG KA KR B2 HS HA HR HBL HSZ HE bS
        go_wp2
        go_loopw [4] (fun i wr => ∃ (k I : Nat) (lo : Value), 3 * k = I ∧ I + 1 ≤ N ∧ i = .int .i64 I ∧ Grp w B (B + 1) go c (.slice (some ⟨g, o, none⟩) N cap) (polyN ps k) lo wr) (fun i _ => 100 - (intOf i).toNat)
        case atStart => exact ⟨0, 0, _, rfl, by omega, rfl, by rw [show polyN ps 0 = [⟨px, py⟩] by rw [← HP.out]; rfl]; exact H0.out⟩
        case round =>
          obtain ⟨k, I, lo, hI, hIN, rfl, hG⟩ := hrel
          clear H0
          have GH := Lib.hid hG
          have s1 := hG.src.cell 1 _ rfl
          by_cases hlt : I + 3 < N
          · obtain ⟨g1, o1', eo, r, l1⟩ := (RW.out wr hG.below).row (by omega)
            simp at eo
            obtain ⟨rfl, rfl⟩ := eo
            obtain ⟨a, pa⟩ : ∃ p, pt ps I = p := ⟨_, rfl⟩
            obtain ⟨b, pb⟩ : ∃ p, pt ps (I + 1) = p := ⟨_, rfl⟩
            obtain ⟨cc, pc⟩ : ∃ p, pt ps (I + 2) = p := ⟨_, rfl⟩
            obtain ⟨d, pd⟩ : ∃ p, pt ps (I + 3) = p := ⟨_, rfl⟩
            have ra : Rg a := pa ▸ RG.out I (by omega)
            have rb : Rg b := pb ▸ RG.out (I + 1) (by omega)
            have rc : Rg cc := pc ▸ RG.out (I + 2) (by omega)
            have rd : Rg d := pd ▸ RG.out (I + 3) (by omega)
            have row : ∀ (R : World → Prop) (z : LaterR wr R), Prow z.to g o ps := fun R z => r.block (z.below.block g (r.lt (by omega)))
            have PX : Hid (∀ (R : World → Prop) (z : LaterR wr R), (z.to.cell? ⟨g, o + I * 2, none⟩ = some (.int .i64 a.x) ∧ z.to.cell? ⟨g, o + I * 2 + 1, none⟩ = some (.int .i64 a.y)) ∧ (z.to.cell? ⟨g, o + (I + 1) * 2, none⟩ = some (.int .i64 b.x) ∧ z.to.cell? ⟨g, o + (I + 1) * 2 + 1, none⟩ = some (.int .i64 b.y)) ∧ (z.to.cell? ⟨g, o + (I + 2) * 2, none⟩ = some (.int .i64 cc.x) ∧ z.to.cell? ⟨g, o + (I + 2) * 2 + 1, none⟩ = some (.int .i64 cc.y)) ∧ (z.to.cell? ⟨g, o + (I + 3) * 2, none⟩ = some (.int .i64 d.x) ∧ z.to.cell? ⟨g, o + (I + 3) * 2 + 1, none⟩ = some (.int .i64 d.y))) := Lib.hid (by
              intro R z
              have q := row R z
              have A0 := q.c0 I (by omega)
              have A1 := q.c1 I (by omega)
              have B0 := q.c0 (I + 1) (by omega)
              have B1 := q.c1 (I + 1) (by omega)
              have C0 := q.c0 (I + 2) (by omega)
              have C1 := q.c1 (I + 2) (by omega)
              have D0 := q.c0 (I + 3) (by omega)
              have D1 := q.c1 (I + 3) (by omega)
              rw [pa] at A0 A1
              rw [pb] at B0 B1
              rw [pc] at C0 C1
              rw [pd] at D0 D1
              exact ⟨⟨A0, A1⟩, ⟨B0, B1⟩, ⟨C0, C1⟩, ⟨D0, D1⟩⟩)
            have hst : polyN ps k ++ partL a b cc d = polyN ps (k + 1) := by
              show _ = polyN ps k ++ partL (pt ps (3 * k)) (pt ps (3 * k + 1)) (pt ps (3 * k + 2)) (pt ps (3 * k + 3))
              rw [hI, pa, pb, pc, pd]
            have EST := Lib.hid hst
            have EI := Lib.hid hI
            have PL := polyN_length ps k
            obtain ⟨ln, hln⟩ : ∃ n, (polyN ps k).length = n := ⟨_, rfl⟩
            have LN8 : Hid (ln + 8 ≤ 8796093022208) := Lib.hid (by omega)
            obtain ⟨aol, capl, hv⟩ := hG.own.len
            rw [hln] at hv
            subst hv
            have HLN := Lib.hid hln
            have o3 : (I : Int) + 3 < N := by omega
            have o4 : (N : Int) ≤ 97 := by omega
            clear hG pa pb pc pd r row l1 hln PL hst hI
            go_upto_region 7 with fail
            refine wp_region_gen 30 [23, 24, 25, 26, 27, 28, 29] [] [0, 0, 0, 0, 0, 0, 0, 0, 0, 0, 0, 0, 0, 0, 0, 0, 0, 0, 0, 0, 0, 0, 0, 1, 1, 1, 1, 1, 1, 1] (by kernel_rfl) (by kernel_rfl) (fun c a d v w h => by cases d <;> exact h) trivial (fun G w' => Vars wr.heap.size 28 zc (vs4 23 27 a b cc d) G w') (fun G w w' h hb => h.stay hb) Vars.start ?_
            apply Exists.intro
            refine ⟨fun R hR hN => ?_, ?_, ?_⟩
            · have y0 := fun z => LaterR.read (R := R) GH.out.src 1 _ rfl z
              have A0 := fun z => (PX.out R z).1.1
              have A1 := fun z => (PX.out R z).1.2
              have B0 := fun z => (PX.out R z).2.1.1
              have B1 := fun z => (PX.out R z).2.1.2
              have C0 := fun z => (PX.out R z).2.2.1.1
              have C1 := fun z => (PX.out R z).2.2.1.2
              have D0 := fun z => (PX.out R z).2.2.2.1
              have D1 := fun z => (PX.out R z).2.2.2.2
              simp only [quietL, takeA]
              repeat (go_big_quiet_step (fail))
              exact wpQuiet_nil rfl
            · intro i oo hi ho
              have hi' : i = 23 ∨ i = 24 ∨ i = 25 ∨ i = 26 ∨ i = 27 ∨ i = 28 ∨ i = 29 := by simpa using hi
              clear hi
              rcases hi' with rfl | rfl | rfl | rfl | rfl | rfl | rfl
              · cases ho
                intro G w' hG hGn hdep hb hR
                refine ⟨rfl, gives_none (by kernel_rfl) hGn ?_⟩
                unfold gives
                simp [go_sem]
                exact ⟨hb.alloc hb.size _, hR.alloc (i := 23) (s := 27) (cs := pCells a) rfl (by simp) (by intro y hy he; simp at hy; rcases hy with rfl | rfl | rfl | rfl <;> simp at he ⊢) hG hb.size⟩
              · cases ho
                intro G w' hG hGn hdep hb hR
                refine ⟨rfl, gives_none (by kernel_rfl) hGn ?_⟩
                unfold gives
                simp [go_sem]
                exact ⟨hb.alloc hb.size _, hR.alloc (i := 24) (s := 28) (cs := pCells b) rfl (by simp) (by intro y hy he; simp at hy; rcases hy with rfl | rfl | rfl | rfl <;> simp at he ⊢) hG hb.size⟩
              · cases ho
                intro G w' hG hGn hdep hb hR
                refine ⟨rfl, gives_none (by kernel_rfl) hGn ?_⟩
                unfold gives
                simp [go_sem]
                exact ⟨hb.alloc hb.size _, hR.alloc (i := 25) (s := 29) (cs := pCells cc) rfl (by simp) (by intro y hy he; simp at hy; rcases hy with rfl | rfl | rfl | rfl <;> simp at he ⊢) hG hb.size⟩
              · cases ho
                intro G w' hG hGn hdep hb hR
                refine ⟨rfl, gives_none (by kernel_rfl) hGn ?_⟩
                unfold gives
                simp [go_sem]
                exact ⟨hb.alloc hb.size _, hR.alloc (i := 26) (s := 30) (cs := pCells d) rfl (by simp) (by intro y hy he; simp at hy; rcases hy with rfl | rfl | rfl | rfl <;> simp at he ⊢) hG hb.size⟩
              · cases ho
                intro G w' hG hGn hdep hb hR
                obtain ⟨v, hv⟩ := Option.ne_none_iff_exists'.1 (hdep 23 (by simp) (by kernel_rfl))
                obtain ⟨gx, rfl, hgx, hhx⟩ := hR.has (23, 27, pCells a) (by simp) v hv
                rw [if_pos hG] at hhx
                refine ⟨rfl, gives_one (k := 23) (by kernel_rfl) hGn (by omega) hv ?_⟩
                have cx0 := hhx.cell 0 _ rfl
                have cx1 := hhx.cell 1 _ rfl
                have fx := has_fro hhx
                unfold gives
                simp [go_sem, dstAt, Act.put, cx0, cx1, fx]
                exact ⟨(hb.setCell hgx _).setCell hgx _, hR.store (i := 23) (s := 27) (za := .int .i64 0) (zb := .int .i64 0) rfl rfl (by simp) (by intro y hy he; simp at hy; rcases hy with rfl | rfl | rfl | rfl <;> simp at he ⊢) hv hG⟩
              · cases ho
                intro G w' hG hGn hdep hb hR
                obtain ⟨v, hv⟩ := Option.ne_none_iff_exists'.1 (hdep 24 (by simp) (by kernel_rfl))
                obtain ⟨gx, rfl, hgx, hhx⟩ := hR.has (24, 28, pCells b) (by simp) v hv
                rw [if_pos hG] at hhx
                refine ⟨rfl, gives_one (k := 24) (by kernel_rfl) hGn (by omega) hv ?_⟩
                have cx0 := hhx.cell 0 _ rfl
                have cx1 := hhx.cell 1 _ rfl
                have fx := has_fro hhx
                unfold gives
                simp [go_sem, dstAt, Act.put, cx0, cx1, fx]
                exact ⟨(hb.setCell hgx _).setCell hgx _, hR.store (i := 24) (s := 28) (za := .int .i64 0) (zb := .int .i64 0) rfl rfl (by simp) (by intro y hy he; simp at hy; rcases hy with rfl | rfl | rfl | rfl <;> simp at he ⊢) hv hG⟩
              · cases ho
                intro G w' hG hGn hdep hb hR
                obtain ⟨v, hv⟩ := Option.ne_none_iff_exists'.1 (hdep 25 (by simp) (by kernel_rfl))
                obtain ⟨gx, rfl, hgx, hhx⟩ := hR.has (25, 29, pCells cc) (by simp) v hv
                rw [if_pos hG] at hhx
                refine ⟨rfl, gives_one (k := 25) (by kernel_rfl) hGn (by omega) hv ?_⟩
                have cx0 := hhx.cell 0 _ rfl
                have cx1 := hhx.cell 1 _ rfl
                have fx := has_fro hhx
                unfold gives
                simp [go_sem, dstAt, Act.put, cx0, cx1, fx]
                exact ⟨(hb.setCell hgx _).setCell hgx _, hR.store (i := 25) (s := 29) (za := .int .i64 0) (zb := .int .i64 0) rfl rfl (by simp) (by intro y hy he; simp at hy; rcases hy with rfl | rfl | rfl | rfl <;> simp at he ⊢) hv hG⟩
            · intro G w3 hb3 hR hG hN
              obtain ⟨v0, e0⟩ := hG 23 (by simp)
              obtain ⟨v1, e1⟩ := hG 24 (by simp)
              obtain ⟨v2, e2⟩ := hG 25 (by simp)
              obtain ⟨v3, e3⟩ := hG 26 (by simp)
              obtain ⟨s0, t0⟩ := hG 27 (by simp)
              obtain ⟨s1', t1⟩ := hG 28 (by simp)
              obtain ⟨s2, t2⟩ := hG 29 (by simp)
              obtain ⟨g0, rfl, l0, k0⟩ := hR.has (23, 27, pCells a) (by simp) v0 e0
              obtain ⟨g1, rfl, l1, k1⟩ := hR.has (24, 28, pCells b) (by simp) v1 e1
              obtain ⟨g2, rfl, l2, k2⟩ := hR.has (25, 29, pCells cc) (by simp) v2 e2
              obtain ⟨g3, rfl, l3, k3⟩ := hR.has (26, 30, pCells d) (by simp) v3 e3
              rw [if_neg (by simp [t0])] at k0
              rw [if_neg (by simp [t1])] at k1
              rw [if_neg (by simp [t2])] at k2
              rw [if_pos (hN 30 (by simp))] at k3
              have n03 : g0 ≠ g3 := fun e => hR.ne (23, 27, pCells a) (by simp) (26, 30, pCells d) (by simp) (by simp) _ e0 (by rw [e3, e])
              have n13 : g1 ≠ g3 := fun e => hR.ne (24, 28, pCells b) (by simp) (26, 30, pCells d) (by simp) (by simp) _ e1 (by rw [e3, e])
              have n23 : g2 ≠ g3 := fun e => hR.ne (25, 29, pCells cc) (by simp) (26, 30, pCells d) (by simp) (by simp) _ e2 (by rw [e3, e])
              have nn : ∀ j, j < 23 → G j = none := fun j hj => hN j (by simp; omega)
              simp only [putV, dstAt, e0, e1, e2, e3, t0, t1, t2, nn 0 (by decide), nn 1 (by decide), nn 2 (by decide), nn 3 (by decide), nn 4 (by decide), nn 5 (by decide), nn 6 (by decide), nn 7 (by decide), nn 8 (by decide), nn 9 (by decide), nn 10 (by decide), nn 11 (by decide), nn 12 (by decide), nn 13 (by decide), nn 14 (by decide), nn 15 (by decide), nn 16 (by decide), nn 17 (by decide), nn 18 (by decide), nn 19 (by decide), nn 20 (by decide), nn 21 (by decide), nn 22 (by decide), List.drop_succ_cons, List.drop_zero, List.getElem?_cons_succ, List.getElem?_cons_zero, Option.bind_some]
              have c30 := k3.cell 0 _ rfl
              have c31 := k3.cell 1 _ rfl
              have f3 := has_fro k3
              obtain ⟨V, hV⟩ : ∃ V, (w3.setCell ⟨g3, 0, none⟩ (.int .i64 d.x)).setCell ⟨g3, 1, none⟩ (.int .i64 d.y) = V := ⟨_, rfl⟩
              have v0 : Has V g0 (pCells a) 28 := by rw [← hV]; exact hoff2 k0 (Ne.symm n03) _ _
              have v1 : Has V g1 (pCells b) 28 := by rw [← hV]; exact hoff2 k1 (Ne.symm n13) _ _
              have v2 : Has V g2 (pCells cc) 28 := by rw [← hV]; exact hoff2 k2 (Ne.symm n23) _ _
              have v3 : Has V g3 (pCells d) 28 := by rw [← hV]; exact hset2 k3 _ _
              have bV : Below wr.heap.size w3 V := by rw [← hV]; exact below_set2 l3 _ _
              have GV := Lib.hid (GH.out.later (hb3.trans bV))
              have V0 := Lib.hid v0
              have V1 := Lib.hid v1
              have V2 := Lib.hid v2
              have V3 := Lib.hid v3
              have HV := Lib.hid hV
              clear k0 k1 k2 k3 hb3 v0 v1 v2 v3 bV hV l0 l1 l2 l3 hR hG hN nn e0 e1 e2 e3 t0 t1 t2 n03 n13 n23
              go_upto_region 8 with fail
              rw [HV.out]
              clear c30 c31 f3 HV
              have a0 := V0.out.cell 0 _ rfl
              have a1 := V0.out.cell 1 _ rfl
              have b0 := V1.out.cell 0 _ rfl
              have b1 := V1.out.cell 1 _ rfl
              have c0 := V2.out.cell 0 _ rfl
              have c1 := V2.out.cell 1 _ rfl
              have d0 := V3.out.cell 0 _ rfl
              have d1 := V3.out.cell 1 _ rfl
              have m1 := GV.out.out.cell 1 _ rfl
              have sV : Hid (B + 1 + 1 ≤ V.heap.size) := Lib.hid GV.out.res.lt
              by_cases hst : b = a ∧ cc = d
              · obtain ⟨rfl, rfl⟩ := hst
                have EP : Hid (partL b b cc cc = [cc]) := Lib.hid (by unfold partL; rw [if_pos ⟨rfl, rfl⟩])
                have OW := Lib.hid (GV.out.own.alloc (.cells (pCells cc) 28))
                have SW : Hid (B + 1 + 1 ≤ (V.alloc (.cells (pCells cc) 28)).heap.size) := Lib.hid (by have := sV.out; simp; omega)
                have NF1 : Hid (ln + 1 ≤ 8796093022208) := Lib.hid (by have := LN8.out; omega)
                have GW := Lib.hid (GV.out.later ((Below.refl V.heap.size V).alloc (Nat.le_refl _) (.cells (pCells cc) 28)))
                go_wp2_with (at_builtin; refine wpList_append_pl rfl _ _ rfl ln HLN.out rfl V.heap.size 0 1 1 rfl [cc] rfl (by decide) NF1.out (prow_one cc _) OW.out SW.out ?_)
                intro g' cap' w4 ho hg hat
                have e0 := (GW.out.fine hg).1
                have e1 := (GW.out.fine hg).2
                rw [← EP.out, EST.out] at ho
                have G4 := Lib.hid (GW.out.put ho hg (hat.imp id (fun h => by simpa using h)))
                clear ho hg hat
                go_wp2
                go_roundw
                case rel => exact ⟨k + 1, I + 3, _, by have := EI.out; omega, by omega, by go_num, G4.out⟩
                case measure => simp [intOf]; omega
              · have EP : Hid (partL a b cc d = bendL 3 a b cc d) := Lib.hid (by unfold partL; rw [if_neg hst])
                have NE : a.x ≠ b.x ∨ (a.x = b.x ∧ a.y ≠ b.y) ∨ (a.x = b.x ∧ a.y = b.y ∧ cc.x ≠ d.x) ∨ (a.x = b.x ∧ a.y = b.y ∧ cc.x = d.x ∧ cc.y ≠ d.y) := by
                  obtain ⟨ax, ay⟩ := a
                  obtain ⟨bx, bY⟩ := b
                  obtain ⟨cx, cy⟩ := cc
                  obtain ⟨dx, dy⟩ := d
                  simp only [Pt.mk.injEq] at hst ⊢
                  omega
                have BD := Lib.hid (fun w => r8_Bend w ra rb rc rd)
                clear hst
                rcases NE with h | ⟨h, h2⟩ | ⟨h, h2, h3⟩ | ⟨h, h2, h3, h4⟩
                all_goals
                  go_upto_region 10 with fail
                  clear h
                  try clear h2
                  try clear h3
                  try clear h4
                  clear a0 a1 b0 b1 c0 c1 d0 d1 m1
                  refine wp_region_gen 7 [6] [] [0, 0, 0, 0, 0, 0, 1] (by kernel_rfl) (by kernel_rfl) (fun c a d v w h => by cases d <;> exact h) trivial (fun G w' => ∀ v, G 6 = some v → LstV V.heap.size 8 (bendL 3 a b cc d) v w') (fun G w w' h hb v hv => (h v hv).stay hb) (fun v hv => by cases hv) ?_
                  apply Exists.intro
                  refine ⟨fun R hR hN => ?_, ?_, ?_⟩
                  · have A0 := fun z => LaterR.read (R := R) V0.out 0 _ rfl z
                    have A1 := fun z => LaterR.read (R := R) V0.out 1 _ rfl z
                    have B0 := fun z => LaterR.read (R := R) V1.out 0 _ rfl z
                    have B1 := fun z => LaterR.read (R := R) V1.out 1 _ rfl z
                    have C0 := fun z => LaterR.read (R := R) V2.out 0 _ rfl z
                    have C1 := fun z => LaterR.read (R := R) V2.out 1 _ rfl z
                    have D0 := fun z => LaterR.read (R := R) V3.out 0 _ rfl z
                    have D1 := fun z => LaterR.read (R := R) V3.out 1 _ rfl z
                    have M1 := fun z => LaterR.read (R := R) GV.out.out 1 _ rfl z
                    simp only [quietL, takeA]
                    repeat (go_big_quiet_step (fail))
                    exact wpQuiet_nil rfl
                  · intro i oo hi ho
                    obtain rfl : i = 6 := by simpa using hi
                    cases ho
                    intro G w' hG hGn hdep hb hR
                    refine ⟨rfl, gives_none (by kernel_rfl) hGn ?_⟩
                    unfold gives
                    simp [go_sem]
                    refine (BD.out w').mono ?_
                    rintro r w'' ⟨gb, capb, rfl, hlb, hob, hbb⟩
                    exact ⟨_, rfl, hb.trans (hbb.mono hb.size), fun v hv => by rw [updV_eq] at hv; cases hv; exact ⟨gb, capb, rfl, hlb, hob.lower hb.size⟩⟩
                  · intro G w' hb hR hG hN
                    obtain ⟨v6, e6⟩ := hG 6 (by simp)
                    obtain ⟨g6, cap6, rfl, hl6, ho6⟩ := hR v6 e6
                    have n0 := hN 0 (by simp)
                    have n1 := hN 1 (by simp)
                    have n2 := hN 2 (by simp)
                    have n3 := hN 3 (by simp)
                    have n4 := hN 4 (by simp)
                    have n5 := hN 5 (by simp)
                    simp only [putV, dstAt, e6, n0, n1, n2, n3, n4, n5, List.drop_succ_cons, List.drop_zero, List.getElem?_cons_succ, List.getElem?_cons_zero, Option.bind_some]
                    have GW := Lib.hid (GV.out.later hb)
                    have R6 := Lib.hid (ho6.row (by omega) (by omega))
                    have L6 := Lib.hid hl6
                    have SW : Hid (B + 1 + 1 ≤ w'.heap.size) := Lib.hid GW.out.res.lt
                    clear hb hR hG hN n0 n1 n2 n3 n4 n5 hl6 ho6 e6
                    go_wp2_with (at_builtin; refine wpList_append_pl rfl _ _ rfl ln HLN.out rfl g6 0 8 cap6 rfl (bendL 3 a b cc d) L6.out (by decide) LN8.out R6.out GW.out.own SW.out ?_)
                    intro g' cap' w4 ho hg hat
                    have e0 := (GW.out.fine hg).1
                    have e1 := (GW.out.fine hg).2
                    rw [← EP.out, EST.out] at ho
                    have G4 := Lib.hid (GW.out.put ho hg hat)
                    clear ho hg hat
                    go_wp2
                    go_roundw
                    case rel => exact ⟨k + 1, I + 3, _, by have := EI.out; omega, by omega, by go_num, G4.out⟩
                    case measure => simp [intOf]; omega
          · have ek : k = (N - 1) / 3 := by omega
            have c0 := hG.out.cell 0 _ rfl
            have c1 := hG.out.cell 1 _ rfl
            have v0 := hG.res.cell 0 _ rfl
            have v1 := hG.res.cell 1 _ rfl
            have fz := has_fro hG.res
            obtain ⟨aol, capl, hv⟩ := hG.own.len
            obtain ⟨ln, hln⟩ : ∃ n, (polyN ps k).length = n := ⟨_, rfl⟩
            rw [hln] at hv
            subst hv
            have RR : Gives w c (flatL c ps) (.returned (.agg #[.bool c, .slice aol ln capl])) ((wr.setCell ⟨B + 1, 0, none⟩ (.bool c)).setCell ⟨B + 1, 1, none⟩ (.slice aol ln capl)) := by
              rw [EF.out, ← ek]
              exact gives_put (w := w) HB.out (hG.own.lower (by omega)) hG.far.1 (by omega) (by have := hG.below; rw [HB.out] at this; exact this) rfl _ _ rfl
            have RRH := Lib.hid RR
            have o3 : ¬ (I : Int) + 3 < N := by omega
            have o4 : (I : Int) ≤ 8796093022208 := by omega
            clear RR hG GH hln hI
            go_wp2
            refine bodyPost_ret (v := .agg #[.bool c, .slice aol ln capl]) (by simp [results, Try.results16, go_sem, v0, v1]) rfl ?_
            exact RRH.out

end Go.Proofs.Ytopepgifhnfbiaa
