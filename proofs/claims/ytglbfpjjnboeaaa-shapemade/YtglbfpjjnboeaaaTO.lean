/- Rectangles, ovals and stars of small numbers may stand in a document. Plain arithmetic: no program is named here. -/
import Derived.Test.YtglbfpjjnboeaaaShMath
import Derived.Test.YtglbfpjjnboeaaaEB
namespace Go.Proofs.Ytglbfpjjnboeaaa
open M

theorem strN_each {P : Pt → Prop} {ps : List Pt} (h : ∀ i, i < ps.length → P (pt ps i)) (h0 : 0 < ps.length) : ∀ n, n ≤ ps.length → ∀ q ∈ strN ps n, P q
  | 0, _, q, hq => by
    unfold strN at hq
    simp at hq
    rw [hq]; exact h 0 h0
  | n + 1, hn, q, hq => by
    unfold strN at hq
    simp only [List.mem_append, List.mem_cons, List.not_mem_nil, or_false] at hq
    have m := Nat.mod_lt (n + 1) h0
    rcases hq with hq | rfl | rfl | rfl
    · exact strN_each h h0 n (by omega) q hq
    · exact h n (by omega)
    · exact h _ m
    · exact h _ m
/-- A number that is near. -/
theorem near_mul {x k : Int} (x0 : -33554432 ≤ x) (x1 : x ≤ 33554432) (k0 : -65536 ≤ k) (k1 : k ≤ 65536) : -33554432 ≤ mul x k ∧ mul x k ≤ 33554432 := by
  have b := prod_bound (x := x) (y := k) (b := 33554432) (c := 65536) (by omega) (by omega) (by omega) (by omega)
  unfold mul
  rw [hold_in (a := x) (by omega) (by omega), hold_in (a := k) (by omega) (by omega)]
  generalize x * k = p at *
  rw [hold_in (by omega) (by omega)]
  omega
theorem okP_each {ps : List Pt} (hl : okLen ps.length = true) (h : ∀ q ∈ ps, nearP q = true) : okP true ps = true := by
  have h0 : ¬ ps.length = 0 := fun e => by rw [e] at hl; exact absurd hl (by decide)
  unfold okP
  rw [if_neg h0, hl, Bool.true_and]
  apply nearL_all
  intro i hi
  apply h
  have e : pt ps i = ps[i] := by unfold pt; simp [List.getD, hi]
  rw [e]
  exact List.getElem_mem hi
theorem near_of {p : Pt} (h : -33554433 ≤ p.x ∧ p.x ≤ 33554433 ∧ -33554433 ≤ p.y ∧ p.y ≤ 33554433) : nearP p = true := by
  simp [nearP, nearN]
  omega
theorem rect_ok {w h : Int} (w0 : -33554432 ≤ w) (w1 : w ≤ 33554432) (h0 : -33554432 ≤ h) (h1 : h ≤ 33554432) : okP true (rectL w h) = true := by
  apply okP_each
  · unfold rectL; rw [straightL_length]; simp [rectP, okLen]
  · intro q hq
    refine strN_each (P := fun q => nearP q = true) ?_ (by simp [rectP]) _ (Nat.le_refl _) q hq
    intro i hi
    simp [rectP] at hi
    rcases (show i = 0 ∨ i = 1 ∨ i = 2 ∨ i = 3 by omega) with rfl | rfl | rfl | rfl <;> (apply near_of; simp [rectP, pt]; omega)
theorem oval_ok {w h : Int} (w0 : -33554432 ≤ w) (w1 : w ≤ 33554432) (h0 : -33554432 ≤ h) (h1 : h ≤ 33554432) : okP true (ovalL w h) = true := by
  have a := near_mul (x := w / 2) (k := 36195) (by omega) (by omega) (by omega) (by omega)
  have b := near_mul (x := h / 2) (k := 36195) (by omega) (by omega) (by omega) (by omega)
  apply okP_each
  · simp [ovalL, ovalN, okLen]
  · intro q hq
    unfold ovalL at hq
    generalize mul (w / 2) 36195 = k at *
    generalize mul (h / 2) 36195 = l at *
    unfold ovalN at hq
    simp only [List.mem_cons, List.not_mem_nil, or_false] at hq
    rcases hq with rfl | rfl | rfl | rfl | rfl | rfl | rfl | rfl | rfl | rfl | rfl | rfl | rfl <;> (apply near_of; simp only; omega)
theorem star_ok {n r s : Int} (r0 : -33554432 ≤ r) (r1 : r ≤ 33554432) (s0 : -33554432 ≤ s) (s1 : s ≤ 33554432) : okP true (starL n r s) = true := by
  have pn : 2 ≤ points n ∧ points n ≤ 16 := by unfold points clamp; split <;> (try split) <;> omega
  obtain ⟨c, hc⟩ := Int.eq_ofNat_of_zero_le (show 0 ≤ points n by omega)
  apply okP_each
  · unfold starL
    rw [straightL_length, starN_length, hc]
    simp [okLen]
    omega
  · intro q hq
    unfold starL at hq
    refine strN_each (P := fun q => nearP q = true) ?_ (by rw [starN_length, hc]; simp; omega) _ (Nat.le_refl _) q hq
    intro i hi
    rw [starN_length] at hi
    have e : pt (starN (points n) r s (2 * (points n).toNat)) i = starP (points n) r s i := by unfold pt starN; simp [List.getD, hi]
    rw [e]
    have x := near_mul (x := if i % 2 = 1 then s else r) (k := cos (angle (points n) i)) (by split <;> omega) (by split <;> omega) (cos_bd _).1 (cos_bd _).2
    have y := near_mul (x := if i % 2 = 1 then s else r) (k := sin (angle (points n) i)) (by split <;> omega) (by split <;> omega) (sin_bd _).1 (sin_bd _).2
    apply near_of
    unfold starP
    simp only
    omega

end Go.Proofs.Ytglbfpjjnboeaaa
