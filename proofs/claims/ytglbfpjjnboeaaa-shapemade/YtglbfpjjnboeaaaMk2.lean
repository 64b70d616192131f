/- Keys of paths as a tape's Shape makes them, three at most, of any how: they are right; what they tell at a tick is what the document says, a path that may be. No program is named here. -/
import Derived.Test.YtglbfpjjnboeaaaRK7
import Derived.Test.YtglbfpjjnboeaaaKG
import Derived.Test.YtglbfpjjnboeaaaEB
namespace Go.Proofs.Ytglbfpjjnboeaaa
open Go.RowKit
open M

/-- Keys of paths as a tape's Shape makes them. -/
structure Mk2 (ks : List Pk) : Prop where
  few : ks.length ≤ 3
  how : ∀ i, i < ks.length → okHow (pk ks i).h (pk ks i).a (pk ks i).b (pk ks i).c (pk ks i).d = true
  tick : ∀ i, i < ks.length → 0 ≤ (pk ks i).t ∧ (pk ks i).t ≤ 59
  up : ∀ i, i + 1 < ks.length → (pk ks i).t < (pk ks (i + 1)).t
  small : ∀ i, i < ks.length → Small (pk ks i).ps
  form : ∀ i, i < ks.length → ∃ n, 1 ≤ n ∧ n ≤ 6 ∧ (pk ks i).ps.length = 3 * n + 1
  fit : ∀ i, i < ks.length → fits (pk ks 0).cl (pk ks 0).ps (pk ks i).cl (pk ks i).ps = true
theorem Mk2.nil : Mk2 [] := ⟨by simp, fun i hi => by simp at hi, fun i hi => by simp at hi, fun i hi => by simp at hi, fun i hi => by simp at hi, fun i hi => by simp at hi, fun i hi => by simp at hi⟩
theorem Mk2.okP {ks : List Pk} (h : Mk2 ks) {i : Nat} (hi : i < ks.length) : okP (pk ks i).cl (pk ks i).ps = true := by
  obtain ⟨n, n1, n2, hl⟩ := h.form i hi
  rw [okP_pos (by omega), (h.small i hi).near]
  simp [okLen]
  omega
theorem Mk2.pos {ks : List Pk} (h : Mk2 ks) {i : Nat} (hi : i < ks.length) : 0 < (pk ks i).ps.length ∧ (pk ks i).ps.length ≤ 19 := by
  obtain ⟨n, n1, n2, hl⟩ := h.form i hi
  omega
theorem Mk2.rightN {ks : List Pk} (h : Mk2 ks) : ∀ n, n ≤ ks.length → M.rightN (barep ks) n = true
  | 0, _ => rfl
  | n + 1, hn => by
    have hi : n < ks.length := by omega
    have t1 := h.tick n hi
    unfold M.rightN
    rw [h.rightN n (by omega), ky_barep hi]
    have e : okK (barev (pk ks n) 0) = true := by
      unfold okK barev okIn
      simp only [h.how n hi]
      simp
      omega
    rw [e]
    by_cases e0 : n = 0
    · simp [e0]
    · rw [ky_barep (by omega)]
      have := h.up (n - 1) (by omega)
      rw [show n - 1 + 1 = n by omega] at this
      have e2 : decide ((barev (pk ks (n - 1)) 0).t < (barev (pk ks n) 0).t) = true := decide_eq_true this
      rw [e2]
      simp
theorem Mk2.right {ks : List Pk} (h : Mk2 ks) : M.right (barep ks) = true := by
  unfold M.right
  rw [barep_length, h.rightN _ (Nat.le_refl _)]
  have := h.few
  simp
  omega
theorem Mk2.allN {ks : List Pk} (h : Mk2 ks) : ∀ n, n ≤ ks.length → allN ks n = true
  | 0, _ => rfl
  | n + 1, hn => by
    have hi : n < ks.length := by omega
    have := (h.pos hi).1
    unfold Go.Proofs.Ytglbfpjjnboeaaa.allN
    rw [h.allN n (by omega), h.okP hi, h.fit n hi]
    simp
    intro e
    rw [e] at this
    simp at this
theorem Mk2.keys {ks : List Pk} (h : Mk2 ks) : keysOk ks = true := by
  unfold keysOk
  rw [h.right, h.allN _ (Nat.le_refl _)]
  rfl
/-- What lies between two numbers, by a share of twenty times One at most. -/
theorem mid_wide {x y k : Int} (x1 : -131072 ≤ x) (x2 : x ≤ 983039) (y1 : -131072 ≤ y) (y2 : y ≤ 983039) (k1 : -1310720 ≤ k) (k2 : k ≤ 1310720) :
    -33554432 ≤ mid x y k ∧ mid x y k ≤ 33554432 := by
  have b := prod_bound (x := y - x) (y := k) (b := 1114111) (c := 1310720) (by omega) (by omega) (by omega) (by omega)
  have e1 : add y (-(hold x)) = y - x := by
    unfold add; rw [hold_in (a := x) (by omega) (by omega), hold_in (a := y) (by omega) (by omega), hold_in (a := -x) (by omega) (by omega), hold_in (by omega) (by omega)]; omega
  have e2 : mul (y - x) k = (y - x) * k / 65536 := by
    unfold mul; rw [hold_in (a := y - x) (by omega) (by omega), hold_in (a := k) (by omega) (by omega)]
    generalize (y - x) * k = p at *
    exact hold_in (by omega) (by omega)
  unfold mid; rw [e1, e2]
  generalize (y - x) * k = p at *
  unfold add; rw [hold_in (a := x) (by omega) (by omega), hold_in (a := p / 65536) (by omega) (by omega), hold_in (by omega) (by omega)]
  omega
/-- Half a share is a share: what lies k of One between 0 and One is k. -/
theorem mid_self {k : Int} (k1 : -1310720 ≤ k) (k2 : k ≤ 1310720) : mid 0 65536 k = k := by
  have h0 : hold 0 = 0 := hold_in (by omega) (by omega)
  unfold mid
  rw [h0]
  have e1 : add 65536 (-0) = 65536 := by
    unfold add; rw [hold_in (a := 65536) (by omega) (by omega), hold_in (a := -0) (by omega) (by omega), hold_in (by omega) (by omega)]; omega
  rw [e1]
  have e2 : mul 65536 k = k := by
    unfold mul; rw [hold_in (a := 65536) (by omega) (by omega), hold_in (a := k) (by omega) (by omega), hold_in (by omega) (by omega)]; omega
  rw [e2]
  unfold add; rw [h0, hold_in (a := k) (by omega) (by omega), hold_in (by omega) (by omega)]; omega
theorem share_wide {x y : Pk} {t : Int} (ok : okHow x.h x.a x.b x.c x.d = true) (h1 : x.t ≤ t) (h2 : ¬ y.t ≤ t) : atk [barev x 0, barev y 65536] t 0 = goes x.h x.a x.b x.c x.d (prt x.t y.t t) := by
  have e1 : ky [barev x 0, barev y 65536] 0 = barev x 0 := rfl
  have e2 : ky [barev x 0, barev y 65536] 1 = barev y 65536 := rfl
  have f : find [barev x 0, barev y 65536] t = 0 := by
    unfold find
    show findN _ t 2 = 0
    rw [findN_miss (by rw [e2]; exact h2), findN_hit (by rw [e1]; exact h1)]
    rfl
  unfold atk
  rw [f]
  rw [if_neg (by simp), if_neg (by decide), if_neg (by simp)]
  show tween (ky _ 0) (ky _ 1) t = _
  rw [e1, e2]
  unfold tween
  show mid 0 65536 (goes x.h x.a x.b x.c x.d (prt x.t y.t t)) = _
  have pb := prt_bd x.t y.t t
  have gb := goes_wide ok pb.1 pb.2
  exact mid_self gb.1 gb.2
theorem Mk2.self {ks : List Pk} (h : Mk2 ks) {i : Nat} (hi : i < ks.length) : morph (pk ks i).cl (pk ks i).ps (pk ks i).cl (pk ks i).ps 0 = (pk ks i).ps := by
  rw [morph_yes (by rw [fits_eq rfl]; simp)]
  exact midL_zero (h.small i hi) (h.small i hi) rfl
theorem Mk2.share {ks : List Pk} (h : Mk2 ks) {t : Int} {i : Nat} (f1 : find (barep ks) t = i) (f4 : i + 1 < ks.length) :
    atk [barev (pk ks i) 0, barev (pk ks (i + 1)) 65536] t 0 = goes (pk ks i).h (pk ks i).a (pk ks i).b (pk ks i).c (pk ks i).d (prt (pk ks i).t (pk ks (i + 1)).t t) := by
  have hh := f1
  unfold find at hh
  rw [barep_length] at hh
  obtain ⟨a, b⟩ := find_hit hh
  have b1 := b (i + 1) (by omega) f4
  rw [ky_barep (by omega)] at a b1
  exact share_wide (h.how i (by omega)) a b1
theorem Mk2.same {ks : List Pk} (h : Mk2 ks) (t : Int) : atps ks t = ratps ks t := by
  by_cases h0 : ks.length = 0
  · unfold atps ratps; rw [if_pos h0, if_pos h0]
  · rcases atp_cases ks t (by omega) with ⟨f1, _, f3⟩ | ⟨i, f1, f4, _, f3⟩ | ⟨i, f1, f4, _, f3⟩
    · rcases ratp_cases ks t (by omega) with ⟨g1, _, g3⟩ | ⟨j, g1, g4, _, g3⟩ | ⟨j, g1, g4, _, g3⟩
      · rw [f3, g3, h.self (by omega)]
      · omega
      · omega
    · rcases ratp_cases ks t (by omega) with ⟨g1, _, g3⟩ | ⟨j, g1, g4, _, g3⟩ | ⟨j, g1, g4, _, g3⟩
      · omega
      · have e : i = j := by omega
        subst e
        rw [f3, g3, h.self (by omega)]
      · omega
    · rcases ratp_cases ks t (by omega) with ⟨g1, _, g3⟩ | ⟨j, g1, g4, _, g3⟩ | ⟨j, g1, g4, _, g3⟩
      · omega
      · omega
      · have e : i = j := by omega
        subst e
        rw [f3, g3, h.share f1 f4]
/-- Its path at any tick may be, and is not empty. -/
theorem Mk2.path {ks : List Pk} (h : Mk2 ks) (h0 : 0 < ks.length) (t : Int) : M.okP (atcl ks t) (atps ks t) = true ∧ 0 < (atps ks t).length ∧ (atps ks t).length ≤ 19 := by
  rcases atp_cases ks t h0 with ⟨f1, f2, f3⟩ | ⟨i, f1, f4, f2, f3⟩ | ⟨i, f1, f4, f2, f3⟩
  · rw [f2, f3]; exact ⟨h.okP h0, h.pos h0⟩
  · rw [f2, f3]; exact ⟨h.okP (by omega), h.pos (by omega)⟩
  · have hp := h.pos (i := i) (by omega)
    rw [f2, f3, morph_length]
    refine ⟨?_, hp⟩
    have pb := prt_bd (pk ks i).t (pk ks (i + 1)).t t
    have gb := goes_wide (h.how i (by omega)) pb.1 pb.2
    rw [h.share f1 f4]
    obtain ⟨g, hg⟩ : ∃ g, goes (pk ks i).h (pk ks i).a (pk ks i).b (pk ks i).c (pk ks i).d (prt (pk ks i).t (pk ks (i + 1)).t t) = g := ⟨_, rfl⟩
    rw [hg] at gb ⊢
    obtain ⟨n, n1, n2, hl⟩ := h.form i (by omega)
    have hf := h.okP (i := i) (by omega)
    have fi := h.fit i (by omega)
    have fj := h.fit (i + 1) f4
    have hll : (pk ks i).ps.length = (pk ks (i + 1)).ps.length := by
      unfold fits at fi fj
      simp at fi fj
      omega
    unfold morph
    split
    · rw [okP_pos (by rw [midL_length]; omega), midL_length]
      have o : okLen (pk ks i).ps.length = true := by rw [hl]; simp [okLen]; omega
      rw [o, Bool.true_and]
      apply nearL_all
      intro j hj
      rw [pt_midL hj]
      have p1 := h.small i (by omega) j hj
      have p2 := h.small (i + 1) f4 j (by omega)
      have m1 := mid_wide (k := g) p1.1 p1.2.1 p2.1 p2.2.1 gb.1 gb.2
      have m2 := mid_wide (k := g) p1.2.2.1 p1.2.2.2 p2.2.2.1 p2.2.2.2 gb.1 gb.2
      unfold midP nearP nearN
      simp
      omega
    · exact hf

end Go.Proofs.Ytglbfpjjnboeaaa
