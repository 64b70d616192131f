/- Contract of mutoscoperef8.Keys on keys of paths as a tape makes them: whether all paths fit the first; of the memory nothing that was there turns. And of mutoscopelaw7.keys: true. -/
import Derived.Test.YtglbfpjjnboeaaaKK7
namespace Go.Proofs.Ytglbfpjjnboeaaa
open Go.RowKit
open M

/-- The share between two keys of a tape is what the document says. -/
theorem share_eq {x y : Pk} {t : Int} (hh : x.h = 0 ∨ x.h = 1) (h1 : x.t ≤ t) (h2 : ¬ y.t ≤ t) : atk [barev x 0, barev y 65536] t 0 = goes x.h x.a x.b x.c x.d (prt x.t y.t t) := by
  have e1 : ky [barev x 0, barev y 65536] 0 = barev x 0 := rfl
  have e2 : ky [barev x 0, barev y 65536] 1 = barev y 65536 := rfl
  have f : find [barev x 0, barev y 65536] t = 0 := by
    unfold find
    show findN _ t 2 = 0
    rw [findN_miss (by rw [e2]; exact h2), findN_hit (by rw [e1]; exact h1)]
    rfl
  unfold atk
  rw [f]
  rw [if_neg (by simp), if_neg (by decide), if_neg (by simp)]
  show tween (ky _ 0) (ky _ 1) t = _
  rw [e1, e2]
  unfold tween
  show mid 0 65536 (goes x.h x.a x.b x.c x.d (prt x.t y.t t)) = _
  have pb := prt_bd x.t y.t t
  have gb := goes_bd (h := x.h) (a := x.a) (b := x.b) (c := x.c) (d := x.d) (by omega) (by omega) pb.1 pb.2
  rw [mid_small (by omega) (by omega) (by omega) (by omega) gb.1 gb.2]
  omega
theorem find_hit {ks : List Ky} {t : Int} {n i : Nat} (h : findN ks t n = (i : Int)) : (ky ks i).t ≤ t ∧ ∀ j, i < j → j < n → ¬ (ky ks j).t ≤ t := by
  induction n with
  | zero => exfalso; unfold findN at h; omega
  | succ n ih =>
    by_cases hc : (ky ks n).t ≤ t
    · rw [findN_hit hc] at h
      have e : n = i := by omega
      subst e
      exact ⟨hc, fun j h1 h2 => by omega⟩
    · rw [findN_miss hc] at h
      obtain ⟨a, b⟩ := ih h
      refine ⟨a, fun j h1 h2 => ?_⟩
      by_cases e : j = n
      · subst e; exact hc
      · exact b j h1 (by omega)
theorem Mkd.same {ks : List Pk} (h : Mkd ks) (t : Int) : atps ks t = ratps ks t := by
  by_cases h0 : ks.length = 0
  · unfold atps ratps; rw [if_pos h0, if_pos h0]
  · have self : ∀ i, i < ks.length → morph (pk ks i).cl (pk ks i).ps (pk ks i).cl (pk ks i).ps 0 = (pk ks i).ps := fun i hi => by
      rw [morph_yes (by rw [fits_eq rfl]; simp)]
      exact midL_zero (h.small i hi) (h.small i hi) rfl
    rcases atp_cases ks t (by omega) with ⟨f1, _, f3⟩ | ⟨i, f1, f4, _, f3⟩ | ⟨i, f1, f4, _, f3⟩
    · rcases ratp_cases ks t (by omega) with ⟨g1, _, g3⟩ | ⟨j, g1, g4, _, g3⟩ | ⟨j, g1, g4, _, g3⟩
      · rw [f3, g3, self 0 (by omega)]
      · omega
      · omega
    · rcases ratp_cases ks t (by omega) with ⟨g1, _, g3⟩ | ⟨j, g1, g4, _, g3⟩ | ⟨j, g1, g4, _, g3⟩
      · omega
      · have e : i = j := by omega
        subst e
        rw [f3, g3, self i (by omega)]
      · omega
    · rcases ratp_cases ks t (by omega) with ⟨g1, _, g3⟩ | ⟨j, g1, g4, _, g3⟩ | ⟨j, g1, g4, _, g3⟩
      · omega
      · omega
      · have e : i = j := by omega
        subst e
        have hh := f1
        unfold find at hh
        rw [barep_length] at hh
        obtain ⟨a, b⟩ := find_hit hh
        have b1 := b (i + 1) (by omega) f4
        rw [ky_barep (by omega)] at a b1
        rw [f3, g3, share_eq (h.how i (by omega)) a b1]
theorem atps_few {ks : List Pk} (h : Mkd ks) (t : Int) : (atps ks t).length ≤ 8796093022208 := by
  by_cases h0 : ks.length = 0
  · unfold atps; rw [if_pos h0]; simp
  · rcases atp_cases ks t (by omega) with ⟨f1, _, f3⟩ | ⟨i, f1, f4, _, f3⟩ | ⟨i, f1, f4, _, f3⟩
    · rw [f3]; have := (h.pos (i := 0) (by omega)).2; omega
    · rw [f3]; have := (h.pos (i := i) (by omega)).2; omega
    · rw [f3, morph_length]; have := (h.pos (i := i) (by omega)).2; omega
theorem same_d (c : Bool) (ps : List Pt) : ((c == c) && decide (ps = ps)) = true := by simp

end Go.Proofs.Ytglbfpjjnboeaaa
