/- Ahead of the first tick and from the last one on keys, and keys of paths, tell the same at every tick. No program is named here. -/
import Derived.Test.YtglbfpjjnboeaaaTM
namespace Go.Proofs.Ytglbfpjjnboeaaa
open Go.RowKit
open M

theorem findN_none {ks : List Ky} {t : Int} : ∀ {n : Nat}, (∀ i, i < n → t < (ky ks i).t) → findN ks t n = -1
  | 0, _ => rfl
  | n + 1, h => by
    have := h n (by omega)
    rw [findN_miss (by omega)]
    exact findN_none fun i hi => h i (by omega)
theorem find_none {ks : List Ky} {t : Int} (h : ∀ i, i < ks.length → t < (ky ks i).t) : find ks t = -1 := findN_none h
theorem find_last {ks : List Ky} {t : Int} (h0 : 0 < ks.length) (h : (ky ks (ks.length - 1)).t ≤ t) : find ks t = (ks.length : Int) - 1 := by
  unfold find
  obtain ⟨n, hn⟩ : ∃ n, ks.length = n + 1 := ⟨ks.length - 1, by omega⟩
  rw [hn] at h ⊢
  rw [Nat.add_sub_cancel] at h
  rw [findN_hit h]
  omega
theorem K60.ahead {lo hi : Int} {ks : List Ky} (h : K60 lo hi ks) {s t : Int} (hs : s < 0) (ht : t < 0) : atk ks s 0 = atk ks t 0 := by
  have a := find_none (ks := ks) (t := s) (fun i hi => by have := (h.tick i hi).1; omega)
  have b := find_none (ks := ks) (t := t) (fun i hi => by have := (h.tick i hi).1; omega)
  unfold atk
  rw [a, b, if_pos (show (-1 : Int) < 0 by omega), if_pos (show (-1 : Int) < 0 by omega)]
theorem K60.behind {lo hi : Int} {ks : List Ky} (h : K60 lo hi ks) {s t : Int} (hs : 60 ≤ s) (ht : 60 ≤ t) : atk ks s 0 = atk ks t 0 := by
  have p := h.pos
  have q := (h.tick (ks.length - 1) (by omega)).2
  have a := find_last (t := s) p (by omega)
  have b := find_last (t := t) p (by omega)
  unfold atk
  rw [a, b, if_neg (by omega), if_neg (by omega), if_pos rfl, if_neg (by omega), if_neg (by omega), if_pos rfl]
theorem Mk2.ahead {ks : List Pk} (h : Mk2 ks) {s t : Int} (hs : s < 0) (ht : t < 0) : atps ks s = atps ks t ∧ atcl ks s = atcl ks t := by
  have f : ∀ u : Int, u < 0 → find (barep ks) u = -1 := fun u hu => find_none fun i hi => by
    rw [barep_length] at hi
    rw [ky_barep hi]
    have := (h.tick i hi).1
    show u < (pk ks i).t
    omega
  unfold atps atcl
  rw [f s hs, f t ht]
  exact ⟨rfl, rfl⟩
theorem Mk2.behind {ks : List Pk} (h : Mk2 ks) {s t : Int} (hs : 60 ≤ s) (ht : 60 ≤ t) : atps ks s = atps ks t ∧ atcl ks s = atcl ks t := by
  by_cases h0 : ks.length = 0
  · unfold atps atcl
    rw [if_pos h0, if_pos h0, if_pos h0, if_pos h0]
    exact ⟨rfl, rfl⟩
  · have f : ∀ u : Int, 60 ≤ u → find (barep ks) u = (ks.length : Int) - 1 := fun u hu => by
      have e := find_last (ks := barep ks) (t := u) (by rw [barep_length]; omega) (by
        rw [barep_length, ky_barep (by omega)]
        have := (h.tick (ks.length - 1) (by omega)).2
        show (pk ks (ks.length - 1)).t ≤ u
        omega)
      rw [barep_length] at e
      exact e
    unfold atps atcl
    rw [f s hs, f t ht]
    have n : ¬ ((ks.length : Int) - 1 < 0) := by omega
    simp only [if_neg h0, if_neg n, if_true, and_self]

end Go.Proofs.Ytglbfpjjnboeaaa
