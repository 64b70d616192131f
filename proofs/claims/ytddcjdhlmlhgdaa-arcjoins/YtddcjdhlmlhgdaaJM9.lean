/- The plain arithmetic of a line that is parted at a corner. No condition but those that the theorems name; no program is named here. -/
import Derived.Test.YtddcjdhlmlhgdaaCM9
namespace Go.Proofs.Ytddcjdhlmlhgdaa
namespace M

theorem pt_take {ps : List Pt} {n i : Nat} (hi : i < n) : pt (ps.take n) i = pt ps i := by
  unfold pt
  rw [List.getD_eq_getElem?_getD, List.getD_eq_getElem?_getD, List.getElem?_take, if_pos hi]
theorem pt_drop (ps : List Pt) (n i : Nat) : pt (ps.drop n) i = pt ps (n + i) := by
  unfold pt
  rw [List.getD_eq_getElem?_getD, List.getD_eq_getElem?_getD, List.getElem?_drop]
theorem take_side {ps : List Pt} {k i : Nat} (hk : k < ps.length) (hi : i < k) : sideL (ps.take (k + 1)) i = sideL ps i := by
  unfold sideL sa sb
  rw [List.length_take, Nat.min_eq_left (by omega), nxt_in (n := k + 1) (i := i) (by omega), nxt_in (n := ps.length) (i := i) (by omega), pt_take (by omega), pt_take (by omega)]
theorem drop_side {ps : List Pt} {k i : Nat} (hi : k + i + 1 < ps.length) : sideL ps (k + i) = sideL (ps.drop k) i := by
  unfold sideL sa sb
  rw [List.length_drop, nxt_in (n := ps.length - k) (i := i) (by omega), nxt_in (n := ps.length) (i := k + i) (by omega), pt_drop, pt_drop, Nat.add_assoc]
/-- The first piece is as long as the sides ahead of the corner. -/
theorem take_long {ps : List Pt} {k : Nat} (h : ps.length ≤ 700) (hk : k < ps.length) : lengthL false (ps.take (k + 1)) = lenN ps k := by
  unfold lengthL
  rw [List.length_take, Nat.min_eq_left (by omega)]
  by_cases h0 : k = 0
  · subst h0; rw [sidesN_few _ (by omega), lenN_zero, lenN_zero]
  · rw [sidesN_open (by omega)]
    exact lenN_same (by omega) fun i hi => take_side hk (by omega)
theorem drop_long {ps : List Pt} {k : Nat} (h : ps.length ≤ 700) (hk : k < ps.length) : lengthL false (ps.drop k) = lenN ps (ps.length - 1) - lenN ps k := by
  unfold lengthL
  rw [List.length_drop]
  have j := lenN_join (ps := ps) (qs := ps.drop k) (k := k) (j := ps.length - 1 - k) (by omega) (fun i hi => drop_side (by omega))
  rw [show k + (ps.length - 1 - k) = ps.length - 1 by omega] at j
  by_cases h0 : ps.length - k < 2
  · rw [sidesN_few _ h0]
    have e : ps.length - 1 - k = 0 := by omega
    rw [e, lenN_zero] at j
    rw [lenN_zero]
    omega
  · rw [sidesN_open h0, show ps.length - k - 1 = ps.length - 1 - k by omega]
    omega
theorem open_long {ps : List Pt} (h2 : ¬ ps.length < 2) : lengthL false ps = lenN ps (ps.length - 1) := by
  unfold lengthL
  rw [sidesN_open h2]
/-- What the part from a corner on is. -/
theorem join_part {ps : List Pt} {k : Nat} (h : ps.length ≤ 700) (h2 : ¬ ps.length < 2) (hk : k < ps.length) :
    lengthL false (cutL false ps (lenN ps k) (lengthL false ps)) = lenN ps (ps.length - 1) - lenN ps k ∧ ((cutL false ps (lenN ps k) (lengthL false ps)).length = 0 ∨ pt (cutL false ps (lenN ps k) (lengthL false ps)) 0 = sa ps k) := by
  rw [open_long h2]
  have hm := lenN_mono (ps := ps) (i := k) (j := ps.length - 1) (by omega) (by omega)
  by_cases e : lenN ps (ps.length - 1) ≤ lenN ps k
  · rw [cutL_no (by rw [hold_len, hold_len]; exact e)]
    exact ⟨by show lenN [] 0 = _; rw [lenN_zero]; omega, Or.inl rfl⟩
  · rw [cutL_yes (by rw [hold_len, hold_len]; exact e), hold_len, hold_len, sidesN_open h2]
    have c := cut_cor (ps := ps) (k := k) (M := ps.length - 1 - k) (by omega) (Nat.le_refl _)
    rw [show k + (ps.length - 1 - k) = ps.length - 1 by omega] at c
    rw [c]
    have hc : Chain ps k (ps.length - 1 - k) := chain_in (by omega)
    refine ⟨?_, ?_⟩
    · rw [cor_long (by omega) hc, show k + (ps.length - 1 - k) = ps.length - 1 by omega]
    · rcases cor_inv (by omega) hc (Nat.le_refl _) with ⟨h0, _⟩ | ⟨L, _, _, h3, _⟩
      · exact Or.inl h0
      · exact Or.inr h3
/-- The corner's number. -/
theorem corner_mod {at_ : Int} {N : Nat} (hN : 0 < N) : ∃ k : Nat, k < N ∧ Int.tmod (Int.tmod at_ (N : Int) + (N : Int)) (N : Int) = (k : Int) ∧ -(N : Int) < Int.tmod at_ (N : Int) ∧ Int.tmod at_ (N : Int) < N := by
  have b := tmod_lt at_ (N : Int) (by omega)
  have h0 : 0 ≤ Int.tmod at_ (N : Int) + (N : Int) := by omega
  rw [Int.tmod_eq_emod_of_nonneg h0]
  have q1 := Int.emod_nonneg (Int.tmod at_ (N : Int) + (N : Int)) (show (N : Int) ≠ 0 by omega)
  have q2 := Int.emod_lt_of_pos (Int.tmod at_ (N : Int) + (N : Int)) (show (0 : Int) < N by omega)
  refine ⟨((Int.tmod at_ (N : Int) + (N : Int)) % (N : Int)).toNat, by omega, by omega, by omega, by omega⟩

end M
end Go.Proofs.Ytddcjdhlmlhgdaa
