/- Contract of mutoscoperef8.At: for all keys of paths and ticks what the plain arithmetic says, in memory of its own; of the memory nothing that was there turns. -/
import Derived.Test.YtglbfpjjnboeaaaKA7
import Derived.Test.YtglbfpjjnboeaaaQM
import Derived.Test.YtglbfpjjnboeaaaR5
import Derived.Test.YtglbfpjjnboeaaaKA5
import Derived.Test.YtglbfpjjnboeaaaJ
namespace Go.Proofs.Ytglbfpjjnboeaaa
open Go.RowKit
open M

def ratps (ks : List Pk) (t : Int) : List Pt :=
  if ks.length = 0 then []
  else if find (barep ks) t < 0 then morph (pk ks 0).cl (pk ks 0).ps (pk ks 0).cl (pk ks 0).ps 0
  else if find (barep ks) t = (ks.length : Int) - 1 then morph (pk ks (find (barep ks) t).toNat).cl (pk ks (find (barep ks) t).toNat).ps (pk ks (find (barep ks) t).toNat).cl (pk ks (find (barep ks) t).toNat).ps 0
  else morph (pk ks (find (barep ks) t).toNat).cl (pk ks (find (barep ks) t).toNat).ps (pk ks ((find (barep ks) t).toNat + 1)).cl (pk ks ((find (barep ks) t).toNat + 1)).ps (goes (pk ks (find (barep ks) t).toNat).h (pk ks (find (barep ks) t).toNat).a (pk ks (find (barep ks) t).toNat).b (pk ks (find (barep ks) t).toNat).c (pk ks (find (barep ks) t).toNat).d (prt (pk ks (find (barep ks) t).toNat).t (pk ks ((find (barep ks) t).toNat + 1)).t t))
theorem ratp_cases (ks : List Pk) (t : Int) (h : 0 < ks.length) : (find (barep ks) t = -1 ∧ atcl ks t = (pk ks 0).cl ∧ ratps ks t = morph (pk ks 0).cl (pk ks 0).ps (pk ks 0).cl (pk ks 0).ps 0) ∨
    (∃ i : Nat, find (barep ks) t = i ∧ i + 1 = ks.length ∧ atcl ks t = (pk ks i).cl ∧ ratps ks t = morph (pk ks i).cl (pk ks i).ps (pk ks i).cl (pk ks i).ps 0) ∨
    ∃ i : Nat, find (barep ks) t = i ∧ i + 1 < ks.length ∧ atcl ks t = (pk ks i).cl ∧ ratps ks t = morph (pk ks i).cl (pk ks i).ps (pk ks (i + 1)).cl (pk ks (i + 1)).ps (goes (pk ks i).h (pk ks i).a (pk ks i).b (pk ks i).c (pk ks i).d (prt (pk ks i).t (pk ks (i + 1)).t t)) := by
  have hb := find_bd (barep ks) t
  rw [barep_length] at hb
  have e : ¬ ks.length = 0 := by omega
  unfold atcl ratps
  rw [if_neg e, if_neg e]
  by_cases h0 : find (barep ks) t < 0
  · left
    rw [if_pos h0, if_pos h0]
    exact ⟨by omega, rfl, rfl⟩
  · right
    obtain ⟨i, hi⟩ := Int.eq_ofNat_of_zero_le (show 0 ≤ find (barep ks) t by omega)
    rw [if_neg h0, if_neg h0, hi]
    by_cases h1 : (i : Int) = (ks.length : Int) - 1
    · left
      rw [if_pos h1]
      exact ⟨i, rfl, by omega, rfl, rfl⟩
    · right
      rw [if_neg h1]
      exact ⟨i, rfl, by omega, rfl, rfl⟩

end Go.Proofs.Ytglbfpjjnboeaaa
