/- Contract of key.At: for all keys, ticks and numbers what the plain arithmetic says; of the memory nothing that was there turns. -/
import Derived.Test.YtibgilaeepmheaaK5
namespace Go.Proofs.Ytibgilaeepmheaa
open Go.RowKit
open M

theorem atk_cases (ks : List Ky) (t no : Int) (h : 0 < ks.length) : (find ks t = -1 ∧ atk ks t no = (ky ks 0).v) ∨
    (∃ i : Nat, find ks t = i ∧ i + 1 = ks.length ∧ atk ks t no = (ky ks i).v) ∨ (∃ i : Nat, find ks t = i ∧ i + 1 < ks.length ∧ atk ks t no = tween (ky ks i) (ky ks (i + 1)) t) := by
  have hb := find_bd ks t
  unfold atk
  rw [if_neg (by omega)]
  by_cases h0 : find ks t < 0
  · exact Or.inl ⟨by omega, if_pos h0⟩
  · rw [if_neg h0]
    obtain ⟨i, hi⟩ := Int.eq_ofNat_of_zero_le (show 0 ≤ find ks t by omega)
    rw [hi]
    by_cases h1 : i + 1 = ks.length
    · exact Or.inr (Or.inl ⟨i, rfl, h1, if_pos (by omega)⟩)
    · refine Or.inr (Or.inr ⟨i, rfl, by omega, ?_⟩)
      rw [if_neg (by omega)]
      rfl

theorem Row.later {W : World} {g o : Nat} {ks : List Ky} (h : Row W g o ks) (hn : 0 < ks.length) (z : Later W) : Row z.to g o ks := h.below z.below (h.lt hn)


end Go.Proofs.Ytibgilaeepmheaa
