/- Contracts of package ease (Right, Bend, Part, share, At): for all numbers what the plain arithmetic says; of the memory nothing that was there turns (a struct by value is laid in a new block). share alone has no bounds of its own: it halves whatever it is given. -/
import Derived.Test.YtibgilaeepmheaaC
import Derived.Test.YtibgilaeepmheaaEMath
import Derived.Test.YtibgilaeepmheaaTail
import Derived.WalkLawsBesides
import Derived.Lib.Hide
import Derived.Below
namespace Go.Proofs.Ytibgilaeepmheaa
open Go.RowKit
open M

theorem below_of {P : Program} {f : FuncId} {args : Array Value} {w : World} {v : Value} (h : Calls P f args w fun e w' => e = .returned v ∧ w = w') :
    Calls P f args w fun e w' => e = .returned v ∧ Below w.heap.size w w' := h.mono fun _ _ ⟨a, b⟩ => ⟨a, by rw [← b]; exact Below.refl _ _⟩

theorem part_cases (f o t : Int) : (hold t ≤ hold f ∧ prt f o t = 0) ∨ (hold f < hold t ∧ hold o ≤ hold t ∧ prt f o t = 65536) ∨ (hold f < hold t ∧ hold t < hold o ∧ prt f o t = 65536 * (hold t - hold f) / (hold o - hold f)) := by
  unfold prt
  by_cases h1 : hold t ≤ hold f
  · exact Or.inl ⟨h1, if_pos h1⟩
  · by_cases h2 : hold o ≤ hold t
    · exact Or.inr (Or.inl ⟨by omega, h2, by rw [if_neg h1, if_pos h2]⟩)
    · exact Or.inr (Or.inr ⟨by omega, by omega, by rw [if_neg h1, if_neg h2]⟩)
theorem quo_bd {n d : Int} (n0 : 0 ≤ n) (nd : n ≤ d) (d0 : 0 < d) : 0 ≤ 65536 * n / d ∧ 65536 * n / d ≤ 65536 := by
  refine ⟨Int.ediv_nonneg (by omega) (by omega), ?_⟩
  have : 65536 * n / d ≤ 65536 * d / d := Int.ediv_le_ediv d0 (by omega)
  rw [Int.mul_ediv_cancel _ (by omega)] at this
  exact this

theorem curve_cases (x1 y1 x2 y2 x : Int) : (x ≤ 0 ∧ curve x1 y1 x2 y2 x = 0) ∨ (0 < x ∧ 65536 ≤ x ∧ curve x1 y1 x2 y2 x = 65536) ∨ (0 < x ∧ x < 65536 ∧ curve x1 y1 x2 y2 x = bend y1 y2 (share x1 x2 x)) := by
  unfold curve
  by_cases h1 : x ≤ 0
  · exact Or.inl ⟨h1, if_pos h1⟩
  · by_cases h2 : 65536 ≤ x
    · exact Or.inr (Or.inl ⟨by omega, h2, by rw [if_neg h1, if_pos h2]⟩)
    · exact Or.inr (Or.inr ⟨by omega, by omega, by rw [if_neg h1, if_neg h2]⟩)

end Go.Proofs.Ytibgilaeepmheaa
