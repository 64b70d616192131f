/- A struct of many cells that is stored whole, in one step ('setRow'): what lies where behind it. Conditions: those that each theorem names; no program is named here. -/
import Derived.Test.YtafaafaclijfiaaTail
import Derived.Laws.Tables
import Derived.Laws.Rows
namespace Go.Proofs.Ytafaafaclijfiaa
open Go Go.RowKit

theorem has_setRow {w : World} {g : Nat} {old cs : Array Value} {t : TypeId} (h : Has w g old t) : Has (w.setRow g cs) g cs t := setRow_heap w g old cs t (0, 0) h
theorem has_setRow_ne {w : World} {g k : Nat} {cs ds : Array Value} {t : TypeId} (h : Has w k ds t) (hne : k ≠ g) : Has (w.setRow g cs) k ds t := (setRow_other w g k cs hne).trans h
theorem below_setRow {w v : World} {g B : Nat} {cs : Array Value} (h : Below B w v) (hg : B ≤ g) : Below B w (v.setRow g cs) := by
  refine h.trans ⟨rfl, rfl, rfl, by simp [World.setRow], fun k hk => setRow_other v g k cs (by omega)⟩

end Go.Proofs.Ytafaafaclijfiaa
