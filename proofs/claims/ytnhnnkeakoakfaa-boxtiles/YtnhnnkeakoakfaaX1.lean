/- Contracts of trim.Span, trim.part and of the reference's Span: for all numbers and polys what the plain arithmetic says; of the memory nothing that was there turns. -/
import Derived.Test.YtnhnnkeakoakfaaXMath
import Derived.Test.YtnhnnkeakoakfaaN4
import Derived.Test.YtnhnnkeakoakfaaWant
namespace Go.Proofs.Ytnhnnkeakoakfaa
open Go Go.RowKit
open M

/-- A poly's part is stored into a block of the call's own. -/
theorem part_put {w V w3 : World} {r : Nat} {l : Value} {ps : List Pt} {cs : Array Value} (hb : Below w.heap.size w V) (hl : w.heap.size ≤ r) (hr : Has V r cs 34) (hs : cs.size = 2) (ho : Pown w3 V.heap.size l ps) (hb3 : Below V.heap.size V w3) :
    Gives w false ps (.returned (.agg #[.bool false, l])) ((w3.setCell ⟨r, 0, none⟩ (.bool false)).setCell ⟨r, 1, none⟩ l) ∧ Has ((w3.setCell ⟨r, 0, none⟩ (.bool false)).setCell ⟨r, 1, none⟩ l) r #[.bool false, l] 34 := by
  have k3 := hr.below hb3 hr.lt
  refine ⟨⟨l, rfl, (ho.lower hb.size).kept (grownBy_set (grownBy_set (World.grownBy.refl _ _) _ _) _ _) (fun k hk e => by simp at hk; have := (ho.base k e).1; have := hr.lt; omega), ((hb.trans (hb3.mono hb.size)).setCell hl _).setCell hl _⟩, ?_⟩
  have := has_set (has_set k3 0 (.bool false)) 1 l
  match cs, hs with
  | ⟨[x, y]⟩, _ => simpa using this

end Go.Proofs.Ytnhnnkeakoakfaa
