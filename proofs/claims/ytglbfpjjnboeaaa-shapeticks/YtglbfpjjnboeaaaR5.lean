/- Contracts of mutoscoperef5 (within, Ease, Bend, Part, Curve): for all numbers what the plain arithmetic says; of the memory nothing that was there turns. -/
import Derived.Test.YtglbfpjjnboeaaaJ
import Derived.Test.YtglbfpjjnboeaaaE4
namespace Go.Proofs.Ytglbfpjjnboeaaa
open Go.RowKit
open M

theorem below_drawn {P : Program} {f : FuncId} {args : Array Value} {w : World} {v : Value} (h : Calls P f args w (Drawn v w)) :
    Calls P f args w fun e w' => e = .returned v ∧ Below w.heap.size w w' := h.mono fun _ _ ⟨a, n, b⟩ => ⟨a, by rw [b]; exact below_drewN (Below.refl _ _) _⟩

theorem okE_and (x1 y1 x2 y2 : Int) : okE x1 y1 x2 y2 = ((okT x1 && okT x2) && (okV y1 && okV y2)) := by unfold okE; rw [Bool.and_assoc]
end Go.Proofs.Ytglbfpjjnboeaaa
