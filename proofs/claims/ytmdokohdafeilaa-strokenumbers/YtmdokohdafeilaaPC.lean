/- Contract of path.copied: the same places in memory of its own; of the memory nothing that was there turns. What a path that is begun ('api.Path{Closed: .., P: make(..)}') lays, in both orders. -/
import Derived.Test.YtmdokohdafeilaaPB
import Derived.BigRegion
namespace Go.Proofs.Ytmdokohdafeilaa
open Go.RowKit
open M

/-- A path of the call's own, of these places. -/
def Gives (w : World) (c : Bool) (ps : List Pt) (e : Ending) (w' : World) : Prop := ∃ v, e = .returned (.agg #[.bool c, v]) ∧ Pown w' w.heap.size v ps ∧ Below w.heap.size w w'
theorem Pown.drew {w : World} {B : Nat} {v : Value} {ps : List Pt} (h : Pown w B v ps) : Pown w.drew B v ps := h
theorem Has.drew {w : World} {g : Nat} {cs : Array Value} {t : TypeId} (h : Has w g cs t) : Has w.drew g cs t := h
end Go.Proofs.Ytmdokohdafeilaa
