/- Contracts of q.divDown and q.Div: for all numbers 65536 times the first by the second, rounded down and held, 0 where the second is 0; nothing in memory turns (the order that Go leaves open is drawn). -/
import Derived.Test.YtibgilaeepmheaaC
import Derived.Deep.Draws
import Derived.Lib.Hide
namespace Go.Proofs.Ytibgilaeepmheaa
open Go.RowKit
open M

def Drawn (v : Value) (w : World) (e : Ending) (w' : World) : Prop := e = .returned v ∧ ∃ n : Nat, w' = w.drewN n
theorem Drawn.same {v : Value} {w : World} : Drawn v w (.returned v) w := ⟨rfl, 0, rfl⟩

theorem dd_wrap {a b : Int} (a1 : -72057594037927936 ≤ a) (a2 : a ≤ 72057594037927936) : wrap64 (a.tdiv b) = a.tdiv b ∧ wrap64 (a.tdiv b - 1) = a.tdiv b - 1 := by
  have := tdiv_le a b
  unfold wrap64; omega

end Go.Proofs.Ytibgilaeepmheaa
