/- A slice of keys among the arguments, opened: it is 'Arg' of some keys. No condition. -/
import Derived.Test.YtibgilaeepmheaaRI5
import Derived.Deep.Slices
import Derived.Deep.Fields
import Derived.ChangeSame
namespace Go.Proofs.Ytibgilaeepmheaa
open Go.RowKit Go.ChangeShapes Go.WideShapes Go.Deep
open M

section
variable {H : Type} {enc : TypeId × Value → H} {w : World} {base : Nat} {spare : Nat → Bool} {held : Bool}
theorem cells_i64 : Try.prog.cellsOf 2 = 1 := by kernel_rfl
theorem cells_int : Try.prog.cellsOf 3 = 1 := by kernel_rfl
theorem some_at {α : Type} {xs : List α} {i n : Nat} (h : xs.length = n) (hi : i < n) : ∃ x, xs[i]? = some x := ⟨_, List.getElem?_eq_getElem (by omega)⟩
theorem int_one {t : TypeId} {n : Nat} {c : Value} {x : Option (DataW H × List MemPlace)} (ht : Try.prog.underlying t = some (.int .i64)) (h : DataW.trod enc Try.prog w base spare held n t [c] = x) (hx : ∃ y, x = some y) : ∃ k : Int, c = .int .i64 k := by
  obtain ⟨y, rfl⟩ := hx
  obtain ⟨k, hk, _⟩ := DataW.trod_int ht h
  exact ⟨k, by simpa using hk⟩
end

end Go.Proofs.Ytibgilaeepmheaa
