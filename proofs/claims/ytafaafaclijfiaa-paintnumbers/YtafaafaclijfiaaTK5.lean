/- Contracts of mutoscopekeep's Tape (ease, how): for every tape they give eases and ways that may be; the tape alone turns. -/
import Derived.Test.YtafaafaclijfiaaT5
namespace Go.Proofs.Ytafaafaclijfiaa
open Go.RowKit
open M

abbrev four0 : Array Value := #[.int .i64 0, .int .i64 0, .int .i64 0, .int .i64 0]
def Eases (w : World) (g : Nat) (v : Value) (e : Ending) (w' : World) : Prop := ∃ a b c d : Int, e = .returned (.agg #[.int .i64 a, .int .i64 b, .int .i64 c, .int .i64 d]) ∧ okE a b c d = true ∧ Tp w' g v ∧ w.grownBy w' (some g)
def Hows (w : World) (g : Nat) (v : Value) (e : Ending) (w' : World) : Prop := ∃ k a b c d : Int, e = .returned (.tuple #[.int .i64 k, .agg #[.int .i64 a, .int .i64 b, .int .i64 c, .int .i64 d]]) ∧ okHow k a b c d = true ∧ Tp w' g v ∧ w.grownBy w' (some g)
theorem tp_alloc {w : World} {g : Nat} {v : Value} (h : Tp w g v) (o : Obj) : Tp (w.alloc o) g v := h.blocks fun k hk => (MapKept.heap_alloc w o).2 k hk
theorem has_grown {w w' : World} {g h : Nat} {cs : Array Value} {t : TypeId} (hh : Has w h cs t) (hg : w.grownBy w' (some g)) (hne : h ≠ g) : Has w' h cs t := (hg.block h hh.lt (by simpa using hne)).trans hh


end Go.Proofs.Ytafaafaclijfiaa
