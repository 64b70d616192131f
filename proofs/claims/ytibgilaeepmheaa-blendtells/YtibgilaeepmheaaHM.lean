/- Contracts of hue.held, .mixPart, .Mix, .Luma: for all colours and shares what the plain arithmetic says; of the memory nothing that was there turns. Condition: the colours' parts are bytes. -/
import Derived.Test.YtibgilaeepmheaaHMath
import Derived.Test.YtibgilaeepmheaaK4
import Derived.Test.YtibgilaeepmheaaQt
namespace Go.Proofs.Ytibgilaeepmheaa
open Go.RowKit
open M

attribute [local go_sem] alloc_drewN setCell_drewN shape_drewN

/-- A colour's cells. -/
abbrev cCells (c : Cr) : Array Value := #[.int .u8 c.r, .int .u8 c.g, .int .u8 c.b, .int .u8 c.q]


theorem quiet2 {P : Program} {f : FuncId} {args : Array Value} {w : World} {m n : Nat} {v : Value} (h : Calls P f args (w.drewN (m + n)) fun e w' => e = .returned v ∧ w.drewN (m + n) = w') :
    Calls P f args (w.drewN (m + n)) fun e w'' => e = .returned v ∧ ∃ k, w'' = w.drewN (m + k) := h.mono fun _ _ ⟨a, b⟩ => ⟨a, n, b.symm⟩
/-- The first n parts mixed. -/
def upto (c : Cr) : Nat → Array Value
  | 0 => #[.int .u8 0, .int .u8 0, .int .u8 0, .int .u8 0]
  | 1 => #[.int .u8 c.r, .int .u8 0, .int .u8 0, .int .u8 0]
  | 2 => #[.int .u8 c.r, .int .u8 c.g, .int .u8 0, .int .u8 0]
  | 3 => #[.int .u8 c.r, .int .u8 c.g, .int .u8 c.b, .int .u8 0]
  | _ => #[.int .u8 c.r, .int .u8 c.g, .int .u8 c.b, .int .u8 c.q]
/-- Mix's world behind n rounds. -/
def mixing (w : World) (x y c : Cr) (n : Nat) : World :=
  (((w.alloc (.cells (cCells x) 29)).alloc (.cells (cCells y) 29)).alloc (.cells #[.int .u8 0, .int .u8 0, .int .u8 0, .int .u8 0] 29)).alloc (.cells (upto c n) 29)
theorem mixing_at (w : World) (x y c : Cr) (n : Nat) : mixing w x y c n = (((w.alloc (.cells (cCells x) 29)).alloc (.cells (cCells y) 29)).alloc (.cells #[.int .u8 0, .int .u8 0, .int .u8 0, .int .u8 0] 29)).alloc (.cells (upto c n) 29) := rfl
theorem mixed_below (w : World) (o1 o2 o3 o4 : Obj) (m : Nat) : Below w.heap.size w (((((w.alloc o1).alloc o2).alloc o3).alloc o4).drewN m) :=
  below_drewN (((((Below.refl _ _).alloc (Nat.le_refl _) _).alloc (by simp) _).alloc (by simp; omega) _).alloc (by simp; omega) _) _


end Go.Proofs.Ytibgilaeepmheaa
