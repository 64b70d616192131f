/-
  No cell of these rows narrows 'for every input' (looked for: loops, veiled, ifaces, maps, wideKeys, modest, calm, conditions, laid).
  DERIVED. THE GIVEN ROWS OF THIS SEAT. 3 by the template 'for every input the law returns true; each argument reads behind the call as it read before'; 0 by the template 'total and deterministic' (their statements: YtglbfpjjnboeaaaTotals.lean).
  GIVEN WITH THE SEED: the statements are not yours to turn. If you find one false, say at which input.
  Laid BY PROGRAM, IN A SANDBOX (cutbox-rows.mjs): the forced cells as the released guide's own fill.sh prints them over the translation 92d10330a97128ad… (all of the seat's roots in one cut). By AI agents, Wed Nov 11 2026. No macro, syntax, notation, axiom, sorry.
-/
import Derived.Test.YtglbfpjjnboeaaaChecked
import GoSem.Claim
import GoSem.ClaimJoined
import GoSem.ClaimMapViews
import Derived.JoinedTies
import Derived.KernelRfl
namespace Go.Proofs.Ytglbfpjjnboeaaa
/- THE CELL 'sum', in the pinned program and in every row, IS THE sha256 OF THE DUMP (.gsa) THAT YtglbfpjjnboeaaaProg.lean LOADS. Nothing in Lean hashes anything: it is a label: what it is worth is what the hold of that sum in a sandbox is worth. -/
noncomputable def Try.pinned : Pinned := { name := "ytglbfpjjnboeaaa", sum := "92d10330a97128ad4ac1ef2aa01eb90e656193e5ddf2840562694131ac059337", checked := Try.checked }
namespace Rows
def none {H : Type} : Left H := { results := [], args := [] }

/-- 'mutoscopelaw13.ShapeMade': WHATEVER THE INPUT: true; the input reads as it did. -/
def shapeMadeSpec : ChangeSpec := { name := "shapeMade", fn := fun _ => fun
  | [d1, d2] => { results := [.lit (.bool true)], args := [d1, d2] }
  | _ => none }
def shapeMadeRow : OpenClaim := { program := "ytglbfpjjnboeaaa", sum := "92d10330a97128ad4ac1ef2aa01eb90e656193e5ddf2840562694131ac059337", func := "mutoscope/mutoscopelaw13.ShapeMade", spec := "shapeMade", apart := false }
def ShapeMadeSaid : Prop := shapeMadeRow.holds Try.pinned (OpenSpec.ofChange shapeMadeSpec)

/-- ITS FALSE NEIGHBOUR: 'it returns false'. Refute it at one input. -/
def shapeMadeWrong : ChangeSpec := { name := "shapeMade", fn := fun _ => fun
  | [d1, d2] => { results := [.lit (.bool false)], args := [d1, d2] }
  | _ => none }
def ShapeMadeWrongFalsely : Prop := shapeMadeRow.holds Try.pinned (OpenSpec.ofChange shapeMadeWrong)

/-- 'mutoscopelaw13.ShapeSides': WHATEVER THE INPUT: true; the input reads as it did. -/
def shapeSidesSpec : ChangeSpec := { name := "shapeSides", fn := fun _ => fun
  | [d1, d2, d3] => { results := [.lit (.bool true)], args := [d1, d2, d3] }
  | _ => none }
def shapeSidesRow : OpenClaim := { program := "ytglbfpjjnboeaaa", sum := "92d10330a97128ad4ac1ef2aa01eb90e656193e5ddf2840562694131ac059337", func := "mutoscope/mutoscopelaw13.ShapeSides", spec := "shapeSides", apart := false }
def ShapeSidesSaid : Prop := shapeSidesRow.holds Try.pinned (OpenSpec.ofChange shapeSidesSpec)

/-- ITS FALSE NEIGHBOUR: 'it returns false'. Refute it at one input. -/
def shapeSidesWrong : ChangeSpec := { name := "shapeSides", fn := fun _ => fun
  | [d1, d2, d3] => { results := [.lit (.bool false)], args := [d1, d2, d3] }
  | _ => none }
def ShapeSidesWrongFalsely : Prop := shapeSidesRow.holds Try.pinned (OpenSpec.ofChange shapeSidesWrong)

/-- 'mutoscopelaw13.ShapeTicks': WHATEVER THE INPUT: true; the input reads as it did. -/
def shapeTicksSpec : ChangeSpec := { name := "shapeTicks", fn := fun _ => fun
  | [d1, d2] => { results := [.lit (.bool true)], args := [d1, d2] }
  | _ => none }
def shapeTicksRow : OpenClaim := { program := "ytglbfpjjnboeaaa", sum := "92d10330a97128ad4ac1ef2aa01eb90e656193e5ddf2840562694131ac059337", func := "mutoscope/mutoscopelaw13.ShapeTicks", spec := "shapeTicks", apart := false }
def ShapeTicksSaid : Prop := shapeTicksRow.holds Try.pinned (OpenSpec.ofChange shapeTicksSpec)

/-- ITS FALSE NEIGHBOUR: 'it returns false'. Refute it at one input. -/
def shapeTicksWrong : ChangeSpec := { name := "shapeTicks", fn := fun _ => fun
  | [d1, d2] => { results := [.lit (.bool false)], args := [d1, d2] }
  | _ => none }
def ShapeTicksWrongFalsely : Prop := shapeTicksRow.holds Try.pinned (OpenSpec.ofChange shapeTicksWrong)

/- THE SECOND FORM. 'bulk': how many values and letters a reading holds, each counted each time it is reached (what is shared counts as often as it is met; a slice's spare places count too). A statement '..UptoSaid' is the law's where the arguments, and the package variables that the reading takes, are together of bulk at most 1048576: NARROWER than '..Said'. Prove '..Said' where nothing that the law and all that it calls make is longer than what came in: it says more and counts as full. Else prove '..UptoSaid'. A law counts once. -/
mutual
def uptoBulk {H : Type} : DataW H → Nat
  | .lit (.string bytes) => bytes.length + 1
  | .lit _ => 1
  | .nil => 1
  | .ptr d => uptoBulk d + 1
  | .slice elems spare => uptoBulkAll elems + uptoBulkAll spare + 1
  | .agg parts => uptoBulkAll parts + 1
  | .iface _ d => uptoBulk d + 1
  | .map entries => uptoBulkEntries entries + 1
  | .held _ => 1
def uptoBulkAll {H : Type} : List (DataW H) → Nat
  | [] => 0
  | d :: r => uptoBulk d + uptoBulkAll r
def uptoBulkEntries {H : Type} : List (Lit × DataW H) → Nat
  | [] => 0
  | x :: r => uptoBulkEntry x + uptoBulkEntries r
def uptoBulkEntry {H : Type} : Lit × DataW H → Nat
  | (.string bytes, d) => bytes.length + uptoBulk d + 1
  | (_, d) => uptoBulk d + 1
 end
def uptoSmall : (H : Type) → List (DataW H) → Bool := fun _ ds => decide (uptoBulkAll ds ≤ 1048576)
def OpenSpec.upto (s : _root_.Go.ChangeSpec) : _root_.Go.OpenSpec := { _root_.Go.OpenSpec.ofChange s with cond := some uptoSmall }

/-- 'mutoscopelaw13.ShapeMade', WHERE WHAT IT READS IS OF BULK AT MOST 1048576: true; the input reads as it did. -/
def shapeMadeUptoRow : OpenClaim := { program := "ytglbfpjjnboeaaa", sum := "92d10330a97128ad4ac1ef2aa01eb90e656193e5ddf2840562694131ac059337", func := "mutoscope/mutoscopelaw13.ShapeMade", spec := "shapeMade", apart := false, narrowed := true }
def ShapeMadeUptoSaid : Prop := shapeMadeUptoRow.holds Try.pinned (OpenSpec.upto shapeMadeSpec)

/-- 'mutoscopelaw13.ShapeSides', WHERE WHAT IT READS IS OF BULK AT MOST 1048576: true; the input reads as it did. -/
def shapeSidesUptoRow : OpenClaim := { program := "ytglbfpjjnboeaaa", sum := "92d10330a97128ad4ac1ef2aa01eb90e656193e5ddf2840562694131ac059337", func := "mutoscope/mutoscopelaw13.ShapeSides", spec := "shapeSides", apart := false, narrowed := true }
def ShapeSidesUptoSaid : Prop := shapeSidesUptoRow.holds Try.pinned (OpenSpec.upto shapeSidesSpec)

/-- 'mutoscopelaw13.ShapeTicks', WHERE WHAT IT READS IS OF BULK AT MOST 1048576: true; the input reads as it did. -/
def shapeTicksUptoRow : OpenClaim := { program := "ytglbfpjjnboeaaa", sum := "92d10330a97128ad4ac1ef2aa01eb90e656193e5ddf2840562694131ac059337", func := "mutoscope/mutoscopelaw13.ShapeTicks", spec := "shapeTicks", apart := false, narrowed := true }
def ShapeTicksUptoSaid : Prop := shapeTicksUptoRow.holds Try.pinned (OpenSpec.upto shapeTicksSpec)

end Rows
end Go.Proofs.Ytglbfpjjnboeaaa
