/-
  No cell of these rows narrows 'for every input' (looked for: loops, veiled, ifaces, maps, wideKeys, modest, calm, conditions, laid).
  DERIVED. THE GIVEN ROWS OF THIS SEAT. 4 by the template 'for every input the law returns true; each argument reads behind the call as it read before'; 0 by the template 'total and deterministic' (their statements: YtafaafaclijfiaaTotals.lean).
  GIVEN WITH THE SEED: the statements are not yours to turn. If you find one false, say at which input.
  Laid BY PROGRAM, IN A SANDBOX (cutbox-rows.mjs): the forced cells as the released guide's own fill.sh prints them over the translation b65ba7a9be59e193… (all of the seat's roots in one cut). By AI agents, Wed Nov 11 2026. No macro, syntax, notation, axiom, sorry.
-/
import Derived.Test.YtafaafaclijfiaaChecked
import GoSem.Claim
import GoSem.ClaimJoined
import GoSem.ClaimMapViews
import Derived.JoinedTies
import Derived.KernelRfl
namespace Go.Proofs.Ytafaafaclijfiaa
/- THE CELL 'sum', in the pinned program and in every row, IS THE sha256 OF THE DUMP (.gsa) THAT YtafaafaclijfiaaProg.lean LOADS. Nothing in Lean hashes anything: it is a label: what it is worth is what the hold of that sum in a sandbox is worth. -/
noncomputable def Try.pinned : Pinned := { name := "ytafaafaclijfiaa", sum := "b65ba7a9be59e193cca2983acde32d2172dfa834bdfc95dca183233ac3c14eb7", checked := Try.checked }
namespace Rows
def none {H : Type} : Left H := { results := [], args := [] }

/-- 'mutoscopelaw16.PaintNumbers': WHATEVER THE INPUT: true; the input reads as it did. -/
def paintNumbersSpec : ChangeSpec := { name := "paintNumbers", fn := fun _ => fun
  | [] => { results := [.lit (.bool true)], args := [] }
  | _ => none }
def paintNumbersRow : OpenClaim := { program := "ytafaafaclijfiaa", sum := "b65ba7a9be59e193cca2983acde32d2172dfa834bdfc95dca183233ac3c14eb7", func := "mutoscope/mutoscopelaw16.PaintNumbers", spec := "paintNumbers", named := ["math/bits.divideError", "math/bits.overflowError"], apart := false }
def PaintNumbersSaid : Prop := paintNumbersRow.holds Try.pinned (OpenSpec.ofChange paintNumbersSpec)

/-- ITS FALSE NEIGHBOUR: 'it returns false'. Refute it at one input. -/
def paintNumbersWrong : ChangeSpec := { name := "paintNumbers", fn := fun _ => fun
  | [] => { results := [.lit (.bool false)], args := [] }
  | _ => none }
def PaintNumbersWrongFalsely : Prop := paintNumbersRow.holds Try.pinned (OpenSpec.ofChange paintNumbersWrong)

/-- 'mutoscopelaw16.PaintTells': WHATEVER THE INPUT: true; the input reads as it did. -/
def paintTellsSpec : ChangeSpec := { name := "paintTells", fn := fun _ => fun
  | [d1, d2, d3, d4, d5] => { results := [.lit (.bool true)], args := [d1, d2, d3, d4, d5] }
  | _ => none }
def paintTellsRow : OpenClaim := { program := "ytafaafaclijfiaa", sum := "b65ba7a9be59e193cca2983acde32d2172dfa834bdfc95dca183233ac3c14eb7", func := "mutoscope/mutoscopelaw16.PaintTells", spec := "paintTells", named := ["math/bits.divideError", "math/bits.overflowError"], apart := false }
def PaintTellsSaid : Prop := paintTellsRow.holds Try.pinned (OpenSpec.ofChange paintTellsSpec)

/-- ITS FALSE NEIGHBOUR: 'it returns false'. Refute it at one input. -/
def paintTellsWrong : ChangeSpec := { name := "paintTells", fn := fun _ => fun
  | [d1, d2, d3, d4, d5] => { results := [.lit (.bool false)], args := [d1, d2, d3, d4, d5] }
  | _ => none }
def PaintTellsWrongFalsely : Prop := paintTellsRow.holds Try.pinned (OpenSpec.ofChange paintTellsWrong)

/-- 'mutoscopelaw16.PaintWays': WHATEVER THE INPUT: true; the input reads as it did. -/
def paintWaysSpec : ChangeSpec := { name := "paintWays", fn := fun _ => fun
  | [d1, d2, d3] => { results := [.lit (.bool true)], args := [d1, d2, d3] }
  | _ => none }
def paintWaysRow : OpenClaim := { program := "ytafaafaclijfiaa", sum := "b65ba7a9be59e193cca2983acde32d2172dfa834bdfc95dca183233ac3c14eb7", func := "mutoscope/mutoscopelaw16.PaintWays", spec := "paintWays", apart := false }
def PaintWaysSaid : Prop := paintWaysRow.holds Try.pinned (OpenSpec.ofChange paintWaysSpec)

/-- ITS FALSE NEIGHBOUR: 'it returns false'. Refute it at one input. -/
def paintWaysWrong : ChangeSpec := { name := "paintWays", fn := fun _ => fun
  | [d1, d2, d3] => { results := [.lit (.bool false)], args := [d1, d2, d3] }
  | _ => none }
def PaintWaysWrongFalsely : Prop := paintWaysRow.holds Try.pinned (OpenSpec.ofChange paintWaysWrong)

/-- 'mutoscopelaw16.PaintEnds': WHATEVER THE INPUT: true; the input reads as it did. -/
def paintEndsSpec : ChangeSpec := { name := "paintEnds", fn := fun _ => fun
  | [d1, d2, d3, d4, d5] => { results := [.lit (.bool true)], args := [d1, d2, d3, d4, d5] }
  | _ => none }
def paintEndsRow : OpenClaim := { program := "ytafaafaclijfiaa", sum := "b65ba7a9be59e193cca2983acde32d2172dfa834bdfc95dca183233ac3c14eb7", func := "mutoscope/mutoscopelaw16.PaintEnds", spec := "paintEnds", apart := false }
def PaintEndsSaid : Prop := paintEndsRow.holds Try.pinned (OpenSpec.ofChange paintEndsSpec)

/-- ITS FALSE NEIGHBOUR: 'it returns false'. Refute it at one input. -/
def paintEndsWrong : ChangeSpec := { name := "paintEnds", fn := fun _ => fun
  | [d1, d2, d3, d4, d5] => { results := [.lit (.bool false)], args := [d1, d2, d3, d4, d5] }
  | _ => none }
def PaintEndsWrongFalsely : Prop := paintEndsRow.holds Try.pinned (OpenSpec.ofChange paintEndsWrong)

/- THE SECOND FORM. 'bulk': how many values and letters a reading holds, each counted each time it is reached (what is shared counts as often as it is met; a slice's spare places count too). A statement '..UptoSaid' is the law's where the arguments, and the package variables that the reading takes, are together of bulk at most 1048576: NARROWER than '..Said'. Prove '..Said' where nothing that the law and all that it calls make is longer than what came in: it says more and counts as full. Else prove '..UptoSaid'. A law counts once. -/
mutual
def uptoBulk {H : Type} : DataW H → Nat
  | .lit (.string bytes) => bytes.length + 1
  | .lit _ => 1
  | .nil => 1
  | .ptr d => uptoBulk d + 1
  | .slice elems spare => uptoBulkAll elems + uptoBulkAll spare + 1
  | .agg parts => uptoBulkAll parts + 1
  | .iface _ d => uptoBulk d + 1
  | .map entries => uptoBulkEntries entries + 1
  | .held _ => 1
def uptoBulkAll {H : Type} : List (DataW H) → Nat
  | [] => 0
  | d :: r => uptoBulk d + uptoBulkAll r
def uptoBulkEntries {H : Type} : List (Lit × DataW H) → Nat
  | [] => 0
  | x :: r => uptoBulkEntry x + uptoBulkEntries r
def uptoBulkEntry {H : Type} : Lit × DataW H → Nat
  | (.string bytes, d) => bytes.length + uptoBulk d + 1
  | (_, d) => uptoBulk d + 1
 end
def uptoSmall : (H : Type) → List (DataW H) → Bool := fun _ ds => decide (uptoBulkAll ds ≤ 1048576)
def OpenSpec.upto (s : _root_.Go.ChangeSpec) : _root_.Go.OpenSpec := { _root_.Go.OpenSpec.ofChange s with cond := some uptoSmall }

/-- 'mutoscopelaw16.PaintNumbers', WHERE WHAT IT READS IS OF BULK AT MOST 1048576: true; the input reads as it did. -/
def paintNumbersUptoRow : OpenClaim := { program := "ytafaafaclijfiaa", sum := "b65ba7a9be59e193cca2983acde32d2172dfa834bdfc95dca183233ac3c14eb7", func := "mutoscope/mutoscopelaw16.PaintNumbers", spec := "paintNumbers", named := ["math/bits.divideError", "math/bits.overflowError"], apart := false, narrowed := true }
def PaintNumbersUptoSaid : Prop := paintNumbersUptoRow.holds Try.pinned (OpenSpec.upto paintNumbersSpec)

/-- 'mutoscopelaw16.PaintTells', WHERE WHAT IT READS IS OF BULK AT MOST 1048576: true; the input reads as it did. -/
def paintTellsUptoRow : OpenClaim := { program := "ytafaafaclijfiaa", sum := "b65ba7a9be59e193cca2983acde32d2172dfa834bdfc95dca183233ac3c14eb7", func := "mutoscope/mutoscopelaw16.PaintTells", spec := "paintTells", named := ["math/bits.divideError", "math/bits.overflowError"], apart := false, narrowed := true }
def PaintTellsUptoSaid : Prop := paintTellsUptoRow.holds Try.pinned (OpenSpec.upto paintTellsSpec)

/-- 'mutoscopelaw16.PaintWays', WHERE WHAT IT READS IS OF BULK AT MOST 1048576: true; the input reads as it did. -/
def paintWaysUptoRow : OpenClaim := { program := "ytafaafaclijfiaa", sum := "b65ba7a9be59e193cca2983acde32d2172dfa834bdfc95dca183233ac3c14eb7", func := "mutoscope/mutoscopelaw16.PaintWays", spec := "paintWays", apart := false, narrowed := true }
def PaintWaysUptoSaid : Prop := paintWaysUptoRow.holds Try.pinned (OpenSpec.upto paintWaysSpec)

/-- 'mutoscopelaw16.PaintEnds', WHERE WHAT IT READS IS OF BULK AT MOST 1048576: true; the input reads as it did. -/
def paintEndsUptoRow : OpenClaim := { program := "ytafaafaclijfiaa", sum := "b65ba7a9be59e193cca2983acde32d2172dfa834bdfc95dca183233ac3c14eb7", func := "mutoscope/mutoscopelaw16.PaintEnds", spec := "paintEnds", apart := false, narrowed := true }
def PaintEndsUptoSaid : Prop := paintEndsUptoRow.holds Try.pinned (OpenSpec.upto paintEndsSpec)

end Rows
end Go.Proofs.Ytafaafaclijfiaa
