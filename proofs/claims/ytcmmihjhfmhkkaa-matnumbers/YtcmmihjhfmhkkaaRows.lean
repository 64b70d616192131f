/-
  No cell of these rows narrows 'for every input' (looked for: loops, veiled, ifaces, maps, wideKeys, modest, calm, conditions, laid).
  DERIVED. THE GIVEN ROWS OF THIS SEAT. 4 by the template 'for every input the law returns true; each argument reads behind the call as it read before'; 0 by the template 'total and deterministic' (their statements: YtcmmihjhfmhkkaaTotals.lean).
  GIVEN WITH THE SEED: the statements are not yours to turn. If you find one false, say at which input.
  Laid BY PROGRAM, IN A SANDBOX (cutbox-rows.mjs): the forced cells as the released guide's own fill.sh prints them over the translation d0805ef5a6c7d8ad… (all of the seat's roots in one cut). By AI agents, Wed Nov 11 2026. No macro, syntax, notation, axiom, sorry.
-/
import Derived.Test.YtcmmihjhfmhkkaaChecked
import GoSem.Claim
import GoSem.ClaimJoined
import GoSem.ClaimMapViews
import Derived.JoinedTies
import Derived.KernelRfl
namespace Go.Proofs.Ytcmmihjhfmhkkaa
/- THE CELL 'sum', in the pinned program and in every row, IS THE sha256 OF THE DUMP (.gsa) THAT YtcmmihjhfmhkkaaProg.lean LOADS. Nothing in Lean hashes anything: it is a label: what it is worth is what the hold of that sum in a sandbox is worth. -/
noncomputable def Try.pinned : Pinned := { name := "ytcmmihjhfmhkkaa", sum := "d0805ef5a6c7d8ad42d794aa3980725a931a3a0ebf6cc1416fdcfc5dce0cdb2e", checked := Try.checked }
namespace Rows
def none {H : Type} : Left H := { results := [], args := [] }

/-- 'mutoscopelaw3.MatNumbers': WHATEVER THE INPUT: true; the input reads as it did. -/
def matNumbersSpec : ChangeSpec := { name := "matNumbers", fn := fun _ => fun
  | [] => { results := [.lit (.bool true)], args := [] }
  | _ => none }
def matNumbersRow : OpenClaim := { program := "ytcmmihjhfmhkkaa", sum := "d0805ef5a6c7d8ad42d794aa3980725a931a3a0ebf6cc1416fdcfc5dce0cdb2e", func := "mutoscope/mutoscopelaw3.MatNumbers", spec := "matNumbers", named := ["math/bits.divideError", "math/bits.overflowError"], apart := false }
def MatNumbersSaid : Prop := matNumbersRow.holds Try.pinned (OpenSpec.ofChange matNumbersSpec)

/-- ITS FALSE NEIGHBOUR: 'it returns false'. Refute it at one input. -/
def matNumbersWrong : ChangeSpec := { name := "matNumbers", fn := fun _ => fun
  | [] => { results := [.lit (.bool false)], args := [] }
  | _ => none }
def MatNumbersWrongFalsely : Prop := matNumbersRow.holds Try.pinned (OpenSpec.ofChange matNumbersWrong)

/-- 'mutoscopelaw3.MatTells': WHATEVER THE INPUT: true; the input reads as it did. -/
def matTellsSpec : ChangeSpec := { name := "matTells", fn := fun _ => fun
  | [d1, d2, d3, d4, d5, d6, d7, d8, d9, d10] => { results := [.lit (.bool true)], args := [d1, d2, d3, d4, d5, d6, d7, d8, d9, d10] }
  | _ => none }
def matTellsRow : OpenClaim := { program := "ytcmmihjhfmhkkaa", sum := "d0805ef5a6c7d8ad42d794aa3980725a931a3a0ebf6cc1416fdcfc5dce0cdb2e", func := "mutoscope/mutoscopelaw3.MatTells", spec := "matTells", named := ["math/bits.divideError", "math/bits.overflowError"], apart := false }
def MatTellsSaid : Prop := matTellsRow.holds Try.pinned (OpenSpec.ofChange matTellsSpec)

/-- ITS FALSE NEIGHBOUR: 'it returns false'. Refute it at one input. -/
def matTellsWrong : ChangeSpec := { name := "matTells", fn := fun _ => fun
  | [d1, d2, d3, d4, d5, d6, d7, d8, d9, d10] => { results := [.lit (.bool false)], args := [d1, d2, d3, d4, d5, d6, d7, d8, d9, d10] }
  | _ => none }
def MatTellsWrongFalsely : Prop := matTellsRow.holds Try.pinned (OpenSpec.ofChange matTellsWrong)

/-- 'mutoscopelaw3.MatMoves': WHATEVER THE INPUT: true; the input reads as it did. -/
def matMovesSpec : ChangeSpec := { name := "matMoves", fn := fun _ => fun
  | [d1, d2, d3, d4, d5, d6] => { results := [.lit (.bool true)], args := [d1, d2, d3, d4, d5, d6] }
  | _ => none }
def matMovesRow : OpenClaim := { program := "ytcmmihjhfmhkkaa", sum := "d0805ef5a6c7d8ad42d794aa3980725a931a3a0ebf6cc1416fdcfc5dce0cdb2e", func := "mutoscope/mutoscopelaw3.MatMoves", spec := "matMoves", apart := false }
def MatMovesSaid : Prop := matMovesRow.holds Try.pinned (OpenSpec.ofChange matMovesSpec)

/-- ITS FALSE NEIGHBOUR: 'it returns false'. Refute it at one input. -/
def matMovesWrong : ChangeSpec := { name := "matMoves", fn := fun _ => fun
  | [d1, d2, d3, d4, d5, d6] => { results := [.lit (.bool false)], args := [d1, d2, d3, d4, d5, d6] }
  | _ => none }
def MatMovesWrongFalsely : Prop := matMovesRow.holds Try.pinned (OpenSpec.ofChange matMovesWrong)

/-- 'mutoscopelaw3.MatChains': WHATEVER THE INPUT: true; the input reads as it did. -/
def matChainsSpec : ChangeSpec := { name := "matChains", fn := fun _ => fun
  | [d1, d2, d3, d4, d5] => { results := [.lit (.bool true)], args := [d1, d2, d3, d4, d5] }
  | _ => none }
def matChainsRow : OpenClaim := { program := "ytcmmihjhfmhkkaa", sum := "d0805ef5a6c7d8ad42d794aa3980725a931a3a0ebf6cc1416fdcfc5dce0cdb2e", func := "mutoscope/mutoscopelaw3.MatChains", spec := "matChains", apart := false }
def MatChainsSaid : Prop := matChainsRow.holds Try.pinned (OpenSpec.ofChange matChainsSpec)

/-- ITS FALSE NEIGHBOUR: 'it returns false'. Refute it at one input. -/
def matChainsWrong : ChangeSpec := { name := "matChains", fn := fun _ => fun
  | [d1, d2, d3, d4, d5] => { results := [.lit (.bool false)], args := [d1, d2, d3, d4, d5] }
  | _ => none }
def MatChainsWrongFalsely : Prop := matChainsRow.holds Try.pinned (OpenSpec.ofChange matChainsWrong)

/- THE SECOND FORM. 'bulk': how many values and letters a reading holds, each counted each time it is reached (what is shared counts as often as it is met; a slice's spare places count too). A statement '..UptoSaid' is the law's where the arguments, and the package variables that the reading takes, are together of bulk at most 1048576: NARROWER than '..Said'. Prove '..Said' where nothing that the law and all that it calls make is longer than what came in: it says more and counts as full. Else prove '..UptoSaid'. A law counts once. -/
mutual
def uptoBulk {H : Type} : DataW H → Nat
  | .lit (.string bytes) => bytes.length + 1
  | .lit _ => 1
  | .nil => 1
  | .ptr d => uptoBulk d + 1
  | .slice elems spare => uptoBulkAll elems + uptoBulkAll spare + 1
  | .agg parts => uptoBulkAll parts + 1
  | .iface _ d => uptoBulk d + 1
  | .map entries => uptoBulkEntries entries + 1
  | .held _ => 1
def uptoBulkAll {H : Type} : List (DataW H) → Nat
  | [] => 0
  | d :: r => uptoBulk d + uptoBulkAll r
def uptoBulkEntries {H : Type} : List (Lit × DataW H) → Nat
  | [] => 0
  | x :: r => uptoBulkEntry x + uptoBulkEntries r
def uptoBulkEntry {H : Type} : Lit × DataW H → Nat
  | (.string bytes, d) => bytes.length + uptoBulk d + 1
  | (_, d) => uptoBulk d + 1
 end
def uptoSmall : (H : Type) → List (DataW H) → Bool := fun _ ds => decide (uptoBulkAll ds ≤ 1048576)
def OpenSpec.upto (s : _root_.Go.ChangeSpec) : _root_.Go.OpenSpec := { _root_.Go.OpenSpec.ofChange s with cond := some uptoSmall }

/-- 'mutoscopelaw3.MatNumbers', WHERE WHAT IT READS IS OF BULK AT MOST 1048576: true; the input reads as it did. -/
def matNumbersUptoRow : OpenClaim := { program := "ytcmmihjhfmhkkaa", sum := "d0805ef5a6c7d8ad42d794aa3980725a931a3a0ebf6cc1416fdcfc5dce0cdb2e", func := "mutoscope/mutoscopelaw3.MatNumbers", spec := "matNumbers", named := ["math/bits.divideError", "math/bits.overflowError"], apart := false, narrowed := true }
def MatNumbersUptoSaid : Prop := matNumbersUptoRow.holds Try.pinned (OpenSpec.upto matNumbersSpec)

/-- 'mutoscopelaw3.MatTells', WHERE WHAT IT READS IS OF BULK AT MOST 1048576: true; the input reads as it did. -/
def matTellsUptoRow : OpenClaim := { program := "ytcmmihjhfmhkkaa", sum := "d0805ef5a6c7d8ad42d794aa3980725a931a3a0ebf6cc1416fdcfc5dce0cdb2e", func := "mutoscope/mutoscopelaw3.MatTells", spec := "matTells", named := ["math/bits.divideError", "math/bits.overflowError"], apart := false, narrowed := true }
def MatTellsUptoSaid : Prop := matTellsUptoRow.holds Try.pinned (OpenSpec.upto matTellsSpec)

/-- 'mutoscopelaw3.MatMoves', WHERE WHAT IT READS IS OF BULK AT MOST 1048576: true; the input reads as it did. -/
def matMovesUptoRow : OpenClaim := { program := "ytcmmihjhfmhkkaa", sum := "d0805ef5a6c7d8ad42d794aa3980725a931a3a0ebf6cc1416fdcfc5dce0cdb2e", func := "mutoscope/mutoscopelaw3.MatMoves", spec := "matMoves", apart := false, narrowed := true }
def MatMovesUptoSaid : Prop := matMovesUptoRow.holds Try.pinned (OpenSpec.upto matMovesSpec)

/-- 'mutoscopelaw3.MatChains', WHERE WHAT IT READS IS OF BULK AT MOST 1048576: true; the input reads as it did. -/
def matChainsUptoRow : OpenClaim := { program := "ytcmmihjhfmhkkaa", sum := "d0805ef5a6c7d8ad42d794aa3980725a931a3a0ebf6cc1416fdcfc5dce0cdb2e", func := "mutoscope/mutoscopelaw3.MatChains", spec := "matChains", apart := false, narrowed := true }
def MatChainsUptoSaid : Prop := matChainsUptoRow.holds Try.pinned (OpenSpec.upto matChainsSpec)

end Rows
end Go.Proofs.Ytcmmihjhfmhkkaa
