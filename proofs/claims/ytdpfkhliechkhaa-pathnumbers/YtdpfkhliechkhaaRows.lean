/-
  No cell of these rows narrows 'for every input' (looked for: loops, veiled, ifaces, maps, wideKeys, modest, calm, conditions, laid).
  DERIVED. THE GIVEN ROWS OF THIS SEAT. 4 by the template 'for every input the law returns true; each argument reads behind the call as it read before'; 0 by the template 'total and deterministic' (their statements: YtdpfkhliechkhaaTotals.lean).
  GIVEN WITH THE SEED: the statements are not yours to turn. If you find one false, say at which input.
  Laid BY PROGRAM, IN A SANDBOX (cutbox-rows.mjs): the forced cells as the released guide's own fill.sh prints them over the translation 203279d300708f5f… (all of the seat's roots in one cut). By AI agents, Wed Nov 11 2026. No macro, syntax, notation, axiom, sorry.
-/
import Derived.Test.YtdpfkhliechkhaaChecked
import GoSem.Claim
import GoSem.ClaimJoined
import GoSem.ClaimMapViews
import Derived.JoinedTies
import Derived.KernelRfl
namespace Go.Proofs.Ytdpfkhliechkhaa
/- THE CELL 'sum', in the pinned program and in every row, IS THE sha256 OF THE DUMP (.gsa) THAT YtdpfkhliechkhaaProg.lean LOADS. Nothing in Lean hashes anything: it is a label: what it is worth is what the hold of that sum in a sandbox is worth. -/
noncomputable def Try.pinned : Pinned := { name := "ytdpfkhliechkhaa", sum := "203279d300708f5f90a4e598c43a8df0ae077e211a0fa7f4815bfa0f2d3484dc", checked := Try.checked }
namespace Rows
def none {H : Type} : Left H := { results := [], args := [] }

/-- 'mutoscopelaw7.PathNumbers': WHATEVER THE INPUT: true; the input reads as it did. -/
def pathNumbersSpec : ChangeSpec := { name := "pathNumbers", fn := fun _ => fun
  | [] => { results := [.lit (.bool true)], args := [] }
  | _ => none }
def pathNumbersRow : OpenClaim := { program := "ytdpfkhliechkhaa", sum := "203279d300708f5f90a4e598c43a8df0ae077e211a0fa7f4815bfa0f2d3484dc", func := "mutoscope/mutoscopelaw7.PathNumbers", spec := "pathNumbers", named := ["math/bits.divideError", "math/bits.overflowError"], apart := false }
def PathNumbersSaid : Prop := pathNumbersRow.holds Try.pinned (OpenSpec.ofChange pathNumbersSpec)

/-- ITS FALSE NEIGHBOUR: 'it returns false'. Refute it at one input. -/
def pathNumbersWrong : ChangeSpec := { name := "pathNumbers", fn := fun _ => fun
  | [] => { results := [.lit (.bool false)], args := [] }
  | _ => none }
def PathNumbersWrongFalsely : Prop := pathNumbersRow.holds Try.pinned (OpenSpec.ofChange pathNumbersWrong)

/-- 'mutoscopelaw7.PathTells': WHATEVER THE INPUT: true; the input reads as it did. -/
def pathTellsSpec : ChangeSpec := { name := "pathTells", fn := fun _ => fun
  | [d1, d2, d3, d4, d5, d6] => { results := [.lit (.bool true)], args := [d1, d2, d3, d4, d5, d6] }
  | _ => none }
def pathTellsRow : OpenClaim := { program := "ytdpfkhliechkhaa", sum := "203279d300708f5f90a4e598c43a8df0ae077e211a0fa7f4815bfa0f2d3484dc", func := "mutoscope/mutoscopelaw7.PathTells", spec := "pathTells", named := ["math/bits.divideError", "math/bits.overflowError"], apart := false }
def PathTellsSaid : Prop := pathTellsRow.holds Try.pinned (OpenSpec.ofChange pathTellsSpec)

/-- ITS FALSE NEIGHBOUR: 'it returns false'. Refute it at one input. -/
def pathTellsWrong : ChangeSpec := { name := "pathTells", fn := fun _ => fun
  | [d1, d2, d3, d4, d5, d6] => { results := [.lit (.bool false)], args := [d1, d2, d3, d4, d5, d6] }
  | _ => none }
def PathTellsWrongFalsely : Prop := pathTellsRow.holds Try.pinned (OpenSpec.ofChange pathTellsWrong)

/-- 'mutoscopelaw7.PathBetween': WHATEVER THE INPUT: true; the input reads as it did. -/
def pathBetweenSpec : ChangeSpec := { name := "pathBetween", fn := fun _ => fun
  | [d1, d2, d3] => { results := [.lit (.bool true)], args := [d1, d2, d3] }
  | _ => none }
def pathBetweenRow : OpenClaim := { program := "ytdpfkhliechkhaa", sum := "203279d300708f5f90a4e598c43a8df0ae077e211a0fa7f4815bfa0f2d3484dc", func := "mutoscope/mutoscopelaw7.PathBetween", spec := "pathBetween", apart := false }
def PathBetweenSaid : Prop := pathBetweenRow.holds Try.pinned (OpenSpec.ofChange pathBetweenSpec)

/-- ITS FALSE NEIGHBOUR: 'it returns false'. Refute it at one input. -/
def pathBetweenWrong : ChangeSpec := { name := "pathBetween", fn := fun _ => fun
  | [d1, d2, d3] => { results := [.lit (.bool false)], args := [d1, d2, d3] }
  | _ => none }
def PathBetweenWrongFalsely : Prop := pathBetweenRow.holds Try.pinned (OpenSpec.ofChange pathBetweenWrong)

/-- 'mutoscopelaw7.PathMaps': WHATEVER THE INPUT: true; the input reads as it did. -/
def pathMapsSpec : ChangeSpec := { name := "pathMaps", fn := fun _ => fun
  | [d1, d2, d3] => { results := [.lit (.bool true)], args := [d1, d2, d3] }
  | _ => none }
def pathMapsRow : OpenClaim := { program := "ytdpfkhliechkhaa", sum := "203279d300708f5f90a4e598c43a8df0ae077e211a0fa7f4815bfa0f2d3484dc", func := "mutoscope/mutoscopelaw7.PathMaps", spec := "pathMaps", named := ["math/bits.divideError", "math/bits.overflowError"], apart := false }
def PathMapsSaid : Prop := pathMapsRow.holds Try.pinned (OpenSpec.ofChange pathMapsSpec)

/-- ITS FALSE NEIGHBOUR: 'it returns false'. Refute it at one input. -/
def pathMapsWrong : ChangeSpec := { name := "pathMaps", fn := fun _ => fun
  | [d1, d2, d3] => { results := [.lit (.bool false)], args := [d1, d2, d3] }
  | _ => none }
def PathMapsWrongFalsely : Prop := pathMapsRow.holds Try.pinned (OpenSpec.ofChange pathMapsWrong)

/- THE SECOND FORM. 'bulk': how many values and letters a reading holds, each counted each time it is reached (what is shared counts as often as it is met; a slice's spare places count too). A statement '..UptoSaid' is the law's where the arguments, and the package variables that the reading takes, are together of bulk at most 1048576: NARROWER than '..Said'. Prove '..Said' where nothing that the law and all that it calls make is longer than what came in: it says more and counts as full. Else prove '..UptoSaid'. A law counts once. -/
mutual
def uptoBulk {H : Type} : DataW H → Nat
  | .lit (.string bytes) => bytes.length + 1
  | .lit _ => 1
  | .nil => 1
  | .ptr d => uptoBulk d + 1
  | .slice elems spare => uptoBulkAll elems + uptoBulkAll spare + 1
  | .agg parts => uptoBulkAll parts + 1
  | .iface _ d => uptoBulk d + 1
  | .map entries => uptoBulkEntries entries + 1
  | .held _ => 1
def uptoBulkAll {H : Type} : List (DataW H) → Nat
  | [] => 0
  | d :: r => uptoBulk d + uptoBulkAll r
def uptoBulkEntries {H : Type} : List (Lit × DataW H) → Nat
  | [] => 0
  | x :: r => uptoBulkEntry x + uptoBulkEntries r
def uptoBulkEntry {H : Type} : Lit × DataW H → Nat
  | (.string bytes, d) => bytes.length + uptoBulk d + 1
  | (_, d) => uptoBulk d + 1
 end
def uptoSmall : (H : Type) → List (DataW H) → Bool := fun _ ds => decide (uptoBulkAll ds ≤ 1048576)
def OpenSpec.upto (s : _root_.Go.ChangeSpec) : _root_.Go.OpenSpec := { _root_.Go.OpenSpec.ofChange s with cond := some uptoSmall }

/-- 'mutoscopelaw7.PathNumbers', WHERE WHAT IT READS IS OF BULK AT MOST 1048576: true; the input reads as it did. -/
def pathNumbersUptoRow : OpenClaim := { program := "ytdpfkhliechkhaa", sum := "203279d300708f5f90a4e598c43a8df0ae077e211a0fa7f4815bfa0f2d3484dc", func := "mutoscope/mutoscopelaw7.PathNumbers", spec := "pathNumbers", named := ["math/bits.divideError", "math/bits.overflowError"], apart := false, narrowed := true }
def PathNumbersUptoSaid : Prop := pathNumbersUptoRow.holds Try.pinned (OpenSpec.upto pathNumbersSpec)

/-- 'mutoscopelaw7.PathTells', WHERE WHAT IT READS IS OF BULK AT MOST 1048576: true; the input reads as it did. -/
def pathTellsUptoRow : OpenClaim := { program := "ytdpfkhliechkhaa", sum := "203279d300708f5f90a4e598c43a8df0ae077e211a0fa7f4815bfa0f2d3484dc", func := "mutoscope/mutoscopelaw7.PathTells", spec := "pathTells", named := ["math/bits.divideError", "math/bits.overflowError"], apart := false, narrowed := true }
def PathTellsUptoSaid : Prop := pathTellsUptoRow.holds Try.pinned (OpenSpec.upto pathTellsSpec)

/-- 'mutoscopelaw7.PathBetween', WHERE WHAT IT READS IS OF BULK AT MOST 1048576: true; the input reads as it did. -/
def pathBetweenUptoRow : OpenClaim := { program := "ytdpfkhliechkhaa", sum := "203279d300708f5f90a4e598c43a8df0ae077e211a0fa7f4815bfa0f2d3484dc", func := "mutoscope/mutoscopelaw7.PathBetween", spec := "pathBetween", apart := false, narrowed := true }
def PathBetweenUptoSaid : Prop := pathBetweenUptoRow.holds Try.pinned (OpenSpec.upto pathBetweenSpec)

/-- 'mutoscopelaw7.PathMaps', WHERE WHAT IT READS IS OF BULK AT MOST 1048576: true; the input reads as it did. -/
def pathMapsUptoRow : OpenClaim := { program := "ytdpfkhliechkhaa", sum := "203279d300708f5f90a4e598c43a8df0ae077e211a0fa7f4815bfa0f2d3484dc", func := "mutoscope/mutoscopelaw7.PathMaps", spec := "pathMaps", named := ["math/bits.divideError", "math/bits.overflowError"], apart := false, narrowed := true }
def PathMapsUptoSaid : Prop := pathMapsUptoRow.holds Try.pinned (OpenSpec.upto pathMapsSpec)

end Rows
end Go.Proofs.Ytdpfkhliechkhaa
