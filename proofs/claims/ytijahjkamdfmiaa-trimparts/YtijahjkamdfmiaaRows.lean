/-
  No cell of these rows narrows 'for every input' (looked for: loops, veiled, ifaces, maps, wideKeys, modest, calm, conditions, laid).
  DERIVED. THE GIVEN ROWS OF THIS SEAT. 4 by the template 'for every input the law returns true; each argument reads behind the call as it read before'; 0 by the template 'total and deterministic' (their statements: YtijahjkamdfmiaaTotals.lean).
  GIVEN WITH THE SEED: the statements are not yours to turn. If you find one false, say at which input.
  Laid BY PROGRAM, IN A SANDBOX (cutbox-rows.mjs): the forced cells as the released guide's own fill.sh prints them over the translation ab5b3d61531cd0e0… (all of the seat's roots in one cut). By AI agents, Wed Nov 11 2026. No macro, syntax, notation, axiom, sorry.
-/
import Derived.Test.YtijahjkamdfmiaaChecked
import GoSem.Claim
import GoSem.ClaimJoined
import GoSem.ClaimMapViews
import Derived.JoinedTies
import Derived.KernelRfl
namespace Go.Proofs.Ytijahjkamdfmiaa
/- THE CELL 'sum', in the pinned program and in every row, IS THE sha256 OF THE DUMP (.gsa) THAT YtijahjkamdfmiaaProg.lean LOADS. Nothing in Lean hashes anything: it is a label: what it is worth is what the hold of that sum in a sandbox is worth. -/
noncomputable def Try.pinned : Pinned := { name := "ytijahjkamdfmiaa", sum := "ab5b3d61531cd0e06bb7c76fb4ac9b12cb880d8573baaee6cae08df332935590", checked := Try.checked }
namespace Rows
def none {H : Type} : Left H := { results := [], args := [] }

/-- 'mutoscopelaw10.TrimNumbers': WHATEVER THE INPUT: true; the input reads as it did. -/
def trimNumbersSpec : ChangeSpec := { name := "trimNumbers", fn := fun _ => fun
  | [] => { results := [.lit (.bool true)], args := [] }
  | _ => none }
def trimNumbersRow : OpenClaim := { program := "ytijahjkamdfmiaa", sum := "ab5b3d61531cd0e06bb7c76fb4ac9b12cb880d8573baaee6cae08df332935590", func := "mutoscope/mutoscopelaw10.TrimNumbers", spec := "trimNumbers", named := ["math/bits.divideError", "math/bits.overflowError"], apart := false }
def TrimNumbersSaid : Prop := trimNumbersRow.holds Try.pinned (OpenSpec.ofChange trimNumbersSpec)

/-- ITS FALSE NEIGHBOUR: 'it returns false'. Refute it at one input. -/
def trimNumbersWrong : ChangeSpec := { name := "trimNumbers", fn := fun _ => fun
  | [] => { results := [.lit (.bool false)], args := [] }
  | _ => none }
def TrimNumbersWrongFalsely : Prop := trimNumbersRow.holds Try.pinned (OpenSpec.ofChange trimNumbersWrong)

/-- 'mutoscopelaw10.TrimTells': WHATEVER THE INPUT: true; the input reads as it did. -/
def trimTellsSpec : ChangeSpec := { name := "trimTells", fn := fun _ => fun
  | [d1, d2, d3, d4] => { results := [.lit (.bool true)], args := [d1, d2, d3, d4] }
  | _ => none }
def trimTellsRow : OpenClaim := { program := "ytijahjkamdfmiaa", sum := "ab5b3d61531cd0e06bb7c76fb4ac9b12cb880d8573baaee6cae08df332935590", func := "mutoscope/mutoscopelaw10.TrimTells", spec := "trimTells", named := ["math/bits.divideError", "math/bits.overflowError"], apart := false }
def TrimTellsSaid : Prop := trimTellsRow.holds Try.pinned (OpenSpec.ofChange trimTellsSpec)

/-- ITS FALSE NEIGHBOUR: 'it returns false'. Refute it at one input. -/
def trimTellsWrong : ChangeSpec := { name := "trimTells", fn := fun _ => fun
  | [d1, d2, d3, d4] => { results := [.lit (.bool false)], args := [d1, d2, d3, d4] }
  | _ => none }
def TrimTellsWrongFalsely : Prop := trimTellsRow.holds Try.pinned (OpenSpec.ofChange trimTellsWrong)

/-- 'mutoscopelaw10.TrimParts': WHATEVER THE INPUT: true; the input reads as it did. -/
def trimPartsSpec : ChangeSpec := { name := "trimParts", fn := fun _ => fun
  | [d1, d2] => { results := [.lit (.bool true)], args := [d1, d2] }
  | _ => none }
def trimPartsRow : OpenClaim := { program := "ytijahjkamdfmiaa", sum := "ab5b3d61531cd0e06bb7c76fb4ac9b12cb880d8573baaee6cae08df332935590", func := "mutoscope/mutoscopelaw10.TrimParts", spec := "trimParts", apart := false }
def TrimPartsSaid : Prop := trimPartsRow.holds Try.pinned (OpenSpec.ofChange trimPartsSpec)

/-- ITS FALSE NEIGHBOUR: 'it returns false'. Refute it at one input. -/
def trimPartsWrong : ChangeSpec := { name := "trimParts", fn := fun _ => fun
  | [d1, d2] => { results := [.lit (.bool false)], args := [d1, d2] }
  | _ => none }
def TrimPartsWrongFalsely : Prop := trimPartsRow.holds Try.pinned (OpenSpec.ofChange trimPartsWrong)

/-- 'mutoscopelaw10.TrimEnds': WHATEVER THE INPUT: true; the input reads as it did. -/
def trimEndsSpec : ChangeSpec := { name := "trimEnds", fn := fun _ => fun
  | [d1, d2, d3] => { results := [.lit (.bool true)], args := [d1, d2, d3] }
  | _ => none }
def trimEndsRow : OpenClaim := { program := "ytijahjkamdfmiaa", sum := "ab5b3d61531cd0e06bb7c76fb4ac9b12cb880d8573baaee6cae08df332935590", func := "mutoscope/mutoscopelaw10.TrimEnds", spec := "trimEnds", apart := false }
def TrimEndsSaid : Prop := trimEndsRow.holds Try.pinned (OpenSpec.ofChange trimEndsSpec)

/-- ITS FALSE NEIGHBOUR: 'it returns false'. Refute it at one input. -/
def trimEndsWrong : ChangeSpec := { name := "trimEnds", fn := fun _ => fun
  | [d1, d2, d3] => { results := [.lit (.bool false)], args := [d1, d2, d3] }
  | _ => none }
def TrimEndsWrongFalsely : Prop := trimEndsRow.holds Try.pinned (OpenSpec.ofChange trimEndsWrong)

/- THE SECOND FORM. 'bulk': how many values and letters a reading holds, each counted each time it is reached (what is shared counts as often as it is met; a slice's spare places count too). A statement '..UptoSaid' is the law's where the arguments, and the package variables that the reading takes, are together of bulk at most 1048576: NARROWER than '..Said'. Prove '..Said' where nothing that the law and all that it calls make is longer than what came in: it says more and counts as full. Else prove '..UptoSaid'. A law counts once. -/
mutual
def uptoBulk {H : Type} : DataW H → Nat
  | .lit (.string bytes) => bytes.length + 1
  | .lit _ => 1
  | .nil => 1
  | .ptr d => uptoBulk d + 1
  | .slice elems spare => uptoBulkAll elems + uptoBulkAll spare + 1
  | .agg parts => uptoBulkAll parts + 1
  | .iface _ d => uptoBulk d + 1
  | .map entries => uptoBulkEntries entries + 1
  | .held _ => 1
def uptoBulkAll {H : Type} : List (DataW H) → Nat
  | [] => 0
  | d :: r => uptoBulk d + uptoBulkAll r
def uptoBulkEntries {H : Type} : List (Lit × DataW H) → Nat
  | [] => 0
  | x :: r => uptoBulkEntry x + uptoBulkEntries r
def uptoBulkEntry {H : Type} : Lit × DataW H → Nat
  | (.string bytes, d) => bytes.length + uptoBulk d + 1
  | (_, d) => uptoBulk d + 1
 end
def uptoSmall : (H : Type) → List (DataW H) → Bool := fun _ ds => decide (uptoBulkAll ds ≤ 1048576)
def OpenSpec.upto (s : _root_.Go.ChangeSpec) : _root_.Go.OpenSpec := { _root_.Go.OpenSpec.ofChange s with cond := some uptoSmall }

/-- 'mutoscopelaw10.TrimNumbers', WHERE WHAT IT READS IS OF BULK AT MOST 1048576: true; the input reads as it did. -/
def trimNumbersUptoRow : OpenClaim := { program := "ytijahjkamdfmiaa", sum := "ab5b3d61531cd0e06bb7c76fb4ac9b12cb880d8573baaee6cae08df332935590", func := "mutoscope/mutoscopelaw10.TrimNumbers", spec := "trimNumbers", named := ["math/bits.divideError", "math/bits.overflowError"], apart := false, narrowed := true }
def TrimNumbersUptoSaid : Prop := trimNumbersUptoRow.holds Try.pinned (OpenSpec.upto trimNumbersSpec)

/-- 'mutoscopelaw10.TrimTells', WHERE WHAT IT READS IS OF BULK AT MOST 1048576: true; the input reads as it did. -/
def trimTellsUptoRow : OpenClaim := { program := "ytijahjkamdfmiaa", sum := "ab5b3d61531cd0e06bb7c76fb4ac9b12cb880d8573baaee6cae08df332935590", func := "mutoscope/mutoscopelaw10.TrimTells", spec := "trimTells", named := ["math/bits.divideError", "math/bits.overflowError"], apart := false, narrowed := true }
def TrimTellsUptoSaid : Prop := trimTellsUptoRow.holds Try.pinned (OpenSpec.upto trimTellsSpec)

/-- 'mutoscopelaw10.TrimParts', WHERE WHAT IT READS IS OF BULK AT MOST 1048576: true; the input reads as it did. -/
def trimPartsUptoRow : OpenClaim := { program := "ytijahjkamdfmiaa", sum := "ab5b3d61531cd0e06bb7c76fb4ac9b12cb880d8573baaee6cae08df332935590", func := "mutoscope/mutoscopelaw10.TrimParts", spec := "trimParts", apart := false, narrowed := true }
def TrimPartsUptoSaid : Prop := trimPartsUptoRow.holds Try.pinned (OpenSpec.upto trimPartsSpec)

/-- 'mutoscopelaw10.TrimEnds', WHERE WHAT IT READS IS OF BULK AT MOST 1048576: true; the input reads as it did. -/
def trimEndsUptoRow : OpenClaim := { program := "ytijahjkamdfmiaa", sum := "ab5b3d61531cd0e06bb7c76fb4ac9b12cb880d8573baaee6cae08df332935590", func := "mutoscope/mutoscopelaw10.TrimEnds", spec := "trimEnds", apart := false, narrowed := true }
def TrimEndsUptoSaid : Prop := trimEndsUptoRow.holds Try.pinned (OpenSpec.upto trimEndsSpec)

end Rows
end Go.Proofs.Ytijahjkamdfmiaa
