/-
  No cell of these rows narrows 'for every input' (looked for: loops, veiled, ifaces, maps, wideKeys, modest, calm, conditions, laid).
  DERIVED. THE GIVEN ROWS OF THIS SEAT. 3 by the template 'for every input the law returns true; each argument reads behind the call as it read before'; 0 by the template 'total and deterministic' (their statements: YtegckonhfdlbbaaTotals.lean).
  GIVEN WITH THE SEED: the statements are not yours to turn. If you find one false, say at which input.
  Laid BY PROGRAM, IN A SANDBOX (cutbox-rows.mjs): the forced cells as the released guide's own fill.sh prints them over the translation 4cdf695235d49e9a… (all of the seat's roots in one cut). By AI agents, Wed Nov 11 2026. No macro, syntax, notation, axiom, sorry.
-/
import Derived.Test.YtegckonhfdlbbaaChecked
import GoSem.Claim
import GoSem.ClaimJoined
import GoSem.ClaimMapViews
import Derived.JoinedTies
import Derived.KernelRfl
namespace Go.Proofs.Ytegckonhfdlbbaa
/- THE CELL 'sum', in the pinned program and in every row, IS THE sha256 OF THE DUMP (.gsa) THAT YtegckonhfdlbbaaProg.lean LOADS. Nothing in Lean hashes anything: it is a label: what it is worth is what the hold of that sum in a sandbox is worth. -/
noncomputable def Try.pinned : Pinned := { name := "ytegckonhfdlbbaa", sum := "4cdf695235d49e9a5cce04d3028f57269dee83e70fda241d60959584437c4146", checked := Try.checked }
namespace Rows
def none {H : Type} : Left H := { results := [], args := [] }

/-- 'mutoscopelaw8.FlatNumbers': WHATEVER THE INPUT: true; the input reads as it did. -/
def flatNumbersSpec : ChangeSpec := { name := "flatNumbers", fn := fun _ => fun
  | [] => { results := [.lit (.bool true)], args := [] }
  | _ => none }
def flatNumbersRow : OpenClaim := { program := "ytegckonhfdlbbaa", sum := "4cdf695235d49e9a5cce04d3028f57269dee83e70fda241d60959584437c4146", func := "mutoscope/mutoscopelaw8.FlatNumbers", spec := "flatNumbers", recurses := true, named := ["math/bits.divideError", "math/bits.overflowError"], apart := false }
def FlatNumbersSaid : Prop := flatNumbersRow.holds Try.pinned (OpenSpec.ofChange flatNumbersSpec)

/-- ITS FALSE NEIGHBOUR: 'it returns false'. Refute it at one input. -/
def flatNumbersWrong : ChangeSpec := { name := "flatNumbers", fn := fun _ => fun
  | [] => { results := [.lit (.bool false)], args := [] }
  | _ => none }
def FlatNumbersWrongFalsely : Prop := flatNumbersRow.holds Try.pinned (OpenSpec.ofChange flatNumbersWrong)

/-- 'mutoscopelaw8.FlatWithin': WHATEVER THE INPUT: true; the input reads as it did. -/
def flatWithinSpec : ChangeSpec := { name := "flatWithin", fn := fun _ => fun
  | [d1, d2, d3, d4] => { results := [.lit (.bool true)], args := [d1, d2, d3, d4] }
  | _ => none }
def flatWithinRow : OpenClaim := { program := "ytegckonhfdlbbaa", sum := "4cdf695235d49e9a5cce04d3028f57269dee83e70fda241d60959584437c4146", func := "mutoscope/mutoscopelaw8.FlatWithin", spec := "flatWithin", recurses := true, apart := false }
def FlatWithinSaid : Prop := flatWithinRow.holds Try.pinned (OpenSpec.ofChange flatWithinSpec)

/-- ITS FALSE NEIGHBOUR: 'it returns false'. Refute it at one input. -/
def flatWithinWrong : ChangeSpec := { name := "flatWithin", fn := fun _ => fun
  | [d1, d2, d3, d4] => { results := [.lit (.bool false)], args := [d1, d2, d3, d4] }
  | _ => none }
def FlatWithinWrongFalsely : Prop := flatWithinRow.holds Try.pinned (OpenSpec.ofChange flatWithinWrong)

/-- 'mutoscopelaw8.FlatCounts': WHATEVER THE INPUT: true; the input reads as it did. -/
def flatCountsSpec : ChangeSpec := { name := "flatCounts", fn := fun _ => fun
  | [d] => { results := [.lit (.bool true)], args := [d] }
  | _ => none }
def flatCountsRow : OpenClaim := { program := "ytegckonhfdlbbaa", sum := "4cdf695235d49e9a5cce04d3028f57269dee83e70fda241d60959584437c4146", func := "mutoscope/mutoscopelaw8.FlatCounts", spec := "flatCounts", recurses := true, apart := false }
def FlatCountsSaid : Prop := flatCountsRow.holds Try.pinned (OpenSpec.ofChange flatCountsSpec)

/-- ITS FALSE NEIGHBOUR: 'it returns false'. Refute it at one input. -/
def flatCountsWrong : ChangeSpec := { name := "flatCounts", fn := fun _ => fun
  | [d] => { results := [.lit (.bool false)], args := [d] }
  | _ => none }
def FlatCountsWrongFalsely : Prop := flatCountsRow.holds Try.pinned (OpenSpec.ofChange flatCountsWrong)

/- THE SECOND FORM. 'bulk': how many values and letters a reading holds, each counted each time it is reached (what is shared counts as often as it is met; a slice's spare places count too). A statement '..UptoSaid' is the law's where the arguments, and the package variables that the reading takes, are together of bulk at most 1048576: NARROWER than '..Said'. Prove '..Said' where nothing that the law and all that it calls make is longer than what came in: it says more and counts as full. Else prove '..UptoSaid'. A law counts once. -/
mutual
def uptoBulk {H : Type} : DataW H → Nat
  | .lit (.string bytes) => bytes.length + 1
  | .lit _ => 1
  | .nil => 1
  | .ptr d => uptoBulk d + 1
  | .slice elems spare => uptoBulkAll elems + uptoBulkAll spare + 1
  | .agg parts => uptoBulkAll parts + 1
  | .iface _ d => uptoBulk d + 1
  | .map entries => uptoBulkEntries entries + 1
  | .held _ => 1
def uptoBulkAll {H : Type} : List (DataW H) → Nat
  | [] => 0
  | d :: r => uptoBulk d + uptoBulkAll r
def uptoBulkEntries {H : Type} : List (Lit × DataW H) → Nat
  | [] => 0
  | x :: r => uptoBulkEntry x + uptoBulkEntries r
def uptoBulkEntry {H : Type} : Lit × DataW H → Nat
  | (.string bytes, d) => bytes.length + uptoBulk d + 1
  | (_, d) => uptoBulk d + 1
 end
def uptoSmall : (H : Type) → List (DataW H) → Bool := fun _ ds => decide (uptoBulkAll ds ≤ 1048576)
def OpenSpec.upto (s : _root_.Go.ChangeSpec) : _root_.Go.OpenSpec := { _root_.Go.OpenSpec.ofChange s with cond := some uptoSmall }

/-- 'mutoscopelaw8.FlatNumbers', WHERE WHAT IT READS IS OF BULK AT MOST 1048576: true; the input reads as it did. -/
def flatNumbersUptoRow : OpenClaim := { program := "ytegckonhfdlbbaa", sum := "4cdf695235d49e9a5cce04d3028f57269dee83e70fda241d60959584437c4146", func := "mutoscope/mutoscopelaw8.FlatNumbers", spec := "flatNumbers", recurses := true, named := ["math/bits.divideError", "math/bits.overflowError"], apart := false, narrowed := true }
def FlatNumbersUptoSaid : Prop := flatNumbersUptoRow.holds Try.pinned (OpenSpec.upto flatNumbersSpec)

/-- 'mutoscopelaw8.FlatWithin', WHERE WHAT IT READS IS OF BULK AT MOST 1048576: true; the input reads as it did. -/
def flatWithinUptoRow : OpenClaim := { program := "ytegckonhfdlbbaa", sum := "4cdf695235d49e9a5cce04d3028f57269dee83e70fda241d60959584437c4146", func := "mutoscope/mutoscopelaw8.FlatWithin", spec := "flatWithin", recurses := true, apart := false, narrowed := true }
def FlatWithinUptoSaid : Prop := flatWithinUptoRow.holds Try.pinned (OpenSpec.upto flatWithinSpec)

/-- 'mutoscopelaw8.FlatCounts', WHERE WHAT IT READS IS OF BULK AT MOST 1048576: true; the input reads as it did. -/
def flatCountsUptoRow : OpenClaim := { program := "ytegckonhfdlbbaa", sum := "4cdf695235d49e9a5cce04d3028f57269dee83e70fda241d60959584437c4146", func := "mutoscope/mutoscopelaw8.FlatCounts", spec := "flatCounts", recurses := true, apart := false, narrowed := true }
def FlatCountsUptoSaid : Prop := flatCountsUptoRow.holds Try.pinned (OpenSpec.upto flatCountsSpec)

end Rows
end Go.Proofs.Ytegckonhfdlbbaa
