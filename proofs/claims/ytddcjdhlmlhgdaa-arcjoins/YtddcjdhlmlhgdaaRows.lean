/-
  No cell of these rows narrows 'for every input' (looked for: loops, veiled, ifaces, maps, wideKeys, modest, calm, conditions, laid).
  DERIVED. THE GIVEN ROWS OF THIS SEAT. 4 by the template 'for every input the law returns true; each argument reads behind the call as it read before'; 0 by the template 'total and deterministic' (their statements: YtddcjdhlmlhgdaaTotals.lean).
  GIVEN WITH THE SEED: the statements are not yours to turn. If you find one false, say at which input.
  Laid BY PROGRAM, IN A SANDBOX (cutbox-rows.mjs): the forced cells as the released guide's own fill.sh prints them over the translation af8f6d2bff831c16… (all of the seat's roots in one cut). By AI agents, Wed Nov 11 2026. No macro, syntax, notation, axiom, sorry.
-/
import Derived.Test.YtddcjdhlmlhgdaaChecked
import GoSem.Claim
import GoSem.ClaimJoined
import GoSem.ClaimMapViews
import Derived.JoinedTies
import Derived.KernelRfl
namespace Go.Proofs.Ytddcjdhlmlhgdaa
/- THE CELL 'sum', in the pinned program and in every row, IS THE sha256 OF THE DUMP (.gsa) THAT YtddcjdhlmlhgdaaProg.lean LOADS. Nothing in Lean hashes anything: it is a label: what it is worth is what the hold of that sum in a sandbox is worth. -/
noncomputable def Try.pinned : Pinned := { name := "ytddcjdhlmlhgdaa", sum := "af8f6d2bff831c16dd7d25408d07102508cbb7fa18546aa98a9947d8d01b2079", checked := Try.checked }
namespace Rows
def none {H : Type} : Left H := { results := [], args := [] }

/-- 'mutoscopelaw9.ArcNumbers': WHATEVER THE INPUT: true; the input reads as it did. -/
def arcNumbersSpec : ChangeSpec := { name := "arcNumbers", fn := fun _ => fun
  | [] => { results := [.lit (.bool true)], args := [] }
  | _ => none }
def arcNumbersRow : OpenClaim := { program := "ytddcjdhlmlhgdaa", sum := "af8f6d2bff831c16dd7d25408d07102508cbb7fa18546aa98a9947d8d01b2079", func := "mutoscope/mutoscopelaw9.ArcNumbers", spec := "arcNumbers", named := ["math/bits.divideError", "math/bits.overflowError"], apart := false }
def ArcNumbersSaid : Prop := arcNumbersRow.holds Try.pinned (OpenSpec.ofChange arcNumbersSpec)

/-- ITS FALSE NEIGHBOUR: 'it returns false'. Refute it at one input. -/
def arcNumbersWrong : ChangeSpec := { name := "arcNumbers", fn := fun _ => fun
  | [] => { results := [.lit (.bool false)], args := [] }
  | _ => none }
def ArcNumbersWrongFalsely : Prop := arcNumbersRow.holds Try.pinned (OpenSpec.ofChange arcNumbersWrong)

/-- 'mutoscopelaw9.ArcTells': WHATEVER THE INPUT: true; the input reads as it did. -/
def arcTellsSpec : ChangeSpec := { name := "arcTells", fn := fun _ => fun
  | [d1, d2, d3, d4, d5, d6, d7, d8] => { results := [.lit (.bool true)], args := [d1, d2, d3, d4, d5, d6, d7, d8] }
  | _ => none }
def arcTellsRow : OpenClaim := { program := "ytddcjdhlmlhgdaa", sum := "af8f6d2bff831c16dd7d25408d07102508cbb7fa18546aa98a9947d8d01b2079", func := "mutoscope/mutoscopelaw9.ArcTells", spec := "arcTells", named := ["math/bits.divideError", "math/bits.overflowError"], apart := false }
def ArcTellsSaid : Prop := arcTellsRow.holds Try.pinned (OpenSpec.ofChange arcTellsSpec)

/-- ITS FALSE NEIGHBOUR: 'it returns false'. Refute it at one input. -/
def arcTellsWrong : ChangeSpec := { name := "arcTells", fn := fun _ => fun
  | [d1, d2, d3, d4, d5, d6, d7, d8] => { results := [.lit (.bool false)], args := [d1, d2, d3, d4, d5, d6, d7, d8] }
  | _ => none }
def ArcTellsWrongFalsely : Prop := arcTellsRow.holds Try.pinned (OpenSpec.ofChange arcTellsWrong)

/-- 'mutoscopelaw9.ArcWhole': WHATEVER THE INPUT: true; the input reads as it did. -/
def arcWholeSpec : ChangeSpec := { name := "arcWhole", fn := fun _ => fun
  | [d] => { results := [.lit (.bool true)], args := [d] }
  | _ => none }
def arcWholeRow : OpenClaim := { program := "ytddcjdhlmlhgdaa", sum := "af8f6d2bff831c16dd7d25408d07102508cbb7fa18546aa98a9947d8d01b2079", func := "mutoscope/mutoscopelaw9.ArcWhole", spec := "arcWhole", apart := false }
def ArcWholeSaid : Prop := arcWholeRow.holds Try.pinned (OpenSpec.ofChange arcWholeSpec)

/-- ITS FALSE NEIGHBOUR: 'it returns false'. Refute it at one input. -/
def arcWholeWrong : ChangeSpec := { name := "arcWhole", fn := fun _ => fun
  | [d] => { results := [.lit (.bool false)], args := [d] }
  | _ => none }
def ArcWholeWrongFalsely : Prop := arcWholeRow.holds Try.pinned (OpenSpec.ofChange arcWholeWrong)

/-- 'mutoscopelaw9.ArcJoins': WHATEVER THE INPUT: true; the input reads as it did. -/
def arcJoinsSpec : ChangeSpec := { name := "arcJoins", fn := fun _ => fun
  | [d1, d2] => { results := [.lit (.bool true)], args := [d1, d2] }
  | _ => none }
def arcJoinsRow : OpenClaim := { program := "ytddcjdhlmlhgdaa", sum := "af8f6d2bff831c16dd7d25408d07102508cbb7fa18546aa98a9947d8d01b2079", func := "mutoscope/mutoscopelaw9.ArcJoins", spec := "arcJoins", apart := false }
def ArcJoinsSaid : Prop := arcJoinsRow.holds Try.pinned (OpenSpec.ofChange arcJoinsSpec)

/-- ITS FALSE NEIGHBOUR: 'it returns false'. Refute it at one input. -/
def arcJoinsWrong : ChangeSpec := { name := "arcJoins", fn := fun _ => fun
  | [d1, d2] => { results := [.lit (.bool false)], args := [d1, d2] }
  | _ => none }
def ArcJoinsWrongFalsely : Prop := arcJoinsRow.holds Try.pinned (OpenSpec.ofChange arcJoinsWrong)

/- THE SECOND FORM. 'bulk': how many values and letters a reading holds, each counted each time it is reached (what is shared counts as often as it is met; a slice's spare places count too). A statement '..UptoSaid' is the law's where the arguments, and the package variables that the reading takes, are together of bulk at most 1048576: NARROWER than '..Said'. Prove '..Said' where nothing that the law and all that it calls make is longer than what came in: it says more and counts as full. Else prove '..UptoSaid'. A law counts once. -/
mutual
def uptoBulk {H : Type} : DataW H → Nat
  | .lit (.string bytes) => bytes.length + 1
  | .lit _ => 1
  | .nil => 1
  | .ptr d => uptoBulk d + 1
  | .slice elems spare => uptoBulkAll elems + uptoBulkAll spare + 1
  | .agg parts => uptoBulkAll parts + 1
  | .iface _ d => uptoBulk d + 1
  | .map entries => uptoBulkEntries entries + 1
  | .held _ => 1
def uptoBulkAll {H : Type} : List (DataW H) → Nat
  | [] => 0
  | d :: r => uptoBulk d + uptoBulkAll r
def uptoBulkEntries {H : Type} : List (Lit × DataW H) → Nat
  | [] => 0
  | x :: r => uptoBulkEntry x + uptoBulkEntries r
def uptoBulkEntry {H : Type} : Lit × DataW H → Nat
  | (.string bytes, d) => bytes.length + uptoBulk d + 1
  | (_, d) => uptoBulk d + 1
 end
def uptoSmall : (H : Type) → List (DataW H) → Bool := fun _ ds => decide (uptoBulkAll ds ≤ 1048576)
def OpenSpec.upto (s : _root_.Go.ChangeSpec) : _root_.Go.OpenSpec := { _root_.Go.OpenSpec.ofChange s with cond := some uptoSmall }

/-- 'mutoscopelaw9.ArcNumbers', WHERE WHAT IT READS IS OF BULK AT MOST 1048576: true; the input reads as it did. -/
def arcNumbersUptoRow : OpenClaim := { program := "ytddcjdhlmlhgdaa", sum := "af8f6d2bff831c16dd7d25408d07102508cbb7fa18546aa98a9947d8d01b2079", func := "mutoscope/mutoscopelaw9.ArcNumbers", spec := "arcNumbers", named := ["math/bits.divideError", "math/bits.overflowError"], apart := false, narrowed := true }
def ArcNumbersUptoSaid : Prop := arcNumbersUptoRow.holds Try.pinned (OpenSpec.upto arcNumbersSpec)

/-- 'mutoscopelaw9.ArcTells', WHERE WHAT IT READS IS OF BULK AT MOST 1048576: true; the input reads as it did. -/
def arcTellsUptoRow : OpenClaim := { program := "ytddcjdhlmlhgdaa", sum := "af8f6d2bff831c16dd7d25408d07102508cbb7fa18546aa98a9947d8d01b2079", func := "mutoscope/mutoscopelaw9.ArcTells", spec := "arcTells", named := ["math/bits.divideError", "math/bits.overflowError"], apart := false, narrowed := true }
def ArcTellsUptoSaid : Prop := arcTellsUptoRow.holds Try.pinned (OpenSpec.upto arcTellsSpec)

/-- 'mutoscopelaw9.ArcWhole', WHERE WHAT IT READS IS OF BULK AT MOST 1048576: true; the input reads as it did. -/
def arcWholeUptoRow : OpenClaim := { program := "ytddcjdhlmlhgdaa", sum := "af8f6d2bff831c16dd7d25408d07102508cbb7fa18546aa98a9947d8d01b2079", func := "mutoscope/mutoscopelaw9.ArcWhole", spec := "arcWhole", apart := false, narrowed := true }
def ArcWholeUptoSaid : Prop := arcWholeUptoRow.holds Try.pinned (OpenSpec.upto arcWholeSpec)

/-- 'mutoscopelaw9.ArcJoins', WHERE WHAT IT READS IS OF BULK AT MOST 1048576: true; the input reads as it did. -/
def arcJoinsUptoRow : OpenClaim := { program := "ytddcjdhlmlhgdaa", sum := "af8f6d2bff831c16dd7d25408d07102508cbb7fa18546aa98a9947d8d01b2079", func := "mutoscope/mutoscopelaw9.ArcJoins", spec := "arcJoins", apart := false, narrowed := true }
def ArcJoinsUptoSaid : Prop := arcJoinsUptoRow.holds Try.pinned (OpenSpec.upto arcJoinsSpec)

end Rows
end Go.Proofs.Ytddcjdhlmlhgdaa
