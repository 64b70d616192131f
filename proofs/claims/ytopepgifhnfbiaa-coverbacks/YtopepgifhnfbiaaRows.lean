/-
  No cell of these rows narrows 'for every input' (looked for: loops, veiled, ifaces, maps, wideKeys, modest, calm, conditions, laid).
  DERIVED. THE GIVEN ROWS OF THIS SEAT. 5 by the template 'for every input the law returns true; each argument reads behind the call as it read before'; 0 by the template 'total and deterministic' (their statements: YtopepgifhnfbiaaTotals.lean).
  GIVEN WITH THE SEED: the statements are not yours to turn. If you find one false, say at which input.
  Laid BY PROGRAM, IN A SANDBOX (cutbox-rows.mjs): the forced cells as the released guide's own fill.sh prints them over the translation 6aa48e167aa45737… (all of the seat's roots in one cut). By AI agents, Wed Nov 11 2026. No macro, syntax, notation, axiom, sorry.
-/
import Derived.Test.YtopepgifhnfbiaaChecked
import GoSem.Claim
import GoSem.ClaimJoined
import GoSem.ClaimMapViews
import Derived.JoinedTies
import Derived.KernelRfl
namespace Go.Proofs.Ytopepgifhnfbiaa
/- THE CELL 'sum', in the pinned program and in every row, IS THE sha256 OF THE DUMP (.gsa) THAT YtopepgifhnfbiaaProg.lean LOADS. Nothing in Lean hashes anything: it is a label: what it is worth is what the hold of that sum in a sandbox is worth. -/
noncomputable def Try.pinned : Pinned := { name := "ytopepgifhnfbiaa", sum := "6aa48e167aa457377af6bb73e88d07f26aa3ee5d884e1a2d85dd3393e4e9ae68", checked := Try.checked }
namespace Rows
def none {H : Type} : Left H := { results := [], args := [] }

/-- 'mutoscopelaw15.CoverNumbers': WHATEVER THE INPUT: true; the input reads as it did. -/
def coverNumbersSpec : ChangeSpec := { name := "coverNumbers", fn := fun _ => fun
  | [] => { results := [.lit (.bool true)], args := [] }
  | _ => none }
def coverNumbersRow : OpenClaim := { program := "ytopepgifhnfbiaa", sum := "6aa48e167aa457377af6bb73e88d07f26aa3ee5d884e1a2d85dd3393e4e9ae68", func := "mutoscope/mutoscopelaw15.CoverNumbers", spec := "coverNumbers", unfollowed := true, recurses := true, named := ["math/bits.divideError", "math/bits.overflowError"], apart := false }
def CoverNumbersSaid : Prop := coverNumbersRow.holds Try.pinned (OpenSpec.ofChange coverNumbersSpec)

/-- ITS FALSE NEIGHBOUR: 'it returns false'. Refute it at one input. -/
def coverNumbersWrong : ChangeSpec := { name := "coverNumbers", fn := fun _ => fun
  | [] => { results := [.lit (.bool false)], args := [] }
  | _ => none }
def CoverNumbersWrongFalsely : Prop := coverNumbersRow.holds Try.pinned (OpenSpec.ofChange coverNumbersWrong)

/-- 'mutoscopelaw15.CoverTells': WHATEVER THE INPUT: true; the input reads as it did. -/
def coverTellsSpec : ChangeSpec := { name := "coverTells", fn := fun _ => fun
  | [d1, d2, d3, d4, d5, d6, d7] => { results := [.lit (.bool true)], args := [d1, d2, d3, d4, d5, d6, d7] }
  | _ => none }
def coverTellsRow : OpenClaim := { program := "ytopepgifhnfbiaa", sum := "6aa48e167aa457377af6bb73e88d07f26aa3ee5d884e1a2d85dd3393e4e9ae68", func := "mutoscope/mutoscopelaw15.CoverTells", spec := "coverTells", unfollowed := true, recurses := true, named := ["math/bits.divideError", "math/bits.overflowError"], apart := false }
def CoverTellsSaid : Prop := coverTellsRow.holds Try.pinned (OpenSpec.ofChange coverTellsSpec)

/-- ITS FALSE NEIGHBOUR: 'it returns false'. Refute it at one input. -/
def coverTellsWrong : ChangeSpec := { name := "coverTells", fn := fun _ => fun
  | [d1, d2, d3, d4, d5, d6, d7] => { results := [.lit (.bool false)], args := [d1, d2, d3, d4, d5, d6, d7] }
  | _ => none }
def CoverTellsWrongFalsely : Prop := coverTellsRow.holds Try.pinned (OpenSpec.ofChange coverTellsWrong)

/-- 'mutoscopelaw15.CoverWhole': WHATEVER THE INPUT: true; the input reads as it did. -/
def coverWholeSpec : ChangeSpec := { name := "coverWhole", fn := fun _ => fun
  | [d1, d2, d3] => { results := [.lit (.bool true)], args := [d1, d2, d3] }
  | _ => none }
def coverWholeRow : OpenClaim := { program := "ytopepgifhnfbiaa", sum := "6aa48e167aa457377af6bb73e88d07f26aa3ee5d884e1a2d85dd3393e4e9ae68", func := "mutoscope/mutoscopelaw15.CoverWhole", spec := "coverWhole", apart := false }
def CoverWholeSaid : Prop := coverWholeRow.holds Try.pinned (OpenSpec.ofChange coverWholeSpec)

/-- ITS FALSE NEIGHBOUR: 'it returns false'. Refute it at one input. -/
def coverWholeWrong : ChangeSpec := { name := "coverWhole", fn := fun _ => fun
  | [d1, d2, d3] => { results := [.lit (.bool false)], args := [d1, d2, d3] }
  | _ => none }
def CoverWholeWrongFalsely : Prop := coverWholeRow.holds Try.pinned (OpenSpec.ofChange coverWholeWrong)

/-- 'mutoscopelaw15.CoverBacks': WHATEVER THE INPUT: true; the input reads as it did. -/
def coverBacksSpec : ChangeSpec := { name := "coverBacks", fn := fun _ => fun
  | [d1, d2, d3, d4] => { results := [.lit (.bool true)], args := [d1, d2, d3, d4] }
  | _ => none }
def coverBacksRow : OpenClaim := { program := "ytopepgifhnfbiaa", sum := "6aa48e167aa457377af6bb73e88d07f26aa3ee5d884e1a2d85dd3393e4e9ae68", func := "mutoscope/mutoscopelaw15.CoverBacks", spec := "coverBacks", recurses := true, apart := false }
def CoverBacksSaid : Prop := coverBacksRow.holds Try.pinned (OpenSpec.ofChange coverBacksSpec)

/-- ITS FALSE NEIGHBOUR: 'it returns false'. Refute it at one input. -/
def coverBacksWrong : ChangeSpec := { name := "coverBacks", fn := fun _ => fun
  | [d1, d2, d3, d4] => { results := [.lit (.bool false)], args := [d1, d2, d3, d4] }
  | _ => none }
def CoverBacksWrongFalsely : Prop := coverBacksRow.holds Try.pinned (OpenSpec.ofChange coverBacksWrong)

/-- 'mutoscopelaw15.CoverShifts': WHATEVER THE INPUT: true; the input reads as it did. -/
def coverShiftsSpec : ChangeSpec := { name := "coverShifts", fn := fun _ => fun
  | [d1, d2, d3, d4, d5, d6] => { results := [.lit (.bool true)], args := [d1, d2, d3, d4, d5, d6] }
  | _ => none }
def coverShiftsRow : OpenClaim := { program := "ytopepgifhnfbiaa", sum := "6aa48e167aa457377af6bb73e88d07f26aa3ee5d884e1a2d85dd3393e4e9ae68", func := "mutoscope/mutoscopelaw15.CoverShifts", spec := "coverShifts", recurses := true, named := ["math/bits.divideError", "math/bits.overflowError"], apart := false }
def CoverShiftsSaid : Prop := coverShiftsRow.holds Try.pinned (OpenSpec.ofChange coverShiftsSpec)

/-- ITS FALSE NEIGHBOUR: 'it returns false'. Refute it at one input. -/
def coverShiftsWrong : ChangeSpec := { name := "coverShifts", fn := fun _ => fun
  | [d1, d2, d3, d4, d5, d6] => { results := [.lit (.bool false)], args := [d1, d2, d3, d4, d5, d6] }
  | _ => none }
def CoverShiftsWrongFalsely : Prop := coverShiftsRow.holds Try.pinned (OpenSpec.ofChange coverShiftsWrong)

/- THE SECOND FORM. 'bulk': how many values and letters a reading holds, each counted each time it is reached (what is shared counts as often as it is met; a slice's spare places count too). A statement '..UptoSaid' is the law's where the arguments, and the package variables that the reading takes, are together of bulk at most 1048576: NARROWER than '..Said'. Prove '..Said' where nothing that the law and all that it calls make is longer than what came in: it says more and counts as full. Else prove '..UptoSaid'. A law counts once. -/
mutual
def uptoBulk {H : Type} : DataW H → Nat
  | .lit (.string bytes) => bytes.length + 1
  | .lit _ => 1
  | .nil => 1
  | .ptr d => uptoBulk d + 1
  | .slice elems spare => uptoBulkAll elems + uptoBulkAll spare + 1
  | .agg parts => uptoBulkAll parts + 1
  | .iface _ d => uptoBulk d + 1
  | .map entries => uptoBulkEntries entries + 1
  | .held _ => 1
def uptoBulkAll {H : Type} : List (DataW H) → Nat
  | [] => 0
  | d :: r => uptoBulk d + uptoBulkAll r
def uptoBulkEntries {H : Type} : List (Lit × DataW H) → Nat
  | [] => 0
  | x :: r => uptoBulkEntry x + uptoBulkEntries r
def uptoBulkEntry {H : Type} : Lit × DataW H → Nat
  | (.string bytes, d) => bytes.length + uptoBulk d + 1
  | (_, d) => uptoBulk d + 1
 end
def uptoSmall : (H : Type) → List (DataW H) → Bool := fun _ ds => decide (uptoBulkAll ds ≤ 1048576)
def OpenSpec.upto (s : _root_.Go.ChangeSpec) : _root_.Go.OpenSpec := { _root_.Go.OpenSpec.ofChange s with cond := some uptoSmall }

/-- 'mutoscopelaw15.CoverNumbers', WHERE WHAT IT READS IS OF BULK AT MOST 1048576: true; the input reads as it did. -/
def coverNumbersUptoRow : OpenClaim := { program := "ytopepgifhnfbiaa", sum := "6aa48e167aa457377af6bb73e88d07f26aa3ee5d884e1a2d85dd3393e4e9ae68", func := "mutoscope/mutoscopelaw15.CoverNumbers", spec := "coverNumbers", unfollowed := true, recurses := true, named := ["math/bits.divideError", "math/bits.overflowError"], apart := false, narrowed := true }
def CoverNumbersUptoSaid : Prop := coverNumbersUptoRow.holds Try.pinned (OpenSpec.upto coverNumbersSpec)

/-- 'mutoscopelaw15.CoverTells', WHERE WHAT IT READS IS OF BULK AT MOST 1048576: true; the input reads as it did. -/
def coverTellsUptoRow : OpenClaim := { program := "ytopepgifhnfbiaa", sum := "6aa48e167aa457377af6bb73e88d07f26aa3ee5d884e1a2d85dd3393e4e9ae68", func := "mutoscope/mutoscopelaw15.CoverTells", spec := "coverTells", unfollowed := true, recurses := true, named := ["math/bits.divideError", "math/bits.overflowError"], apart := false, narrowed := true }
def CoverTellsUptoSaid : Prop := coverTellsUptoRow.holds Try.pinned (OpenSpec.upto coverTellsSpec)

/-- 'mutoscopelaw15.CoverWhole', WHERE WHAT IT READS IS OF BULK AT MOST 1048576: true; the input reads as it did. -/
def coverWholeUptoRow : OpenClaim := { program := "ytopepgifhnfbiaa", sum := "6aa48e167aa457377af6bb73e88d07f26aa3ee5d884e1a2d85dd3393e4e9ae68", func := "mutoscope/mutoscopelaw15.CoverWhole", spec := "coverWhole", apart := false, narrowed := true }
def CoverWholeUptoSaid : Prop := coverWholeUptoRow.holds Try.pinned (OpenSpec.upto coverWholeSpec)

/-- 'mutoscopelaw15.CoverBacks', WHERE WHAT IT READS IS OF BULK AT MOST 1048576: true; the input reads as it did. -/
def coverBacksUptoRow : OpenClaim := { program := "ytopepgifhnfbiaa", sum := "6aa48e167aa457377af6bb73e88d07f26aa3ee5d884e1a2d85dd3393e4e9ae68", func := "mutoscope/mutoscopelaw15.CoverBacks", spec := "coverBacks", recurses := true, apart := false, narrowed := true }
def CoverBacksUptoSaid : Prop := coverBacksUptoRow.holds Try.pinned (OpenSpec.upto coverBacksSpec)

/-- 'mutoscopelaw15.CoverShifts', WHERE WHAT IT READS IS OF BULK AT MOST 1048576: true; the input reads as it did. -/
def coverShiftsUptoRow : OpenClaim := { program := "ytopepgifhnfbiaa", sum := "6aa48e167aa457377af6bb73e88d07f26aa3ee5d884e1a2d85dd3393e4e9ae68", func := "mutoscope/mutoscopelaw15.CoverShifts", spec := "coverShifts", recurses := true, named := ["math/bits.divideError", "math/bits.overflowError"], apart := false, narrowed := true }
def CoverShiftsUptoSaid : Prop := coverShiftsUptoRow.holds Try.pinned (OpenSpec.upto coverShiftsSpec)

end Rows
end Go.Proofs.Ytopepgifhnfbiaa
