/-
  No cell of these rows narrows 'for every input' (looked for: loops, veiled, ifaces, maps, wideKeys, modest, calm, conditions, laid).
  DERIVED. THE GIVEN ROWS OF THIS SEAT. 4 by the template 'for every input the law returns true; each argument reads behind the call as it read before'; 0 by the template 'total and deterministic' (their statements: YtgnmiilmmbblmaaTotals.lean).
  GIVEN WITH THE SEED: the statements are not yours to turn. If you find one false, say at which input.
  Laid BY PROGRAM, IN A SANDBOX (cutbox-rows.mjs): the forced cells as the released guide's own fill.sh prints them over the translation 90015380453a7114… (all of the seat's roots in one cut). By AI agents, Wed Nov 11 2026. No macro, syntax, notation, axiom, sorry.
-/
import Derived.Test.YtgnmiilmmbblmaaChecked
import GoSem.Claim
import GoSem.ClaimJoined
import GoSem.ClaimMapViews
import Derived.JoinedTies
import Derived.KernelRfl
namespace Go.Proofs.Ytgnmiilmmbblmaa
/- THE CELL 'sum', in the pinned program and in every row, IS THE sha256 OF THE DUMP (.gsa) THAT YtgnmiilmmbblmaaProg.lean LOADS. Nothing in Lean hashes anything: it is a label: what it is worth is what the hold of that sum in a sandbox is worth. -/
noncomputable def Try.pinned : Pinned := { name := "ytgnmiilmmbblmaa", sum := "90015380453a7114dfac919df49af86884ce215c6fea12b7ca4863ea6d7e1bd4", checked := Try.checked }
namespace Rows
def none {H : Type} : Left H := { results := [], args := [] }

/-- 'mutoscopelaw11.DashNumbers': WHATEVER THE INPUT: true; the input reads as it did. -/
def dashNumbersSpec : ChangeSpec := { name := "dashNumbers", fn := fun _ => fun
  | [] => { results := [.lit (.bool true)], args := [] }
  | _ => none }
def dashNumbersRow : OpenClaim := { program := "ytgnmiilmmbblmaa", sum := "90015380453a7114dfac919df49af86884ce215c6fea12b7ca4863ea6d7e1bd4", func := "mutoscope/mutoscopelaw11.DashNumbers", spec := "dashNumbers", named := ["math/bits.divideError", "math/bits.overflowError"], apart := false }
def DashNumbersSaid : Prop := dashNumbersRow.holds Try.pinned (OpenSpec.ofChange dashNumbersSpec)

/-- ITS FALSE NEIGHBOUR: 'it returns false'. Refute it at one input. -/
def dashNumbersWrong : ChangeSpec := { name := "dashNumbers", fn := fun _ => fun
  | [] => { results := [.lit (.bool false)], args := [] }
  | _ => none }
def DashNumbersWrongFalsely : Prop := dashNumbersRow.holds Try.pinned (OpenSpec.ofChange dashNumbersWrong)

/-- 'mutoscopelaw11.DashTells': WHATEVER THE INPUT: true; the input reads as it did. -/
def dashTellsSpec : ChangeSpec := { name := "dashTells", fn := fun _ => fun
  | [d1, d2, d3] => { results := [.lit (.bool true)], args := [d1, d2, d3] }
  | _ => none }
def dashTellsRow : OpenClaim := { program := "ytgnmiilmmbblmaa", sum := "90015380453a7114dfac919df49af86884ce215c6fea12b7ca4863ea6d7e1bd4", func := "mutoscope/mutoscopelaw11.DashTells", spec := "dashTells", named := ["math/bits.divideError", "math/bits.overflowError"], apart := false }
def DashTellsSaid : Prop := dashTellsRow.holds Try.pinned (OpenSpec.ofChange dashTellsSpec)

/-- ITS FALSE NEIGHBOUR: 'it returns false'. Refute it at one input. -/
def dashTellsWrong : ChangeSpec := { name := "dashTells", fn := fun _ => fun
  | [d1, d2, d3] => { results := [.lit (.bool false)], args := [d1, d2, d3] }
  | _ => none }
def DashTellsWrongFalsely : Prop := dashTellsRow.holds Try.pinned (OpenSpec.ofChange dashTellsWrong)

/-- 'mutoscopelaw11.DashLengths': WHATEVER THE INPUT: true; the input reads as it did. -/
def dashLengthsSpec : ChangeSpec := { name := "dashLengths", fn := fun _ => fun
  | [d1, d2, d3] => { results := [.lit (.bool true)], args := [d1, d2, d3] }
  | _ => none }
def dashLengthsRow : OpenClaim := { program := "ytgnmiilmmbblmaa", sum := "90015380453a7114dfac919df49af86884ce215c6fea12b7ca4863ea6d7e1bd4", func := "mutoscope/mutoscopelaw11.DashLengths", spec := "dashLengths", apart := false }
def DashLengthsSaid : Prop := dashLengthsRow.holds Try.pinned (OpenSpec.ofChange dashLengthsSpec)

/-- ITS FALSE NEIGHBOUR: 'it returns false'. Refute it at one input. -/
def dashLengthsWrong : ChangeSpec := { name := "dashLengths", fn := fun _ => fun
  | [d1, d2, d3] => { results := [.lit (.bool false)], args := [d1, d2, d3] }
  | _ => none }
def DashLengthsWrongFalsely : Prop := dashLengthsRow.holds Try.pinned (OpenSpec.ofChange dashLengthsWrong)

/-- 'mutoscopelaw11.DashWhole': WHATEVER THE INPUT: true; the input reads as it did. -/
def dashWholeSpec : ChangeSpec := { name := "dashWhole", fn := fun _ => fun
  | [d] => { results := [.lit (.bool true)], args := [d] }
  | _ => none }
def dashWholeRow : OpenClaim := { program := "ytgnmiilmmbblmaa", sum := "90015380453a7114dfac919df49af86884ce215c6fea12b7ca4863ea6d7e1bd4", func := "mutoscope/mutoscopelaw11.DashWhole", spec := "dashWhole", named := ["math/bits.divideError", "math/bits.overflowError"], apart := false }
def DashWholeSaid : Prop := dashWholeRow.holds Try.pinned (OpenSpec.ofChange dashWholeSpec)

/-- ITS FALSE NEIGHBOUR: 'it returns false'. Refute it at one input. -/
def dashWholeWrong : ChangeSpec := { name := "dashWhole", fn := fun _ => fun
  | [d] => { results := [.lit (.bool false)], args := [d] }
  | _ => none }
def DashWholeWrongFalsely : Prop := dashWholeRow.holds Try.pinned (OpenSpec.ofChange dashWholeWrong)

/- THE SECOND FORM. 'bulk': how many values and letters a reading holds, each counted each time it is reached (what is shared counts as often as it is met; a slice's spare places count too). A statement '..UptoSaid' is the law's where the arguments, and the package variables that the reading takes, are together of bulk at most 1048576: NARROWER than '..Said'. Prove '..Said' where nothing that the law and all that it calls make is longer than what came in: it says more and counts as full. Else prove '..UptoSaid'. A law counts once. -/
mutual
def uptoBulk {H : Type} : DataW H → Nat
  | .lit (.string bytes) => bytes.length + 1
  | .lit _ => 1
  | .nil => 1
  | .ptr d => uptoBulk d + 1
  | .slice elems spare => uptoBulkAll elems + uptoBulkAll spare + 1
  | .agg parts => uptoBulkAll parts + 1
  | .iface _ d => uptoBulk d + 1
  | .map entries => uptoBulkEntries entries + 1
  | .held _ => 1
def uptoBulkAll {H : Type} : List (DataW H) → Nat
  | [] => 0
  | d :: r => uptoBulk d + uptoBulkAll r
def uptoBulkEntries {H : Type} : List (Lit × DataW H) → Nat
  | [] => 0
  | x :: r => uptoBulkEntry x + uptoBulkEntries r
def uptoBulkEntry {H : Type} : Lit × DataW H → Nat
  | (.string bytes, d) => bytes.length + uptoBulk d + 1
  | (_, d) => uptoBulk d + 1
 end
def uptoSmall : (H : Type) → List (DataW H) → Bool := fun _ ds => decide (uptoBulkAll ds ≤ 1048576)
def OpenSpec.upto (s : _root_.Go.ChangeSpec) : _root_.Go.OpenSpec := { _root_.Go.OpenSpec.ofChange s with cond := some uptoSmall }

/-- 'mutoscopelaw11.DashNumbers', WHERE WHAT IT READS IS OF BULK AT MOST 1048576: true; the input reads as it did. -/
def dashNumbersUptoRow : OpenClaim := { program := "ytgnmiilmmbblmaa", sum := "90015380453a7114dfac919df49af86884ce215c6fea12b7ca4863ea6d7e1bd4", func := "mutoscope/mutoscopelaw11.DashNumbers", spec := "dashNumbers", named := ["math/bits.divideError", "math/bits.overflowError"], apart := false, narrowed := true }
def DashNumbersUptoSaid : Prop := dashNumbersUptoRow.holds Try.pinned (OpenSpec.upto dashNumbersSpec)

/-- 'mutoscopelaw11.DashTells', WHERE WHAT IT READS IS OF BULK AT MOST 1048576: true; the input reads as it did. -/
def dashTellsUptoRow : OpenClaim := { program := "ytgnmiilmmbblmaa", sum := "90015380453a7114dfac919df49af86884ce215c6fea12b7ca4863ea6d7e1bd4", func := "mutoscope/mutoscopelaw11.DashTells", spec := "dashTells", named := ["math/bits.divideError", "math/bits.overflowError"], apart := false, narrowed := true }
def DashTellsUptoSaid : Prop := dashTellsUptoRow.holds Try.pinned (OpenSpec.upto dashTellsSpec)

/-- 'mutoscopelaw11.DashLengths', WHERE WHAT IT READS IS OF BULK AT MOST 1048576: true; the input reads as it did. -/
def dashLengthsUptoRow : OpenClaim := { program := "ytgnmiilmmbblmaa", sum := "90015380453a7114dfac919df49af86884ce215c6fea12b7ca4863ea6d7e1bd4", func := "mutoscope/mutoscopelaw11.DashLengths", spec := "dashLengths", apart := false, narrowed := true }
def DashLengthsUptoSaid : Prop := dashLengthsUptoRow.holds Try.pinned (OpenSpec.upto dashLengthsSpec)

/-- 'mutoscopelaw11.DashWhole', WHERE WHAT IT READS IS OF BULK AT MOST 1048576: true; the input reads as it did. -/
def dashWholeUptoRow : OpenClaim := { program := "ytgnmiilmmbblmaa", sum := "90015380453a7114dfac919df49af86884ce215c6fea12b7ca4863ea6d7e1bd4", func := "mutoscope/mutoscopelaw11.DashWhole", spec := "dashWhole", named := ["math/bits.divideError", "math/bits.overflowError"], apart := false, narrowed := true }
def DashWholeUptoSaid : Prop := dashWholeUptoRow.holds Try.pinned (OpenSpec.upto dashWholeSpec)

end Rows
end Go.Proofs.Ytgnmiilmmbblmaa
