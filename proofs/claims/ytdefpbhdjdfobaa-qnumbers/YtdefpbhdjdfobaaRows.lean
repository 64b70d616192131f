/-
  No cell of these rows narrows 'for every input' (looked for: loops, veiled, ifaces, maps, wideKeys, modest, calm, conditions, laid).
  DERIVED. THE GIVEN ROWS OF THIS SEAT. 6 by the template 'for every input the law returns true; each argument reads behind the call as it read before'; 0 by the template 'total and deterministic' (their statements: YtdefpbhdjdfobaaTotals.lean).
  GIVEN WITH THE SEED: the statements are not yours to turn. If you find one false, say at which input.
  Laid BY PROGRAM, IN A SANDBOX (cutbox-rows.mjs): the forced cells as the released guide's own fill.sh prints them over the translation a2868a1184bf47e7… (all of the seat's roots in one cut). By AI agents, Wed Nov 11 2026. No macro, syntax, notation, axiom, sorry.
-/
import Derived.Test.YtdefpbhdjdfobaaChecked
import GoSem.Claim
import GoSem.ClaimJoined
import GoSem.ClaimMapViews
import Derived.JoinedTies
import Derived.KernelRfl
namespace Go.Proofs.Ytdefpbhdjdfobaa
/- THE CELL 'sum', in the pinned program and in every row, IS THE sha256 OF THE DUMP (.gsa) THAT YtdefpbhdjdfobaaProg.lean LOADS. Nothing in Lean hashes anything: it is a label: what it is worth is what the hold of that sum in a sandbox is worth. -/
noncomputable def Try.pinned : Pinned := { name := "ytdefpbhdjdfobaa", sum := "a2868a1184bf47e7df7a848e5563c4751c779f93c1ceabaf4ee79637317cf3a0", checked := Try.checked }
namespace Rows
def none {H : Type} : Left H := { results := [], args := [] }

/-- 'mutoscopelaw1.QNumbers': WHATEVER THE INPUT: true; the input reads as it did. -/
def qNumbersSpec : ChangeSpec := { name := "qNumbers", fn := fun _ => fun
  | [] => { results := [.lit (.bool true)], args := [] }
  | _ => none }
def qNumbersRow : OpenClaim := { program := "ytdefpbhdjdfobaa", sum := "a2868a1184bf47e7df7a848e5563c4751c779f93c1ceabaf4ee79637317cf3a0", func := "mutoscope/mutoscopelaw1.QNumbers", spec := "qNumbers", named := ["math/bits.divideError", "math/bits.overflowError"], apart := false }
def QNumbersSaid : Prop := qNumbersRow.holds Try.pinned (OpenSpec.ofChange qNumbersSpec)

/-- ITS FALSE NEIGHBOUR: 'it returns false'. Refute it at one input. -/
def qNumbersWrong : ChangeSpec := { name := "qNumbers", fn := fun _ => fun
  | [] => { results := [.lit (.bool false)], args := [] }
  | _ => none }
def QNumbersWrongFalsely : Prop := qNumbersRow.holds Try.pinned (OpenSpec.ofChange qNumbersWrong)

/-- 'mutoscopelaw1.QTells': WHATEVER THE INPUT: true; the input reads as it did. -/
def qTellsSpec : ChangeSpec := { name := "qTells", fn := fun _ => fun
  | [d1, d2, d3] => { results := [.lit (.bool true)], args := [d1, d2, d3] }
  | _ => none }
def qTellsRow : OpenClaim := { program := "ytdefpbhdjdfobaa", sum := "a2868a1184bf47e7df7a848e5563c4751c779f93c1ceabaf4ee79637317cf3a0", func := "mutoscope/mutoscopelaw1.QTells", spec := "qTells", named := ["math/bits.divideError", "math/bits.overflowError"], apart := false }
def QTellsSaid : Prop := qTellsRow.holds Try.pinned (OpenSpec.ofChange qTellsSpec)

/-- ITS FALSE NEIGHBOUR: 'it returns false'. Refute it at one input. -/
def qTellsWrong : ChangeSpec := { name := "qTells", fn := fun _ => fun
  | [d1, d2, d3] => { results := [.lit (.bool false)], args := [d1, d2, d3] }
  | _ => none }
def QTellsWrongFalsely : Prop := qTellsRow.holds Try.pinned (OpenSpec.ofChange qTellsWrong)

/-- 'mutoscopelaw1.QBack': WHATEVER THE INPUT: true; the input reads as it did. -/
def qBackSpec : ChangeSpec := { name := "qBack", fn := fun _ => fun
  | [d1, d2] => { results := [.lit (.bool true)], args := [d1, d2] }
  | _ => none }
def qBackRow : OpenClaim := { program := "ytdefpbhdjdfobaa", sum := "a2868a1184bf47e7df7a848e5563c4751c779f93c1ceabaf4ee79637317cf3a0", func := "mutoscope/mutoscopelaw1.QBack", spec := "qBack", apart := false }
def QBackSaid : Prop := qBackRow.holds Try.pinned (OpenSpec.ofChange qBackSpec)

/-- ITS FALSE NEIGHBOUR: 'it returns false'. Refute it at one input. -/
def qBackWrong : ChangeSpec := { name := "qBack", fn := fun _ => fun
  | [d1, d2] => { results := [.lit (.bool false)], args := [d1, d2] }
  | _ => none }
def QBackWrongFalsely : Prop := qBackRow.holds Try.pinned (OpenSpec.ofChange qBackWrong)

/-- 'mutoscopelaw1.QMids': WHATEVER THE INPUT: true; the input reads as it did. -/
def qMidsSpec : ChangeSpec := { name := "qMids", fn := fun _ => fun
  | [d1, d2, d3] => { results := [.lit (.bool true)], args := [d1, d2, d3] }
  | _ => none }
def qMidsRow : OpenClaim := { program := "ytdefpbhdjdfobaa", sum := "a2868a1184bf47e7df7a848e5563c4751c779f93c1ceabaf4ee79637317cf3a0", func := "mutoscope/mutoscopelaw1.QMids", spec := "qMids", apart := false }
def QMidsSaid : Prop := qMidsRow.holds Try.pinned (OpenSpec.ofChange qMidsSpec)

/-- ITS FALSE NEIGHBOUR: 'it returns false'. Refute it at one input. -/
def qMidsWrong : ChangeSpec := { name := "qMids", fn := fun _ => fun
  | [d1, d2, d3] => { results := [.lit (.bool false)], args := [d1, d2, d3] }
  | _ => none }
def QMidsWrongFalsely : Prop := qMidsRow.holds Try.pinned (OpenSpec.ofChange qMidsWrong)

/-- 'mutoscopelaw1.QSigns': WHATEVER THE INPUT: true; the input reads as it did. -/
def qSignsSpec : ChangeSpec := { name := "qSigns", fn := fun _ => fun
  | [d1, d2, d3] => { results := [.lit (.bool true)], args := [d1, d2, d3] }
  | _ => none }
def qSignsRow : OpenClaim := { program := "ytdefpbhdjdfobaa", sum := "a2868a1184bf47e7df7a848e5563c4751c779f93c1ceabaf4ee79637317cf3a0", func := "mutoscope/mutoscopelaw1.QSigns", spec := "qSigns", apart := false }
def QSignsSaid : Prop := qSignsRow.holds Try.pinned (OpenSpec.ofChange qSignsSpec)

/-- ITS FALSE NEIGHBOUR: 'it returns false'. Refute it at one input. -/
def qSignsWrong : ChangeSpec := { name := "qSigns", fn := fun _ => fun
  | [d1, d2, d3] => { results := [.lit (.bool false)], args := [d1, d2, d3] }
  | _ => none }
def QSignsWrongFalsely : Prop := qSignsRow.holds Try.pinned (OpenSpec.ofChange qSignsWrong)

/-- 'mutoscopelaw1.QOrders': WHATEVER THE INPUT: true; the input reads as it did. -/
def qOrdersSpec : ChangeSpec := { name := "qOrders", fn := fun _ => fun
  | [d1, d2, d3] => { results := [.lit (.bool true)], args := [d1, d2, d3] }
  | _ => none }
def qOrdersRow : OpenClaim := { program := "ytdefpbhdjdfobaa", sum := "a2868a1184bf47e7df7a848e5563c4751c779f93c1ceabaf4ee79637317cf3a0", func := "mutoscope/mutoscopelaw1.QOrders", spec := "qOrders", apart := false }
def QOrdersSaid : Prop := qOrdersRow.holds Try.pinned (OpenSpec.ofChange qOrdersSpec)

/-- ITS FALSE NEIGHBOUR: 'it returns false'. Refute it at one input. -/
def qOrdersWrong : ChangeSpec := { name := "qOrders", fn := fun _ => fun
  | [d1, d2, d3] => { results := [.lit (.bool false)], args := [d1, d2, d3] }
  | _ => none }
def QOrdersWrongFalsely : Prop := qOrdersRow.holds Try.pinned (OpenSpec.ofChange qOrdersWrong)

/- THE SECOND FORM. 'bulk': how many values and letters a reading holds, each counted each time it is reached (what is shared counts as often as it is met; a slice's spare places count too). A statement '..UptoSaid' is the law's where the arguments, and the package variables that the reading takes, are together of bulk at most 1048576: NARROWER than '..Said'. Prove '..Said' where nothing that the law and all that it calls make is longer than what came in: it says more and counts as full. Else prove '..UptoSaid'. A law counts once. -/
mutual
def uptoBulk {H : Type} : DataW H → Nat
  | .lit (.string bytes) => bytes.length + 1
  | .lit _ => 1
  | .nil => 1
  | .ptr d => uptoBulk d + 1
  | .slice elems spare => uptoBulkAll elems + uptoBulkAll spare + 1
  | .agg parts => uptoBulkAll parts + 1
  | .iface _ d => uptoBulk d + 1
  | .map entries => uptoBulkEntries entries + 1
  | .held _ => 1
def uptoBulkAll {H : Type} : List (DataW H) → Nat
  | [] => 0
  | d :: r => uptoBulk d + uptoBulkAll r
def uptoBulkEntries {H : Type} : List (Lit × DataW H) → Nat
  | [] => 0
  | x :: r => uptoBulkEntry x + uptoBulkEntries r
def uptoBulkEntry {H : Type} : Lit × DataW H → Nat
  | (.string bytes, d) => bytes.length + uptoBulk d + 1
  | (_, d) => uptoBulk d + 1
 end
def uptoSmall : (H : Type) → List (DataW H) → Bool := fun _ ds => decide (uptoBulkAll ds ≤ 1048576)
def OpenSpec.upto (s : _root_.Go.ChangeSpec) : _root_.Go.OpenSpec := { _root_.Go.OpenSpec.ofChange s with cond := some uptoSmall }

/-- 'mutoscopelaw1.QNumbers', WHERE WHAT IT READS IS OF BULK AT MOST 1048576: true; the input reads as it did. -/
def qNumbersUptoRow : OpenClaim := { program := "ytdefpbhdjdfobaa", sum := "a2868a1184bf47e7df7a848e5563c4751c779f93c1ceabaf4ee79637317cf3a0", func := "mutoscope/mutoscopelaw1.QNumbers", spec := "qNumbers", named := ["math/bits.divideError", "math/bits.overflowError"], apart := false, narrowed := true }
def QNumbersUptoSaid : Prop := qNumbersUptoRow.holds Try.pinned (OpenSpec.upto qNumbersSpec)

/-- 'mutoscopelaw1.QTells', WHERE WHAT IT READS IS OF BULK AT MOST 1048576: true; the input reads as it did. -/
def qTellsUptoRow : OpenClaim := { program := "ytdefpbhdjdfobaa", sum := "a2868a1184bf47e7df7a848e5563c4751c779f93c1ceabaf4ee79637317cf3a0", func := "mutoscope/mutoscopelaw1.QTells", spec := "qTells", named := ["math/bits.divideError", "math/bits.overflowError"], apart := false, narrowed := true }
def QTellsUptoSaid : Prop := qTellsUptoRow.holds Try.pinned (OpenSpec.upto qTellsSpec)

/-- 'mutoscopelaw1.QBack', WHERE WHAT IT READS IS OF BULK AT MOST 1048576: true; the input reads as it did. -/
def qBackUptoRow : OpenClaim := { program := "ytdefpbhdjdfobaa", sum := "a2868a1184bf47e7df7a848e5563c4751c779f93c1ceabaf4ee79637317cf3a0", func := "mutoscope/mutoscopelaw1.QBack", spec := "qBack", apart := false, narrowed := true }
def QBackUptoSaid : Prop := qBackUptoRow.holds Try.pinned (OpenSpec.upto qBackSpec)

/-- 'mutoscopelaw1.QMids', WHERE WHAT IT READS IS OF BULK AT MOST 1048576: true; the input reads as it did. -/
def qMidsUptoRow : OpenClaim := { program := "ytdefpbhdjdfobaa", sum := "a2868a1184bf47e7df7a848e5563c4751c779f93c1ceabaf4ee79637317cf3a0", func := "mutoscope/mutoscopelaw1.QMids", spec := "qMids", apart := false, narrowed := true }
def QMidsUptoSaid : Prop := qMidsUptoRow.holds Try.pinned (OpenSpec.upto qMidsSpec)

/-- 'mutoscopelaw1.QSigns', WHERE WHAT IT READS IS OF BULK AT MOST 1048576: true; the input reads as it did. -/
def qSignsUptoRow : OpenClaim := { program := "ytdefpbhdjdfobaa", sum := "a2868a1184bf47e7df7a848e5563c4751c779f93c1ceabaf4ee79637317cf3a0", func := "mutoscope/mutoscopelaw1.QSigns", spec := "qSigns", apart := false, narrowed := true }
def QSignsUptoSaid : Prop := qSignsUptoRow.holds Try.pinned (OpenSpec.upto qSignsSpec)

/-- 'mutoscopelaw1.QOrders', WHERE WHAT IT READS IS OF BULK AT MOST 1048576: true; the input reads as it did. -/
def qOrdersUptoRow : OpenClaim := { program := "ytdefpbhdjdfobaa", sum := "a2868a1184bf47e7df7a848e5563c4751c779f93c1ceabaf4ee79637317cf3a0", func := "mutoscope/mutoscopelaw1.QOrders", spec := "qOrders", apart := false, narrowed := true }
def QOrdersUptoSaid : Prop := qOrdersUptoRow.holds Try.pinned (OpenSpec.upto qOrdersSpec)

end Rows
end Go.Proofs.Ytdefpbhdjdfobaa
