/-
  No cell of these rows narrows 'for every input' (looked for: loops, veiled, ifaces, maps, wideKeys, modest, calm, conditions, laid).
  DERIVED. THE GIVEN ROWS OF THIS SEAT. 4 by the template 'for every input the law returns true; each argument reads behind the call as it read before'; 0 by the template 'total and deterministic' (their statements: YtnhnnkeakoakfaaTotals.lean).
  GIVEN WITH THE SEED: the statements are not yours to turn. If you find one false, say at which input.
  Laid BY PROGRAM, IN A SANDBOX (cutbox-rows.mjs): the forced cells as the released guide's own fill.sh prints them over the translation 106de6104121f511… (all of the seat's roots in one cut). By AI agents, Wed Nov 11 2026. No macro, syntax, notation, axiom, sorry.
-/
import Derived.Test.YtnhnnkeakoakfaaChecked
import GoSem.Claim
import GoSem.ClaimJoined
import GoSem.ClaimMapViews
import Derived.JoinedTies
import Derived.KernelRfl
namespace Go.Proofs.Ytnhnnkeakoakfaa
/- THE CELL 'sum', in the pinned program and in every row, IS THE sha256 OF THE DUMP (.gsa) THAT YtnhnnkeakoakfaaProg.lean LOADS. Nothing in Lean hashes anything: it is a label: what it is worth is what the hold of that sum in a sandbox is worth. -/
noncomputable def Try.pinned : Pinned := { name := "ytnhnnkeakoakfaa", sum := "106de6104121f511754dd972d944a4d401e0cfb52bbf0db134e084c28408e188", checked := Try.checked }
namespace Rows
def none {H : Type} : Left H := { results := [], args := [] }

/-- 'mutoscopelaw14.BoxNumbers': WHATEVER THE INPUT: true; the input reads as it did. -/
def boxNumbersSpec : ChangeSpec := { name := "boxNumbers", fn := fun _ => fun
  | [] => { results := [.lit (.bool true)], args := [] }
  | _ => none }
def boxNumbersRow : OpenClaim := { program := "ytnhnnkeakoakfaa", sum := "106de6104121f511754dd972d944a4d401e0cfb52bbf0db134e084c28408e188", func := "mutoscope/mutoscopelaw14.BoxNumbers", spec := "boxNumbers", recurses := true, named := ["math/bits.divideError", "math/bits.overflowError"], apart := false }
def BoxNumbersSaid : Prop := boxNumbersRow.holds Try.pinned (OpenSpec.ofChange boxNumbersSpec)

/-- ITS FALSE NEIGHBOUR: 'it returns false'. Refute it at one input. -/
def boxNumbersWrong : ChangeSpec := { name := "boxNumbers", fn := fun _ => fun
  | [] => { results := [.lit (.bool false)], args := [] }
  | _ => none }
def BoxNumbersWrongFalsely : Prop := boxNumbersRow.holds Try.pinned (OpenSpec.ofChange boxNumbersWrong)

/-- 'mutoscopelaw14.BoxTells': WHATEVER THE INPUT: true; the input reads as it did. -/
def boxTellsSpec : ChangeSpec := { name := "boxTells", fn := fun _ => fun
  | [d1, d2, d3, d4, d5, d6, d7, d8] => { results := [.lit (.bool true)], args := [d1, d2, d3, d4, d5, d6, d7, d8] }
  | _ => none }
def boxTellsRow : OpenClaim := { program := "ytnhnnkeakoakfaa", sum := "106de6104121f511754dd972d944a4d401e0cfb52bbf0db134e084c28408e188", func := "mutoscope/mutoscopelaw14.BoxTells", spec := "boxTells", recurses := true, named := ["math/bits.divideError", "math/bits.overflowError"], apart := false }
def BoxTellsSaid : Prop := boxTellsRow.holds Try.pinned (OpenSpec.ofChange boxTellsSpec)

/-- ITS FALSE NEIGHBOUR: 'it returns false'. Refute it at one input. -/
def boxTellsWrong : ChangeSpec := { name := "boxTells", fn := fun _ => fun
  | [d1, d2, d3, d4, d5, d6, d7, d8] => { results := [.lit (.bool false)], args := [d1, d2, d3, d4, d5, d6, d7, d8] }
  | _ => none }
def BoxTellsWrongFalsely : Prop := boxTellsRow.holds Try.pinned (OpenSpec.ofChange boxTellsWrong)

/-- 'mutoscopelaw14.BoxTiles': WHATEVER THE INPUT: true; the input reads as it did. -/
def boxTilesSpec : ChangeSpec := { name := "boxTiles", fn := fun _ => fun
  | [d1, d2, d3] => { results := [.lit (.bool true)], args := [d1, d2, d3] }
  | _ => none }
def boxTilesRow : OpenClaim := { program := "ytnhnnkeakoakfaa", sum := "106de6104121f511754dd972d944a4d401e0cfb52bbf0db134e084c28408e188", func := "mutoscope/mutoscopelaw14.BoxTiles", spec := "boxTiles", apart := false }
def BoxTilesSaid : Prop := boxTilesRow.holds Try.pinned (OpenSpec.ofChange boxTilesSpec)

/-- ITS FALSE NEIGHBOUR: 'it returns false'. Refute it at one input. -/
def boxTilesWrong : ChangeSpec := { name := "boxTiles", fn := fun _ => fun
  | [d1, d2, d3] => { results := [.lit (.bool false)], args := [d1, d2, d3] }
  | _ => none }
def BoxTilesWrongFalsely : Prop := boxTilesRow.holds Try.pinned (OpenSpec.ofChange boxTilesWrong)

/-- 'mutoscopelaw14.BoxJoins': WHATEVER THE INPUT: true; the input reads as it did. -/
def boxJoinsSpec : ChangeSpec := { name := "boxJoins", fn := fun _ => fun
  | [d1, d2, d3, d4, d5] => { results := [.lit (.bool true)], args := [d1, d2, d3, d4, d5] }
  | _ => none }
def boxJoinsRow : OpenClaim := { program := "ytnhnnkeakoakfaa", sum := "106de6104121f511754dd972d944a4d401e0cfb52bbf0db134e084c28408e188", func := "mutoscope/mutoscopelaw14.BoxJoins", spec := "boxJoins", recurses := true, named := ["math/bits.divideError", "math/bits.overflowError"], apart := false }
def BoxJoinsSaid : Prop := boxJoinsRow.holds Try.pinned (OpenSpec.ofChange boxJoinsSpec)

/-- ITS FALSE NEIGHBOUR: 'it returns false'. Refute it at one input. -/
def boxJoinsWrong : ChangeSpec := { name := "boxJoins", fn := fun _ => fun
  | [d1, d2, d3, d4, d5] => { results := [.lit (.bool false)], args := [d1, d2, d3, d4, d5] }
  | _ => none }
def BoxJoinsWrongFalsely : Prop := boxJoinsRow.holds Try.pinned (OpenSpec.ofChange boxJoinsWrong)

/- THE SECOND FORM. 'bulk': how many values and letters a reading holds, each counted each time it is reached (what is shared counts as often as it is met; a slice's spare places count too). A statement '..UptoSaid' is the law's where the arguments, and the package variables that the reading takes, are together of bulk at most 1048576: NARROWER than '..Said'. Prove '..Said' where nothing that the law and all that it calls make is longer than what came in: it says more and counts as full. Else prove '..UptoSaid'. A law counts once. -/
mutual
def uptoBulk {H : Type} : DataW H → Nat
  | .lit (.string bytes) => bytes.length + 1
  | .lit _ => 1
  | .nil => 1
  | .ptr d => uptoBulk d + 1
  | .slice elems spare => uptoBulkAll elems + uptoBulkAll spare + 1
  | .agg parts => uptoBulkAll parts + 1
  | .iface _ d => uptoBulk d + 1
  | .map entries => uptoBulkEntries entries + 1
  | .held _ => 1
def uptoBulkAll {H : Type} : List (DataW H) → Nat
  | [] => 0
  | d :: r => uptoBulk d + uptoBulkAll r
def uptoBulkEntries {H : Type} : List (Lit × DataW H) → Nat
  | [] => 0
  | x :: r => uptoBulkEntry x + uptoBulkEntries r
def uptoBulkEntry {H : Type} : Lit × DataW H → Nat
  | (.string bytes, d) => bytes.length + uptoBulk d + 1
  | (_, d) => uptoBulk d + 1
 end
def uptoSmall : (H : Type) → List (DataW H) → Bool := fun _ ds => decide (uptoBulkAll ds ≤ 1048576)
def OpenSpec.upto (s : _root_.Go.ChangeSpec) : _root_.Go.OpenSpec := { _root_.Go.OpenSpec.ofChange s with cond := some uptoSmall }

/-- 'mutoscopelaw14.BoxNumbers', WHERE WHAT IT READS IS OF BULK AT MOST 1048576: true; the input reads as it did. -/
def boxNumbersUptoRow : OpenClaim := { program := "ytnhnnkeakoakfaa", sum := "106de6104121f511754dd972d944a4d401e0cfb52bbf0db134e084c28408e188", func := "mutoscope/mutoscopelaw14.BoxNumbers", spec := "boxNumbers", recurses := true, named := ["math/bits.divideError", "math/bits.overflowError"], apart := false, narrowed := true }
def BoxNumbersUptoSaid : Prop := boxNumbersUptoRow.holds Try.pinned (OpenSpec.upto boxNumbersSpec)

/-- 'mutoscopelaw14.BoxTells', WHERE WHAT IT READS IS OF BULK AT MOST 1048576: true; the input reads as it did. -/
def boxTellsUptoRow : OpenClaim := { program := "ytnhnnkeakoakfaa", sum := "106de6104121f511754dd972d944a4d401e0cfb52bbf0db134e084c28408e188", func := "mutoscope/mutoscopelaw14.BoxTells", spec := "boxTells", recurses := true, named := ["math/bits.divideError", "math/bits.overflowError"], apart := false, narrowed := true }
def BoxTellsUptoSaid : Prop := boxTellsUptoRow.holds Try.pinned (OpenSpec.upto boxTellsSpec)

/-- 'mutoscopelaw14.BoxTiles', WHERE WHAT IT READS IS OF BULK AT MOST 1048576: true; the input reads as it did. -/
def boxTilesUptoRow : OpenClaim := { program := "ytnhnnkeakoakfaa", sum := "106de6104121f511754dd972d944a4d401e0cfb52bbf0db134e084c28408e188", func := "mutoscope/mutoscopelaw14.BoxTiles", spec := "boxTiles", apart := false, narrowed := true }
def BoxTilesUptoSaid : Prop := boxTilesUptoRow.holds Try.pinned (OpenSpec.upto boxTilesSpec)

/-- 'mutoscopelaw14.BoxJoins', WHERE WHAT IT READS IS OF BULK AT MOST 1048576: true; the input reads as it did. -/
def boxJoinsUptoRow : OpenClaim := { program := "ytnhnnkeakoakfaa", sum := "106de6104121f511754dd972d944a4d401e0cfb52bbf0db134e084c28408e188", func := "mutoscope/mutoscopelaw14.BoxJoins", spec := "boxJoins", recurses := true, named := ["math/bits.divideError", "math/bits.overflowError"], apart := false, narrowed := true }
def BoxJoinsUptoSaid : Prop := boxJoinsUptoRow.holds Try.pinned (OpenSpec.upto boxJoinsSpec)

end Rows
end Go.Proofs.Ytnhnnkeakoakfaa
