/- A colour, and a slice of colour keys, among the arguments, opened: four bytes; 'Carg' of some keys. No condition. -/
import Derived.Test.YtibgilaeepmheaaRI6
import Derived.Test.YtibgilaeepmheaaAK5
import Derived.OpenShut
import Derived.Laws.IdiomArrays
namespace Go.Proofs.Ytibgilaeepmheaa
open Go.RowKit Go.ChangeShapes Go.WideShapes Go.Deep
open M

section
variable {H : Type} {enc : TypeId × Value → H} {w : World} {base : Nat} {spare : Nat → Bool} {held : Bool}
theorem cells_u8 : Try.prog.cellsOf 5 = 1 := by kernel_rfl
theorem cells_color : Try.prog.cellsOf 29 = 4 := by kernel_rfl
theorem byte_bd {n : Int} (h : (Lit.int .u8 n).wf = true) : 0 ≤ n ∧ n ≤ 255 := by
  simp [Lit.wf, IntKind.min, IntKind.max, IntKind.signed, IntKind.bits] at h
  omega
theorem byte_one {n : Nat} {c : Value} {y : DataW H × List MemPlace} (h : DataW.trod enc Try.prog w base spare held n 5 [c] = some y) : ∃ k : Int, c = .int .u8 k ∧ 0 ≤ k ∧ k ≤ 255 := by
  obtain ⟨k, hk, _, hw⟩ := DataW.trod_int Try.underlying5 h
  exact ⟨k, by simpa using hk, byte_bd hw⟩
set_option maxRecDepth 100000 in
theorem four_bytes {t : TypeId} (ht : Try.prog.underlying t = some (.array 4 5)) {n : Nat} {c0 c1 c2 c3 : Value} {y : DataW H × List MemPlace} (h : DataW.trod enc Try.prog w base spare held n t [c0, c1, c2, c3] = some y) : ∃ x : Cr, [c0, c1, c2, c3] = (cCells x).toList ∧ x.Ok := by
  obtain ⟨y0, y1, y2, y3, m, _, h0, h1, h2, h3⟩ := trod_array4 ht cells_u8 h
  obtain ⟨a, rfl, a0, a1⟩ := byte_one h0
  obtain ⟨b, rfl, b0, b1⟩ := byte_one h1
  obtain ⟨c, rfl, e0, e1⟩ := byte_one h2
  obtain ⟨d, rfl, d0, d1⟩ := byte_one h3
  exact ⟨⟨a, b, c, d⟩, rfl, ⟨a0, a1, b0, b1, e0, e1, d0, d1⟩⟩
theorem okWide_four {P : Program} {t e : TypeId} {n : Nat} {r : Reach} {b0 : Nat} {v : Value} (ht : P.underlying t = some (.array n e)) (h : Value.okWide P w r b0 t v) : ∃ cs, v = .agg cs ∧ cs.size = P.cellsOf t := by
  unfold Value.okWide at h
  rw [ht] at h
  obtain ⟨cs, hv, hs, _⟩ := h
  exact ⟨cs, hv, hs⟩
set_option maxRecDepth 100000 in
theorem open_four {t : TypeId} (ht : Try.prog.underlying t = some (.array 4 5)) (hc : Try.prog.cellsOf t = 4) {r : Reach} {b0 : Nat} {v : Value} {d : DataW H} {p : List MemPlace} (hv : Value.okWide Try.prog w r b0 t v) (h : DataW.Trod enc Try.prog w base (fun _ => true) held t v d p) : ∃ x : Cr, v = .agg (cCells x) ∧ x.Ok := by
  obtain ⟨⟨L⟩, rfl, hs⟩ := okWide_four ht hv
  rw [hc] at hs
  obtain ⟨fuel, hf⟩ := h
  have hl : L.length = 4 := by simpa using hs
  match L, hl with
  | [c0, c1, c2, c3], _ =>
    have hf' : DataW.trod enc Try.prog w base (fun _ => true) held fuel t [c0, c1, c2, c3] = some (d, p) := hf
    obtain ⟨x, hx, hok⟩ := four_bytes ht hf'
    refine ⟨x, ?_, hok⟩
    rw [hx]
set_option maxRecDepth 100000 in
theorem open_color {r : Reach} {b0 : Nat} {v : Value} {d : DataW H} {p : List MemPlace} (hv : Value.okWide Try.prog w r b0 29 v) (h : DataW.Trod enc Try.prog w base (fun _ => true) held 29 v d p) : ∃ x : Cr, v = .agg (cCells x) ∧ x.Ok :=
  open_four Try.underlying29 cells_color hv h
theorem cells_pixel : Try.prog.cellsOf 25 = 4 := by kernel_rfl
theorem open_pixel {r : Reach} {b0 : Nat} {v : Value} {d : DataW H} {p : List MemPlace} (hv : Value.okWide Try.prog w r b0 25 v) (h : DataW.Trod enc Try.prog w base (fun _ => true) held 25 v d p) : ∃ x : Cr, v = .agg (cCells x) ∧ x.Ok :=
  open_four Try.underlying25 cells_pixel hv h
end

end Go.Proofs.Ytibgilaeepmheaa
