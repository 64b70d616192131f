/- Contracts of package key (Goes, Find, between, At, within, rightHow, rightKey, Right): for all keys what the plain arithmetic says; of the memory nothing that was there turns. A list of keys is 'Sl': a slice of no keys, or one whose keys lie in a row of cells, a thousand at most. -/
import Derived.Test.YtibgilaeepmheaaK4
import Derived.Test.YtibgilaeepmheaaKMath
import Derived.Test.YtibgilaeepmheaaMidQ
import Derived.BigQuiet
namespace Go.Proofs.Ytibgilaeepmheaa
open Go.RowKit
open M

/-- A key's cells. -/
abbrev kCells (k : Ky) : Array Value := #[.int .i64 k.t, .int .i64 k.v, .int .i64 k.h, .int .i64 k.a, .int .i64 k.b, .int .i64 k.c, .int .i64 k.d]

/-- A row of keys lies in block g from cell o on. -/
structure Row (w : World) (g o : Nat) (ks : List Ky) : Prop where
  few : ks.length ≤ 8796093022208
  c0 : ∀ i, i < ks.length → w.cell? ⟨g, o + i * 7, none⟩ = some (.int .i64 (ky ks i).t)
  c1 : ∀ i, i < ks.length → w.cell? ⟨g, o + i * 7 + 1, none⟩ = some (.int .i64 (ky ks i).v)
  c2 : ∀ i, i < ks.length → w.cell? ⟨g, o + i * 7 + 2, none⟩ = some (.int .i64 (ky ks i).h)
  c3 : ∀ i, i < ks.length → w.cell? ⟨g, o + i * 7 + 3, none⟩ = some (.int .i64 (ky ks i).a)
  c4 : ∀ i, i < ks.length → w.cell? ⟨g, o + i * 7 + 4, none⟩ = some (.int .i64 (ky ks i).b)
  c5 : ∀ i, i < ks.length → w.cell? ⟨g, o + i * 7 + 5, none⟩ = some (.int .i64 (ky ks i).c)
  c6 : ∀ i, i < ks.length → w.cell? ⟨g, o + i * 7 + 6, none⟩ = some (.int .i64 (ky ks i).d)
theorem Row.below {w w' : World} {g o B : Nat} {ks : List Ky} (h : Row w g o ks) (hb : Below B w w') (hg : g < B) : Row w' g o ks :=
  ⟨h.few, fun i hi => (hb.cell (p := ⟨g, _, _⟩) hg).trans (h.c0 i hi), fun i hi => (hb.cell (p := ⟨g, _, _⟩) hg).trans (h.c1 i hi), fun i hi => (hb.cell (p := ⟨g, _, _⟩) hg).trans (h.c2 i hi), fun i hi => (hb.cell (p := ⟨g, _, _⟩) hg).trans (h.c3 i hi), fun i hi => (hb.cell (p := ⟨g, _, _⟩) hg).trans (h.c4 i hi), fun i hi => (hb.cell (p := ⟨g, _, _⟩) hg).trans (h.c5 i hi), fun i hi => (hb.cell (p := ⟨g, _, _⟩) hg).trans (h.c6 i hi)⟩
theorem Row.lt {w : World} {g o : Nat} {ks : List Ky} (h : Row w g o ks) (hn : 0 < ks.length) : g < w.heap.size := World.block_lt_of_cell? w _ (h.c0 0 hn)
/-- The slice's value v holds just these keys. -/
def Sl (w : World) (v : Value) (ks : List Ky) : Prop := (ks = [] ∧ ∃ ao cap, v = .slice ao 0 cap) ∨ (0 < ks.length ∧ ∃ g o cap, v = .slice (some ⟨g, o, none⟩) ks.length cap ∧ Row w g o ks)
theorem Sl.few {w : World} {v : Value} {ks : List Ky} (h : Sl w v ks) : ks.length ≤ 8796093022208 := by
  rcases h with ⟨rfl, _⟩ | ⟨_, _, _, _, _, hr⟩
  · simp
  · exact hr.few
theorem Sl.below {w w' : World} {v : Value} {ks : List Ky} (h : Sl w v ks) (hb : Below w.heap.size w w') : Sl w' v ks := by
  rcases h with h | ⟨h0, g, o, cap, hv, hr⟩
  · exact Or.inl h
  · exact Or.inr ⟨h0, g, o, cap, hv, hr.below hb (hr.lt h0)⟩

end Go.Proofs.Ytibgilaeepmheaa
