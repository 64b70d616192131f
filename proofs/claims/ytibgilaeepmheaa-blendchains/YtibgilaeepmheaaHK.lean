/- Rows of keys of colours; contracts of hue.find, .between, .At: for all keys, ticks and colours what the plain arithmetic says; of the memory nothing that was there turns. A list of keys is 'Csl': a slice of no keys, or one whose keys lie in a row of cells, a thousand at most; the colours' parts are bytes. -/
import Derived.Test.YtibgilaeepmheaaHM
import Derived.Test.YtibgilaeepmheaaK5
namespace Go.Proofs.Ytibgilaeepmheaa
open Go.RowKit
open M

/-- A colour key's cells. -/
abbrev kkCells (k : Ck) : Array Value := #[.int .i64 k.t, .int .u8 k.p.r, .int .u8 k.p.g, .int .u8 k.p.b, .int .u8 k.p.q, .int .i64 k.h, .int .i64 k.a, .int .i64 k.b, .int .i64 k.c, .int .i64 k.d]
/-- A row of colour keys lies in block g from cell o on. -/
structure Crow (w : World) (g o : Nat) (ks : List Ck) : Prop where
  few : ks.length ≤ 8796093022208
  ok : ∀ i, i < ks.length → (ck ks i).p.Ok
  c0 : ∀ i, i < ks.length → w.cell? ⟨g, o + i * 10, none⟩ = some (.int .i64 (ck ks i).t)
  c1 : ∀ i, i < ks.length → w.cell? ⟨g, o + i * 10 + 1, none⟩ = some (.int .u8 (ck ks i).p.r)
  c2 : ∀ i, i < ks.length → w.cell? ⟨g, o + i * 10 + 2, none⟩ = some (.int .u8 (ck ks i).p.g)
  c3 : ∀ i, i < ks.length → w.cell? ⟨g, o + i * 10 + 3, none⟩ = some (.int .u8 (ck ks i).p.b)
  c4 : ∀ i, i < ks.length → w.cell? ⟨g, o + i * 10 + 4, none⟩ = some (.int .u8 (ck ks i).p.q)
  c5 : ∀ i, i < ks.length → w.cell? ⟨g, o + i * 10 + 5, none⟩ = some (.int .i64 (ck ks i).h)
  c6 : ∀ i, i < ks.length → w.cell? ⟨g, o + i * 10 + 6, none⟩ = some (.int .i64 (ck ks i).a)
  c7 : ∀ i, i < ks.length → w.cell? ⟨g, o + i * 10 + 7, none⟩ = some (.int .i64 (ck ks i).b)
  c8 : ∀ i, i < ks.length → w.cell? ⟨g, o + i * 10 + 8, none⟩ = some (.int .i64 (ck ks i).c)
  c9 : ∀ i, i < ks.length → w.cell? ⟨g, o + i * 10 + 9, none⟩ = some (.int .i64 (ck ks i).d)
theorem Crow.below {w w' : World} {g o B : Nat} {ks : List Ck} (h : Crow w g o ks) (hb : Below B w w') (hg : g < B) : Crow w' g o ks :=
  ⟨h.few, h.ok, fun i hi => (hb.cell (p := ⟨g, _, _⟩) hg).trans (h.c0 i hi), fun i hi => (hb.cell (p := ⟨g, _, _⟩) hg).trans (h.c1 i hi), fun i hi => (hb.cell (p := ⟨g, _, _⟩) hg).trans (h.c2 i hi), fun i hi => (hb.cell (p := ⟨g, _, _⟩) hg).trans (h.c3 i hi), fun i hi => (hb.cell (p := ⟨g, _, _⟩) hg).trans (h.c4 i hi), fun i hi => (hb.cell (p := ⟨g, _, _⟩) hg).trans (h.c5 i hi), fun i hi => (hb.cell (p := ⟨g, _, _⟩) hg).trans (h.c6 i hi), fun i hi => (hb.cell (p := ⟨g, _, _⟩) hg).trans (h.c7 i hi), fun i hi => (hb.cell (p := ⟨g, _, _⟩) hg).trans (h.c8 i hi), fun i hi => (hb.cell (p := ⟨g, _, _⟩) hg).trans (h.c9 i hi)⟩
theorem Crow.lt {w : World} {g o : Nat} {ks : List Ck} (h : Crow w g o ks) (hn : 0 < ks.length) : g < w.heap.size := World.block_lt_of_cell? w _ (h.c0 0 hn)
theorem Crow.later {W : World} {g o : Nat} {ks : List Ck} (h : Crow W g o ks) (hn : 0 < ks.length) (z : Later W) : Crow z.to g o ks := h.below z.below (h.lt hn)
/-- The slice's value v holds just these keys. -/
def Csl (w : World) (v : Value) (ks : List Ck) : Prop := (ks = [] ∧ ∃ ao cap, v = .slice ao 0 cap) ∨ (0 < ks.length ∧ ∃ g o cap, v = .slice (some ⟨g, o, none⟩) ks.length cap ∧ Crow w g o ks)
theorem Csl.below {w w' : World} {v : Value} {ks : List Ck} (h : Csl w v ks) (hb : Below w.heap.size w w') : Csl w' v ks := by
  rcases h with h | ⟨h0, g, o, cap, hv, hr⟩
  · exact Or.inl h
  · exact Or.inr ⟨h0, g, o, cap, hv, hr.below hb (hr.lt h0)⟩
theorem Has.thaw {w : World} {g : Nat} {cs : Array Value} {t : TypeId} (h : Has w g cs t) (k : Nat) : w.frozen? ⟨g, k, none⟩ = false := by
  unfold Has at h
  simp [World.frozen?, h]

theorem four_below {B g : Nat} {w V : World} (h : Below B w V) (hg : B ≤ g) (a b c d : Value) :
    Below B w ((((V.setCell ⟨g, 0, none⟩ a).setCell ⟨g, 1, none⟩ b).setCell ⟨g, 2, none⟩ c).setCell ⟨g, 3, none⟩ d) := (((h.setCell hg _).setCell hg _).setCell hg _).setCell hg _


end Go.Proofs.Ytibgilaeepmheaa
