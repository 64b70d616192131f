/- Contracts of arc.Part and of the reference's Part: for all polys what the plain arithmetic says, in memory of the call's own; of the memory nothing that was there turns. -/
import Derived.Test.YtopepgifhnfbiaaN2
import Derived.Test.YtopepgifhnfbiaaAP8
import Derived.Test.YtopepgifhnfbiaaVar
import Derived.Test.YtopepgifhnfbiaaPM
namespace Go.Proofs.Ytopepgifhnfbiaa
open Go Go.RowKit
open M

/-- A part that grows: in block go, its list in blocks behind it; the result's block is r, the poly's own is q. -/
structure Cutt (w1 : World) (q r go : Nat) (c : Bool) (vp : Value) (rs : List Pt) (l : Value) (wr : World) : Prop where
  own : Pown wr (go + 1) l rs
  out : Has wr go #[.bool false, l] 31
  res : Has wr r #[.bool false, .slice none 0 0] 31
  src : Has wr q #[.bool c, vp] 31
  below : Below w1.heap.size w1 wr
  lq : w1.heap.size ≤ q
  lr : q < r
  lo : r < go
section
variable {w1 W w' : World} {q r go : Nat} {c : Bool} {rs qs : List Pt} {vp l l' : Value}
theorem Cutt.later (h : Cutt w1 q r go c vp rs l W) (hq : Below W.heap.size W w') : Cutt w1 q r go c vp rs l w' :=
  ⟨h.own.below hq (Nat.le_refl _), h.out.below hq h.out.lt, h.res.below hq h.res.lt, h.src.below hq h.src.lt, h.below.trans (hq.mono h.below.size), h.lq, h.lr, h.lo⟩
theorem Cutt.away (h : Cutt w1 q r go c vp rs l W) : l.ownBlock ≠ some go ∧ l.ownBlock ≠ some r ∧ l.ownBlock ≠ some q := ⟨fun e => by have := (h.own.base go e).1; omega, fun e => by have := (h.own.base r e).1; have := h.lo; omega, fun e => by have := (h.own.base q e).1; have := h.lo; have := h.lr; omega⟩
/-- The list has grown, and is stored. -/
theorem Cutt.put (h : Cutt w1 q r go c vp rs l W) (ho : Pown w' (go + 1) l' qs) (hg : W.grownBy w' l.ownBlock) : Cutt w1 q r go c vp qs l' (w'.setCell ⟨go, 1, none⟩ l') := by
  have hk : Has w' go #[.bool false, l] 31 := (hg.block go h.out.lt (fun e => h.away.1 e.symm)).trans h.out
  have hr : Has w' r #[.bool false, .slice none 0 0] 31 := (hg.block r h.res.lt (fun e => h.away.2.1 e.symm)).trans h.res
  have hq : Has w' q #[.bool c, vp] 31 := (hg.block q h.src.lt (fun e => h.away.2.2 e.symm)).trans h.src
  have hs := h.below.size
  have h1 := h.lr
  have h0 := h.lq
  have h2 := h.lo
  refine ⟨ho.kept (grownBy_set (World.grownBy.refl _ _) _ _) (fun k hk e => by simp at hk; have := (ho.base k e).1; omega), ?_, has_grown hr (grownBy_set (World.grownBy.refl _ _) _ _) (by omega), has_grown hq (grownBy_set (World.grownBy.refl _ _) _ _) (by omega), ?_, h0, h1, h2⟩
  · have := has_set hk 1 l'
    simpa using this
  · exact (h.below.grown hg (by omega) (fun k e => by have := (h.own.base k e).1; omega)).setCell (show w1.heap.size ≤ go by omega) _
theorem Cutt.fine (h : Cutt w1 q r go c vp rs l W) (hg : W.grownBy w' l.ownBlock) : w'.cell? ⟨go, 1, none⟩ = some l ∧ w'.frozen? ⟨go, 1, none⟩ = false := by
  have hk : Has w' go #[.bool false, l] 31 := (hg.block go h.out.lt (fun e => h.away.1 e.symm)).trans h.out
  exact ⟨hk.cell 1 _ rfl, has_fro hk 1⟩
/-- A block that is neither the list's nor the poly's stays where the list grows. -/
theorem Cutt.keep (hg : W.grownBy w' l.ownBlock) {k : Nat} {cs : Array Value} {t : TypeId} (hk : Has W k cs t) (hne : l.ownBlock ≠ some k) (hgo : k ≠ go) (l' : Value) : Has (w'.setCell ⟨go, 1, none⟩ l') k cs t :=
  has_grown ((hg.block k hk.lt (fun e => hne e.symm)).trans hk) (grownBy_set (World.grownBy.refl _ _) _ _) hgo
end
/-- The value v is a list of this place alone, in a block of the call's own. -/
def OneP (base : Nat) (p : Pt) (v : Value) (w : World) : Prop := ∃ g, v = .slice (some ⟨g, 0, none⟩) 1 1 ∧ base ≤ g ∧ Has w g (pCells p) 28
theorem OneP.stay {base : Nat} {p : Pt} {v : Value} {w w' : World} (h : OneP base p v w) (hb : Below w.heap.size w w') : OneP base p v w' := by
  obtain ⟨g, e, l, k⟩ := h
  exact ⟨g, e, l, k.below hb k.lt⟩

end Go.Proofs.Ytopepgifhnfbiaa
