/- Polys of the call's own, lists of one poly and of two. Conditions: those that each theorem names. (Taken out of S8.) -/
import Derived.Test.YtopepgifhnfbiaaY8
namespace Go.Proofs.Ytopepgifhnfbiaa
open Go Go.RowKit
open M

/-- The value v is a poly whose list is of the call's own. -/
def PolyO (base : Nat) (c : Bool) (ps : List Pt) (v : Value) (w : World) : Prop := ∃ l, v = .agg #[.bool c, l] ∧ Pown w base l ps
theorem PolyO.stay {base : Nat} {c : Bool} {ps : List Pt} {v : Value} {w w' : World} (h : PolyO base c ps v w) (hb : Below w.heap.size w w') : PolyO base c ps v w' := by
  obtain ⟨l, e, hp⟩ := h
  exact ⟨l, e, hp.below hb (Nat.le_refl _)⟩
theorem Pown.ne_has {w : World} {B g : Nat} {l : Value} {ps : List Pt} {cs : Array Value} (h : Pown w B l ps) (hg : Has w g cs 31) : l.ownBlock ≠ some g := by
  intro e
  rcases h.2 with ⟨rfl, _⟩ | ⟨g', cap, cur, rfl, _, hh, _⟩
  · cases e
  · have e' : some g' = some g := e
    simp at e'
    subst e'
    unfold Has at hg
    rw [hh] at hg
    simp at hg
theorem ysl_lit {w : World} {g n cp : Nat} {ys : List Po} {cs : Array Value} {t : TypeId} (hn : ys.length = n) (hf : n ≤ 1000) (hs : ∀ i, i < ys.length → Psl w (po ys i).v (po ys i).ps) (h : Has w g cs t) (hc : cs = (yls ys).toArray) : Ysl w (.slice (some ⟨g, 0, none⟩) n cp) ys := ysl_has hn hf hs (hc ▸ h)
theorem ysl_one {w : World} {g : Nat} {c : Bool} {l : Value} {fs : List Pt} {t : TypeId} (hs : Psl w l fs) (h : Has w g #[.bool c, l] t) : Ysl w (.slice (some ⟨g, 0, none⟩) 1 1) [⟨c, l, fs⟩] := by
  refine ysl_lit (ys := [⟨c, l, fs⟩]) rfl (by decide) (fun i hi => ?_) h rfl
  obtain rfl : i = 0 := by simp at hi; omega
  exact hs
theorem ysl_two {w : World} {g : Nat} {c c2 : Bool} {l l2 : Value} {fs fs2 : List Pt} {t : TypeId} (hs : Psl w l fs) (hs2 : Psl w l2 fs2) (h : Has w g #[.bool c, l, .bool c2, l2] t) : Ysl w (.slice (some ⟨g, 0, none⟩) 2 2) [⟨c, l, fs⟩, ⟨c2, l2, fs2⟩] :=
  ysl_lit (ys := [⟨c, l, fs⟩, ⟨c2, l2, fs2⟩]) rfl (by decide) (fun i hi => by
    rcases (show i = 0 ∨ i = 1 by simp at hi; omega) with rfl | rfl
    · exact hs
    · exact hs2) h rfl
theorem one_alike {c : Bool} {l l2 : Value} {fs : List Pt} : ∀ j, j < [(⟨c, l, fs⟩ : Po)].length → bareY (po [(⟨c, l, fs⟩ : Po)] j) = bareY (po [(⟨c, l2, fs⟩ : Po)] j) := fun j hj => by
  obtain rfl : j = 0 := by simp at hj; omega
  rfl
theorem ysl_shape {w : World} {v : Value} {ys : List Po} {n : Nat} (h : Ysl w v ys) (hn : ys.length = n) : ∃ ao cap, v = .slice ao n cap := by
  obtain ⟨ao, cap, e, _⟩ := h
  exact ⟨ao, cap, by rw [e, hn]⟩

end Go.Proofs.Ytopepgifhnfbiaa
