/- Contracts of path.mid, .Morph: for all paths and shares what the plain arithmetic says, in memory of its own; of the memory nothing that was there turns. -/
import Derived.Test.YtmdokohdafeilaaP2
import Derived.Deep.DeepCutAuto
namespace Go.Proofs.Ytmdokohdafeilaa
open Go.RowKit
open M

theorem morph_no {c d : Bool} {ps qs : List Pt} {t : Int} (h : fits c ps d qs = false) : morph c ps d qs t = ps := by simp [morph, h]
theorem morph_yes {c d : Bool} {ps qs : List Pt} {t : Int} (h : fits c ps d qs = true) : morph c ps d qs t = midL ps qs t := by simp [morph, h]
theorem Gives.sl {w w' : World} {c : Bool} {ps : List Pt} {e : Ending} (h : Gives w c ps e w') (hf : ps.length ≤ 8796093022208) : ∃ v, e = .returned (.agg #[.bool c, v]) ∧ Psl w' v ps ∧ Below w.heap.size w w' := by
  obtain ⟨v, he, ho, hb⟩ := h
  exact ⟨v, he, ho.sl hf, hb⟩
/-- Two cells of a result's block that is older than a row of the call's own are stored. -/
theorem gives_put {w0 w V : World} {B r : Nat} {c : Bool} {v : Value} {ps : List Pt} (hB : w0.heap.size = B) (ho : Pown V B v ps) (hne : v.ownBlock ≠ some r) (hr : B ≤ r) (hb : Below B w0 V) (_ : w = w) (x y : Value) (he : y = v) :
    Gives w0 c ps (.returned (.agg #[.bool c, v])) ((V.setCell ⟨r, 0, none⟩ x).setCell ⟨r, 1, none⟩ y) := by
  subst hB he
  exact ⟨_, rfl, ho.kept (grownBy_set (grownBy_set (World.grownBy.refl _ _) _ _) _ _) (fun k hk e => hne (by rw [e]; exact hk.symm)), (hb.setCell hr _).setCell hr _⟩

theorem Psl.row {w : World} {ao : Option Addr} {N cap : Nat} {ps : List Pt} (h : Psl w (.slice ao N cap) ps) (hn : 0 < N) : ∃ g o, ao = some ⟨g, o, none⟩ ∧ Prow w g o ps ∧ ps.length = N := by
  obtain ⟨ao', cap', hv, _, hr⟩ := h
  simp at hv
  obtain ⟨rfl, hl, rfl⟩ := hv
  obtain ⟨g, o, e, hr⟩ := hr (by omega)
  exact ⟨g, o, e, hr, hl.symm⟩
theorem Prow.later {W : World} {g o : Nat} {ps : List Pt} (h : Prow W g o ps) (hn : 0 < ps.length) (z : Later W) : Prow z.to g o ps := h.block (z.below.block g (h.lt hn))

end Go.Proofs.Ytmdokohdafeilaa
