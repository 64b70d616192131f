/- Contracts of path.mid, .Morph: for all paths and shares what the plain arithmetic says, in memory of its own; of the memory nothing that was there turns. -/
import Derived.Test.YtopepgifhnfbiaaP2
import Derived.Deep.DeepCutAuto
namespace Go.Proofs.Ytopepgifhnfbiaa
open Go.RowKit
open M

theorem morph_no {c d : Bool} {ps qs : List Pt} {t : Int} (h : fits c ps d qs = false) : morph c ps d qs t = ps := by simp [morph, h]
theorem morph_yes {c d : Bool} {ps qs : List Pt} {t : Int} (h : fits c ps d qs = true) : morph c ps d qs t = midL ps qs t := by simp [morph, h]
theorem Gives.sl {w w' : World} {c : Bool} {ps : List Pt} {e : Ending} (h : Gives w c ps e w') (hf : ps.length ≤ 8796093022208) : ∃ v, e = .returned (.agg #[.bool c, v]) ∧ Psl w' v ps ∧ Below w.heap.size w w' := by
  obtain ⟨v, he, ho, hb⟩ := h
  exact ⟨v, he, ho.sl hf, hb⟩
/-- Two cells of a result's block that is older than a row of the call's own are stored. -/
theorem gives_put {w0 w V : World} {B r : Nat} {c : Bool} {v : Value} {ps : List Pt} (hB : w0.heap.size = B) (ho : Pown V B v ps) (hne : v.ownBlock ≠ some r) (hr : B ≤ r) (hb : Below B w0 V) (_ : w = w) (x y : Value) (he : y = v) :
    Gives w0 c ps (.returned (.agg #[.bool c, v])) ((V.setCell ⟨r, 0, none⟩ x).setCell ⟨r, 1, none⟩ y) := by
  subst hB he
  exact ⟨_, rfl, ho.kept (grownBy_set (grownBy_set (World.grownBy.refl _ _) _ _) _ _) (fun k hk e => hne (by rw [e]; exact hk.symm)), (hb.setCell hr _).setCell hr _⟩

/-- The first n places of a path that is begun are told by f. -/
def Filled (w1 : World) (B : Nat) (c : Bool) (N gs go : Nat) (f : Nat → Pt) (n : Nat) (wr : World) : Prop :=
  ∃ rs : List Pt, rs.length = N ∧ (∀ j, j < n → pt rs j = f j) ∧ Pown wr B (.slice (some ⟨gs, 0, none⟩) N N) rs ∧ Has wr go #[.bool c, .slice (some ⟨gs, 0, none⟩) N N] 45 ∧ Below w1.heap.size w1 wr
theorem Filled.start {w1 V : World} {B N gs go : Nat} {c : Bool} (f : Nat → Pt) (D : Out w1 B c N gs go V) : Filled w1 B c N gs go f 0 V := ⟨_, by simp, fun j hj => by omega, D.own, D.out, D.below⟩
theorem Filled.later {w1 V V' : World} {B N gs go n : Nat} {c : Bool} {f : Nat → Pt} (h : Filled w1 B c N gs go f n V) (hb : Below V.heap.size V V') : Filled w1 B c N gs go f n V' := by
  obtain ⟨rs, hl, hst, ho, hg, h1⟩ := h
  exact ⟨rs, hl, hst, ho.below hb (Nat.le_refl _), hg.below hb hg.lt, h1.trans (hb.mono h1.size)⟩
theorem Filled.step {w1 V : World} {B N gs go n : Nat} {c : Bool} {f : Nat → Pt} (h : Filled w1 B c N gs go f n V) (hn : n < N) (lg : w1.heap.size ≤ gs) (ln : gs ≠ go) (x y : Int) (hx : (f n).x = x) (hy : (f n).y = y) :
    Filled w1 B c N gs go f (n + 1) ((V.setCell ⟨gs, n * 2, none⟩ (.int .i64 x)).setCell ⟨gs, n * 2 + 1, none⟩ (.int .i64 y)) := by
  obtain ⟨rs, hl, hst, ho, hg, h1⟩ := h
  subst hx hy
  refine ⟨rs.set n (f n), by simpa using hl, fun j hj => ?_, ho.put hl hn (f n), ?_, (h1.setCell lg _).setCell lg _⟩
  · by_cases e : n = j
    · subst e; exact pt_set_eq (by omega) _
    · rw [pt_set_ne e]; exact hst j (by omega)
  · exact (heap_setCell_other _ ⟨gs, _, none⟩ go _ (fun e => ln (by simpa using e.symm))).trans ((heap_setCell_other _ ⟨gs, _, none⟩ go _ (fun e => ln (by simpa using e.symm))).trans hg)
theorem Filled.done {w1 V : World} {B N gs go : Nat} {c : Bool} {f : Nat → Pt} (h : Filled w1 B c N gs go f N V) : Pown V B (.slice (some ⟨gs, 0, none⟩) N N) ((List.range N).map f) := by
  obtain ⟨rs, hl, hst, ho, _⟩ := h
  have e : rs = (List.range N).map f := pts_ext (by simpa using hl) fun i hi => by rw [pt_mapIdx f (by omega)]; exact hst i (by omega)
  rw [← e]
  exact ho
theorem Psl.row {w : World} {ao : Option Addr} {N cap : Nat} {ps : List Pt} (h : Psl w (.slice ao N cap) ps) (hn : 0 < N) : ∃ g o, ao = some ⟨g, o, none⟩ ∧ Prow w g o ps ∧ ps.length = N := by
  obtain ⟨ao', cap', hv, _, hr⟩ := h
  simp at hv
  obtain ⟨rfl, hl, rfl⟩ := hv
  obtain ⟨g, o, e, hr⟩ := hr (by omega)
  exact ⟨g, o, e, hr, hl.symm⟩
theorem Prow.later {W : World} {g o : Nat} {ps : List Pt} (h : Prow W g o ps) (hn : 0 < ps.length) (z : Later W) : Prow z.to g o ps := h.block (z.below.block g (h.lt hn))

end Go.Proofs.Ytopepgifhnfbiaa
