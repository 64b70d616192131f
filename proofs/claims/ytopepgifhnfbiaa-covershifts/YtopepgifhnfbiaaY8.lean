/- Lists of polys in memory: 'Ysl' (a slice that holds just these polys, a hundred at most, each with its places); make, store, append of such lists. Conditions: those that each theorem names. -/
import Derived.Test.YtopepgifhnfbiaaPM
import Derived.Test.YtopepgifhnfbiaaVar
import Derived.Test.YtopepgifhnfbiaaTK5
import Derived.Test.YtopepgifhnfbiaaKN7
namespace Go.Proofs.Ytopepgifhnfbiaa
open Go Go.RowKit
open M

/-- A poly: closed or not, the list's value and its places. -/
structure Po where
  cl : Bool
  v : Value
  ps : List Pt
instance : Inhabited Po := ⟨⟨false, .slice none 0 0, []⟩⟩
def po (ys : List Po) (i : Nat) : Po := ys.getD i default
def bareY (y : Po) : Bool × List Pt := (y.cl, y.ps)
theorem po_cons (y : Po) (ys : List Po) (i : Nat) : po (y :: ys) (i + 1) = po ys i := by simp [po]
theorem po_zero (y : Po) (ys : List Po) : po (y :: ys) 0 = y := by simp [po]
theorem po_set_eq {ys : List Po} {n : Nat} (hn : n < ys.length) (y : Po) : po (ys.set n y) n = y := by unfold po; simp [List.getD, hn]
theorem po_set_ne {ys : List Po} {n i : Nat} (h : n ≠ i) (y : Po) : po (ys.set n y) i = po ys i := by unfold po; simp [List.getD, h]
theorem po_left {ys : List Po} {y : Po} {i : Nat} (h : i < ys.length) : po (ys ++ [y]) i = po ys i := by unfold po; simp [List.getD, List.getElem?_append_left h]
theorem po_last (ys : List Po) (y : Po) : po (ys ++ [y]) ys.length = y := by unfold po; simp [List.getD]
def yl (y : Po) : List Value := [.bool y.cl, y.v]
def yls (ys : List Po) : List Value := ys.flatMap yl
theorem yls_cons (y : Po) (ys : List Po) : yls (y :: ys) = yl y ++ yls ys := by simp [yls]
theorem yls_append (ys zs : List Po) : yls (ys ++ zs) = yls ys ++ yls zs := by simp [yls]
theorem yls_length (ys : List Po) : (yls ys).length = ys.length * 2 := by
  induction ys with
  | nil => rfl
  | cons p ys ih => rw [yls_cons, List.length_append, ih]; simp [yl]; omega
theorem yls_at {ys : List Po} {i j : Nat} (hi : i < ys.length) (hj : j < 2) : (yls ys)[i * 2 + j]? = (yl (po ys i))[j]? := by
  induction ys generalizing i with
  | nil => simp at hi
  | cons p ys ih =>
    rw [yls_cons]
    cases i with
    | zero => rw [po_zero, Nat.zero_mul, Nat.zero_add, List.getElem?_append_left (by simpa [yl] using hj)]
    | succ i =>
      rw [po_cons, List.getElem?_append_right (by simp [yl]; omega)]
      rw [← ih (by simpa using hi)]
      congr 1
      simp [yl]; omega
theorem yls_set {ys : List Po} {n : Nat} (hn : n < ys.length) (y : Po) : yls (ys.set n y) = ((yls ys).set (n * 2) (.bool y.cl)).set (n * 2 + 1) y.v := by
  induction ys generalizing n with
  | nil => simp at hn
  | cons q ys ih =>
    cases n with
    | zero => simp [yls_cons, yl]
    | succ n =>
      rw [List.set_cons_succ, yls_cons, yls_cons, ih (by simpa using hn), List.set_append_right _ _ (by simp [yl]; omega), List.set_append_right _ _ (by simp [yl]; omega)]
      congr 2
      · congr 1; simp [yl]; omega
      · simp [yl]; omega

/-- A row of polys lies in block g from cell o on. -/
structure Yrow (w : World) (g o : Nat) (ys : List Po) : Prop where
  few : ys.length ≤ 1000
  sl : ∀ i, i < ys.length → Psl w (po ys i).v (po ys i).ps
  c0 : ∀ i, i < ys.length → w.cell? ⟨g, o + i * 2, none⟩ = some (.bool (po ys i).cl)
  c1 : ∀ i, i < ys.length → w.cell? ⟨g, o + i * 2 + 1, none⟩ = some (po ys i).v
theorem Yrow.lt {w : World} {g o : Nat} {ys : List Po} (h : Yrow w g o ys) (hn : 0 < ys.length) : g < w.heap.size := World.block_lt_of_cell? w _ (h.c0 0 hn)
theorem Yrow.below {w w' : World} {g o : Nat} {ys : List Po} (h : Yrow w g o ys) (hb : Below w.heap.size w w') (hn : 0 < ys.length) : Yrow w' g o ys :=
  ⟨h.few, fun i hi => (h.sl i hi).below hb (Nat.le_refl _), fun i hi => (hb.cell (p := ⟨g, _, _⟩) (h.lt hn)).trans (h.c0 i hi), fun i hi => (hb.cell (p := ⟨g, _, _⟩) (h.lt hn)).trans (h.c1 i hi)⟩
/-- The slice's value v holds just these polys. -/
def Ysl (w : World) (v : Value) (ys : List Po) : Prop := ∃ ao cap, v = .slice ao ys.length cap ∧ ys.length ≤ 1000 ∧ (0 < ys.length → ∃ g o, ao = some ⟨g, o, none⟩ ∧ Yrow w g o ys)
theorem Ysl.below {w w' : World} {v : Value} {ys : List Po} (h : Ysl w v ys) (hb : Below w.heap.size w w') : Ysl w' v ys := by
  obtain ⟨ao, cap, rfl, hf, hr⟩ := h
  refine ⟨ao, cap, rfl, hf, fun h0 => ?_⟩
  obtain ⟨g, o, e, hr'⟩ := hr h0
  exact ⟨g, o, e, hr'.below hb h0⟩
theorem Ysl.ht {W w' : World} {v : Value} {ys : List Po} (h : Ysl W v ys) (hq : Ht W w') : Ysl w' v ys := h.below hq.below
theorem Ysl.row {w : World} {ao : Option Addr} {N cap : Nat} {ys : List Po} (h : Ysl w (.slice ao N cap) ys) (hn : 0 < N) : ∃ g o, ao = some ⟨g, o, none⟩ ∧ Yrow w g o ys ∧ ys.length = N := by
  obtain ⟨ao', cap', hv, _, hr⟩ := h
  simp at hv
  obtain ⟨rfl, hl, rfl⟩ := hv
  obtain ⟨g, o, e, hr⟩ := hr (by omega)
  exact ⟨g, o, e, hr, hl.symm⟩
theorem yrow_of {w : World} {g o : Nat} {ys : List Po} (hf : ys.length ≤ 1000) (hs : ∀ i, i < ys.length → Psl w (po ys i).v (po ys i).ps) (h : ∀ j u, (yls ys)[j]? = some u → w.cell? ⟨g, o + j, none⟩ = some u) : Yrow w g o ys := by
  have key : ∀ i j u, i < ys.length → j < 2 → (yl (po ys i))[j]? = some u → w.cell? ⟨g, o + i * 2 + j, none⟩ = some u := by
    intro i j u hi hj hu
    rw [Nat.add_assoc]
    exact h _ _ ((yls_at hi hj).trans hu)
  exact ⟨hf, hs, fun i hi => key i 0 _ hi (by omega) rfl, fun i hi => key i 1 _ hi (by omega) rfl⟩
theorem yrow_has {w : World} {g : Nat} {ys : List Po} {t : TypeId} (hf : ys.length ≤ 1000) (hs : ∀ i, i < ys.length → Psl w (po ys i).v (po ys i).ps) (h : Has w g (yls ys).toArray t) : Yrow w g 0 ys :=
  yrow_of hf hs fun j u hu => by rw [Nat.zero_add]; exact h.cell j u (by simpa using hu)
theorem ysl_has {w : World} {g n c : Nat} {ys : List Po} {t : TypeId} (hn : ys.length = n) (hf : n ≤ 1000) (hs : ∀ i, i < ys.length → Psl w (po ys i).v (po ys i).ps) (h : Has w g (yls ys).toArray t) : Ysl w (.slice (some ⟨g, 0, none⟩) n c) ys := by
  subst hn
  exact ⟨_, c, rfl, hf, fun _ => ⟨g, 0, rfl, yrow_has hf hs h⟩⟩

/-- What make lays. -/
theorem Try.infoPoly : (Try.prog.info? 31).map (fun i => (i.zero, i.size, i.bytes)) = some (some (.agg #[.bool false, .slice none 0 0]), 2, 32) := by kernel_rfl
def zeY (n : Nat) : Array Value := madeCells #[.bool false, .slice none 0 0] (n * 2)
theorem zeY_yls (n : Nat) : zeY n = (yls (List.replicate n default)).toArray := by
  apply Array.ext_getElem?
  intro j
  by_cases h : j < n * 2
  · have e1 : j = j / 2 * 2 + j % 2 := by omega
    have h2 : j % 2 < 2 := by omega
    have e2 : po (List.replicate n default) (j / 2) = default := by
      unfold po
      rw [List.getD_eq_getElem?_getD, List.getElem?_replicate]
      split <;> rfl
    have e4 : (zeY n)[j]? = some ((#[.bool false, .slice none 0 0] : Array Value)[j % 2]!) := by
      unfold zeY madeCells
      rw [Array.getElem?_map, Array.getElem?_eq_getElem (by simpa using h)]
      simp only [Array.getElem_range, Option.map_some]
      rfl
    rw [e4, List.getElem?_toArray, e1, yls_at (by simp; omega) h2, e2]
    have e5 : (j / 2 * 2 + j % 2) % 2 = j % 2 := by omega
    rw [e5]
    rcases (show j % 2 = 0 ∨ j % 2 = 1 by omega) with e | e <;> rw [e] <;> rfl
  · rw [Array.getElem?_eq_none (by simp [zeY, size_madeCells]; omega), List.getElem?_toArray, List.getElem?_eq_none (by rw [yls_length]; simp; omega)]
theorem make_ys {n : Nat} (hn : n ≤ 1000) (w : World) : (Instr.makeSlice 22 (.int .i64 (n : Int)) (.int .i64 (n : Int))).run Try.prog w = .ok (.slice (some ⟨w.heap.size, 0, none⟩) n n) (w.alloc (.cells (zeY n) 31)) := by
  obtain ⟨i0, hi, hz0, hz1, hz2⟩ := info_parts Try.infoPoly
  have h := run_make (P := Try.prog) w 22 31 i0 _ Try.underlying22 hi hz0 .i64 .i64 n n (by omega) (Int.le_refl _) (by rw [hz2]; omega) (by omega)
  rw [hz1] at h
  simp only [Int.toNat_natCast] at h
  exact h

/-- A row of the call's own of which the first n polys are told by f. -/
structure Yfill (w1 : World) (gs N : Nat) (f : Nat → Bool × List Pt) (n : Nat) (zs : List Po) (wr : World) : Prop where
  len : zs.length = N
  has : Has wr gs (yls zs).toArray 31
  told : ∀ j, j < n → bareY (po zs j) = f j ∧ Psl wr (po zs j).v (po zs j).ps ∧ (po zs j).v.ownBlock ≠ some gs
  below : Below w1.heap.size w1 wr
  lo : w1.heap.size ≤ gs
theorem Yfill.later {w1 wr w' : World} {gs N n : Nat} {f : Nat → Bool × List Pt} {zs : List Po} (h : Yfill w1 gs N f n zs wr) (hb : Below wr.heap.size wr w') : Yfill w1 gs N f n zs w' :=
  ⟨h.len, h.has.below hb h.has.lt, fun j hj => ⟨(h.told j hj).1, (h.told j hj).2.1.below hb (Nat.le_refl _), (h.told j hj).2.2⟩, h.below.trans (hb.mono h.below.size), h.lo⟩
theorem Yfill.step {w1 wr : World} {gs N n : Nat} {f : Nat → Bool × List Pt} {zs : List Po} (h : Yfill w1 gs N f n zs wr) (hn : n < N) {c : Bool} {v : Value} {ps : List Pt} (hf : f n = (c, ps)) (hv : Psl wr v ps) (hne : v.ownBlock ≠ some gs) :
    Yfill w1 gs N f (n + 1) (zs.set n ⟨c, v, ps⟩) ((wr.setCell ⟨gs, n * 2, none⟩ (.bool c)).setCell ⟨gs, n * 2 + 1, none⟩ v) := by
  have hg : wr.grownBy ((wr.setCell ⟨gs, n * 2, none⟩ (.bool c)).setCell ⟨gs, n * 2 + 1, none⟩ v) (some gs) := grownBy_set (grownBy_set (World.grownBy.refl _ _) _ _) _ _
  refine ⟨by rw [List.length_set]; exact h.len, ?_, fun j hj => ?_, (h.below.setCell h.lo _).setCell h.lo _, h.lo⟩
  · have := has_set (has_set h.has (n * 2) (.bool c)) (n * 2 + 1) v
    rw [yls_set (by rw [h.len]; exact hn)]
    simpa using this
  · by_cases e : n = j
    · subst e
      rw [po_set_eq (by rw [h.len]; exact hn)]
      exact ⟨hf.symm, hv.grown hg (fun k hk e => by simp at hk; subst hk; exact hne e), hne⟩
    · rw [po_set_ne e]
      obtain ⟨a, b, c'⟩ := h.told j (by omega)
      exact ⟨a, b.grown hg (fun k hk e => by simp at hk; subst hk; exact c' e), c'⟩

/-- A list of polys of the call's own, told by f. -/
def GivesY (w : World) (N : Nat) (f : Nat → Bool × List Pt) (e : Ending) (w' : World) : Prop := ∃ v zs, e = .returned v ∧ Ysl w' v zs ∧ zs.length = N ∧ (∀ j, j < N → bareY (po zs j) = f j) ∧ Below w.heap.size w w'
theorem Gives.agg {w w' : World} {c : Bool} {ps : List Pt} {e : Ending} (h : Gives w c ps e w') (hf : ps.length ≤ 8796093022208) : ∃ v, e = .returned (.agg #[.bool c, v]) ∧ Psl w' v ps ∧ (∀ k, v.ownBlock = some k → w.heap.size ≤ k) ∧ (∃ ao n cap, v = .slice ao n cap) ∧ Below w.heap.size w w' := by
  obtain ⟨v, he, ho, hb⟩ := h
  obtain ⟨ao, cap, e⟩ := ho.len
  exact ⟨v, he, ho.sl hf, fun k hk => (ho.base k hk).1, ⟨ao, _, cap, e⟩, hb⟩

end Go.Proofs.Ytopepgifhnfbiaa
