/- A shape that a tape is making: its cells in one block, its lists each in a block behind that; what a tape's call, a store, an append leave of it. -/
import Derived.Test.YtglbfpjjnboeaaaTC
import Derived.Test.YtglbfpjjnboeaaaMk2
namespace Go.Proofs.Ytglbfpjjnboeaaa
open Go Go.RowKit
open M

theorem Sl.blocks {w w' : World} {v : Value} {ks : List Ky} (h : Sl w v ks) (hb : ∀ k, k < w.heap.size → v.ownBlock = some k → w'.heap[k]? = w.heap[k]?) : Sl w' v ks := by
  rcases h with h | ⟨h0, g, o, cap, rfl, hr⟩
  · exact Or.inl h
  · have e := hb g (hr.lt h0) rfl
    have c : ∀ {j u}, w.cell? ⟨g, j, none⟩ = some u → w'.cell? ⟨g, j, none⟩ = some u := fun hu => (World.cell?_of_block (a := ⟨g, _, _⟩) e).trans hu
    exact Or.inr ⟨h0, g, o, cap, rfl, ⟨hr.few, fun i hi => c (hr.c0 i hi), fun i hi => c (hr.c1 i hi), fun i hi => c (hr.c2 i hi), fun i hi => c (hr.c3 i hi), fun i hi => c (hr.c4 i hi), fun i hi => c (hr.c5 i hi), fun i hi => c (hr.c6 i hi)⟩⟩
theorem Kl.blocks {w w' : World} {v : Value} {ks : List Pk} (h : Kl w v ks) (hb : ∀ k, k < w.heap.size → v.ownBlock = some k → w'.heap[k]? = w.heap[k]?)
    (hp : ∀ i, i < ks.length → ∀ k, k < w.heap.size → (pk ks i).v.ownBlock = some k → w'.heap[k]? = w.heap[k]?) : Kl w' v ks := by
  obtain ⟨ao, cap, rfl, hf, hr⟩ := h
  refine ⟨ao, cap, rfl, hf, fun h0 => ?_⟩
  obtain ⟨g, o, rfl, hq⟩ := hr h0
  have e := hb g (hq.lt h0) rfl
  have c : ∀ {j u}, w.cell? ⟨g, j, none⟩ = some u → w'.cell? ⟨g, j, none⟩ = some u := fun hu => (World.cell?_of_block (a := ⟨g, _, _⟩) e).trans hu
  exact ⟨g, o, rfl, ⟨hq.few, fun i hi => (hq.sl i hi).blocks (hp i hi), fun i hi => c (hq.c0 i hi), fun i hi => c (hq.c1 i hi), fun i hi => c (hq.c2 i hi), fun i hi => c (hq.c3 i hi), fun i hi => c (hq.c4 i hi), fun i hi => c (hq.c5 i hi), fun i hi => c (hq.c6 i hi), fun i hi => c (hq.c7 i hi)⟩⟩
theorem Csl.blocks {w w' : World} {v : Value} {ks : List Ck} (h : Csl w v ks) (hb : ∀ k, k < w.heap.size → v.ownBlock = some k → w'.heap[k]? = w.heap[k]?) : Csl w' v ks := by
  rcases h with h | ⟨h0, g, o, cap, rfl, hr⟩
  · exact Or.inl h
  · have e := hb g (hr.lt h0) rfl
    have c : ∀ {j u}, w.cell? ⟨g, j, none⟩ = some u → w'.cell? ⟨g, j, none⟩ = some u := fun hu => (World.cell?_of_block (a := ⟨g, _, _⟩) e).trans hu
    exact Or.inr ⟨h0, g, o, cap, rfl, ⟨hr.few, hr.ok, fun i hi => c (hr.c0 i hi), fun i hi => c (hr.c1 i hi), fun i hi => c (hr.c2 i hi), fun i hi => c (hr.c3 i hi), fun i hi => c (hr.c4 i hi), fun i hi => c (hr.c5 i hi), fun i hi => c (hr.c6 i hi), fun i hi => c (hr.c7 i hi), fun i hi => c (hr.c8 i hi), fun i hi => c (hr.c9 i hi)⟩⟩

/-- A list's block lies behind A and ahead of M, if it has one. -/
def Btw (A M : Nat) (v : Value) : Prop := ∀ k, v.ownBlock = some k → A < k ∧ k < M
theorem Btw.nil (A M : Nat) (n c : Nat) : Btw A M (.slice none n c) := fun k h => by cases h
theorem Btw.up {A M M' : Nat} {v : Value} (h : Btw A M v) (hm : M ≤ M') : Btw A M' v := fun k hk => ⟨(h k hk).1, by have := (h k hk).2; omega⟩

/-- Its lists lie there, each in a block behind A and ahead of M. -/
structure Lsts (A M : Nat) (s : Shp) (W : World) : Prop where
  lie : ShIn W s
  bW : Btw A M s.vW
  bH : Btw A M s.vH
  bP : Btw A M s.vP
  bp : ∀ i, i < s.P.length → Btw A M (pk s.P i).v
  bC : Btw A M s.vC
  bWd : Btw A M s.vWd
  bD : Btw A M s.vD
  bF : Btw A M s.vF
  bT : Btw A M s.vT
theorem Lsts.up {A M M' : Nat} {s : Shp} {W : World} (h : Lsts A M s W) (hm : M ≤ M') : Lsts A M' s W :=
  ⟨h.lie, h.bW.up hm, h.bH.up hm, h.bP.up hm, fun i hi => (h.bp i hi).up hm, h.bC.up hm, h.bWd.up hm, h.bD.up hm, h.bF.up hm, h.bT.up hm⟩
theorem Lsts.kept {A M : Nat} {s : Shp} {W W' : World} (h : Lsts A M s W) (hb : ∀ k, k < W.heap.size → A < k → k < M → W'.heap[k]? = W.heap[k]?) : Lsts A M s W' := by
  have e : ∀ {v : Value}, Btw A M v → ∀ k, k < W.heap.size → v.ownBlock = some k → W'.heap[k]? = W.heap[k]? := fun b k hk hv => hb k hk (b k hv).1 (b k hv).2
  exact ⟨⟨h.lie.W.blocks (e h.bW), h.lie.H.blocks (e h.bH), h.lie.P.blocks (e h.bP) (fun i hi => e (h.bp i hi)), h.lie.C.blocks (e h.bC), h.lie.Wd.blocks (e h.bWd), h.lie.D.blocks (e h.bD), h.lie.F.blocks (e h.bF), h.lie.T.blocks (e h.bT)⟩,
    h.bW, h.bH, h.bP, h.bp, h.bC, h.bWd, h.bD, h.bF, h.bT⟩

/-- The tape v in block g, the shape s in the making in block A, its lists ahead of M; of w the tape alone has turned. -/
structure TSh (w : World) (g : Nat) (v : Value) (A M : Nat) (s : Shp) (W : World) : Prop where
  tape : Tp W g v
  grown : w.grownBy W (some g)
  has : Has W A (shC s) 37
  ga : g < w.heap.size ∧ w.heap.size ≤ A
  am : A < M ∧ M ≤ W.heap.size
  lsts : Lsts A M s W
/-- A tape's call. -/
theorem TSh.call {w : World} {g : Nat} {v : Value} {A M : Nat} {s : Shp} {W W2 : World} (h : TSh w g v A M s W) (ht : Tp W2 g v) (hg : W.grownBy W2 (some g)) : TSh w g v A M s W2 := by
  have a := h.ga
  have b := h.am
  have z := hg.size
  exact ⟨ht, grownBy_trans h.grown hg, has_grown h.has hg (by omega), h.ga, ⟨b.1, by omega⟩, h.lsts.kept (fun k hk k1 k2 => hg.block k hk (fun e => by simp at e; omega))⟩
/-- Something made, or a block from M on turned. -/
theorem TSh.step {w w0 : World} {g : Nat} {v : Value} {A M : Nat} {s : Shp} {W W2 : World} {row : Option Nat} (h0 : Tp w0 g v) (hz : w0.heap.size ≤ M) (h : TSh w g v A M s W) (hg : W.grownBy W2 row) (hr : ∀ k, row = some k → M ≤ k) : TSh w g v A M s W2 := by
  have a := h.ga
  have b := h.am
  have z := hg.size
  refine ⟨h0.young h.tape hg (fun k hk => by have := hr k hk; omega), grownBy_own h.grown hg (fun k hk => by have := hr k hk; omega), (hg.block A h.has.lt (fun e => by have := hr A e.symm; omega)).trans h.has, h.ga, ⟨b.1, by omega⟩, h.lsts.kept (fun k hk k1 k2 => hg.block k hk (fun e => by have := hr k e.symm; omega))⟩
theorem TSh.alloc {w : World} {g : Nat} {v : Value} {A M : Nat} {s : Shp} {W : World} (h : TSh w g v A M s W) (o : Obj) : TSh w g v A M s (W.alloc o) := by
  have b := h.am
  exact ⟨tp_alloc h.tape o, grownBy_own h.grown (World.grownBy_alloc W o none) (fun k hk => by cases hk), h.has.alloc o, h.ga, ⟨b.1, by simp; omega⟩, h.lsts.kept (fun k hk _ _ => (MapKept.heap_alloc W o).2 k hk)⟩
theorem TSh.up {w : World} {g : Nat} {v : Value} {A M M' : Nat} {s : Shp} {W : World} (h : TSh w g v A M s W) (hm : M ≤ M') (hz : M' ≤ W.heap.size) : TSh w g v A M' s W := by
  have b := h.am
  exact ⟨h.tape, h.grown, h.has, h.ga, ⟨by omega, hz⟩, h.lsts.up hm⟩
/-- A store into the shape's own block. -/
theorem TSh.put {w : World} {g : Nat} {v : Value} {A M : Nat} {s s' : Shp} {W : World} (hw : Tp w g v) (h : TSh w g v A M s W) (j : Nat) (u : Value) (hs : (shC s).setIfInBounds j u = shC s') (hl : Lsts A M s' W) : TSh w g v A M s' (W.setCell ⟨A, j, none⟩ u) := by
  have a := h.ga
  have b := h.am
  have hg : W.grownBy (W.setCell ⟨A, j, none⟩ u) (some A) := grownBy_set (World.grownBy.refl _ _) _ _
  exact ⟨hw.young h.tape hg (fun k hk => by simp at hk; omega), grownBy_own h.grown hg (fun k hk => by simp at hk; omega), by rw [← hs]; exact has_set h.has j u, h.ga, ⟨b.1, by simpa using b.2⟩, hl.kept (fun k hk k1 k2 => hg.block k hk (fun e => by simp at e; omega))⟩

end Go.Proofs.Ytglbfpjjnboeaaa
