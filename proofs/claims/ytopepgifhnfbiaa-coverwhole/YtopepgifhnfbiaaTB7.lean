/- Tapes at a law's start, two of them beside one another; a later world in which one block alone may have turned. -/
import Derived.Test.YtopepgifhnfbiaaTP
import Derived.Test.YtopepgifhnfbiaaKN7
namespace Go.Proofs.Ytopepgifhnfbiaa
open Go.RowKit
open M

/-- The numbers of a tape lie below block B. -/
def Src (B : Nat) (v : Value) : Prop := ∀ b o n cap, v = .slice (some ⟨b, o, none⟩) n cap → 0 < n → b < B
theorem Nums.src {w : World} {v : Value} (h : Nums w v) : Src w.heap.size v := by
  intro b o n cap hv h0
  rcases h with ⟨ao, cap', hv'⟩ | ⟨b', o', n', cap', hv', hp, _, hc⟩
  · rw [hv] at hv'
    simp at hv'
    omega
  · rw [hv] at hv'
    simp at hv'
    obtain ⟨⟨rfl, rfl⟩, rfl, rfl⟩ := hv'
    obtain ⟨x, hx⟩ := hc 0 hp
    exact World.block_lt_of_cell? w _ hx
theorem tp_start {w w' : World} {g : Nat} {l : Value} (hN : Nums w l) (hh : Has w' g #[l, .int .i64 0] 35) (hb : Below w.heap.size w w') (hg : w.heap.size ≤ g) : Tp w' g l := by
  rcases hN with ⟨ao, cap, hv⟩ | ⟨b, o, n, cap, hv, h0, h1, hc⟩
  · exact Or.inl ⟨ao, cap, hv, hh⟩
  · have hlt : ∀ i, i < n → b < w.heap.size := fun i hi => by
      obtain ⟨x, hx⟩ := hc i hi
      exact World.block_lt_of_cell? w _ hx
    refine Or.inr ⟨b, o, n, cap, 0, hv, h0, by have := hlt 0 h0; omega, h1, Nat.zero_le _, hh, fun i hi => ?_⟩
    obtain ⟨x, hx⟩ := hc i hi
    exact ⟨x, (hb.cell (p := ⟨b, _, _⟩) (hlt i hi)).trans hx⟩
theorem Tp.other {w1 w2 : World} {g g' B : Nat} {v : Value} (h : Tp w1 g v) (hs : Src B v) (hg : w1.grownBy w2 (some g')) (hne : g' ≠ g) (hB : B ≤ g') : Tp w2 g v :=
  h.grown hg fun k hk => by
    simp at hk
    subst hk
    exact ⟨hne, fun b o n cap hv h0 e => by have := hs b o n cap hv h0; omega⟩
theorem Nums.shape {w : World} {v : Value} (h : Nums w v) : ∃ ao n cap, v = .slice ao n cap := by
  rcases h with ⟨ao, cap, rfl⟩ | ⟨b, o, n, cap, rfl, _⟩
  · exact ⟨_, _, _, rfl⟩
  · exact ⟨_, _, _, rfl⟩
/-- A later world: what was in W is as it was, block g apart. -/
structure Hy (W : World) (g : Nat) (w' : World) : Prop where
  grown : W.grownBy w' (some g)
theorem Hy.refl (W : World) (g : Nat) : Hy W g W := ⟨World.grownBy.refl _ _⟩
theorem Hy.call {W w' w'' : World} {g : Nat} (h : Hy W g w') (hq : Below w'.heap.size w' w'') : Hy W g w'' :=
  ⟨h.grown |> fun h => ⟨hq.os.trans h.os, hq.tape.trans h.tape, hq.output.trans h.output, Nat.le_trans h.size hq.size, fun k hk hr => (hq.block k (Nat.lt_of_lt_of_le hk h.size)).trans (h.block k hk hr)⟩⟩
theorem Hy.tape {W w' w'' : World} {g : Nat} (h : Hy W g w') (hq : w'.grownBy w'' (some g)) : Hy W g w'' := ⟨grownBy_trans h.grown hq⟩
theorem Hy.drew {W w' : World} {g : Nat} (h : Hy W g w') : Hy W g w'.drew := h.call (below_drew (Below.refl _ _))
theorem Hy.alloc {W w' : World} {g : Nat} (h : Hy W g w') (o : Obj) : Hy W g (w'.alloc o) := h.call ((Below.refl _ _).alloc (Nat.le_refl _) _)
theorem Hy.has {W w' : World} {g k : Nat} {cs : Array Value} {t : TypeId} (h : Hy W g w') (hh : Has W k cs t) (hne : k ≠ g) : Has w' k cs t := has_grown hh h.grown hne
theorem Hy.sl {W w' : World} {g : Nat} {v : Value} {ps : List Pt} (h : Hy W g w') (hs : Psl W v ps) (hv : v.ownBlock ≠ some g) : Psl w' v ps := hs.grown h.grown fun k hk e => by simp at hk; subst hk; exact hv e
theorem Tp.calls {w w' : World} {g : Nat} {v : Value} (h : Tp w g v) (hq : Below w.heap.size w w') : Tp w' g v := h.blocks fun k hk => hq.block k hk
theorem Pown.off {w : World} {B g : Nat} {v : Value} {ps : List Pt} (h : Pown w B v ps) (hg : g < B) : v.ownBlock ≠ some g := fun e => by have := (h.base g e).1; omega
theorem below_of_grown {w w' : World} {B : Nat} (h : w.grownBy w' (some B)) (hB : w.heap.size ≤ B) : Below w.heap.size w w' := ⟨h.os, h.tape, h.output, h.size, fun k hk => h.block k hk (fun e => by simp at e; omega)⟩
theorem below_on {w w1 w' : World} {B g : Nat} (h1 : Below B w w1) (h : w1.grownBy w' (some g)) (hg : B ≤ g) (hs : B ≤ w1.heap.size) : Below B w w' :=
  ⟨h.os.trans h1.os, h.tape.trans h1.tape, h.output.trans h1.output, Nat.le_trans h1.size h.size, fun k hk => (h.block k (by omega) (fun e => by simp at e; omega)).trans (h1.block k hk)⟩

end Go.Proofs.Ytopepgifhnfbiaa
