/- Contracts of mutoscoperef8.Morph, .Map: for all paths, shares and maps what the plain arithmetic says, in memory of its own; of the memory nothing that was there turns. -/
import Derived.Test.YtglbfpjjnboeaaaQ8
import Derived.Test.YtglbfpjjnboeaaaPP
import Derived.Test.YtglbfpjjnboeaaaR3
import Derived.Test.YtglbfpjjnboeaaaJ
import Derived.Test.YtglbfpjjnboeaaaTK5
import Derived.Test.YtglbfpjjnboeaaaR5
import Derived.Deep.RegionHeld3
import Derived.Deep.RegionLaw
namespace Go.Proofs.Ytglbfpjjnboeaaa
open Go.RowKit
open M

/-- A list of places that grows: in blocks from 'base' on. -/
theorem wp_append_one {W : World} {base : Nat} {l : Value} {rs : List Pt} {o : Oper} {a : Act} {K : Act → World → Prop} {Q : Exit → Act → World → Prop} (s x : Operand)
    (ho : o.op = .call { callee := .builtin .append, args := #[s, x], argTypes := #[39, 39] }) (N : Nat) (hN : rs.length = N) (hf : N < 8796093022208) (hs : a.eval s = l) (H : Nat) (hx : a.eval x = .slice (some ⟨H, 0, none⟩) 1 1)
    (p : Pt) (cs : Array Value) (hn : Has W H cs 31) (hcs : cs.toList = pl p) (hT : Pown W base l rs) (hb : base ≤ W.heap.size)
    (h : ∀ g' cap' w', Pown w' base (.slice (some ⟨g', 0, none⟩) (N + 1) cap') (rs ++ [p]) → W.grownBy w' l.ownBlock → K (a.put o.dst (.slice (some ⟨g', 0, none⟩) (N + 1) cap')) w') : o.wp Try.prog a W K Q := by
  obtain ⟨i0, hi, hz0, hz1, hz2⟩ := info_parts Try.infoPt
  subst hN
  refine wp_append_lies W s x 39 ho base 31 i0 _ 2 16 Try.underlying39 hi hz0 hz1 hz2 rfl (by decide) l rs.length (pls rs) hs hT ⟨H, 0, none⟩ 1 1 (pl p) hx rfl ?_ (by have := ones_pls [p]; simpa [pls] using this) (by decide) (by unfold maxLen; omega) (by omega) hb _ rfl ?_
  · intro j u hu
    rw [Addr.add_lit, Nat.zero_add]
    refine hn.cell j u ?_
    rw [← hcs] at hu
    simpa using hu
  intro g' cap' w' hown' hg _ _
  refine h g' cap' w' ?_ hg
  unfold Pown
  rw [List.length_append, pls_append]
  have e : pls [p] = pl p := by simp [pls]
  rw [e]
  exact hown'
theorem wpList_append_one {W : World} {base : Nat} {l : Value} {rs : List Pt} {ops : Array Oper} {rest : List Oper} {o : Oper} {a : Act} {Q : Exit → Act → World → Prop} (hgd : o.guard = none) (s x : Operand)
    (ho : o.op = .call { callee := .builtin .append, args := #[s, x], argTypes := #[39, 39] }) (N : Nat) (hN : rs.length = N) (hf : N < 8796093022208) (hs : a.eval s = l) (H : Nat) (hx : a.eval x = .slice (some ⟨H, 0, none⟩) 1 1)
    (p : Pt) (cs : Array Value) (hn : Has W H cs 31) (hcs : cs.toList = pl p) (hT : Pown W base l rs) (hb : base ≤ W.heap.size)
    (h : ∀ g' cap' w', Pown w' base (.slice (some ⟨g', 0, none⟩) (N + 1) cap') (rs ++ [p]) → W.grownBy w' l.ownBlock → wpList Try.prog ops Q rest (a.put o.dst (.slice (some ⟨g', 0, none⟩) (N + 1) cap')) w') : wpList Try.prog ops Q (o :: rest) a W :=
  wpList_plain hgd fun _ hK => wp_append_one s x ho N hN hf hs H hx p cs hn hcs hT hb fun g' cap' w' h1 h2 => hK _ _ (h g' cap' w' h1 h2)
theorem step_append_one {W : World} {base : Nat} {l : Value} {rs : List Pt} {ops : Array Oper} {o : Oper} {a : Act} {K : Act → World → Prop} {Q : Exit → Act → World → Prop} {E : Prop} (hw : Region.wanted o (yielded ops a.tmps) = true) (s x : Operand)
    (ho : o.op = .call { callee := .builtin .append, args := #[s, x], argTypes := #[39, 39] }) (N : Nat) (hN : rs.length = N) (hf : N < 8796093022208) (hs : a.eval s = l) (H : Nat) (hx : a.eval x = .slice (some ⟨H, 0, none⟩) 1 1)
    (p : Pt) (cs : Array Value) (hn : Has W H cs 31) (hcs : cs.toList = pl p) (hT : Pown W base l rs) (hb : base ≤ W.heap.size)
    (h : ∀ g' cap' w', Pown w' base (.slice (some ⟨g', 0, none⟩) (N + 1) cap') (rs ++ [p]) → W.grownBy w' l.ownBlock → K (a.put o.dst (.slice (some ⟨g', 0, none⟩) (N + 1) cap')) w') :
    if Region.wanted o (yielded ops a.tmps) = true then Oper.wp Try.prog o a W K Q else E := by
  rw [if_pos hw]
  exact wp_append_one s x ho N hN hf hs H hx p cs hn hcs hT hb h
theorem pts_snoc {rs qs : List Pt} {n : Nat} (hl : rs.length = n) (h : ∀ j, j < n → pt rs j = pt qs j) : ∀ j, j < n + 1 → pt (rs ++ [pt qs n]) j = pt qs j := by
  intro j hj
  by_cases e : j < n
  · rw [pt_left (by omega)]; exact h j e
  · obtain rfl : j = n := by omega
    subst hl
    exact pt_last _ _

/-- A path that grows place by place: in block go, its list in blocks behind it. -/
structure Rpa (w1 : World) (go : Nat) (c : Bool) (n : Nat) (qs : List Pt) (l : Value) (wr : World) : Prop where
  own : ∃ rs, rs.length = n ∧ (∀ j, j < n → pt rs j = pt qs j) ∧ Pown wr (go + 1) l rs
  out : Has wr go #[.bool c, l] 41
  below : Below w1.heap.size w1 wr
  hgo : w1.heap.size = go
theorem Rpa.call {w1 wr w' : World} {go n : Nat} {c : Bool} {qs : List Pt} {l : Value} (h : Rpa w1 go c n qs l wr) (hq : Below wr.heap.size wr w') : Rpa w1 go c n qs l w' := by
  obtain ⟨rs, h1, h2, h3⟩ := h.own
  exact ⟨⟨rs, h1, h2, h3.below hq (Nat.le_refl _)⟩, h.out.below hq h.out.lt, h.below.trans (hq.mono h.below.size), h.hgo⟩
theorem Rpa.len {w1 wr : World} {go n : Nat} {c : Bool} {qs : List Pt} {l : Value} (h : Rpa w1 go c n qs l wr) : ∃ ao cap, l = .slice ao n cap := by
  obtain ⟨rs, h1, h2, h3⟩ := h.own
  subst h1
  exact h3.len
theorem Rpa.snoc {w1 W w' : World} {go n g' cap' : Nat} {c : Bool} {qs rs : List Pt} {l : Value} (h : Rpa w1 go c n qs l W) (h1 : rs.length = n) (h2 : ∀ j, j < n → pt rs j = pt qs j) (h3 : Pown W (go + 1) l rs)
    (ho : Pown w' (go + 1) (.slice (some ⟨g', 0, none⟩) (n + 1) cap') (rs ++ [pt qs n])) (hg : W.grownBy w' l.ownBlock) : Rpa w1 go c (n + 1) qs (.slice (some ⟨g', 0, none⟩) (n + 1) cap') (w'.setCell ⟨go, 1, none⟩ (.slice (some ⟨g', 0, none⟩) (n + 1) cap')) := by
  have hne : l.ownBlock ≠ some go := fun e => by have := (h3.base go e).1; omega
  have hk : Has w' go #[.bool c, l] 41 := (hg.block go h.out.lt (fun e => hne e.symm)).trans h.out
  have hb := h.hgo
  have hs := h.below.size
  refine ⟨⟨_, by simp [h1], pts_snoc h1 h2, ?_⟩, ?_, ?_, h.hgo⟩
  · exact ho.kept (grownBy_set (World.grownBy.refl _ _) _ _) (fun k hk e => by simp at hk; have := (ho.base k e).1; omega)
  · have := has_set hk 1 (.slice (some ⟨g', 0, none⟩) (n + 1) cap')
    simpa using this
  · exact (h.below.grown hg (by omega) (fun k e => by have := (h3.base k e).1; omega)).setCell (Nat.le_of_eq h.hgo) _
theorem Rpa.fine {w1 W w' : World} {go n : Nat} {c : Bool} {qs rs : List Pt} {l : Value} (h : Rpa w1 go c n qs l W) (h3 : Pown W (go + 1) l rs) (hg : W.grownBy w' l.ownBlock) : w'.cell? ⟨go, 1, none⟩ = some l ∧ w'.frozen? ⟨go, 1, none⟩ = false := by
  have hne : l.ownBlock ≠ some go := fun e => by have := (h3.base go e).1; omega
  have hk : Has w' go #[.bool c, l] 41 := (hg.block go h.out.lt (fun e => hne e.symm)).trans h.out
  exact ⟨hk.cell 1 _ rfl, has_fro hk 1⟩

theorem Rpa.set {w1 w0 wr : World} {go n : Nat} {c : Bool} {qs : List Pt} {l : Value} (h0 : Rpa w1 go c n qs l w0) (h : Rpa w1 go c n qs l wr) {k : Nat} (hk : w0.heap.size ≤ k) (j : Nat) (u : Value) : Rpa w1 go c n qs l (wr.setCell ⟨k, j, none⟩ u) := by
  obtain ⟨rs0, _, _, o0⟩ := h0.own
  obtain ⟨rs, h1, h2, h3⟩ := h.own
  have hs : wr.grownBy (wr.setCell ⟨k, j, none⟩ u) (some k) := grownBy_set (World.grownBy.refl _ _) _ _
  have a1 := h0.out.lt
  have a2 := h.hgo
  exact ⟨⟨rs, h1, h2, h3.kept hs (fun i hi e => by simp at hi; have := (o0.base i e).2; omega)⟩, has_grown h.out hs (by omega), h.below.setCell (by show w1.heap.size ≤ k; omega) _, h.hgo⟩
theorem Rpa.alloc {w1 wr : World} {go n : Nat} {c : Bool} {qs : List Pt} {l : Value} (h : Rpa w1 go c n qs l wr) (o : Obj) : Rpa w1 go c n qs l (wr.alloc o) := h.call ((Below.refl _ _).alloc (Nat.le_refl _) _)

end Go.Proofs.Ytglbfpjjnboeaaa
