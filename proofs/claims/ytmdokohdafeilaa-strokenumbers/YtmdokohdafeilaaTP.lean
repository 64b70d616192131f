/- Contracts of mutoscopekeep's Tape (point, Path): for every tape they give places and paths that may be; the tape alone turns. -/
import Derived.Test.YtmdokohdafeilaaPM
import Derived.Test.YtmdokohdafeilaaTK5
import Derived.Deep.RegionHeld3
import Derived.Deep.RegionWith
import Derived.Deep.RegionLaw
namespace Go.Proofs.Ytmdokohdafeilaa
open Go.RowKit
open M

def Pts (w : World) (g : Nat) (v : Value) (e : Ending) (w' : World) : Prop := ∃ x y : Int, e = .returned (.agg #[.int .i64 x, .int .i64 y]) ∧ (-131072 ≤ x ∧ x ≤ 983039 ∧ -131072 ≤ y ∧ y ≤ 983039) ∧ Tp w' g v ∧ w.grownBy w' (some g)
/-- Two numbers put into a block that is younger than w. -/
theorem two_put {w w1 : World} {g h : Nat} {v : Value} (a b : Value) (ht0 : Tp w g v) (hh : w.heap.size ≤ h) (ht : Tp w1 g v) (hg : w.grownBy w1 (some g)) :
    Tp ((w1.setCell ⟨h, 0, none⟩ a).setCell ⟨h, 1, none⟩ b) g v ∧ w.grownBy ((w1.setCell ⟨h, 0, none⟩ a).setCell ⟨h, 1, none⟩ b) (some g) := by
  have hk : w1.grownBy ((w1.setCell ⟨h, 0, none⟩ a).setCell ⟨h, 1, none⟩ b) (some h) := grownBy_set (grownBy_set (World.grownBy.refl _ _) _ _) _ _
  exact ⟨ht0.young ht hk (fun k e => by simp at e; omega), grownBy_own hg hk (fun k e => by simp at e; omega)⟩

abbrev z26 : Obj := .cells #[.int .i64 0, .int .i64 0] 31
theorem pre_one {wr w2 : World} {g : Nat} (hg : (wr.alloc z26).drew.grownBy w2 (some g)) (hne : g < wr.heap.size) : Has w2 wr.heap.size #[.int .i64 0, .int .i64 0] 31 :=
  has_grown (has_new rfl).drew hg (by omega)
theorem pre_two {wr w2 : World} {g : Nat} (hg : ((wr.alloc z26).alloc z26).drew.grownBy w2 (some g)) (hne : g < wr.heap.size) : Has w2 wr.heap.size #[.int .i64 0, .int .i64 0] 31 ∧ Has w2 (wr.heap.size + 1) #[.int .i64 0, .int .i64 0] 31 :=
  ⟨has_grown ((has_new rfl).alloc _).drew hg (by omega), has_grown (has_new (by simp)).drew hg (by omega)⟩

theorem has_set2 {W : World} {k : Nat} {t : TypeId} {a' b' : Value} (h : Has W k #[a', b'] t) (a b : Value) : Has ((W.setCell ⟨k, 0, none⟩ a).setCell ⟨k, 1, none⟩ b) k #[a, b] t := by
  have := has_set (has_set h 0 a) 1 b
  simpa using this
theorem has_off2 {W : World} {k k' : Nat} {t : TypeId} {cs : Array Value} (h : Has W k cs t) (hne : k' ≠ k) (a b : Value) : Has ((W.setCell ⟨k', 0, none⟩ a).setCell ⟨k', 1, none⟩ b) k cs t :=
  (heap_setCell_other _ ⟨k', _, none⟩ k _ (fun e => hne (by simpa using e.symm))).trans ((heap_setCell_other _ ⟨k', _, none⟩ k _ (fun e => hne (by simpa using e.symm))).trans h)

/-- Behind an append of some places to the list of such a path. -/
structure Grw (w : World) (B go : Nat) (ps news : List Pt) (l : Value) (W : World) (l' : Value) (w' : World) : Prop where
  own : Pown w' (B + 1) l' (ps ++ news)
  gr : W.grownBy w' l.ownBlock
  ne : ∀ k, l'.ownBlock = some k → k ≠ go
theorem Grw.keep {w W w' : World} {B go gl N cap k : Nat} {l' : Value} {ps news : List Pt} {cs : Array Value} {t : TypeId} (hg : Grw w B go ps news (.slice (some ⟨gl, 0, none⟩) N cap) W l' w') (h : Has W k cs t) (hne : k ≠ gl) : Has w' k cs t :=
  (hg.gr.block k h.lt (fun e => hne (Option.some.inj e))).trans h
theorem has_off1 {W : World} {k k' : Nat} {t : TypeId} {cs : Array Value} (h : Has W k cs t) (hne : k ≠ k') (j : Nat) (u : Value) : Has (W.setCell ⟨k', j, none⟩ u) k cs t :=
  (heap_setCell_other _ ⟨k', _, none⟩ k _ (fun e => hne (by simpa using e))).trans h
theorem small3 {ps : List Pt} (h : Small ps) {p q r : Pt} (hp : Small [p]) (hq : Small [q]) (hr : Small [r]) : Small (ps ++ [p, q, r]) := by
  have a := hp 0 (by simp)
  have b := hq 0 (by simp)
  have c := hr 0 (by simp)
  rw [pt_zero] at a b c
  have e : ps ++ [p, q, r] = ((ps ++ [p]) ++ [q]) ++ [r] := by simp
  rw [e]
  exact ((h.snoc a.1 a.2.1 a.2.2.1 a.2.2.2).snoc b.1 b.2.1 b.2.2.1 b.2.2.2).snoc c.1 c.2.1 c.2.2.1 c.2.2.2
theorem small1 {x y : Int} (h : -131072 ≤ x ∧ x ≤ 983039 ∧ -131072 ≤ y ∧ y ≤ 983039) : Small [⟨x, y⟩] := Small.nil.snoc (p := ⟨x, y⟩) h.1 h.2.1 h.2.2.1 h.2.2.2

def Pathss (w : World) (g : Nat) (v : Value) (n : Nat) (c : Bool) (e : Ending) (w' : World) : Prop := ∃ (l : Value) (ps : List Pt), e = .returned (.agg #[.bool c, l]) ∧ ps.length = 3 * n + 1 ∧ Small ps ∧ Pown w' w.heap.size l ps ∧ Tp w' g v ∧ w.grownBy w' (some g)

end Go.Proofs.Ytmdokohdafeilaa
