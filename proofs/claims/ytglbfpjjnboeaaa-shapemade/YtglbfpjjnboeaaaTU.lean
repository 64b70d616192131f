/- A shape as a tape's Shape makes it ('Made3'): it may stand in a document, its path at any tick may be and is not empty; ahead of tick 0 and from 60 on it is the same. No program is named here. -/
import Derived.Test.YtglbfpjjnboeaaaTS
import Derived.Test.YtglbfpjjnboeaaaTQ
import Derived.Test.YtglbfpjjnboeaaaTO
import Derived.Test.YtglbfpjjnboeaaaJO
namespace Go.Proofs.Ytglbfpjjnboeaaa
open Go Go.RowKit
open M

structure OkN (s : Shp) : Prop where
  f0 : 0 ≤ s.form
  f3 : s.form ≤ 3
  n : (s.form = 2 ∧ 2 ≤ s.n ∧ s.n ≤ 6) ∨ (s.form ≠ 2 ∧ s.n = 0)
def Body (s : Shp) : Prop := (s.form ≠ 3 ∧ K60 1 14 s.W ∧ K60 1 14 s.H ∧ s.P = []) ∨ (s.form = 3 ∧ s.W = [] ∧ s.H = [] ∧ Mk2 s.P ∧ 0 < s.P.length)
structure OkR (s : Shp) : Prop where
  rule : s.rule = 0 ∨ s.rule = 1
  kind : 0 ≤ s.kind ∧ s.kind ≤ 2
  place : -262144 ≤ s.p.x ∧ s.p.x ≤ 851967 ∧ -262144 ≤ s.p.y ∧ s.p.y ≤ 851967 ∧ -262144 ≤ s.q.x ∧ s.q.x ≤ 851967 ∧ -262144 ≤ s.q.y ∧ s.q.y ≤ 851967 ∧ 0 ≤ s.r ∧ s.r ≤ 851967
  C : right (bares s.C) = true
  Wd : right s.Wd = true
  cap : s.cap = 0 ∨ s.cap = 1
  D : okD s.D = true
  F : right s.F = true
  T : right s.T = true
/-- A shape as a tape's Shape makes it. -/
structure Made3 (s : Shp) : Prop where
  n : OkN s
  body : Body s
  rest : OkR s
theorem Made3.ok {s : Shp} (h : Made3 s) : okS s = true := by
  obtain ⟨⟨f0, f3, n⟩, body, ⟨rule, kind, place, C, Wd, cap, D, F, T⟩⟩ := h
  have hf : formOk s = true := by
    unfold formOk
    rcases body with ⟨b0, -, -, b3⟩ | ⟨b0, b1, b2, -, -⟩
    · rcases n with ⟨n0, n1, n2⟩ | ⟨n0, n1⟩
      · rw [if_neg (by omega), if_pos n0]
        simp [b3]
        omega
      · rw [if_pos (by omega)]
        simp [b3, n1]
    · rw [if_neg (by omega), if_neg (by omega), if_pos b0]
      rcases n with ⟨n0, n1, n2⟩ | ⟨n0, n1⟩
      · omega
      · simp [b1, b2, n1]
  have hl : lineOk s = true := by
    unfold lineOk
    rcases body with ⟨b0, b1, b2, b3⟩ | ⟨b0, b1, b2, b3, -⟩
    · rw [b1.right, b2.right, b3, Mk2.nil.keys]; rfl
    · rw [b1, b2, b3.keys]; rfl
  have hp : paintOk s = true := by
    unfold paintOk nearN
    simp
    omega
  have hfi : fillOk s = true := by
    unfold fillOk
    rw [hp, C]
    simp [rule]
  have hd : drawOk s = true := by
    unfold drawOk
    rw [Wd, F, T, D]
    simp [cap]
  unfold okS
  rw [hf, hl, hfi, hd]
  rfl
theorem atk_none (t : Int) : atk [] t 0 = 0 := rfl
theorem Made3.tells {s : Shp} (h : Made3 s) (t : Int) : (-33554432 ≤ atk s.W t 0 ∧ atk s.W t 0 ≤ 33554432) ∧ (-33554432 ≤ atk s.H t 0 ∧ atk s.H t 0 ≤ 33554432) := by
  rcases h.body with ⟨-, b1, b2, -⟩ | ⟨-, b1, b2, -, -⟩
  · exact ⟨b1.tells (by omega) (by omega) t, b2.tells (by omega) (by omega) t⟩
  · rw [b1, b2, atk_none]; omega
theorem straightL_pos (ps : List Pt) : 0 < (straightL ps).length := by rw [straightL_length]; omega
theorem Made3.path {s : Shp} (h : Made3 s) (t : Int) : okP (shCl s t) (shAt s t) = true ∧ 0 < (shAt s t).length ∧ (shAt s t).length ≤ 100 ∧ (s.form = 3 ∨ shCl s t = true) := by
  obtain ⟨⟨w0, w1⟩, h0, h1⟩ := h.tells t
  have f0 := h.n.f0
  have f3 := h.n.f3
  by_cases e3 : s.form = 3
  · rcases h.body with ⟨b, -⟩ | ⟨-, -, -, b, bl⟩
    · exact absurd e3 b
    · have p := b.path bl t
      unfold shCl shAt
      rw [if_neg (by omega), if_pos e3, if_neg (by omega), if_neg (by omega), if_neg (by omega), if_pos e3]
      exact ⟨p.1, p.2.1, by omega, Or.inl e3⟩
  · unfold shCl
    rw [if_pos (by omega)]
    unfold shAt
    rcases (show s.form = 0 ∨ s.form = 1 ∨ s.form = 2 by omega) with e | e | e
    · rw [if_pos e]
      exact ⟨rect_ok w0 w1 h0 h1, straightL_pos _, (by unfold rectL; rw [straightL_length]; simp [rectP]), Or.inr rfl⟩
    · rw [if_neg (by omega), if_pos e]
      exact ⟨oval_ok w0 w1 h0 h1, by unfold ovalL ovalN; simp, by unfold ovalL ovalN; simp, Or.inr rfl⟩
    · rw [if_neg (by omega), if_neg (by omega), if_pos e]
      refine ⟨star_ok w0 w1 h0 h1, straightL_pos _, ?_, Or.inr rfl⟩
      have pn : 2 ≤ points s.n ∧ points s.n ≤ 16 := by unfold points clamp; split <;> (try split) <;> omega
      unfold starL
      rw [straightL_length, starN_length]
      omega
theorem Made3.ahead {s : Shp} (h : Made3 s) {t u : Int} (ht : t < 0) (hu : u < 0) : shAt s t = shAt s u ∧ shCl s t = shCl s u := by
  unfold shAt shCl
  rcases h.body with ⟨b, b1, b2, b3⟩ | ⟨b, b1, b2, b3, -⟩
  · rw [b1.ahead ht hu, b2.ahead ht hu, if_neg b, if_neg b, if_neg b, if_neg b]
    exact ⟨rfl, rfl⟩
  · rw [b1, b2, atk_none, atk_none, (b3.ahead ht hu).1, (b3.ahead ht hu).2]
    exact ⟨rfl, rfl⟩
theorem Made3.behind {s : Shp} (h : Made3 s) {t u : Int} (ht : 60 ≤ t) (hu : 60 ≤ u) : shAt s t = shAt s u ∧ shCl s t = shCl s u := by
  unfold shAt shCl
  rcases h.body with ⟨b, b1, b2, b3⟩ | ⟨b, b1, b2, b3, -⟩
  · rw [b1.behind ht hu, b2.behind ht hu, if_neg b, if_neg b, if_neg b, if_neg b]
    exact ⟨rfl, rfl⟩
  · rw [b1, b2, atk_none, atk_none, (b3.behind ht hu).1, (b3.behind ht hu).2]
    exact ⟨rfl, rfl⟩

/-- Its lists lie as another's with the same lists do. -/
theorem Lsts.num {A M : Nat} {s : Shp} {W : World} (h : Lsts A M s W) (form n rule kind : Int) (fill stroke : Bool) (a b line : Cr) (p q : Pt) (r cap : Int) :
    Lsts A M { s with form := form, n := n, rule := rule, kind := kind, fill := fill, stroke := stroke, a := a, b := b, line := line, p := p, q := q, r := r, cap := cap } W :=
  ⟨⟨h.lie.W, h.lie.H, h.lie.P, h.lie.C, h.lie.Wd, h.lie.D, h.lie.F, h.lie.T⟩, h.bW, h.bH, h.bP, h.bp, h.bC, h.bWd, h.bD, h.bF, h.bT⟩
theorem Lsts.setW {A M : Nat} {s : Shp} {W : World} (h : Lsts A M s W) {v : Value} {ks : List Ky} (hs : Sl W v ks) (hb : Btw A M v) : Lsts A M { s with W := ks, vW := v } W :=
  ⟨⟨hs, h.lie.H, h.lie.P, h.lie.C, h.lie.Wd, h.lie.D, h.lie.F, h.lie.T⟩, hb, h.bH, h.bP, h.bp, h.bC, h.bWd, h.bD, h.bF, h.bT⟩
theorem Lsts.setH {A M : Nat} {s : Shp} {W : World} (h : Lsts A M s W) {v : Value} {ks : List Ky} (hs : Sl W v ks) (hb : Btw A M v) : Lsts A M { s with H := ks, vH := v } W :=
  ⟨⟨h.lie.W, hs, h.lie.P, h.lie.C, h.lie.Wd, h.lie.D, h.lie.F, h.lie.T⟩, h.bW, hb, h.bP, h.bp, h.bC, h.bWd, h.bD, h.bF, h.bT⟩
theorem Lsts.setP {A M : Nat} {s : Shp} {W : World} (h : Lsts A M s W) {v : Value} {ks : List Pk} (hs : Kl W v ks) (hb : Btw A M v) (hp : ∀ i, i < ks.length → Btw A M (pk ks i).v) : Lsts A M { s with P := ks, vP := v } W :=
  ⟨⟨h.lie.W, h.lie.H, hs, h.lie.C, h.lie.Wd, h.lie.D, h.lie.F, h.lie.T⟩, h.bW, h.bH, hb, hp, h.bC, h.bWd, h.bD, h.bF, h.bT⟩
theorem Lsts.setC {A M : Nat} {s : Shp} {W : World} (h : Lsts A M s W) {v : Value} {ks : List Ck} (hs : Csl W v ks) (hb : Btw A M v) : Lsts A M { s with C := ks, vC := v } W :=
  ⟨⟨h.lie.W, h.lie.H, h.lie.P, hs, h.lie.Wd, h.lie.D, h.lie.F, h.lie.T⟩, h.bW, h.bH, h.bP, h.bp, hb, h.bWd, h.bD, h.bF, h.bT⟩
theorem Lsts.setWd {A M : Nat} {s : Shp} {W : World} (h : Lsts A M s W) {v : Value} {ks : List Ky} (hs : Sl W v ks) (hb : Btw A M v) : Lsts A M { s with Wd := ks, vWd := v } W :=
  ⟨⟨h.lie.W, h.lie.H, h.lie.P, h.lie.C, hs, h.lie.D, h.lie.F, h.lie.T⟩, h.bW, h.bH, h.bP, h.bp, h.bC, hb, h.bD, h.bF, h.bT⟩
theorem Lsts.setD {A M : Nat} {s : Shp} {W : World} (h : Lsts A M s W) {v : Value} {ks : List Int} (hs : Isl W v ks) (hb : Btw A M v) : Lsts A M { s with D := ks, vD := v } W :=
  ⟨⟨h.lie.W, h.lie.H, h.lie.P, h.lie.C, h.lie.Wd, hs, h.lie.F, h.lie.T⟩, h.bW, h.bH, h.bP, h.bp, h.bC, h.bWd, hb, h.bF, h.bT⟩
theorem Lsts.setF {A M : Nat} {s : Shp} {W : World} (h : Lsts A M s W) {v : Value} {ks : List Ky} (hs : Sl W v ks) (hb : Btw A M v) : Lsts A M { s with F := ks, vF := v } W :=
  ⟨⟨h.lie.W, h.lie.H, h.lie.P, h.lie.C, h.lie.Wd, h.lie.D, hs, h.lie.T⟩, h.bW, h.bH, h.bP, h.bp, h.bC, h.bWd, h.bD, hb, h.bT⟩
theorem Lsts.setT {A M : Nat} {s : Shp} {W : World} (h : Lsts A M s W) {v : Value} {ks : List Ky} (hs : Sl W v ks) (hb : Btw A M v) : Lsts A M { s with T := ks, vT := v } W :=
  ⟨⟨h.lie.W, h.lie.H, h.lie.P, h.lie.C, h.lie.Wd, h.lie.D, h.lie.F, hs⟩, h.bW, h.bH, h.bP, h.bp, h.bC, h.bWd, h.bD, h.bF, hb⟩

/-- The tape v in block g, the shape in the making in block A (its cells c; the lists of s lie behind A and ahead of M), the result's block R: of w the tape alone has turned. -/
structure TS3 (w : World) (g : Nat) (v : Value) (R A : Nat) (z : Array Value) (M : Nat) (s : Shp) (c : Array Value) (W : World) : Prop where
  tape : Tp W g v
  grown : w.grownBy W (some g)
  has : Has W A c 37
  r : Has W R z 37
  ga : g < w.heap.size ∧ w.heap.size ≤ R ∧ R < A
  am : A < M ∧ M ≤ W.heap.size
  lsts : Lsts A M s W
/-- A tape's call. -/
theorem TS3.call {w : World} {g : Nat} {v : Value} {R A M : Nat} {z c : Array Value} {s : Shp} {W W2 : World} (h : TS3 w g v R A z M s c W) (ht : Tp W2 g v) (hg : W.grownBy W2 (some g)) : TS3 w g v R A z M s c W2 := by
  have a := h.ga
  have b := h.am
  have y := hg.size
  exact ⟨ht, grownBy_trans h.grown hg, has_grown h.has hg (by omega), has_grown h.r hg (by omega), h.ga, ⟨b.1, by omega⟩, h.lsts.kept (fun k hk k1 k2 => hg.block k hk (fun e => by simp at e; omega))⟩
/-- Something made, or a block from M on turned. -/
theorem TS3.step {w : World} {g : Nat} {v : Value} {R A M : Nat} {z c : Array Value} {s : Shp} {W W2 : World} {row : Option Nat} (hw : Tp w g v) (h : TS3 w g v R A z M s c W) (hg : W.grownBy W2 row) (hr : ∀ k, row = some k → M ≤ k) : TS3 w g v R A z M s c W2 := by
  have a := h.ga
  have b := h.am
  have y := hg.size
  refine ⟨hw.young h.tape hg (fun k hk => by have := hr k hk; omega), grownBy_own h.grown hg (fun k hk => by have := hr k hk; omega), (hg.block A h.has.lt (fun e => by have := hr A e.symm; omega)).trans h.has, (hg.block R h.r.lt (fun e => by have := hr R e.symm; omega)).trans h.r, h.ga, ⟨b.1, by omega⟩, h.lsts.kept (fun k hk k1 k2 => hg.block k hk (fun e => by have := hr k e.symm; omega))⟩
theorem TS3.alloc {w : World} {g : Nat} {v : Value} {R A M : Nat} {z c : Array Value} {s : Shp} {W : World} (h : TS3 w g v R A z M s c W) (o : Obj) : TS3 w g v R A z M s c (W.alloc o) := by
  have b := h.am
  exact ⟨tp_alloc h.tape o, grownBy_own h.grown (World.grownBy_alloc W o none) (fun k hk => by cases hk), h.has.alloc o, h.r.alloc o, h.ga, ⟨b.1, by simp; omega⟩, h.lsts.kept (fun k hk _ _ => (MapKept.heap_alloc W o).2 k hk)⟩
theorem TS3.drew {w : World} {g : Nat} {v : Value} {R A M : Nat} {z c : Array Value} {s : Shp} {W : World} (h : TS3 w g v R A z M s c W) : TS3 w g v R A z M s c W.drew :=
  ⟨h.tape.blocks (fun _ _ => rfl), ⟨h.grown.os, h.grown.tape, h.grown.output, h.grown.size, h.grown.block⟩, h.has.drew, h.r.drew, h.ga, h.am, h.lsts.kept (fun _ _ _ _ => rfl)⟩
theorem TS3.up {w : World} {g : Nat} {v : Value} {R A M M' : Nat} {z c : Array Value} {s : Shp} {W : World} (h : TS3 w g v R A z M s c W) (hm : M ≤ M') (hz : M' ≤ W.heap.size) : TS3 w g v R A z M' s c W := by
  have b := h.am
  exact ⟨h.tape, h.grown, h.has, h.r, h.ga, ⟨by omega, hz⟩, h.lsts.up hm⟩
/-- Stores into the shape's own block. -/
theorem TS3.into {w : World} {g : Nat} {v : Value} {R A M : Nat} {z c c' : Array Value} {s s' : Shp} {W W2 : World} (hw : Tp w g v) (h : TS3 w g v R A z M s c W) (hg : W.grownBy W2 (some A)) (hh : Has W2 A c' 37) (hl : Lsts A M s' W) : TS3 w g v R A z M s' c' W2 := by
  have a := h.ga
  have b := h.am
  have y := hg.size
  exact ⟨hw.young h.tape hg (fun k hk => by simp at hk; omega), grownBy_own h.grown hg (fun k hk => by simp at hk; omega), hh, has_grown h.r hg (by omega), h.ga, ⟨b.1, by omega⟩, hl.kept (fun k hk k1 k2 => hg.block k hk (fun e => by simp at e; omega))⟩
theorem TS3.put {w : World} {g : Nat} {v : Value} {R A M : Nat} {z c c' : Array Value} {s s' : Shp} {W : World} (hw : Tp w g v) (h : TS3 w g v R A z M s c W) (j : Nat) (u : Value) (hs : c.setIfInBounds j u = c') (hl : Lsts A M s' W) : TS3 w g v R A z M s' c' (W.setCell ⟨A, j, none⟩ u) :=
  h.into hw (grownBy_set (World.grownBy.refl _ _) _ _) (by rw [← hs]; exact has_set h.has j u) hl
/-- The shape s in the making, all its cells as s says. -/
abbrev TS2 (w : World) (g : Nat) (v : Value) (R A : Nat) (z : Array Value) (M : Nat) (s : Shp) (W : World) : Prop := TS3 w g v R A z M s (shC s) W

end Go.Proofs.Ytglbfpjjnboeaaa
