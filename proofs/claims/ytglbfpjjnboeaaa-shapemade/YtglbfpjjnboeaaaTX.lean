/- A shape that Tape.Shape is making, from its form on ('MT'): what each of its statements leaves of it. No program is named here but by types. -/
import Derived.Test.YtglbfpjjnboeaaaTW
namespace Go.Proofs.Ytglbfpjjnboeaaa
open Go Go.RowKit
open M

theorem Own.btw {W : World} {A B : Nat} {l : Value} {qs : List Ky} (h : Own W B l qs) (hB : A < B) : Btw A W.heap.size l := fun k hk => by have := World.ownsRow.lt h k hk; omega
theorem Own.len {W : World} {B : Nat} {l : Value} {qs : List Ky} (h : Own W B l qs) : ∃ ao cap, l = .slice ao qs.length cap := by
  rcases h.2 with ⟨rfl, hn⟩ | ⟨g, cap, cur, rfl, _⟩
  · exact ⟨none, 0, by rw [hn]⟩
  · exact ⟨_, cap, rfl⟩
/-- Behind an append of one key to a list that was made behind M. -/
theorem TS3.keys {w : World} {g : Nat} {v : Value} {R A M B : Nat} {z c : Array Value} {s : Shp} {W w4 : World} {l l' : Value} {qs : List Ky} {k : Ky} (hw : Tp w g v) (h : TS3 w g v R A z M s c W) (hl : Own W B l qs) (hB : M ≤ B) (hf : qs.length ≤ 3)
    (ho : w4.ownsRow B 63 7 l' (qs.length + 1) (kls qs ++ kl k)) (hg : W.grownBy w4 l.ownBlock) : TS3 w g v R A z w4.heap.size s c w4 ∧ Sl w4 l' (qs ++ [k]) ∧ Btw A w4.heap.size l' := by
  have b := h.am
  have t := h.step hw hg (fun k hk => by have := World.ownsRow.lt hl k hk; omega)
  have o : Own w4 B l' (qs ++ [k]) := Own.snoc ho
  exact ⟨t.up t.am.2 (Nat.le_refl _), o.sl (by simp; omega), o.btw (by omega)⟩

/-- The shape in the making, from its form on; nd: no dash so far. -/
def MT (nd : Bool) (w : World) (g : Nat) (v : Value) (R A : Nat) (z : Array Value) (M : Nat) (W : World) : Prop := ∃ s : Shp, Made3 s ∧ (nd = true → s.D = [] ∧ s.vD = .slice none 0 0) ∧ TS2 w g v R A z M s W
section
variable {nd : Bool} {w : World} {g : Nat} {v : Value} {R A M : Nat} {z : Array Value} {W W2 : World}
theorem MT.tape (h : MT nd w g v R A z M W) : Tp W g v := by obtain ⟨s, _, _, t⟩ := h; exact t.tape
theorem MT.cells (h : MT nd w g v R A z M W) : ∃ s : Shp, Has W A (shC s) 37 := by obtain ⟨s, _, _, t⟩ := h; exact ⟨s, t.has⟩
theorem MT.am (h : MT nd w g v R A z M W) : A < M ∧ M ≤ W.heap.size := by obtain ⟨s, _, _, t⟩ := h; exact t.am
theorem MT.ga (h : MT nd w g v R A z M W) : g < w.heap.size ∧ w.heap.size ≤ R ∧ R < A := by obtain ⟨s, _, _, t⟩ := h; exact t.ga
theorem MT.call (h : MT nd w g v R A z M W) (ht : Tp W2 g v) (hg : W.grownBy W2 (some g)) : MT nd w g v R A z M W2 := by obtain ⟨s, m, d, t⟩ := h; exact ⟨s, m, d, t.call ht hg⟩
theorem MT.alloc (h : MT nd w g v R A z M W) (o : Obj) : MT nd w g v R A z M (W.alloc o) := by obtain ⟨s, m, d, t⟩ := h; exact ⟨s, m, d, t.alloc o⟩
theorem MT.up (h : MT nd w g v R A z M W) : MT nd w g v R A z W.heap.size W := by obtain ⟨s, m, d, t⟩ := h; exact ⟨s, m, d, t.up t.am.2 (Nat.le_refl _)⟩
theorem MT.weak (h : MT nd w g v R A z M W) : MT false w g v R A z M W := by obtain ⟨s, m, d, t⟩ := h; exact ⟨s, m, fun h => by simp at h, t⟩
theorem Made3.fill {s : Shp} (h : Made3 s) (b : Bool) : Made3 { s with fill := b } := ⟨⟨h.n.f0, h.n.f3, h.n.n⟩, h.body, ⟨h.rest.rule, h.rest.kind, h.rest.place, h.rest.C, h.rest.Wd, h.rest.cap, h.rest.D, h.rest.F, h.rest.T⟩⟩
theorem Made3.stroke {s : Shp} (h : Made3 s) (b : Bool) : Made3 { s with stroke := b } := ⟨⟨h.n.f0, h.n.f3, h.n.n⟩, h.body, ⟨h.rest.rule, h.rest.kind, h.rest.place, h.rest.C, h.rest.Wd, h.rest.cap, h.rest.D, h.rest.F, h.rest.T⟩⟩
theorem Made3.line {s : Shp} (h : Made3 s) (b : Cr) : Made3 { s with line := b } := ⟨⟨h.n.f0, h.n.f3, h.n.n⟩, h.body, ⟨h.rest.rule, h.rest.kind, h.rest.place, h.rest.C, h.rest.Wd, h.rest.cap, h.rest.D, h.rest.F, h.rest.T⟩⟩
theorem Made3.rule {s : Shp} (h : Made3 s) {x : Int} (hx : x = 0 ∨ x = 1) : Made3 { s with rule := x } := ⟨⟨h.n.f0, h.n.f3, h.n.n⟩, h.body, ⟨hx, h.rest.kind, h.rest.place, h.rest.C, h.rest.Wd, h.rest.cap, h.rest.D, h.rest.F, h.rest.T⟩⟩
theorem Made3.cap {s : Shp} (h : Made3 s) {x : Int} (hx : x = 0 ∨ x = 1) : Made3 { s with cap := x } := ⟨⟨h.n.f0, h.n.f3, h.n.n⟩, h.body, ⟨h.rest.rule, h.rest.kind, h.rest.place, h.rest.C, h.rest.Wd, hx, h.rest.D, h.rest.F, h.rest.T⟩⟩
theorem Made3.paint {s : Shp} (h : Made3 s) {k : Int} {a b : Cr} {p q : Pt} {r : Int} (hk : 0 ≤ k ∧ k ≤ 2)
    (hp : -262144 ≤ p.x ∧ p.x ≤ 851967 ∧ -262144 ≤ p.y ∧ p.y ≤ 851967 ∧ -262144 ≤ q.x ∧ q.x ≤ 851967 ∧ -262144 ≤ q.y ∧ q.y ≤ 851967 ∧ 0 ≤ r ∧ r ≤ 851967) : Made3 { s with kind := k, a := a, b := b, p := p, q := q, r := r } :=
  ⟨⟨h.n.f0, h.n.f3, h.n.n⟩, h.body, ⟨h.rest.rule, hk, hp, h.rest.C, h.rest.Wd, h.rest.cap, h.rest.D, h.rest.F, h.rest.T⟩⟩
theorem Made3.colors {s : Shp} (h : Made3 s) {ks : List Ck} (v : Value) (hk : right (bares ks) = true) : Made3 { s with C := ks, vC := v } := ⟨⟨h.n.f0, h.n.f3, h.n.n⟩, h.body, ⟨h.rest.rule, h.rest.kind, h.rest.place, hk, h.rest.Wd, h.rest.cap, h.rest.D, h.rest.F, h.rest.T⟩⟩
theorem Made3.width {s : Shp} (h : Made3 s) {ks : List Ky} (v : Value) (hk : right ks = true) : Made3 { s with Wd := ks, vWd := v } := ⟨⟨h.n.f0, h.n.f3, h.n.n⟩, h.body, ⟨h.rest.rule, h.rest.kind, h.rest.place, h.rest.C, hk, h.rest.cap, h.rest.D, h.rest.F, h.rest.T⟩⟩
theorem Made3.dash {s : Shp} (h : Made3 s) {ks : List Int} (v : Value) (hk : okD ks = true) : Made3 { s with D := ks, vD := v } := ⟨⟨h.n.f0, h.n.f3, h.n.n⟩, h.body, ⟨h.rest.rule, h.rest.kind, h.rest.place, h.rest.C, h.rest.Wd, h.rest.cap, hk, h.rest.F, h.rest.T⟩⟩
theorem Made3.fromTo {s : Shp} (h : Made3 s) {ks ls : List Ky} (u v : Value) (hk : right ks = true) (hl : right ls = true) : Made3 { s with F := ks, vF := u, T := ls, vT := v } := ⟨⟨h.n.f0, h.n.f3, h.n.n⟩, h.body, ⟨h.rest.rule, h.rest.kind, h.rest.place, h.rest.C, h.rest.Wd, h.rest.cap, h.rest.D, hk, hl⟩⟩

theorem MT.fill (hw : Tp w g v) (h : MT nd w g v R A z M W) (b : Bool) : MT nd w g v R A z M (W.setCell ⟨A, 5, none⟩ (.bool b)) := by
  obtain ⟨s, m, d, t⟩ := h
  exact ⟨{ s with fill := b }, m.fill b, d, t.put hw 5 _ rfl (t.lsts.num ..)⟩
theorem MT.rule (hw : Tp w g v) (h : MT nd w g v R A z M W) {x : Int} (hx : x = 0 ∨ x = 1) : MT nd w g v R A z M (W.setCell ⟨A, 6, none⟩ (.int .i64 x)) := by
  obtain ⟨s, m, d, t⟩ := h
  exact ⟨{ s with rule := x }, m.rule hx, d, t.put hw 6 _ rfl (t.lsts.num ..)⟩
theorem MT.stroke (hw : Tp w g v) (h : MT nd w g v R A z M W) (b : Bool) : MT nd w g v R A z M (W.setCell ⟨A, 22, none⟩ (.bool b)) := by
  obtain ⟨s, m, d, t⟩ := h
  exact ⟨{ s with stroke := b }, m.stroke b, d, t.put hw 22 _ rfl (t.lsts.num ..)⟩
theorem MT.cap (hw : Tp w g v) (h : MT nd w g v R A z M W) {x : Int} (hx : x = 0 ∨ x = 1) : MT nd w g v R A z M (W.setCell ⟨A, 28, none⟩ (.int .i64 x)) := by
  obtain ⟨s, m, d, t⟩ := h
  exact ⟨{ s with cap := x }, m.cap hx, d, t.put hw 28 _ rfl (t.lsts.num ..)⟩
/-- A paint's fourteen cells. -/
abbrev paintW (W : World) (A : Nat) (k : Int) (a b : Cr) (p q : Pt) (r : Int) : World :=
  ((((((((((((((W.setCell ⟨A, 7, none⟩ (.int .i64 k)).setCell ⟨A, 8, none⟩ (.int .u8 a.r)).setCell ⟨A, 9, none⟩ (.int .u8 a.g)).setCell ⟨A, 10, none⟩ (.int .u8 a.b)).setCell ⟨A, 11, none⟩ (.int .u8 a.q)).setCell ⟨A, 12, none⟩ (.int .u8 b.r)).setCell ⟨A, 13, none⟩ (.int .u8 b.g)).setCell ⟨A, 14, none⟩ (.int .u8 b.b)).setCell ⟨A, 15, none⟩ (.int .u8 b.q)).setCell ⟨A, 16, none⟩ (.int .i64 p.x)).setCell ⟨A, 17, none⟩ (.int .i64 p.y)).setCell ⟨A, 18, none⟩ (.int .i64 q.x)).setCell ⟨A, 19, none⟩ (.int .i64 q.y)).setCell ⟨A, 20, none⟩ (.int .i64 r))
theorem MT.paint (hw : Tp w g v) (h : MT nd w g v R A z M W) {k : Int} {a b : Cr} {p q : Pt} {r : Int} (hk : 0 ≤ k ∧ k ≤ 2)
    (hp : -262144 ≤ p.x ∧ p.x ≤ 851967 ∧ -262144 ≤ p.y ∧ p.y ≤ 851967 ∧ -262144 ≤ q.x ∧ q.x ≤ 851967 ∧ -262144 ≤ q.y ∧ q.y ≤ 851967 ∧ 0 ≤ r ∧ r ≤ 851967) : MT nd w g v R A z M (paintW W A k a b p q r) := by
  obtain ⟨s, m, d, t⟩ := h
  have gr : W.grownBy (paintW W A k a b p q r) (some A) :=
    grownBy_set (grownBy_set (grownBy_set (grownBy_set (grownBy_set (grownBy_set (grownBy_set (grownBy_set (grownBy_set (grownBy_set (grownBy_set (grownBy_set (grownBy_set (grownBy_set (World.grownBy.refl _ _) _ _) _ _) _ _) _ _) _ _) _ _) _ _) _ _) _ _) _ _) _ _) _ _) _ _) _ _
  have hh : Has (paintW W A k a b p q r) A (shC { s with kind := k, a := a, b := b, p := p, q := q, r := r }) 37 := by
    have h1 := has_set (has_set (has_set (has_set (has_set (has_set (has_set (has_set (has_set (has_set (has_set (has_set (has_set (has_set t.has 7 (.int .i64 k)) 8 (.int .u8 a.r)) 9 (.int .u8 a.g)) 10 (.int .u8 a.b)) 11 (.int .u8 a.q)) 12 (.int .u8 b.r)) 13 (.int .u8 b.g)) 14 (.int .u8 b.b)) 15 (.int .u8 b.q)) 16 (.int .i64 p.x)) 17 (.int .i64 p.y)) 18 (.int .i64 q.x)) 19 (.int .i64 q.y)) 20 (.int .i64 r)
    have e : (((((((((((((((shC s).setIfInBounds 7 (.int .i64 k)).setIfInBounds 8 (.int .u8 a.r)).setIfInBounds 9 (.int .u8 a.g)).setIfInBounds 10 (.int .u8 a.b)).setIfInBounds 11 (.int .u8 a.q)).setIfInBounds 12 (.int .u8 b.r)).setIfInBounds 13 (.int .u8 b.g)).setIfInBounds 14 (.int .u8 b.b)).setIfInBounds 15 (.int .u8 b.q)).setIfInBounds 16 (.int .i64 p.x)).setIfInBounds 17 (.int .i64 p.y)).setIfInBounds 18 (.int .i64 q.x)).setIfInBounds 19 (.int .i64 q.y)).setIfInBounds 20 (.int .i64 r)) = shC { s with kind := k, a := a, b := b, p := p, q := q, r := r } := by simp
    rw [e] at h1
    exact h1
  exact ⟨{ s with kind := k, a := a, b := b, p := p, q := q, r := r }, m.paint hk hp, d, t.into hw gr hh (t.lsts.num ..)⟩
abbrev lineW (W : World) (A : Nat) (c : Cr) : World := (((W.setCell ⟨A, 24, none⟩ (.int .u8 c.r)).setCell ⟨A, 25, none⟩ (.int .u8 c.g)).setCell ⟨A, 26, none⟩ (.int .u8 c.b)).setCell ⟨A, 27, none⟩ (.int .u8 c.q)
theorem MT.line (hw : Tp w g v) (h : MT nd w g v R A z M W) (c : Cr) : MT nd w g v R A z M (lineW W A c) := by
  obtain ⟨s, m, d, t⟩ := h
  have gr : W.grownBy (lineW W A c) (some A) := grownBy_set (grownBy_set (grownBy_set (grownBy_set (World.grownBy.refl _ _) _ _) _ _) _ _) _ _
  have hh : Has (lineW W A c) A (shC { s with line := c }) 37 := has_set (has_set (has_set (has_set t.has 24 _) 25 _) 26 _) 27 _
  exact ⟨{ s with line := c }, m.line c, d, t.into hw gr hh (t.lsts.num ..)⟩
theorem MT.colors (hw : Tp w g v) (h : MT nd w g v R A z M W) {ks : List Ck} {u : Value} (hk : right (bares ks) = true) (hc : Csl W u ks) (hu : ∀ k, u.ownBlock = some k → A < k ∧ k < W.heap.size) : MT nd w g v R A z W.heap.size (W.setCell ⟨A, 21, none⟩ u) := by
  obtain ⟨s, m, d, t⟩ := h.up
  exact ⟨{ s with C := ks, vC := u }, m.colors u hk, d, t.put hw 21 _ rfl (t.lsts.setC hc hu)⟩
theorem MT.width (hw : Tp w g v) (h : MT nd w g v R A z M W) {B : Nat} {w4 : World} {l l' : Value} {qs : List Ky} {k : Ky} (hl : Own W B l qs) (hB : M ≤ B) (hf : qs.length ≤ 3) (hk : right (qs ++ [k]) = true)
    (ho : w4.ownsRow B 63 7 l' (qs.length + 1) (kls qs ++ kl k)) (hg : W.grownBy w4 l.ownBlock) : MT nd w g v R A z w4.heap.size (w4.setCell ⟨A, 23, none⟩ l') := by
  obtain ⟨s, m, d, t⟩ := h
  obtain ⟨t4, sl, bt⟩ := t.keys hw hl hB hf ho hg
  exact ⟨{ s with Wd := qs ++ [k], vWd := l' }, m.width l' hk, d, t4.put hw 23 _ rfl (t4.lsts.setWd sl bt)⟩
theorem MT.fromTo (hw : Tp w g v) (h : MT nd w g v R A z M W) {B C : Nat} {l u : Value} {qs rs : List Ky} (hl : Own W B l qs) (hu : Own W C u rs) (hB : A < B) (hC : A < C) (hq : qs.length ≤ 3) (hr : rs.length ≤ 3) (kq : right qs = true) (kr : right rs = true) :
    MT nd w g v R A z W.heap.size ((W.setCell ⟨A, 30, none⟩ l).setCell ⟨A, 31, none⟩ u) := by
  obtain ⟨s, m, d, t⟩ := h.up
  have gr : W.grownBy ((W.setCell ⟨A, 30, none⟩ l).setCell ⟨A, 31, none⟩ u) (some A) := grownBy_set (grownBy_set (World.grownBy.refl _ _) _ _) _ _
  have hh : Has ((W.setCell ⟨A, 30, none⟩ l).setCell ⟨A, 31, none⟩ u) A (shC { s with F := qs, vF := l, T := rs, vT := u }) 37 := has_set (has_set t.has 30 _) 31 _
  exact ⟨{ s with F := qs, vF := l, T := rs, vT := u }, m.fromTo l u kq kr, d, t.into hw gr hh ((t.lsts.setF (hl.sl (by omega)) (hl.btw hB)).setT (hu.sl (by omega)) (hu.btw hC))⟩

/-- The loop of its dash: the numbers so far xs, in the list dv. -/
structure Dl (w : World) (g : Nat) (v : Value) (R A : Nat) (z : Array Value) (M : Nat) (s : Shp) (xs : List Int) (dv : Value) (W : World) : Prop where
  t : TS3 w g v R A z M s (shC { s with D := xs, vD := dv }) W
  own : Jown W M dv xs
  ok : ∀ i, i < xs.length → okN (nm xs i)
theorem Dl.call {s : Shp} {xs : List Int} {dv : Value} (h : Dl w g v R A z M s xs dv W) (ht : Tp W2 g v) (hg : W.grownBy W2 (some g)) : Dl w g v R A z M s xs dv W2 := by
  have a := h.t.ga
  have b := h.t.am
  refine ⟨h.t.call ht hg, ?_, h.ok⟩
  refine World.ownsRow.kept h.own hg ?_
  by_cases e : dv.ownBlock = none
  · exact Or.inl e
  · exact Or.inr fun e2 => by have := h.own.base g e2; omega
theorem Dl.alloc {s : Shp} {xs : List Int} {dv : Value} (h : Dl w g v R A z M s xs dv W) (o : Obj) : Dl w g v R A z M s xs dv (W.alloc o) := ⟨h.t.alloc o, h.own.alloc o, h.ok⟩
theorem Dl.drew {s : Shp} {xs : List Int} {dv : Value} (h : Dl w g v R A z M s xs dv W) : Dl w g v R A z M s xs dv W.drew := ⟨h.t.drew, h.own, h.ok⟩
theorem Dl.snoc {s : Shp} {xs : List Int} {dv dv' : Value} {w4 : World} {y : Int} (hw : Tp w g v) (h : Dl w g v R A z M s xs dv W) (hy : okN y) (ho : Jown w4 M dv' (xs ++ [y])) (hg : W.grownBy w4 dv.ownBlock) : Dl w g v R A z M s (xs ++ [y]) dv' (w4.setCell ⟨A, 29, none⟩ dv') := by
  have t := h.t.step hw hg (fun k hk => (h.own.base k hk).1)
  have b := t.am
  have hset : w4.grownBy (w4.setCell ⟨A, 29, none⟩ dv') (some A) := grownBy_set (World.grownBy.refl _ _) _ _
  refine ⟨t.put hw 29 _ rfl t.lsts, World.ownsRow.kept ho hset ?_, fun i hi => ?_⟩
  · by_cases e : dv'.ownBlock = none
    · exact Or.inl e
    · exact Or.inr fun e2 => by have := ho.base A e2; omega
  · simp at hi
    by_cases e : i < xs.length
    · have : nm (xs ++ [y]) i = nm xs i := by unfold nm; simp only [List.getD_eq_getElem?_getD]; rw [List.getElem?_append_left e]
      rw [this]; exact h.ok i e
    · obtain rfl : i = xs.length := by omega
      have : nm (xs ++ [y]) xs.length = y := by simp [nm, List.getD]
      rw [this]; exact hy
theorem Dl.done {s : Shp} {xs : List Int} {dv : Value} (hm : Made3 s) (h : Dl w g v R A z M s xs dv W) (hx : xs.length ≤ 8) : MT false w g v R A z W.heap.size W := by
  have b := h.t.am
  have t := h.t.up b.2 (Nat.le_refl _)
  exact ⟨{ s with D := xs, vD := dv }, hm.dash dv (okD_yes hx h.ok), fun h => by simp at h, ⟨t.tape, t.grown, t.has, t.r, t.ga, t.am, t.lsts.setD (h.own.sl (by omega)) (fun k hk => by have := h.own.base k hk; omega)⟩⟩
/-- A shape is done. -/
theorem MT.done (h : MT nd w g v R A z M W) : ∃ s : Shp, Made3 s ∧ ShIn W s ∧ Has W A (shC s) 37 ∧ Has W R z 37 ∧ Tp W g v ∧ w.grownBy W (some g) ∧ w.heap.size ≤ R := by
  obtain ⟨s, m, d, t⟩ := h
  exact ⟨s, m, t.lsts.lie, t.has, t.r, t.tape, t.grown, t.ga.2.1⟩
end

end Go.Proofs.Ytglbfpjjnboeaaa
