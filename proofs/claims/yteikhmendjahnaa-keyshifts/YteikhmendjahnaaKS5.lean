/- Keys that are moved in time, or made greater: plain arithmetic; and two rows that grow side by side, for the program's keys. -/
import Derived.Test.YteikhmendjahnaaKE5
import Derived.Deep.AppendLies
namespace Go.Proofs.Yteikhmendjahnaa
open Go.RowKit
open M

/-- A key as the law has it: of a quarter of its number, straight where it was bent. -/
def st (q : Ky) : Ky := if q.h = 2 then ⟨q.t, q.v / 4, 1, 0, 0, 0, 0⟩ else ⟨q.t, q.v / 4, q.h, q.a, q.b, q.c, q.d⟩
def lat (n : Int) (q : Ky) : Ky := ⟨q.t + n, q.v, q.h, q.a, q.b, q.c, q.d⟩
def grt (k : Int) (q : Ky) : Ky := ⟨q.t, q.v + k, q.h, q.a, q.b, q.c, q.d⟩
theorem st_t (q : Ky) : (st q).t = q.t := by unfold st; split <;> rfl
theorem st_v (q : Ky) : (st q).v = q.v / 4 := by unfold st; split <;> rfl
theorem st_h (q : Ky) (h0 : 0 ≤ q.h) (h1 : q.h ≤ 2) : 0 ≤ (st q).h ∧ (st q).h ≤ 1 := by
  unfold st
  split
  · simp only; omega
  · simp only; omega
theorem findN_shift {ks ls : List Ky} {n t : Int} : ∀ {m : Nat}, (∀ j, j < m → (ky ls j).t = (ky ks j).t + n) → findN ls (t + n) m = findN ks t m
  | 0, _ => rfl
  | m + 1, h => by
    unfold findN
    rw [h m (by omega), findN_shift (fun j hj => h j (by omega))]
    by_cases e : (ky ks m).t ≤ t
    · rw [if_pos e, if_pos (by omega)]
    · rw [if_neg e, if_neg (by omega)]
theorem prt_shift {f o t n : Int} (f0 : -1000 ≤ f) (f1 : f ≤ 1000) (o0 : -1000 ≤ o) (o1 : o ≤ 1000) (t0 : -1000 ≤ t) (t1 : t ≤ 1000) (n0 : 0 ≤ n) (n1 : n ≤ 2000) : prt (f + n) (o + n) (t + n) = prt f o t := by
  unfold prt
  rw [hold_in (a := f + n) (by omega) (by omega), hold_in (a := o + n) (by omega) (by omega), hold_in (a := t + n) (by omega) (by omega), hold_in (a := f) (by omega) (by omega), hold_in (a := o) (by omega) (by omega), hold_in (a := t) (by omega) (by omega)]
  rw [show t + n - (f + n) = t - f by omega, show o + n - (f + n) = o - f by omega]
  by_cases h1 : t ≤ f
  · rw [if_pos h1, if_pos (by omega)]
  · rw [if_neg h1, if_neg (by omega)]
    by_cases h2 : o ≤ t
    · rw [if_pos h2, if_pos (by omega)]
    · rw [if_neg h2, if_neg (by omega)]
theorem atk_lat {ks ls : List Ky} {n t no : Int} (hl : ls.length = ks.length) (h : ∀ j, j < ks.length → ky ls j = lat n (ky ks j)) (hb : ∀ j, j < ks.length → -1000 ≤ (ky ks j).t ∧ (ky ks j).t ≤ 1000) (t0 : -1000 ≤ t) (t1 : t ≤ 1000) (n0 : 0 ≤ n) (n1 : n ≤ 2000) : atk ls (t + n) no = atk ks t no := by
  have hf : find ls (t + n) = find ks t := by
    unfold find
    rw [hl]
    exact findN_shift fun j hj => by rw [h j hj]; rfl
  by_cases h0 : ks.length = 0
  · unfold atk; rw [if_pos h0, if_pos (by omega)]
  · rcases atk_cases ks t no (by omega) with ⟨e1, e2⟩ | ⟨i, e1, hi, e2⟩ | ⟨i, e1, hi, e2⟩
    · rcases atk_cases ls (t + n) no (by omega) with ⟨d1, d2⟩ | ⟨j, d1, hj, d2⟩ | ⟨j, d1, hj, d2⟩
      · rw [e2, d2, h 0 (by omega)]; rfl
      · omega
      · omega
    · rcases atk_cases ls (t + n) no (by omega) with ⟨d1, d2⟩ | ⟨j, d1, hj, d2⟩ | ⟨j, d1, hj, d2⟩
      · omega
      · obtain rfl : i = j := by omega
        rw [e2, d2, h i (by omega)]; rfl
      · omega
    · rcases atk_cases ls (t + n) no (by omega) with ⟨d1, d2⟩ | ⟨j, d1, hj, d2⟩ | ⟨j, d1, hj, d2⟩
      · omega
      · omega
      · obtain rfl : i = j := by omega
        rw [e2, d2, h i (by omega), h (i + 1) hi]
        have a := hb i (by omega)
        have b := hb (i + 1) hi
        show mid (ky ks i).v (ky ks (i + 1)).v (goes (ky ks i).h (ky ks i).a (ky ks i).b (ky ks i).c (ky ks i).d (prt ((ky ks i).t + n) ((ky ks (i + 1)).t + n) (t + n))) = tween _ _ _
        rw [prt_shift a.1 a.2 b.1 b.2 t0 t1 n0 n1]
        rfl
theorem findN_same {ks ls : List Ky} {t : Int} : ∀ {m : Nat}, (∀ j, j < m → (ky ls j).t = (ky ks j).t) → findN ls t m = findN ks t m
  | 0, _ => rfl
  | m + 1, h => by
    unfold findN
    rw [h m (by omega), findN_same (fun j hj => h j (by omega))]
theorem mid_shift {x y p k : Int} (x0 : -33554432 ≤ x) (x1 : x ≤ 33554432) (y0 : -33554432 ≤ y) (y1 : y ≤ 33554432) (k0 : -65536 ≤ k) (k1 : k ≤ 65536) (p0 : 0 ≤ p) (p1 : p ≤ 65536) : mid (x + k) (y + k) p = mid x y p + k := by
  rw [mid_small (by omega) (by omega) (by omega) (by omega) p0 p1, mid_small (by omega) (by omega) (by omega) (by omega) p0 p1, show y + k - (x + k) = y - x by omega]
  omega
theorem atk_grt {ks ls : List Ky} {k t : Int} (hl : ls.length = ks.length) (h0 : 0 < ks.length) (h : ∀ j, j < ks.length → ky ls j = grt k (ky ks j)) (hb : ∀ j, j < ks.length → -33554432 ≤ (ky ks j).v ∧ (ky ks j).v ≤ 33554432) (hh : ∀ j, j < ks.length → 0 ≤ (ky ks j).h ∧ (ky ks j).h ≤ 1) (k0 : -65536 ≤ k) (k1 : k ≤ 65536) : atk ls t 0 = atk ks t 0 + k := by
  have hf : find ls t = find ks t := by
    unfold find
    rw [hl]
    exact findN_same fun j hj => by rw [h j hj]; rfl
  rcases atk_cases ks t 0 h0 with ⟨e1, e2⟩ | ⟨i, e1, hi, e2⟩ | ⟨i, e1, hi, e2⟩
  · rcases atk_cases ls t 0 (by omega) with ⟨d1, d2⟩ | ⟨j, d1, hj, d2⟩ | ⟨j, d1, hj, d2⟩
    · rw [e2, d2, h 0 (by omega)]; rfl
    · omega
    · omega
  · rcases atk_cases ls t 0 (by omega) with ⟨d1, d2⟩ | ⟨j, d1, hj, d2⟩ | ⟨j, d1, hj, d2⟩
    · omega
    · obtain rfl : i = j := by omega
      rw [e2, d2, h i (by omega)]; rfl
    · omega
  · rcases atk_cases ls t 0 (by omega) with ⟨d1, d2⟩ | ⟨j, d1, hj, d2⟩ | ⟨j, d1, hj, d2⟩
    · omega
    · omega
    · obtain rfl : i = j := by omega
      rw [e2, d2, h i (by omega), h (i + 1) hi]
      have a := hb i (by omega)
      have b := hb (i + 1) hi
      have c := hh i (by omega)
      obtain ⟨p0, p1⟩ := prt_bd (ky ks i).t (ky ks (i + 1)).t t
      obtain ⟨g0, g1⟩ := goes_bd (a := (ky ks i).a) (b := (ky ks i).b) (c := (ky ks i).c) (d := (ky ks i).d) c.1 c.2 p0 p1
      exact mid_shift a.1 a.2 b.1 b.2 k0 k1 g0 g1

/-- Two rows of the call's own, in blocks apart. -/
structure Pair (w : World) (B1 : Nat) (L G : Value) (la gr : List Ky) : Prop where
  l : Own w B1 L la
  g : Own w B1 G gr
  apart : ∀ j, L.ownBlock = some j → G.ownBlock ≠ some j
theorem Pair.alloc {w : World} {B1 : Nat} {L G : Value} {la gr : List Ky} (h : Pair w B1 L G la gr) (o : Obj) : Pair (w.alloc o) B1 L G la gr := ⟨h.l.alloc o, h.g.alloc o, h.apart⟩
theorem Pair.drew {w : World} {B1 : Nat} {L G : Value} {la gr : List Ky} (h : Pair w B1 L G la gr) : Pair w.drew B1 L G la gr := ⟨h.l, h.g, h.apart⟩
theorem Pair.swap {w : World} {B1 : Nat} {L G : Value} {la gr : List Ky} (h : Pair w B1 L G la gr) : Pair w B1 G L gr la := ⟨h.g, h.l, fun j e e2 => h.apart j e2 e⟩
theorem Own.kept' {w w' : World} {B : Nat} {v : Value} {qs : List Ky} {row : Option Nat} (h : Own w B v qs) (hg : w.grownBy w' row) (hr : ∀ k, row = some k → v.ownBlock ≠ some k) : Own w' B v qs := by
  refine World.ownsRow.kept h hg ?_
  by_cases e : v.ownBlock = none
  · exact Or.inl e
  · refine Or.inr fun e2 => ?_
    cases hrow : row with
    | none => rw [hrow] at e2; exact e e2
    | some k => rw [hrow] at e2; exact hr k hrow e2
/-- What stays while the two rows grow: the keys in block g, the world below B, the two keys that are appended. -/
structure Sx (w0 : World) (B B1 : Nat) (r : Value) (rs : List Ky) (Y Z : Nat) (yk zk : Ky) (w' : World) : Prop where
  own : Own w' B r rs
  below : Below B w0 w'
  size : B1 ≤ w'.heap.size
  base : B ≤ B1
  rlt : ∀ j, r.ownBlock = some j → j < B1
  hy : Has w' Y (kCells yk) 26
  hz : Has w' Z (kCells zk) 26
theorem Sx.alloc {w0 w' : World} {B B1 Y Z : Nat} {r : Value} {rs : List Ky} {yk zk : Ky} (h : Sx w0 B B1 r rs Y Z yk zk w') (o : Obj) : Sx w0 B B1 r rs Y Z yk zk (w'.alloc o) :=
  ⟨h.own.alloc o, h.below.alloc (by have := h.size; have := h.base; omega) o, by have := h.size; simp; omega, h.base, h.rlt, h.hy.alloc o, h.hz.alloc o⟩
theorem Sx.drew {w0 w' : World} {B B1 Y Z : Nat} {r : Value} {rs : List Ky} {yk zk : Ky} (h : Sx w0 B B1 r rs Y Z yk zk w') : Sx w0 B B1 r rs Y Z yk zk w'.drew := ⟨h.own, below_drew h.below, h.size, h.base, h.rlt, h.hy, h.hz⟩
theorem Sx.grown {w0 w' w'' : World} {B B1 Y Z : Nat} {r : Value} {rs : List Ky} {yk zk : Ky} {row : Option Nat} (h : Sx w0 B B1 r rs Y Z yk zk w') (hg : w'.grownBy w'' row) (hr : ∀ j, row = some j → B1 ≤ j ∧ j ≠ Y ∧ j ≠ Z) : Sx w0 B B1 r rs Y Z yk zk w'' := by
  refine ⟨h.own.kept' hg (fun j e e2 => ?_), h.below.grown hg (by have := h.size; have := h.base; omega) (fun j e => ?_), by have := h.size; have := hg.size; omega, h.base, h.rlt, ?_, ?_⟩
  · have := hr j e; have := h.rlt j e2; omega
  · have := hr j e; have := h.base; omega
  · exact (hg.block Y h.hy.lt (fun e => (hr Y e.symm).2.1 rfl)).trans h.hy
  · exact (hg.block Z h.hz.lt (fun e => (hr Z e.symm).2.2 rfl)).trans h.hz
theorem Sx.cells {w0 w' : World} {B B1 Y Z : Nat} {r : Value} {rs : List Ky} {yk zk : Ky} (h : Sx w0 B B1 r rs Y Z yk zk w') : Sx w0 B B1 r rs Y Z yk zk w' ∧
    w'.cell? ⟨Y, 0, none⟩ = some (.int .i64 yk.t) ∧ w'.cell? ⟨Y, 1, none⟩ = some (.int .i64 yk.v) ∧ w'.cell? ⟨Y, 2, none⟩ = some (.int .i64 yk.h) ∧ w'.cell? ⟨Y, 3, none⟩ = some (.int .i64 yk.a) ∧ w'.cell? ⟨Y, 4, none⟩ = some (.int .i64 yk.b) ∧ w'.cell? ⟨Y, 5, none⟩ = some (.int .i64 yk.c) ∧ w'.cell? ⟨Y, 6, none⟩ = some (.int .i64 yk.d) ∧
    w'.cell? ⟨Z, 0, none⟩ = some (.int .i64 zk.t) ∧ w'.cell? ⟨Z, 1, none⟩ = some (.int .i64 zk.v) ∧ w'.cell? ⟨Z, 2, none⟩ = some (.int .i64 zk.h) ∧ w'.cell? ⟨Z, 3, none⟩ = some (.int .i64 zk.a) ∧ w'.cell? ⟨Z, 4, none⟩ = some (.int .i64 zk.b) ∧ w'.cell? ⟨Z, 5, none⟩ = some (.int .i64 zk.c) ∧ w'.cell? ⟨Z, 6, none⟩ = some (.int .i64 zk.d) :=
  ⟨h, h.hy.cell 0 _ rfl, h.hy.cell 1 _ rfl, h.hy.cell 2 _ rfl, h.hy.cell 3 _ rfl, h.hy.cell 4 _ rfl, h.hy.cell 5 _ rfl, h.hy.cell 6 _ rfl, h.hz.cell 0 _ rfl, h.hz.cell 1 _ rfl, h.hz.cell 2 _ rfl, h.hz.cell 3 _ rfl, h.hz.cell 4 _ rfl, h.hz.cell 5 _ rfl, h.hz.cell 6 _ rfl⟩
theorem has_far {w w' : World} {P : Nat} {cs : Array Value} {t : TypeId} {row : Option Nat} (hg : w.grownBy w' row) (h : Has w P cs t) (hr : row ≠ some P) : Has w' P cs t := (hg.block P h.lt (fun e => hr e.symm)).trans h
/-- An append of one key onto the first of two rows, at a step of a region that draws. -/
theorem step_append_pair {w0 w : World} {B B1 Y Z : Nat} {r : Value} {rs : List Ky} {yk zk : Ky} {ops : Array Oper} {o : Oper} {a : Act} {K : Act → World → Prop} {Q : Exit → Act → World → Prop} {E : Prop} (hw : Region.wanted o (yielded ops a.tmps) = true) (s x : Operand)
    (ho : o.op = .call { callee := .builtin .append, args := #[s, x], argTypes := #[22, 22] })
    (n : Nat) (L G : Value) (la gr : List Ky) (y : Ky) (hs : a.eval s = L) (hp : Pair w B1 L G la gr) (P : Nat) (hx : a.eval x = .slice (some ⟨P, 0, none⟩) 1 1) (hP : Has w P (kCells y) 26) (hn : la.length + 1 = n) (hf : n ≤ 1000)
    (hS : Sx w0 B B1 r rs Y Z yk zk w) (hL : ∀ j, L.ownBlock = some j → j ≠ Y ∧ j ≠ Z)
    (h : ∀ g' cap' w', Pair w' B1 (.slice (some ⟨g', 0, none⟩) n cap') G (la ++ [y]) gr → w.grownBy w' L.ownBlock → Sx w0 B B1 r rs Y Z yk zk w' → K (a.put o.dst (.slice (some ⟨g', 0, none⟩) n cap')) w') :
    if Region.wanted o (yielded ops a.tmps) = true then Oper.wp Try.prog o a w K Q else E := by
  rw [if_pos hw]
  obtain ⟨i0, hi, hz0, hz1, hz2⟩ := info_parts Try.infoKey
  refine wp_append_lies w s x 22 ho B1 26 i0 _ 7 56 Try.underlying22 hi hz0 hz1 hz2 rfl (by decide) L la.length (kls la) hs hp.l ⟨P, 0, none⟩ 1 1 (kl y) hx rfl (World.news_of_block hP) (ints_one_kl y) (by decide) (by unfold maxLen; omega) (by omega) hS.size _ rfl ?_
  intro g' cap' w' hown' hg hat _
  rw [hn] at hown' ⊢
  refine h g' cap' w' ⟨?_, hp.g.kept' hg (fun j e e2 => hp.apart j e e2), ?_⟩ hg (hS.grown hg fun j e => ⟨(World.ownsRow.lt hp.l j e).1, hL j e⟩)
  · unfold Own
    rw [kls_snoc, List.length_append]
    show w'.ownsRow B1 26 7 _ (la.length + 1) _
    rw [hn]
    exact hown'
  · intro j e e2
    have e' : g' = j := Option.some.inj e
    rcases hat with hat | hat
    · exact hp.apart g' hat (by rw [e2, e'])
    · have := (World.ownsRow.lt hp.g j e2).2
      omega

/-- The rows behind m rounds. -/
def laN (n : Int) (rs : List Ky) (m : Nat) : List Ky := (List.range m).map fun j => lat n (st (ky rs j))
def grN (k : Int) (rs : List Ky) (m : Nat) : List Ky := (List.range m).map fun j => grt k (st (ky rs j))
theorem laN_succ (n : Int) (rs : List Ky) (m : Nat) : laN n rs (m + 1) = laN n rs m ++ [lat n (st (ky rs m))] := by simp [laN, List.range_succ]
theorem grN_succ (k : Int) (rs : List Ky) (m : Nat) : grN k rs (m + 1) = grN k rs m ++ [grt k (st (ky rs m))] := by simp [grN, List.range_succ]
theorem laN_length (n : Int) (rs : List Ky) (m : Nat) : (laN n rs m).length = m := by simp [laN]
theorem grN_length (k : Int) (rs : List Ky) (m : Nat) : (grN k rs m).length = m := by simp [grN]
theorem laN_at {n : Int} {rs : List Ky} {m j : Nat} (h : j < m) : ky (laN n rs m) j = lat n (st (ky rs j)) := by
  unfold laN
  show List.getD _ _ _ = _
  rw [List.getD_eq_getElem?_getD, List.getElem?_map, List.getElem?_range h]
  rfl
theorem grN_at {k : Int} {rs : List Ky} {m j : Nat} (h : j < m) : ky (grN k rs m) j = grt k (st (ky rs j)) := by
  unfold grN
  show List.getD _ _ _ = _
  rw [List.getD_eq_getElem?_getD, List.getElem?_map, List.getElem?_range h]
  rfl
theorem sx_start1 {w0 w : World} {B B1 : Nat} {r : Value} {rs : List Ky} {yk zk : Ky} (o : Obj) (hown : Own w B r rs) (hb : Below B w0 w) (hs : B1 ≤ w.heap.size) (h1 : B ≤ B1) (hr : ∀ j, r.ownBlock = some j → j < B1) :
    Sx w0 B B1 r rs (w.heap.size + 1) (w.heap.size + 2) yk zk (((w.alloc o).alloc (.cells (kCells yk) 26)).alloc (.cells (kCells zk) 26)) :=
  ⟨((hown.alloc _).alloc _).alloc _, ((hb.alloc (by omega) _).alloc (by simp; omega) _).alloc (by simp; omega) _, by simp; omega, h1, hr, (has_new (by simp)).alloc _, has_new (by simp)⟩
theorem sx_start2 {w0 w : World} {B B1 : Nat} {r : Value} {rs : List Ky} {yk zk : Ky} (o : Obj) (hown : Own w B r rs) (hb : Below B w0 w) (hs : B1 ≤ w.heap.size) (h1 : B ≤ B1) (hr : ∀ j, r.ownBlock = some j → j < B1) :
    Sx w0 B B1 r rs (w.heap.size + 2) (w.heap.size + 1) yk zk (((w.alloc o).alloc (.cells (kCells zk) 26)).alloc (.cells (kCells yk) 26)) :=
  ⟨((hown.alloc _).alloc _).alloc _, ((hb.alloc (by omega) _).alloc (by simp; omega) _).alloc (by simp; omega) _, by simp; omega, h1, hr, has_new (by simp), (has_new (by simp)).alloc _⟩

theorem grown_put {a b : World} {g : Nat} (h : a.grownBy b (some g)) (j : Nat) (u : Value) : a.grownBy (b.setCell ⟨g, j, none⟩ u) (some g) :=
  ⟨h.os, h.tape, h.output, by have := h.size; simpa using this, fun k hk hne => (heap_setCell_other b ⟨g, j, none⟩ k u (fun e => hne (by simp [e]))).trans (h.block k hk hne)⟩
/-- Key j of the row in block g set to what the law asks. -/
theorem shift_put {w wr W : World} {B B1 g cap m j : Nat} {rs qs la gr : List Ky} {L G : Value} {st0 sv sh sa sb sc sd : Int} (hq : qs.length = m) (hj : j < m) (hdone : ∀ i, i < j → ky qs i = st (ky rs i)) (hleft : ∀ i, j ≤ i → i < m → ky qs i = ky rs i)
    (hs : st (ky rs j) = ⟨st0, sv, sh, sa, sb, sc, sd⟩) (hown : Own wr B (.slice (some ⟨g, 0, none⟩) m cap) qs) (hla : Own wr B1 L la) (hgr : Own wr B1 G gr) (hb : Below B w wr) (hsz : B1 ≤ wr.heap.size) (hg : g < B1)
    (hW : ((((((wr.setCell ⟨g, j * 7 + 1, none⟩ (.int .i64 sv)).setCell ⟨g, j * 7 + 2, none⟩ (.int .i64 sh)).setCell ⟨g, j * 7 + 3, none⟩ (.int .i64 sa)).setCell ⟨g, j * 7 + 3 + 1, none⟩ (.int .i64 sb)).setCell ⟨g, j * 7 + 3 + 2, none⟩ (.int .i64 sc)).setCell ⟨g, j * 7 + 3 + 3, none⟩ (.int .i64 sd)) = W) :
    ∃ qs : List Ky, qs.length = m ∧ (∀ i, i < j + 1 → ky qs i = st (ky rs i)) ∧ (∀ i, j + 1 ≤ i → i < m → ky qs i = ky rs i) ∧ Own W.drew B (.slice (some ⟨g, 0, none⟩) m cap) qs ∧ Own W.drew B1 L la ∧ Own W.drew B1 G gr ∧ Below B w W.drew ∧ B1 ≤ W.drew.heap.size := by
  have hBg := hown.base.1
  have h0 : Own wr B (.slice (some ⟨g, 0, none⟩) m cap) (qs.set j (ky qs j)) := by rw [set_self]; exact hown
  have h1 := h0.put' hq hj 1 _ (by decide) rfl sv
  have h2 := h1.put' hq hj 2 _ (by decide) rfl sh
  have h3 := h2.put' hq hj 3 _ (by decide) rfl sa
  have h4 := h3.put' hq hj 4 (j * 7 + 3 + 1) (by decide) (by omega) sb
  have h5 := h4.put' hq hj 5 (j * 7 + 3 + 2) (by decide) (by omega) sc
  have h6 := h5.put' hq hj 6 (j * 7 + 3 + 3) (by decide) (by omega) sd
  have hgw := grown_put (grown_put (grown_put (grown_put (grown_put (grown_put (World.grownBy.refl wr (some g)) (j * 7 + 1) (.int .i64 sv)) (j * 7 + 2) (.int .i64 sh)) (j * 7 + 3) (.int .i64 sa)) (j * 7 + 3 + 1) (.int .i64 sb)) (j * 7 + 3 + 2) (.int .i64 sc)) (j * 7 + 3 + 3) (.int .i64 sd)
  have hbw : Below B w ((((((wr.setCell ⟨g, j * 7 + 1, none⟩ (.int .i64 sv)).setCell ⟨g, j * 7 + 2, none⟩ (.int .i64 sh)).setCell ⟨g, j * 7 + 3, none⟩ (.int .i64 sa)).setCell ⟨g, j * 7 + 3 + 1, none⟩ (.int .i64 sb)).setCell ⟨g, j * 7 + 3 + 2, none⟩ (.int .i64 sc)).setCell ⟨g, j * 7 + 3 + 3, none⟩ (.int .i64 sd)) := (((((hb.setCell hBg _).setCell hBg _).setCell hBg _).setCell hBg _).setCell hBg _).setCell hBg _
  rw [hW] at h6 hgw hbw
  clear hW h0 h1 h2 h3 h4 h5
  have far : ∀ {V : Value} {l : List Ky}, Own wr B1 V l → ∀ i, some g = some i → V.ownBlock ≠ some i := fun h i e e2 => by
    have e' : g = i := Option.some.inj e
    have := (World.ownsRow.lt h i e2).1
    omega
  have ek : ky qs j = ky rs j := hleft j (Nat.le_refl _) hj
  have et : (ky qs j).t = st0 := by rw [ek, ← st_t, hs]
  have h7 : Own W.drew B (.slice (some ⟨g, 0, none⟩) m cap) (qs.set j ⟨(ky qs j).t, sv, sh, sa, sb, sc, sd⟩) := h6
  have k8 : Own W B1 L la := hla.kept' hgw (far hla)
  have k9 : Own W B1 G gr := hgr.kept' hgw (far hgr)
  have h8 : Own W.drew B1 L la := k8
  have h9 : Own W.drew B1 G gr := k9
  refine ⟨qs.set j ⟨(ky qs j).t, sv, sh, sa, sb, sc, sd⟩, by simpa using hq, ?_, ?_, h7, h8, h9, below_drew hbw, Nat.le_trans hsz hgw.size⟩
  · intro i hi
    by_cases e : j = i
    · subst e; rw [ky_set_eq (by omega), hs, et]
    · rw [ky_set_ne e]; exact hdone i (by omega)
  · intro i h1 h2
    rw [ky_set_ne (by omega)]; exact hleft i (by omega) h2
theorem atk_bd {ks : List Ky} {t : Int} (h0 : 0 < ks.length) (hb : ∀ j, j < ks.length → -33554432 ≤ (ky ks j).v ∧ (ky ks j).v ≤ 33554432) (hh : ∀ j, j < ks.length → 0 ≤ (ky ks j).h ∧ (ky ks j).h ≤ 1) : -33554432 ≤ atk ks t 0 ∧ atk ks t 0 ≤ 33554432 := by
  rcases atk_cases ks t 0 h0 with ⟨e1, e2⟩ | ⟨i, e1, hi, e2⟩ | ⟨i, e1, hi, e2⟩
  · rw [e2]; exact hb 0 h0
  · rw [e2]; exact hb i (by omega)
  · rw [e2]
    have a := hb i (by omega)
    have b := hb (i + 1) hi
    have c := hh i (by omega)
    have := tween_in (t := t) (x := ky ks i) (y := ky ks (i + 1)) (by omega) (by omega) (by omega) (by omega) c.1 c.2
    omega

end Go.Proofs.Yteikhmendjahnaa
