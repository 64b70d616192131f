/- Contracts of mutoscopekeep's Tape (point, Path): for every tape they give places and paths that may be; the tape alone turns. -/
import Derived.Test.YtopepgifhnfbiaaPM
import Derived.Test.YtopepgifhnfbiaaTK5
import Derived.Deep.RegionHeld3
import Derived.Deep.RegionWith
import Derived.Deep.RegionLaw
namespace Go.Proofs.Ytopepgifhnfbiaa
open Go.RowKit
open M

def Pts (w : World) (g : Nat) (v : Value) (e : Ending) (w' : World) : Prop := ∃ x y : Int, e = .returned (.agg #[.int .i64 x, .int .i64 y]) ∧ (-131072 ≤ x ∧ x ≤ 983039 ∧ -131072 ≤ y ∧ y ≤ 983039) ∧ Tp w' g v ∧ w.grownBy w' (some g)
/-- Two numbers put into a block that is younger than w. -/
theorem two_put {w w1 : World} {g h : Nat} {v : Value} (a b : Value) (ht0 : Tp w g v) (hh : w.heap.size ≤ h) (ht : Tp w1 g v) (hg : w.grownBy w1 (some g)) :
    Tp ((w1.setCell ⟨h, 0, none⟩ a).setCell ⟨h, 1, none⟩ b) g v ∧ w.grownBy ((w1.setCell ⟨h, 0, none⟩ a).setCell ⟨h, 1, none⟩ b) (some g) := by
  have hk : w1.grownBy ((w1.setCell ⟨h, 0, none⟩ a).setCell ⟨h, 1, none⟩ b) (some h) := grownBy_set (grownBy_set (World.grownBy.refl _ _) _ _) _ _
  exact ⟨ht0.young ht hk (fun k e => by simp at e; omega), grownBy_own hg hk (fun k e => by simp at e; omega)⟩

set_option maxHeartbeats 1000000 in
theorem t_point (g : Nat) (v : Value) (w : World) (h : Tp w g v) :
    Calls Try.prog 33 #[.pointer (some ⟨g, 0, none⟩), .int .i64 (-2), .int .i64 14] w (Pts w g v) := by
  have h0 : Tp (w.alloc (.cells #[.int .i64 0, .int .i64 0] 28)) g v := tp_alloc h _
  have g0 : w.grownBy (w.alloc (.cells #[.int .i64 0, .int .i64 0] 28)) (some g) := World.grownBy_alloc _ _ _
  have k0 : Has (w.alloc (.cells #[.int .i64 0, .int .i64 0] 28)) w.heap.size #[.int .i64 0, .int .i64 0] 28 := has_new0
  have hne : w.heap.size ≠ g := by have := h.lt; omega
  have HT := Lib.hid h
  have H0 := Lib.hid h0
  have G0 := Lib.hid g0
  have K0 := Lib.hid k0
  have HN := Lib.hid hne
  clear h h0 g0 k0 hne
  go_enter Try.func33, Try.ntmps33
  go_wp2_with fail
  refine (t_number g v _ _ _ (by omega) (by omega) (by omega) H0.out).mono ?_
  rintro e w1 ⟨x, rfl, x0, x1, ht, hg⟩
  have H1 := Lib.hid ht
  have G1 := Lib.hid (grownBy_trans G0.out hg)
  have K1 := Lib.hid (has_grown K0.out hg HN.out)
  clear ht hg H0 G0 K0
  go_wp2_with fail
  refine (t_number g v _ _ _ (by omega) (by omega) (by omega) H1.out).mono ?_
  rintro e w2 ⟨y, rfl, y0, y1, ht, hg⟩
  have K2 := has_grown K1.out hg HN.out
  have R := two_put (h := w.heap.size) (.int .i64 x) (.int .i64 y) HT.out (Nat.le_refl _) ht (grownBy_trans G1.out hg)
  have k0 := K2.cell 0 _ rfl
  have k1 := K2.cell 1 _ rfl
  have fz := has_fro K2
  have RH := Lib.hid R
  clear ht hg H1 G1 K1 K2 R HT
  go_wp2
  refine bodyPost_ret (v := .agg #[.int .i64 x, .int .i64 y]) (by simp [results, Try.results33, go_sem, k0, k1]) rfl ?_
  exact ⟨x, y, rfl, ⟨by omega, by omega, by omega, by omega⟩, RH.out.1, RH.out.2⟩

/-- A path that a tape fills: the path lies in block go, its list l in blocks of the call's own, the result's block is B. -/
structure Tpa (w : World) (g : Nat) (v : Value) (B go : Nat) (c : Bool) (ps : List Pt) (l : Value) (wr : World) : Prop where
  own : Pown wr (B + 1) l ps
  out : Has wr go #[.bool c, l] 45
  res : Has wr B #[.bool false, .slice none 0 0] 45
  ne : ∀ k, l.ownBlock = some k → k ≠ go
  tp : Tp wr g v
  grown : w.grownBy wr (some g)
  small : Small ps
  lo : B < go
  lg : g < B
  hB : w.heap.size = B
theorem Tpa.alloc {w wr : World} {g B go : Nat} {v l : Value} {c : Bool} {ps : List Pt} (h : Tpa w g v B go c ps l wr) (o : Obj) : Tpa w g v B go c ps l (wr.alloc o) :=
  ⟨h.own.alloc o, h.out.alloc o, h.res.alloc o, h.ne, tp_alloc h.tp o, grownBy_own h.grown (World.grownBy_alloc wr o none) (fun k hk => by cases hk), h.small, h.lo, h.lg, h.hB⟩
theorem Tpa.call {w wr w2 : World} {g B go : Nat} {v l : Value} {c : Bool} {ps : List Pt} (h : Tpa w g v B go c ps l wr) (ht : Tp w2 g v) (hg : wr.grownBy w2 (some g)) : Tpa w g v B go c ps l w2 :=
  ⟨h.own.young hg (by have := h.lg; omega), has_grown h.out hg (by have := h.lg; have := h.lo; omega), has_grown h.res hg (by have := h.lg; omega), h.ne, ht, grownBy_trans h.grown hg, h.small, h.lo, h.lg, h.hB⟩
theorem Tpa.drew {w wr : World} {g B go : Nat} {v l : Value} {c : Bool} {ps : List Pt} (h : Tpa w g v B go c ps l wr) : Tpa w g v B go c ps l wr.drew :=
  ⟨h.own, h.out, h.res, h.ne, h.tp.blocks (fun _ _ => rfl), ⟨h.grown.os, h.grown.tape, h.grown.output, h.grown.size, h.grown.block⟩, h.small, h.lo, h.lg, h.hB⟩

/-- A cell of a block that is younger than a world in which all this stood is stored. -/
theorem Tpa.set {w w0 wr : World} {g B go : Nat} {v l : Value} {c : Bool} {ps : List Pt} (h0 : Tpa w g v B go c ps l w0) (h : Tpa w g v B go c ps l wr) {k : Nat} (hk : w0.heap.size ≤ k) (j : Nat) (u : Value) : Tpa w g v B go c ps l (wr.setCell ⟨k, j, none⟩ u) := by
  have hs : wr.grownBy (wr.setCell ⟨k, j, none⟩ u) (some k) := grownBy_set (World.grownBy.refl _ _) _ _
  have a1 := h0.out.lt
  have a2 := h0.res.lt
  have a3 := h0.grown.size
  have a4 := h0.hB
  exact ⟨h.own.kept hs (fun i hi e => by simp at hi; have := (h0.own.base i e).2; omega), has_grown h.out hs (by omega), has_grown h.res hs (by omega), h.ne, h0.tp.young h.tp hs (fun i hi => by simp at hi; omega), grownBy_own h.grown hs (fun i hi => by simp at hi; omega), h.small, h.lo, h.lg, h.hB⟩
theorem Tpa.s {w wr : World} {g B go L N gl cap : Nat} {v : Value} {c : Bool} {ps : List Pt} (h : Tpa w g v B go c ps (.slice (some ⟨gl, 0, none⟩) N cap) wr) (hN : ps.length = N) (hL : L < N) (hf : N ≤ 8796093022208) :
    Tpa w g v B go c ps (.slice (some ⟨gl, 0, none⟩) N cap) wr ∧ wr.cell? ⟨go, 1, none⟩ = some (.slice (some ⟨gl, 0, none⟩) N cap) ∧ wr.cell? ⟨gl, L * 2, none⟩ = some (.int .i64 (pt ps L).x) ∧ wr.cell? ⟨gl, L * 2 + 1, none⟩ = some (.int .i64 (pt ps L).y) := by
  have r := h.own.row (by omega) (by omega)
  have r0 := r.c0 L (by omega)
  have r1 := r.c1 L (by omega)
  rw [Nat.zero_add] at r0 r1
  exact ⟨h, h.out.cell 1 _ rfl, r0, r1⟩

abbrev z26 : Obj := .cells #[.int .i64 0, .int .i64 0] 28
theorem pre_one {wr w2 : World} {g : Nat} (hg : (wr.alloc z26).drew.grownBy w2 (some g)) (hne : g < wr.heap.size) : Has w2 wr.heap.size #[.int .i64 0, .int .i64 0] 28 :=
  has_grown (has_new rfl).drew hg (by omega)
theorem pre_two {wr w2 : World} {g : Nat} (hg : ((wr.alloc z26).alloc z26).drew.grownBy w2 (some g)) (hne : g < wr.heap.size) : Has w2 wr.heap.size #[.int .i64 0, .int .i64 0] 28 ∧ Has w2 (wr.heap.size + 1) #[.int .i64 0, .int .i64 0] 28 :=
  ⟨has_grown ((has_new rfl).alloc _).drew hg (by omega), has_grown (has_new (by simp)).drew hg (by omega)⟩

theorem has_set2 {W : World} {k : Nat} {t : TypeId} {a' b' : Value} (h : Has W k #[a', b'] t) (a b : Value) : Has ((W.setCell ⟨k, 0, none⟩ a).setCell ⟨k, 1, none⟩ b) k #[a, b] t := by
  have := has_set (has_set h 0 a) 1 b
  simpa using this
theorem has_off2 {W : World} {k k' : Nat} {t : TypeId} {cs : Array Value} (h : Has W k cs t) (hne : k' ≠ k) (a b : Value) : Has ((W.setCell ⟨k', 0, none⟩ a).setCell ⟨k', 1, none⟩ b) k cs t :=
  (heap_setCell_other _ ⟨k', _, none⟩ k _ (fun e => hne (by simpa using e.symm))).trans ((heap_setCell_other _ ⟨k', _, none⟩ k _ (fun e => hne (by simpa using e.symm))).trans h)

/-- Behind an append of some places to the list of such a path. -/
structure Grw (w : World) (B go : Nat) (ps news : List Pt) (l : Value) (W : World) (l' : Value) (w' : World) : Prop where
  own : Pown w' (B + 1) l' (ps ++ news)
  gr : W.grownBy w' l.ownBlock
  ne : ∀ k, l'.ownBlock = some k → k ≠ go
theorem Tpa.grew {w W w' : World} {g B go : Nat} {v l l' : Value} {c : Bool} {ps news : List Pt} (ht0 : Tp w g v) (h : Tpa w g v B go c ps l W) (hg : Grw w B go ps news l W l' w') (hs : Small (ps ++ news)) : Tpa w g v B go c (ps ++ news) l' (w'.setCell ⟨go, 1, none⟩ l') := by
  have b0 := h.hB
  have b1 := h.lo
  have b2 := h.lg
  have hset : w'.grownBy (w'.setCell ⟨go, 1, none⟩ l') (some go) := grownBy_set (World.grownBy.refl _ _) _ _
  have hl : ∀ k, l.ownBlock = some k → w.heap.size ≤ k := fun k hk => by have := (h.own.base k hk).1; omega
  have t1 : Tp w' g v := ht0.young h.tp hg.gr hl
  have g1 : w.grownBy w' (some g) := grownBy_own h.grown hg.gr hl
  have ho : Has w' go #[.bool c, l] 45 := (hg.gr.block go h.out.lt (fun e => h.ne go e.symm rfl)).trans h.out
  have hr : Has w' B #[.bool false, .slice none 0 0] 45 := (hg.gr.block B h.res.lt (fun e => by have := (h.own.base B e.symm).1; omega)).trans h.res
  refine ⟨hg.own.kept hset (fun k hk e => by simp at hk; exact hg.ne k e hk.symm), ?_, has_grown hr hset (by omega), hg.ne, ht0.young t1 hset (fun k hk => by simp at hk; omega), grownBy_own g1 hset (fun k hk => by simp at hk; omega), hs, h.lo, h.lg, h.hB⟩
  have := has_set ho 1 l'
  simpa using this
theorem Grw.go1 {w W w' : World} {g B go : Nat} {v l l' : Value} {c : Bool} {ps news : List Pt} (h : Tpa w g v B go c ps l W) (hg : Grw w B go ps news l W l' w') : w'.cell? ⟨go, 1, none⟩ = some l ∧ w'.frozen? ⟨go, 1, none⟩ = false := by
  have ho : Has w' go #[.bool c, l] 45 := (hg.gr.block go h.out.lt (fun e => h.ne go e.symm rfl)).trans h.out
  exact ⟨ho.cell 1 _ rfl, has_fro ho 1⟩
theorem Grw.keep {w W w' : World} {B go gl N cap k : Nat} {l' : Value} {ps news : List Pt} {cs : Array Value} {t : TypeId} (hg : Grw w B go ps news (.slice (some ⟨gl, 0, none⟩) N cap) W l' w') (h : Has W k cs t) (hne : k ≠ gl) : Has w' k cs t :=
  (hg.gr.block k h.lt (fun e => hne (Option.some.inj e))).trans h
theorem has_off1 {W : World} {k k' : Nat} {t : TypeId} {cs : Array Value} (h : Has W k cs t) (hne : k ≠ k') (j : Nat) (u : Value) : Has (W.setCell ⟨k', j, none⟩ u) k cs t :=
  (heap_setCell_other _ ⟨k', _, none⟩ k _ (fun e => hne (by simpa using e))).trans h
/-- An append of some places that lie in a block of their own. -/
theorem wp_append_pts {w W : World} {g B go : Nat} {v l : Value} {c : Bool} {ps : List Pt} {o : Oper} {a : Act} {K : Act → World → Prop} {Q : Exit → Act → World → Prop} (s x : Operand)
    (ho : o.op = .call { callee := .builtin .append, args := #[s, x], argTypes := #[29, 29] }) (N : Nat) (hN : ps.length = N) (hf : N ≤ 900) (hs : a.eval s = l) (H m c2 : Nat) (hx : a.eval x = .slice (some ⟨H, 0, none⟩) m c2)
    (news : List Pt) (hm : news.length = m) (hm0 : 0 < m) (hm1 : m ≤ 10) (cs : Array Value) (hn : Has W H cs 28) (hcs : cs.toList = pls news) (hT : Tpa w g v B go c ps l W)
    (h : ∀ g' cap' w', Grw w B go ps news l W (.slice (some ⟨g', 0, none⟩) (N + m) cap') w' → K (a.put o.dst (.slice (some ⟨g', 0, none⟩) (N + m) cap')) w') : o.wp Try.prog a W K Q := by
  obtain ⟨i0, hi, hz0, hz1, hz2⟩ := info_parts Try.infoPt
  subst hN
  refine wp_append_lies W s x 29 ho (B + 1) 28 i0 _ 2 16 Try.underlying29 hi hz0 hz1 hz2 rfl (by decide) l ps.length (pls ps) hs hT.own ⟨H, 0, none⟩ m c2 (pls news) hx (by rw [pls_length, hm]) ?_ (ones_pls news) hm0 (by unfold maxLen; omega) (by omega) (by have := hT.res.lt; omega) _ rfl ?_
  · intro j u hu
    rw [Addr.add_lit, Nat.zero_add]
    refine hn.cell j u ?_
    rw [← hcs] at hu
    simpa using hu
  intro g' cap' w' hown' hg hat _
  refine h g' cap' w' ⟨?_, hg, fun k hk e => ?_⟩
  · unfold Pown
    rw [List.length_append, hm, pls_append]
    exact hown'
  · have e' : some g' = some k := hk
    simp at e'
    rcases hat with hat | hat
    · exact hT.ne g' hat (by omega)
    · have := hT.out.lt; omega
theorem step_append_pts {w W : World} {g B go : Nat} {v l : Value} {c : Bool} {ps : List Pt} {ops : Array Oper} {o : Oper} {a : Act} {K : Act → World → Prop} {Q : Exit → Act → World → Prop} {E : Prop} (hw : Region.wanted o (yielded ops a.tmps) = true) (s x : Operand)
    (ho : o.op = .call { callee := .builtin .append, args := #[s, x], argTypes := #[29, 29] }) (N : Nat) (hN : ps.length = N) (hf : N ≤ 900) (hs : a.eval s = l) (H m c2 : Nat) (hx : a.eval x = .slice (some ⟨H, 0, none⟩) m c2)
    (news : List Pt) (hm : news.length = m) (hm0 : 0 < m) (hm1 : m ≤ 10) (cs : Array Value) (hn : Has W H cs 28) (hcs : cs.toList = pls news) (hT : Tpa w g v B go c ps l W)
    (h : ∀ g' cap' w', Grw w B go ps news l W (.slice (some ⟨g', 0, none⟩) (N + m) cap') w' → K (a.put o.dst (.slice (some ⟨g', 0, none⟩) (N + m) cap')) w') :
    if Region.wanted o (yielded ops a.tmps) = true then Oper.wp Try.prog o a W K Q else E := by
  rw [if_pos hw]
  exact wp_append_pts s x ho N hN hf hs H m c2 hx news hm hm0 hm1 cs hn hcs hT h
theorem wpList_append_pts {w W : World} {g B go : Nat} {v l : Value} {c : Bool} {ps : List Pt} {ops : Array Oper} {rest : List Oper} {o : Oper} {a : Act} {Q : Exit → Act → World → Prop} (hgd : o.guard = none) (s x : Operand)
    (ho : o.op = .call { callee := .builtin .append, args := #[s, x], argTypes := #[29, 29] }) (N : Nat) (hN : ps.length = N) (hf : N ≤ 900) (hs : a.eval s = l) (H m c2 : Nat) (hx : a.eval x = .slice (some ⟨H, 0, none⟩) m c2)
    (news : List Pt) (hm : news.length = m) (hm0 : 0 < m) (hm1 : m ≤ 10) (cs : Array Value) (hn : Has W H cs 28) (hcs : cs.toList = pls news) (hT : Tpa w g v B go c ps l W)
    (h : ∀ g' cap' w', Grw w B go ps news l W (.slice (some ⟨g', 0, none⟩) (N + m) cap') w' → wpList Try.prog ops Q rest (a.put o.dst (.slice (some ⟨g', 0, none⟩) (N + m) cap')) w') : wpList Try.prog ops Q (o :: rest) a W :=
  wpList_plain hgd fun _ hK => wp_append_pts s x ho N hN hf hs H m c2 hx news hm hm0 hm1 cs hn hcs hT fun g' cap' w' h' => hK _ _ (h g' cap' w' h')
theorem small3 {ps : List Pt} (h : Small ps) {p q r : Pt} (hp : Small [p]) (hq : Small [q]) (hr : Small [r]) : Small (ps ++ [p, q, r]) := by
  have a := hp 0 (by simp)
  have b := hq 0 (by simp)
  have c := hr 0 (by simp)
  rw [pt_zero] at a b c
  have e : ps ++ [p, q, r] = ((ps ++ [p]) ++ [q]) ++ [r] := by simp
  rw [e]
  exact ((h.snoc a.1 a.2.1 a.2.2.1 a.2.2.2).snoc b.1 b.2.1 b.2.2.1 b.2.2.2).snoc c.1 c.2.1 c.2.2.1 c.2.2.2
theorem small1 {x y : Int} (h : -131072 ≤ x ∧ x ≤ 983039 ∧ -131072 ≤ y ∧ y ≤ 983039) : Small [⟨x, y⟩] := Small.nil.snoc (p := ⟨x, y⟩) h.1 h.2.1 h.2.2.1 h.2.2.2

def Pathss (w : World) (g : Nat) (v : Value) (n : Nat) (c : Bool) (e : Ending) (w' : World) : Prop := ∃ (l : Value) (ps : List Pt), e = .returned (.agg #[.bool c, l]) ∧ ps.length = 3 * n + 1 ∧ Small ps ∧ Pown w' w.heap.size l ps ∧ Tp w' g v ∧ w.grownBy w' (some g)

set_option maxRecDepth 100000 in
set_option maxHeartbeats 4000000 in
theorem t_path (g : Nat) (v : Value) (n : Nat) (c : Bool) (w : World) (hn : n ≤ 10) (h : Tp w g v) :
    Calls Try.prog 17 #[.pointer (some ⟨g, 0, none⟩), .int .i64 (n : Int), .bool c] w (Pathss w g v n c) := by
  obtain ⟨B, hB⟩ : ∃ B, w.heap.size = B := ⟨_, rfl⟩
  have hgB : g < B := by rw [← hB]; exact h.lt
  have h0 : Tp (w.alloc (.cells #[.bool false, .slice none 0 0] 45)) g v := tp_alloc h _
  have g0 : w.grownBy (w.alloc (.cells #[.bool false, .slice none 0 0] 45)) (some g) := World.grownBy_alloc _ _ _
  have k0 : Has (w.alloc (.cells #[.bool false, .slice none 0 0] 45)) B #[.bool false, .slice none 0 0] 45 := has_new hB
  have s0 : (w.alloc (.cells #[.bool false, .slice none 0 0] 45)).heap.size = B + 1 := by simp [hB]
  have HW := Lib.hid hB
  have HT := Lib.hid h
  have H0 := Lib.hid h0
  have G0 := Lib.hid g0
  have K0 := Lib.hid k0
  clear h h0 g0 k0
  go_enter Try.func17, Try.ntmps17
  go_wp2_with fail
  clear hB
  refine (t_point g v _ H0.out).mono ?_
  rintro e w1 ⟨x, y, rfl, bd, ht, hg⟩
  have hs1 : B + 1 ≤ w1.heap.size := by have := hg.size; omega
  obtain ⟨W, hWW⟩ : ∃ W, (w1.alloc (.cells (pCells ⟨x, y⟩) 28)).alloc (.cells #[.bool c, .slice (some ⟨w1.heap.size, 0, none⟩) 1 1] 45) = W := ⟨_, rfl⟩
  obtain ⟨s, hs⟩ : ∃ s, w1.heap.size = s := ⟨_, rfl⟩
  have T0 : Tpa w g v B (s + 1) c [⟨x, y⟩] (.slice (some ⟨s, 0, none⟩) 1 1) W := by
    rw [hs] at hWW
    rw [← hWW]
    have ho : Pown (w1.alloc (.cells (pCells ⟨x, y⟩) 28)) (B + 1) (.slice (some ⟨s, 0, none⟩) 1 1) [⟨x, y⟩] := by rw [← hs]; exact World.ownsRow_lit w1 (pCells ⟨x, y⟩) 1 hs1 (by unfold maxLen; omega) rfl
    exact ⟨ho.alloc _, has_new (by simp [hs]), ((has_grown K0.out hg (by omega)).alloc _).alloc _, fun k hk e => by have e' : some s = some k := hk; simp at e'; omega, tp_alloc (tp_alloc ht _) _, grownBy_own (grownBy_own (grownBy_trans G0.out hg) (World.grownBy_alloc _ _ none) (fun k hk => by cases hk)) (World.grownBy_alloc _ _ none) (fun k hk => by cases hk), Small.snoc Small.nil bd.1 bd.2.1 bd.2.2.1 bd.2.2.2, by omega, hgB, HW.out⟩
  have HT0 := Lib.hid T0
  rw [hs] at hWW
  have HWW := Lib.hid hWW
  have o1 : (n : Int) ≤ 10 := by omega
  clear T0 hWW ht hg H0 G0 K0 bd hs1 s0
  go_wp2
  rw [HWW.out]
  go_loopw [8, 9, 10] (fun i _ _ wr => ∃ (m : Nat) (l : Value) (ps : List Pt), i = .int .i64 m ∧ m ≤ n ∧ ps.length = 3 * m + 1 ∧ Tpa w g v B (s + 1) c ps l wr) (fun i _ _ _ => n - (intOf i).toNat)
  case atStart => exact ⟨0, _, _, rfl, by omega, by simp, HT0.out⟩
  case round =>
    clear HT0
    obtain ⟨m, l, ps, rfl, hm, hl, hT⟩ := hrel
    have H := Lib.hid hT
    have HL := Lib.hid hl
    by_cases hlt : m < n
    · obtain ⟨N, hN⟩ : ∃ N, ps.length = N := ⟨_, rfl⟩
      obtain ⟨L, hLL⟩ : ∃ L, 3 * m = L := ⟨_, rfl⟩
      rw [hN, hLL] at hl HL
      obtain ⟨gl, cap, hv⟩ := hT.own.shape (by omega)
      rw [hN] at hv
      subst hv
      have HLL := Lib.hid hLL
      have HNN := Lib.hid hN
      have o3 : (L : Int) < N := by omega
      have o4 : (N : Int) - 1 = (L : Int) := by omega
      have o5 : (N : Int) ≤ 8796093022208 := by omega
      have o6 : (0 : Int) ≤ L := by omega
      have e3 : IntKind.i64.wrap (L : Int) = (L : Int) := IntWalk.i64_in _ (by omega)
      have e4 : IntKind.i64.wrap ((N : Int) - 1) = (L : Int) := by rw [o4]; exact e3
      have FS : Hid (L < N ∧ N ≤ 8796093022208) := Lib.hid ⟨by omega, by omega⟩
      have hS := hT.s hN FS.out.1 FS.out.2
      obtain ⟨-, c1, p0, p1⟩ := hS
      obtain ⟨p, hp⟩ : ∃ p, pt ps L = p := ⟨_, rfl⟩
      have SS := Lib.hid (fun (w' : World) (h : Tpa w g v B (s + 1) c ps (.slice (some ⟨gl, 0, none⟩) N cap) w') => h.s hN FS.out.1 FS.out.2)
      rw [hp] at p0 p1 SS
      have HP := Lib.hid hp
      have o2 : (m : Int) < n := by omega
      have sz : B < wr.heap.size := hT.res.lt
      have LG : Hid (g < wr.heap.size) := Lib.hid (by omega)
      clear hT hl hLL hN hp
      obtain ⟨px, py⟩ := p
      simp only at p0 p1 SS
      go_upto_region 5 with fail
      go_cut [9, 10] (fun sa sb wx => ∃ (ga gb : Nat) (x y : Int), sa = .pointer (some ⟨ga, 0, none⟩) ∧ sb = .pointer (some ⟨gb, 0, none⟩) ∧ (-131072 ≤ x ∧ x ≤ 983039 ∧ -131072 ≤ y ∧ y ≤ 983039) ∧ Has wx ga (pCells ⟨px, py⟩) 28 ∧ Has wx gb (pCells ⟨x, y⟩) 28 ∧ wr.heap.size ≤ ga ∧ wr.heap.size ≤ gb ∧ Tpa w g v B (s + 1) c ps (.slice (some ⟨gl, 0, none⟩) N cap) wx)
      case first =>
        go_region_held3 (fun w' => Tpa w g v B (s + 1) c ps (.slice (some ⟨gl, 0, none⟩) N cap) w' ∧ w'.cell? ⟨s + 1, 1, none⟩ = some (.slice (some ⟨gl, 0, none⟩) N cap) ∧ w'.cell? ⟨gl, L * 2, none⟩ = some (.int .i64 px) ∧ w'.cell? ⟨gl, L * 2 + 1, none⟩ = some (.int .i64 py))
          ((go_split_ands; refine SS.out _ ?_; repeat (first | assumption | exact H.out.drew | refine Tpa.drew ?_ | refine Tpa.alloc ?_ _ | refine Tpa.set H.out ?_ (by first | omega | (simp; done) | (simp; omega)) _ _)))
          (first | (go_split_ands; go_at_call 33; refine (t_point g v _ (Tpa.tp (by assumption))).mono ?_; rintro e w2 ⟨x, y, rfl, bd', ht, hg⟩; have BD := Lib.hid bd'; clear bd'; have tp2 := Tpa.call (by assumption) ht hg; have sz2 : wr.heap.size ≤ w2.heap.size := (by have := hg.size; simp at this; omega); first | (have kC : wr.drew.grownBy w2 (some g) := hg) | (have kA := pre_one (wr := wr) hg LG.out; have kA0 := kA.cell 0 _ rfl; have kA1 := kA.cell 1 _ rfl; have kAf := has_fro kA; have kA2 := fun o => (kA.alloc o).cell 0 _ rfl; have kA3 := fun o => (kA.alloc o).cell 1 _ rfl; have kAg := fun o => has_fro (kA.alloc o); have kn1 := Nat.ne_of_lt kA.lt; have kn2 := Nat.ne_of_gt kA.lt) | (have KAB := Lib.hid (pre_two (wr := wr) hg LG.out); have kA0 := KAB.out.1.cell 0 _ rfl; have kA1 := KAB.out.1.cell 1 _ rfl; have kAf := has_fro KAB.out.1; have kB0 := KAB.out.2.cell 0 _ rfl; have kB1 := KAB.out.2.cell 1 _ rfl; have kBf := has_fro KAB.out.2)))
        · go_split_ands
          go_wp2_with fail
          go_meet
          case rel => exact ⟨_, _, x, y, rfl, rfl, BD.out, (has_new rfl).alloc _, has_new (by simp), by first | omega | simp, by first | omega | simp, by assumption⟩
        · go_split_ands
          go_wp2_with fail
          go_meet
          case rel => exact ⟨_, _, x, y, rfl, rfl, BD.out, has_new (by simp), (has_new rfl).alloc _, by first | omega | simp, by first | omega | simp, by assumption⟩
        · go_split_ands
          go_wp2_with fail
          go_meet
          case rel => exact ⟨_, _, x, y, rfl, rfl, BD.out, has_off2 (has_set2 (kA.alloc _) _ _) kn2 _ _, has_set2 (has_off2 (has_new rfl) kn1 _ _) _ _, by first | omega | simp, by first | omega | simp, by assumption⟩
        · go_split_ands
          go_wp2_with fail
          go_meet
          case rel => exact ⟨_, _, x, y, rfl, rfl, BD.out, has_off2 (has_set2 KAB.out.1 _ _) (by omega) _ _, has_set2 (has_off2 KAB.out.2 (by omega) _ _) _ _, by first | omega | simp, by first | omega | simp, by assumption⟩
        · go_split_ands
          go_wp2_with fail
          go_meet
          case rel => exact ⟨_, _, x, y, rfl, rfl, BD.out, has_off2 (has_new rfl) kn1 _ _, has_set2 (kA.alloc _) _ _, by first | omega | simp, by first | omega | simp, by assumption⟩
        · go_split_ands
          go_wp2_with fail
          go_meet
          case rel => exact ⟨_, _, x, y, rfl, rfl, BD.out, has_off2 (has_set2 KAB.out.2 _ _) (by omega) _ _, has_set2 (has_off2 KAB.out.1 (by omega) _ _) _ _, by first | omega | simp, by first | omega | simp, by assumption⟩
      case rest =>
        obtain ⟨ga, gb, x, y, rfl, rfl, bd, kA, kB, la, lb, hT⟩ := hcut
        have BD := Lib.hid bd
        have HA := Lib.hid kA
        have HBB := Lib.hid kB
        have T := Lib.hid hT
        have PB : Hid (Small [⟨px, py⟩]) := Lib.hid (by have := H.out.small L (by have := HNN.out; have := HL.out; omega); rw [HP.out] at this; exact small1 this)
        have lgg := LG.out
        have ngl : gl < wr.heap.size := (H.out.own.base gl rfl).2
        have ngo : s + 1 < wr.heap.size := H.out.out.lt
        clear bd kA kB hT c1 p0 p1 SS H
        go_wp2_with fail
        refine (t_next g v 2 _ (by omega) (by omega) T.out.tp).mono ?_
        rintro e w3 ⟨z, rfl, z0, z1, ht, hg⟩
        have T3 := Lib.hid (T.out.call ht hg)
        have kA := has_grown HA.out hg (by omega)
        have kB := has_grown HBB.out hg (by omega)
        have KA := Lib.hid kA
        have KB := Lib.hid kB
        have a0 := kA.cell 0 _ rfl
        have a1 := kA.cell 1 _ rfl
        have b0 := kB.cell 0 _ rfl
        have b1 := kB.cell 1 _ rfl
        have c1 := T3.out.out.cell 1 _ rfl
        clear kA kB ht hg T HA HBB
        rcases (show z = 0 ∨ z = 1 by omega) with rfl | rfl
        · clear z0 z1
          have N9 : Hid (N ≤ 900) := Lib.hid (by have := HL.out; have := HLL.out; omega)
          go_wp2_with (at_builtin; refine wpList_append_pts (w := w) (g := g) (v := v) (c := c) rfl _ _ rfl N HNN.out N9.out rfl w3.heap.size 3 3 rfl [⟨px, py⟩, ⟨x, y⟩, ⟨x, y⟩] rfl (by decide) (by decide) _ has_new0 rfl (T3.out.alloc _) ?_)
          intro g' cap' w4 hgr
          have hgo := hgr.go1 (T3.out.alloc _)
          have f0 := hgo.1
          have f1 := hgo.2
          have T4 := Lib.hid (Tpa.grew HT.out (T3.out.alloc _) hgr (small3 T3.out.small PB.out (small1 BD.out) (small1 BD.out)))
          clear hgr hgo a0 a1 b0 b1 c1
          go_wp2
          go_roundw
          case rel => exact ⟨m + 1, _, _, by go_num, by omega, by simp [HNN.out]; have := HL.out; have := HLL.out; omega, T4.out⟩
          case measure => simp [intOf]; omega
        · clear z0 z1
          have N9 : Hid (N ≤ 900) := Lib.hid (by have := HL.out; have := HLL.out; omega)
          have NG : Hid (gb ≠ gl) := Lib.hid (by omega)
          have NGO : Hid (gb ≠ s + 1) := Lib.hid (by omega)
          have T3d := Lib.hid T3.out.drew
          have KB3 := Lib.hid KB.out.drew
          have c1d : w3.drew.cell? ⟨s + 1, 1, none⟩ = some (.slice (some ⟨gl, 0, none⟩) N cap) := c1
          clear a0 a1 b0 b1 KA
          go_wp2_with fail
          have b0d := KB3.out.cell 0 _ rfl
          have b1d := KB3.out.cell 1 _ rfl
          go_region_law
            (first
              | (have M2 := M1; go_simp; go_at_call 33; refine (t_point g v _ T5.out.tp).mono ?_; rintro e w6 ⟨x2, y2, rfl, bd6, ht6, hg6⟩; have BD6 := Lib.hid bd6; have T6 := Lib.hid (T5.out.call ht6 hg6); have KB6 := Lib.hid (has_grown KB5.out hg6 (by omega)); have b60 := KB6.out.cell 0 _ rfl; have b61 := KB6.out.cell 1 _ rfl; have c6 := T6.out.out.cell 1 _ rfl; have c6a := fun o => (T6.out.out.alloc o).cell 1 _ rfl; clear bd6 ht6 hg6)
              | (go_simp; go_at_call 33; refine (t_point g v _ T3d.out.tp).mono ?_; rintro e w5 ⟨x1, y1, rfl, bd5, ht5, hg5⟩; have BD5 := Lib.hid bd5; have T5 := Lib.hid (T3d.out.call ht5 hg5); have KB5 := Lib.hid (has_grown KB3.out hg5 (by omega)); have b50 := KB5.out.cell 0 _ rfl; have b51 := KB5.out.cell 1 _ rfl; have c5 := T5.out.out.cell 1 _ rfl; have M1 := Lib.hid trivial; clear bd5 ht5 hg5)
              | (refine step_append_pts (w := w) (g := g) (v := v) (c := c) (by rfl) (.tmp 43) (.tmp 49) (by rfl) N HNN.out N9.out (by rfl) w6.heap.size 3 3 (by rfl) [⟨x1, y1⟩, ⟨x2, y2⟩, ⟨x, y⟩] rfl (by decide) (by decide) _ has_new0 rfl (T6.out.alloc _) ?_; intro g' cap' w7 hgr; have f0 := (hgr.go1 (T6.out.alloc _)).1; have f1 := (hgr.go1 (T6.out.alloc _)).2; have T7 := Lib.hid (Tpa.grew HT.out (T6.out.alloc _) hgr (small3 T6.out.small (small1 BD5.out) (small1 BD6.out) (small1 BD.out))); have KB7 := Lib.hid (hgr.keep (KB6.out.alloc _) NG.out); have KB8 := Lib.hid (has_off1 KB7.out NGO.out); clear hgr))
          all_goals
            go_wp2
            go_roundw
            case rel => exact ⟨m + 1, _, _, by go_num, by omega, by simp [HNN.out]; have := HL.out; have := HLL.out; omega, T7.out⟩
            case measure => simp [intOf]; omega
    · obtain rfl : m = n := by omega
      have R : Pathss w g v m c (.returned (.agg #[.bool c, l])) ((wr.setCell ⟨B, 0, none⟩ (.bool c)).setCell ⟨B, 1, none⟩ l) := by
        have hs : wr.grownBy ((wr.setCell ⟨B, 0, none⟩ (.bool c)).setCell ⟨B, 1, none⟩ l) (some B) := grownBy_set (grownBy_set (World.grownBy.refl _ _) _ _) _ _
        refine ⟨l, ps, rfl, HL.out, H.out.small, ?_, HT.out.young H.out.tp hs (fun k hk => by simp at hk; have := HW.out; omega), grownBy_own H.out.grown hs (fun k hk => by simp at hk; have := HW.out; omega)⟩
        exact (H.out.own.kept hs (fun k hk e => by simp at hk; have := (H.out.own.base k e).1; omega)).lower (by have := HW.out; omega)
      have RH := Lib.hid R
      have q0 := H.out.out.cell 0 _ rfl
      have q1 := H.out.out.cell 1 _ rfl
      have v0 := H.out.res.cell 0 _ rfl
      have v1 := H.out.res.cell 1 _ rfl
      have fz := has_fro H.out.res
      obtain ⟨aol, capl, rfl⟩ := H.out.own.len
      have o2 : (m : Int) ≤ m := by omega
      clear R hT H hl
      go_wp2
      refine bodyPost_ret (v := .agg #[.bool c, .slice aol ps.length capl]) (by simp [results, Try.results17, go_sem, v0, v1]) rfl ?_
      exact RH.out

end Go.Proofs.Ytopepgifhnfbiaa
