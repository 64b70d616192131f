/- Contracts of mutoscopelaw9.tapes and .poly: a tape of the call's own; of every tape a poly of at most twelve places, small ones; the tape alone turns. -/
import Derived.Test.YtddcjdhlmlhgdaaNMath
import Derived.Test.YtddcjdhlmlhgdaaAP8
import Derived.Test.YtddcjdhlmlhgdaaTB7
import Derived.Test.YtddcjdhlmlhgdaaIO
import Derived.Test.YtddcjdhlmlhgdaaPM
namespace Go.Proofs.Ytddcjdhlmlhgdaa
open Go Go.RowKit
open M

/-- Places as a tape of layer 9 gives them. -/
def Small9 (ps : List Pt) : Prop := ∀ i, i < ps.length → -327680 ≤ (pt ps i).x ∧ (pt ps i).x ≤ 1376255 ∧ -327680 ≤ (pt ps i).y ∧ (pt ps i).y ≤ 1376255
theorem Small9.nil : Small9 [] := fun i hi => by simp at hi
theorem Small9.snoc {ps : List Pt} {p : Pt} (h : Small9 ps) (h1 : -327680 ≤ p.x) (h2 : p.x ≤ 1376255) (h3 : -327680 ≤ p.y) (h4 : p.y ≤ 1376255) : Small9 (ps ++ [p]) := by
  intro i hi
  by_cases e : i = ps.length
  · subst e; rw [pt_last]; exact ⟨h1, h2, h3, h4⟩
  · rw [pt_left (by simp at hi; omega)]; exact h i (by simp at hi; omega)
/-- A poly that a tape fills: it lies in block go, its list l in blocks behind it, the result's block is B. -/
structure Tpp (w : World) (g : Nat) (v : Value) (B go : Nat) (c : Bool) (ps : List Pt) (l : Value) (wr : World) : Prop where
  own : Pown wr (go + 1) l ps
  out : Has wr go #[.bool c, l] 24
  res : Has wr B #[.bool false, .slice none 0 0] 24
  tp : Tp wr g v
  grown : w.grownBy wr (some g)
  small : Small9 ps
  lo : B < go
  lg : g < B
  hB : w.heap.size = B
section
variable {w wr W w' w2 : World} {g B go : Nat} {v l l' : Value} {c : Bool} {ps qs : List Pt}
theorem Tpp.alloc (h : Tpp w g v B go c ps l wr) (o : Obj) : Tpp w g v B go c ps l (wr.alloc o) :=
  ⟨h.own.alloc o, h.out.alloc o, h.res.alloc o, tp_alloc h.tp o, grownBy_own h.grown (World.grownBy_alloc wr o none) (fun k hk => by cases hk), h.small, h.lo, h.lg, h.hB⟩
theorem Tpp.call (h : Tpp w g v B go c ps l wr) (ht : Tp w2 g v) (hg : wr.grownBy w2 (some g)) : Tpp w g v B go c ps l w2 :=
  ⟨h.own.young hg (by have := h.lg; have := h.lo; omega), has_grown h.out hg (by have := h.lg; have := h.lo; omega), has_grown h.res hg (by have := h.lg; omega), ht, grownBy_trans h.grown hg, h.small, h.lo, h.lg, h.hB⟩
theorem Tpp.away (h : Tpp w g v B go c ps l W) : l.ownBlock ≠ some go ∧ l.ownBlock ≠ some B := ⟨fun e => by have := (h.own.base go e).1; omega, fun e => by have := (h.own.base B e).1; have := h.lo; omega⟩
/-- The list has grown, and is stored. -/
theorem Tpp.put (ht0 : Tp w g v) (h : Tpp w g v B go c ps l W) (ho : Pown w' (go + 1) l' qs) (hg : W.grownBy w' l.ownBlock) (hs : Small9 qs) : Tpp w g v B go c qs l' (w'.setCell ⟨go, 1, none⟩ l') := by
  have b0 := h.hB
  have b1 := h.lo
  have b2 := h.lg
  have hset : w'.grownBy (w'.setCell ⟨go, 1, none⟩ l') (some go) := grownBy_set (World.grownBy.refl _ _) _ _
  have hl : ∀ k, l.ownBlock = some k → w.heap.size ≤ k := fun k hk => by have := (h.own.base k hk).1; omega
  have t1 : Tp w' g v := ht0.young h.tp hg hl
  have g1 : w.grownBy w' (some g) := grownBy_own h.grown hg hl
  have hk : Has w' go #[.bool c, l] 24 := (hg.block go h.out.lt (fun e => h.away.1 e.symm)).trans h.out
  have hr : Has w' B #[.bool false, .slice none 0 0] 24 := (hg.block B h.res.lt (fun e => h.away.2 e.symm)).trans h.res
  refine ⟨ho.kept hset (fun k hk e => by simp at hk; have := (ho.base k e).1; omega), ?_, has_grown hr hset (by omega), ht0.young t1 hset (fun k hk => by simp at hk; omega), grownBy_own g1 hset (fun k hk => by simp at hk; omega), hs, h.lo, h.lg, h.hB⟩
  have := has_set hk 1 l'
  simpa using this
theorem Tpp.fine (h : Tpp w g v B go c ps l W) (hg : W.grownBy w' l.ownBlock) : w'.cell? ⟨go, 1, none⟩ = some l ∧ w'.frozen? ⟨go, 1, none⟩ = false := by
  have hk : Has w' go #[.bool c, l] 24 := (hg.block go h.out.lt (fun e => h.away.1 e.symm)).trans h.out
  exact ⟨hk.cell 1 _ rfl, has_fro hk 1⟩
/-- A block that is neither the list's nor the poly's stays where the list grows. -/
theorem keep_put {k : Nat} {cs : Array Value} {t : TypeId} (hg : W.grownBy w' l.ownBlock) (hk : Has W k cs t) (hne : l.ownBlock ≠ some k) (hgo : k ≠ go) (l' : Value) : Has (w'.setCell ⟨go, 1, none⟩ l') k cs t :=
  has_grown ((hg.block k hk.lt (fun e => hne e.symm)).trans hk) (grownBy_set (World.grownBy.refl _ _) _ _) hgo
end

def Polyss (w : World) (g : Nat) (v : Value) (e : Ending) (w' : World) : Prop := ∃ (c : Bool) (l : Value) (ps : List Pt), e = .returned (.agg #[.bool c, l]) ∧ ps.length ≤ 12 ∧ Small9 ps ∧ Pown w' w.heap.size l ps ∧ Tp w' g v ∧ w.grownBy w' (some g)

set_option maxRecDepth 100000 in
set_option maxHeartbeats 4000000 in
theorem l9_poly (g : Nat) (v : Value) (w : World) (h : Tp w g v) : Calls Try.prog 7 #[.pointer (some ⟨g, 0, none⟩)] w (Polyss w g v) := by
  obtain ⟨B, hB⟩ : ∃ B, w.heap.size = B := ⟨_, rfl⟩
  have hgB : g < B := by rw [← hB]; exact h.lt
  have h0 : Tp (w.alloc (.cells #[.bool false, .slice none 0 0] 24)) g v := tp_alloc h _
  have g0 : w.grownBy (w.alloc (.cells #[.bool false, .slice none 0 0] 24)) (some g) := World.grownBy_alloc _ _ _
  have k0 : Has (w.alloc (.cells #[.bool false, .slice none 0 0] 24)) B #[.bool false, .slice none 0 0] 24 := has_new hB
  have HT := Lib.hid h
  have H0 := Lib.hid h0
  have G0 := Lib.hid g0
  have K0 := Lib.hid k0
  have HW := Lib.hid hB
  clear h h0 g0 k0
  go_enter Try.func7, Try.ntmps7
  go_wp2_with fail
  refine (t_next g v 2 _ (by omega) (by omega) H0.out).mono ?_
  rintro e w1 ⟨z, rfl, z0, z1, ht, hg⟩
  obtain ⟨c, hc⟩ : ∃ c : Bool, (z == 0) = c := ⟨_, rfl⟩
  have s1 : B < w1.heap.size := by have := hg.size; simp at this; omega
  obtain ⟨go, hgo⟩ : ∃ k, w1.heap.size = k := ⟨_, rfl⟩
  obtain ⟨W, hW⟩ : ∃ W, w1.alloc (.cells #[.bool c, .slice none 0 0] 24) = W := ⟨_, rfl⟩
  have T0 : Tpp w g v B go c [] (.slice none 0 0) W := by
    rw [← hW]
    exact ⟨Pown.nil _ _, has_new hgo, (has_grown K0.out hg (by omega)).alloc _, tp_alloc ht _, grownBy_own (grownBy_trans G0.out hg) (World.grownBy_alloc _ _ none) (fun k hk => by cases hk), Small9.nil, by omega, hgB, HW.out⟩
  have T := Lib.hid T0
  have HWW := Lib.hid hW
  have HC := Lib.hid hc
  clear T0 hW ht hg H0 G0 K0 s1 hB
  go_upto_region 2 with fail
  rw [HWW.out]
  clear hgo hc z0 z1
  go_wp2_with fail
  refine (t_next g v 7 _ (by omega) (by omega) T.out.tp).mono ?_
  rintro e w2 ⟨x, rfl, x0, x1, ht, hg⟩
  have T2 := Lib.hid (T.out.call ht hg)
  obtain ⟨n0, rfl⟩ : ∃ n : Nat, x = n := ⟨x.toNat, by omega⟩
  clear ht hg T HWW
  go_wp2_with fail
  go_loopw [4] (fun i wr => ∃ (m : Nat) (l : Value) (ps : List Pt), i = .int .i64 m ∧ m ≤ 6 ∧ ps.length + 2 * m ≤ 12 ∧ Tpp w g v B go c ps l wr) (fun i _ => (intOf i).toNat)
  case atStart => exact ⟨n0, _, _, rfl, by omega, by simp; omega, T2.out⟩
  case round =>
    obtain ⟨m, l, ps, rfl, hm, hl, hT⟩ := hrel
    clear T2
    by_cases hm0 : m = 0
    · subst hm0
      have c0 := hT.out.cell 0 _ rfl
      have c1 := hT.out.cell 1 _ rfl
      have v0 := hT.res.cell 0 _ rfl
      have v1 := hT.res.cell 1 _ rfl
      have fz := has_fro hT.res
      obtain ⟨aol, capl, hv⟩ := hT.own.len
      obtain ⟨ln, hln⟩ : ∃ k, ps.length = k := ⟨_, rfl⟩
      rw [hln] at hv
      subst hv
      have RR : Polyss w g v (.returned (.agg #[.bool c, .slice aol ln capl])) ((wr.setCell ⟨B, 0, none⟩ (.bool c)).setCell ⟨B, 1, none⟩ (.slice aol ln capl)) := by
        have hset : wr.grownBy ((wr.setCell ⟨B, 0, none⟩ (.bool c)).setCell ⟨B, 1, none⟩ (.slice aol ln capl)) (some B) := grownBy_set (grownBy_set (World.grownBy.refl _ _) _ _) _ _
        have q1 := hT.hB
        have q2 := hT.lo
        refine ⟨c, _, ps, rfl, by omega, hT.small, ?_, HT.out.young hT.tp hset (fun k hk => by simp at hk; omega), grownBy_own hT.grown hset (fun k hk => by simp at hk; omega)⟩
        exact (hT.own.lower (by omega)).kept hset (fun k hk e => hT.away.2 (by rw [e]; exact hk.symm))
      have RRH := Lib.hid RR
      clear RR hT hln
      go_wp2
      refine bodyPost_ret (v := .agg #[.bool c, .slice aol ln capl]) (by simp [results, Try.results7, go_sem, v0, v1]) rfl ?_
      exact RRH.out
    · obtain ⟨m', rfl⟩ : ∃ k, m = k + 1 := ⟨m - 1, by omega⟩
      have om : (m' : Int) ≤ 5 := by omega
      have T3 := Lib.hid hT
      clear hT
      go_wp2_with fail
      refine (t_number g v (-5) 20 _ (by omega) (by omega) (by omega) T3.out.tp).mono ?_
      rintro e w3 ⟨x, rfl, x0, x1, ht, hg⟩
      have T4 := Lib.hid (T3.out.call ht hg)
      clear ht hg T3
      go_wp2_with fail
      refine (t_number g v (-5) 20 _ (by omega) (by omega) (by omega) T4.out.tp).mono ?_
      rintro e w4 ⟨y, rfl, y0, y1, ht, hg⟩
      have T5 := T4.out.call ht hg
      clear ht hg T4
      obtain ⟨gx, hgx⟩ : ∃ k, w4.heap.size = k := ⟨_, rfl⟩
      obtain ⟨V, hV⟩ : ∃ V, w4.alloc (.cells (pCells ⟨x, y⟩) 32) = V := ⟨_, rfl⟩
      have T6 : Tpp w g v B go c ps l V := by rw [← hV]; exact T5.alloc _
      have kx : Has V gx (pCells ⟨x, y⟩) 32 := by rw [← hV]; exact has_new hgx
      have nx : l.ownBlock ≠ some gx := fun e => by have := (T5.own.base gx e).2; omega
      have ngo : go < gx := by have := T5.out.lt; omega
      obtain ⟨N, hN⟩ : ∃ k, ps.length = k := ⟨_, rfl⟩
      obtain ⟨aol, capl, hv⟩ := T6.own.len
      rw [hN] at hv hl
      subst hv
      have HN := Lib.hid hN
      have HV := Lib.hid hV
      have K6 := Lib.hid kx
      have T6H := Lib.hid T6
      have NX := Lib.hid nx
      have c1 := T6.out.cell 1 _ rfl
      have p0 := kx.cell 0 _ rfl
      have p1 := kx.cell 1 _ rfl
      have SM : Hid (Small9 (ps ++ [⟨x, y⟩])) := Lib.hid (T6.small.snoc (by show -327680 ≤ x; omega) (by show x ≤ 1376255; omega) (by show -327680 ≤ y; omega) (by show y ≤ 1376255; omega))
      have TA := Lib.hid (T6.alloc (.cells (pCells ⟨x, y⟩) 32))
      have KXA := Lib.hid (kx.alloc (.cells (pCells ⟨x, y⟩) 32))
      have SB : Hid (go + 1 ≤ (V.alloc (.cells (pCells ⟨x, y⟩) 32)).heap.size) := Lib.hid (by have := T6.out.lt; simp; omega)
      have N1 : Hid (N + 1 ≤ 1000) := Lib.hid (by omega)
      have SM2 : Hid (Small9 (ps ++ [⟨x, y⟩, ⟨x, y⟩])) := Lib.hid (by have q := (SM.out.snoc (p := ⟨x, y⟩) (by show -327680 ≤ x; omega) (by show x ≤ 1376255; omega) (by show -327680 ≤ y; omega) (by show y ≤ 1376255; omega)); simpa using q)
      clear hV T5 T6 kx nx hN x0 x1 y0 y1
      go_upto_region 6 with fail
      rw [HV.out]
      clear hgx
      go_wp2_with (at_builtin; refine wpList_append_pl rfl _ _ rfl N HN.out rfl V.heap.size 0 1 1 rfl [⟨x, y⟩] rfl (by decide) N1.out (prow_one ⟨x, y⟩ _) TA.out.own SB.out ?_)
      intro g' cap' w5 ho hg hat
      have f0 := (TA.out.fine hg).1
      have f1 := (TA.out.fine hg).2
      obtain ⟨w6, hw6⟩ : ∃ w6, w5.setCell ⟨go, 1, none⟩ (.slice (some ⟨g', 0, none⟩) (N + 1) cap') = w6 := ⟨_, rfl⟩
      have T7 := Tpp.put HT.out TA.out ho hg SM.out
      have KX7 := keep_put (go := go) hg KXA.out NX.out (by omega) (.slice (some ⟨g', 0, none⟩) (N + 1) cap')
      rw [hw6] at T7 KX7
      have T7H := Lib.hid T7
      have K7 := Lib.hid KX7
      have HW6 := Lib.hid hw6
      clear ho hg hat hw6 T7 KX7 TA KXA SB p0 p1 c1
      go_upto_region 7 with fail
      rw [HW6.out]
      clear f0 f1
      go_wp2_with fail
      refine (t_next g v 6 _ (by omega) (by omega) T7H.out.tp).mono ?_
      rintro e w7 ⟨z, rfl, z0, z1, ht, hg⟩
      have T8 := Lib.hid (T7H.out.call ht hg)
      have K8 := Lib.hid (has_grown K7.out hg (by have := T7H.out.lg; have := T7H.out.lo; omega))
      clear ht hg T7H K7
      by_cases hz : z = 0
      · subst hz
        have c1 := T8.out.out.cell 1 _ rfl
        have p0 := K8.out.cell 0 _ rfl
        have p1 := K8.out.cell 1 _ rfl
        have TA := Lib.hid (T8.out.alloc (.cells (pCells ⟨x, y⟩) 32))
        have SB : Hid (go + 1 ≤ (w7.alloc (.cells (pCells ⟨x, y⟩) 32)).heap.size) := Lib.hid (by have := T8.out.out.lt; simp; omega)
        have N2 : Hid (N + 1 + 1 ≤ 1000) := Lib.hid (by omega)
        have HN2 : Hid ((ps ++ [(⟨x, y⟩ : Pt)]).length = N + 1) := Lib.hid (by rw [List.length_append, HN.out]; rfl)
        clear z0 z1
        go_wp2_with (at_builtin; refine wpList_append_pl rfl _ _ rfl (N + 1) HN2.out rfl w7.heap.size 0 1 1 rfl [⟨x, y⟩] rfl (by decide) N2.out (prow_one ⟨x, y⟩ _) TA.out.own SB.out ?_)
        intro g2 cap2 w8 ho hg hat
        have f0 := (TA.out.fine hg).1
        have f1 := (TA.out.fine hg).2
        have T9 := Lib.hid (Tpp.put HT.out TA.out ho hg SM2.out)
        have LL : Hid ((ps ++ [(⟨x, y⟩ : Pt), ⟨x, y⟩]).length + 2 * m' ≤ 12) := Lib.hid (by simp [HN.out]; omega)
        clear ho hg hat TA SB c1 p0 p1
        go_wp2
        go_roundw
        case rel => exact ⟨m', _, _, by go_num, by omega, LL.out, T9.out⟩
        case measure => simp [intOf]
      · have LL : Hid ((ps ++ [(⟨x, y⟩ : Pt)]).length + 2 * m' ≤ 12) := Lib.hid (by simp [HN.out]; omega)
        clear z0 z1
        go_wp2
        go_roundw
        case rel => exact ⟨m', _, _, by go_num, by omega, LL.out, T8.out⟩
        case measure => simp [intOf]

end Go.Proofs.Ytddcjdhlmlhgdaa
