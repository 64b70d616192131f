/- DashLengths of the statements: whatever the numbers are, the call returns true and each argument reads as it did; no condition. -/
import Derived.Test.YtgnmiilmmbblmaaNMath
import Derived.Test.YtgnmiilmmbblmaaAP8
import Derived.Test.YtgnmiilmmbblmaaTB7
import Derived.Test.YtgnmiilmmbblmaaIO
import Derived.Test.YtgnmiilmmbblmaaPM
import Derived.Test.YtgnmiilmmbblmaaMidM
import Derived.Test.YtgnmiilmmbblmaaPB
import Derived.Test.YtgnmiilmmbblmaaVar
import Derived.Test.YtgnmiilmmbblmaaN4
import Derived.Test.YtgnmiilmmbblmaaY8
import Derived.BigRegion
import Derived.Deep.AppendLies
import Derived.Test.YtgnmiilmmbblmaaQ8
import Derived.Test.YtgnmiilmmbblmaaT5
import Derived.Deep.Slices
import Derived.ChangeSame
import Derived.Test.YtgnmiilmmbblmaaRows
import Derived.WalkKit
import Derived.ProofKit
import Derived.OpenShut
import Derived.Carry
namespace Go.Proofs.Ytgnmiilmmbblmaa
open Go Go.RowKit
open M

/-- Places as a tape of layer 9 gives them. -/
def Small9 (ps : List Pt) : Prop := ∀ i, i < ps.length → -327680 ≤ (pt ps i).x ∧ (pt ps i).x ≤ 1376255 ∧ -327680 ≤ (pt ps i).y ∧ (pt ps i).y ≤ 1376255
theorem Small9.nil : Small9 [] := fun i hi => by simp at hi
theorem Small9.snoc {ps : List Pt} {p : Pt} (h : Small9 ps) (h1 : -327680 ≤ p.x) (h2 : p.x ≤ 1376255) (h3 : -327680 ≤ p.y) (h4 : p.y ≤ 1376255) : Small9 (ps ++ [p]) := by
  intro i hi
  by_cases e : i = ps.length
  · subst e; rw [pt_last]; exact ⟨h1, h2, h3, h4⟩
  · rw [pt_left (by simp at hi; omega)]; exact h i (by simp at hi; omega)
/-- A poly that a tape fills: it lies in block go, its list l in blocks behind it, the result's block is B. -/
structure Tpp (w : World) (g : Nat) (v : Value) (B go : Nat) (c : Bool) (ps : List Pt) (l : Value) (wr : World) : Prop where
  own : Pown wr (go + 1) l ps
  out : Has wr go #[.bool c, l] 24
  res : Has wr B #[.bool false, .slice none 0 0] 24
  tp : Tp wr g v
  grown : w.grownBy wr (some g)
  small : Small9 ps
  lo : B < go
  lg : g < B
  hB : w.heap.size = B
section
variable {w wr W w' w2 : World} {g B go : Nat} {v l l' : Value} {c : Bool} {ps qs : List Pt}
theorem Tpp.alloc (h : Tpp w g v B go c ps l wr) (o : Obj) : Tpp w g v B go c ps l (wr.alloc o) :=
  ⟨h.own.alloc o, h.out.alloc o, h.res.alloc o, tp_alloc h.tp o, grownBy_own h.grown (World.grownBy_alloc wr o none) (fun k hk => by cases hk), h.small, h.lo, h.lg, h.hB⟩
theorem Tpp.call (h : Tpp w g v B go c ps l wr) (ht : Tp w2 g v) (hg : wr.grownBy w2 (some g)) : Tpp w g v B go c ps l w2 :=
  ⟨h.own.young hg (by have := h.lg; have := h.lo; omega), has_grown h.out hg (by have := h.lg; have := h.lo; omega), has_grown h.res hg (by have := h.lg; omega), ht, grownBy_trans h.grown hg, h.small, h.lo, h.lg, h.hB⟩
theorem Tpp.away (h : Tpp w g v B go c ps l W) : l.ownBlock ≠ some go ∧ l.ownBlock ≠ some B := ⟨fun e => by have := (h.own.base go e).1; omega, fun e => by have := (h.own.base B e).1; have := h.lo; omega⟩
/-- The list has grown, and is stored. -/
theorem Tpp.put (ht0 : Tp w g v) (h : Tpp w g v B go c ps l W) (ho : Pown w' (go + 1) l' qs) (hg : W.grownBy w' l.ownBlock) (hs : Small9 qs) : Tpp w g v B go c qs l' (w'.setCell ⟨go, 1, none⟩ l') := by
  have b0 := h.hB
  have b1 := h.lo
  have b2 := h.lg
  have hset : w'.grownBy (w'.setCell ⟨go, 1, none⟩ l') (some go) := grownBy_set (World.grownBy.refl _ _) _ _
  have hl : ∀ k, l.ownBlock = some k → w.heap.size ≤ k := fun k hk => by have := (h.own.base k hk).1; omega
  have t1 : Tp w' g v := ht0.young h.tp hg hl
  have g1 : w.grownBy w' (some g) := grownBy_own h.grown hg hl
  have hk : Has w' go #[.bool c, l] 24 := (hg.block go h.out.lt (fun e => h.away.1 e.symm)).trans h.out
  have hr : Has w' B #[.bool false, .slice none 0 0] 24 := (hg.block B h.res.lt (fun e => h.away.2 e.symm)).trans h.res
  refine ⟨ho.kept hset (fun k hk e => by simp at hk; have := (ho.base k e).1; omega), ?_, has_grown hr hset (by omega), ht0.young t1 hset (fun k hk => by simp at hk; omega), grownBy_own g1 hset (fun k hk => by simp at hk; omega), hs, h.lo, h.lg, h.hB⟩
  have := has_set hk 1 l'
  simpa using this
theorem Tpp.fine (h : Tpp w g v B go c ps l W) (hg : W.grownBy w' l.ownBlock) : w'.cell? ⟨go, 1, none⟩ = some l ∧ w'.frozen? ⟨go, 1, none⟩ = false := by
  have hk : Has w' go #[.bool c, l] 24 := (hg.block go h.out.lt (fun e => h.away.1 e.symm)).trans h.out
  exact ⟨hk.cell 1 _ rfl, has_fro hk 1⟩
/-- A block that is neither the list's nor the poly's stays where the list grows. -/
theorem keep_put {k : Nat} {cs : Array Value} {t : TypeId} (hg : W.grownBy w' l.ownBlock) (hk : Has W k cs t) (hne : l.ownBlock ≠ some k) (hgo : k ≠ go) (l' : Value) : Has (w'.setCell ⟨go, 1, none⟩ l') k cs t :=
  has_grown ((hg.block k hk.lt (fun e => hne e.symm)).trans hk) (grownBy_set (World.grownBy.refl _ _) _ _) hgo
end

def Polyss (w : World) (g : Nat) (v : Value) (e : Ending) (w' : World) : Prop := ∃ (c : Bool) (l : Value) (ps : List Pt), e = .returned (.agg #[.bool c, l]) ∧ ps.length ≤ 12 ∧ Small9 ps ∧ Pown w' w.heap.size l ps ∧ Tp w' g v ∧ w.grownBy w' (some g)

set_option maxRecDepth 100000 in
set_option maxHeartbeats 4000000 in
theorem l9_poly (g : Nat) (v : Value) (w : World) (h : Tp w g v) : Calls Try.prog 7 #[.pointer (some ⟨g, 0, none⟩)] w (Polyss w g v) := by
  obtain ⟨B, hB⟩ : ∃ B, w.heap.size = B := ⟨_, rfl⟩
  have hgB : g < B := by rw [← hB]; exact h.lt
  have h0 : Tp (w.alloc (.cells #[.bool false, .slice none 0 0] 24)) g v := tp_alloc h _
  have g0 : w.grownBy (w.alloc (.cells #[.bool false, .slice none 0 0] 24)) (some g) := World.grownBy_alloc _ _ _
  have k0 : Has (w.alloc (.cells #[.bool false, .slice none 0 0] 24)) B #[.bool false, .slice none 0 0] 24 := has_new hB
  have HT := Lib.hid h
  have H0 := Lib.hid h0
  have G0 := Lib.hid g0
  have K0 := Lib.hid k0
  have HW := Lib.hid hB
  clear h h0 g0 k0
  go_enter Try.func7, Try.ntmps7
  go_wp2_with fail
  refine (t_next g v 2 _ (by omega) (by omega) H0.out).mono ?_
  rintro e w1 ⟨z, rfl, z0, z1, ht, hg⟩
  obtain ⟨c, hc⟩ : ∃ c : Bool, (z == 0) = c := ⟨_, rfl⟩
  have s1 : B < w1.heap.size := by have := hg.size; simp at this; omega
  obtain ⟨go, hgo⟩ : ∃ k, w1.heap.size = k := ⟨_, rfl⟩
  obtain ⟨W, hW⟩ : ∃ W, w1.alloc (.cells #[.bool c, .slice none 0 0] 24) = W := ⟨_, rfl⟩
  have T0 : Tpp w g v B go c [] (.slice none 0 0) W := by
    rw [← hW]
    exact ⟨Pown.nil _ _, has_new hgo, (has_grown K0.out hg (by omega)).alloc _, tp_alloc ht _, grownBy_own (grownBy_trans G0.out hg) (World.grownBy_alloc _ _ none) (fun k hk => by cases hk), Small9.nil, by omega, hgB, HW.out⟩
  have T := Lib.hid T0
  have HWW := Lib.hid hW
  have HC := Lib.hid hc
  clear T0 hW ht hg H0 G0 K0 s1 hB
  go_upto_region 2 with fail
  rw [HWW.out]
  clear hgo hc z0 z1
  go_wp2_with fail
  refine (t_next g v 7 _ (by omega) (by omega) T.out.tp).mono ?_
  rintro e w2 ⟨x, rfl, x0, x1, ht, hg⟩
  have T2 := Lib.hid (T.out.call ht hg)
  obtain ⟨n0, rfl⟩ : ∃ n : Nat, x = n := ⟨x.toNat, by omega⟩
  clear ht hg T HWW
  go_wp2_with fail
  go_loopw [4] (fun i wr => ∃ (m : Nat) (l : Value) (ps : List Pt), i = .int .i64 m ∧ m ≤ 6 ∧ ps.length + 2 * m ≤ 12 ∧ Tpp w g v B go c ps l wr) (fun i _ => (intOf i).toNat)
  case atStart => exact ⟨n0, _, _, rfl, by omega, by simp; omega, T2.out⟩
  case round =>
    obtain ⟨m, l, ps, rfl, hm, hl, hT⟩ := hrel
    clear T2
    by_cases hm0 : m = 0
    · subst hm0
      have c0 := hT.out.cell 0 _ rfl
      have c1 := hT.out.cell 1 _ rfl
      have v0 := hT.res.cell 0 _ rfl
      have v1 := hT.res.cell 1 _ rfl
      have fz := has_fro hT.res
      obtain ⟨aol, capl, hv⟩ := hT.own.len
      obtain ⟨ln, hln⟩ : ∃ k, ps.length = k := ⟨_, rfl⟩
      rw [hln] at hv
      subst hv
      have RR : Polyss w g v (.returned (.agg #[.bool c, .slice aol ln capl])) ((wr.setCell ⟨B, 0, none⟩ (.bool c)).setCell ⟨B, 1, none⟩ (.slice aol ln capl)) := by
        have hset : wr.grownBy ((wr.setCell ⟨B, 0, none⟩ (.bool c)).setCell ⟨B, 1, none⟩ (.slice aol ln capl)) (some B) := grownBy_set (grownBy_set (World.grownBy.refl _ _) _ _) _ _
        have q1 := hT.hB
        have q2 := hT.lo
        refine ⟨c, _, ps, rfl, by omega, hT.small, ?_, HT.out.young hT.tp hset (fun k hk => by simp at hk; omega), grownBy_own hT.grown hset (fun k hk => by simp at hk; omega)⟩
        exact (hT.own.lower (by omega)).kept hset (fun k hk e => hT.away.2 (by rw [e]; exact hk.symm))
      have RRH := Lib.hid RR
      clear RR hT hln
      go_wp2
      refine bodyPost_ret (v := .agg #[.bool c, .slice aol ln capl]) (by simp [results, Try.results7, go_sem, v0, v1]) rfl ?_
      exact RRH.out
    · obtain ⟨m', rfl⟩ : ∃ k, m = k + 1 := ⟨m - 1, by omega⟩
      have om : (m' : Int) ≤ 5 := by omega
      have T3 := Lib.hid hT
      clear hT
      go_wp2_with fail
      refine (t_number g v (-5) 20 _ (by omega) (by omega) (by omega) T3.out.tp).mono ?_
      rintro e w3 ⟨x, rfl, x0, x1, ht, hg⟩
      have T4 := Lib.hid (T3.out.call ht hg)
      clear ht hg T3
      go_wp2_with fail
      refine (t_number g v (-5) 20 _ (by omega) (by omega) (by omega) T4.out.tp).mono ?_
      rintro e w4 ⟨y, rfl, y0, y1, ht, hg⟩
      have T5 := T4.out.call ht hg
      clear ht hg T4
      obtain ⟨gx, hgx⟩ : ∃ k, w4.heap.size = k := ⟨_, rfl⟩
      obtain ⟨V, hV⟩ : ∃ V, w4.alloc (.cells (pCells ⟨x, y⟩) 31) = V := ⟨_, rfl⟩
      have T6 : Tpp w g v B go c ps l V := by rw [← hV]; exact T5.alloc _
      have kx : Has V gx (pCells ⟨x, y⟩) 31 := by rw [← hV]; exact has_new hgx
      have nx : l.ownBlock ≠ some gx := fun e => by have := (T5.own.base gx e).2; omega
      have ngo : go < gx := by have := T5.out.lt; omega
      obtain ⟨N, hN⟩ : ∃ k, ps.length = k := ⟨_, rfl⟩
      obtain ⟨aol, capl, hv⟩ := T6.own.len
      rw [hN] at hv hl
      subst hv
      have HN := Lib.hid hN
      have HV := Lib.hid hV
      have K6 := Lib.hid kx
      have T6H := Lib.hid T6
      have NX := Lib.hid nx
      have c1 := T6.out.cell 1 _ rfl
      have p0 := kx.cell 0 _ rfl
      have p1 := kx.cell 1 _ rfl
      have SM : Hid (Small9 (ps ++ [⟨x, y⟩])) := Lib.hid (T6.small.snoc (by show -327680 ≤ x; omega) (by show x ≤ 1376255; omega) (by show -327680 ≤ y; omega) (by show y ≤ 1376255; omega))
      have TA := Lib.hid (T6.alloc (.cells (pCells ⟨x, y⟩) 31))
      have KXA := Lib.hid (kx.alloc (.cells (pCells ⟨x, y⟩) 31))
      have SB : Hid (go + 1 ≤ (V.alloc (.cells (pCells ⟨x, y⟩) 31)).heap.size) := Lib.hid (by have := T6.out.lt; simp; omega)
      have N1 : Hid (N + 1 ≤ 8796093022208) := Lib.hid (by omega)
      have SM2 : Hid (Small9 (ps ++ [⟨x, y⟩, ⟨x, y⟩])) := Lib.hid (by have q := (SM.out.snoc (p := ⟨x, y⟩) (by show -327680 ≤ x; omega) (by show x ≤ 1376255; omega) (by show -327680 ≤ y; omega) (by show y ≤ 1376255; omega)); simpa using q)
      clear hV T5 T6 kx nx hN x0 x1 y0 y1
      go_upto_region 6 with fail
      rw [HV.out]
      clear hgx
      go_wp2_with (at_builtin; refine wpList_append_pl rfl _ _ rfl N HN.out rfl V.heap.size 0 1 1 rfl [⟨x, y⟩] rfl (by decide) N1.out (prow_one ⟨x, y⟩ _) TA.out.own SB.out ?_)
      intro g' cap' w5 ho hg hat
      have f0 := (TA.out.fine hg).1
      have f1 := (TA.out.fine hg).2
      obtain ⟨w6, hw6⟩ : ∃ w6, w5.setCell ⟨go, 1, none⟩ (.slice (some ⟨g', 0, none⟩) (N + 1) cap') = w6 := ⟨_, rfl⟩
      have T7 := Tpp.put HT.out TA.out ho hg SM.out
      have KX7 := keep_put (go := go) hg KXA.out NX.out (by omega) (.slice (some ⟨g', 0, none⟩) (N + 1) cap')
      rw [hw6] at T7 KX7
      have T7H := Lib.hid T7
      have K7 := Lib.hid KX7
      have HW6 := Lib.hid hw6
      clear ho hg hat hw6 T7 KX7 TA KXA SB p0 p1 c1
      go_upto_region 7 with fail
      rw [HW6.out]
      clear f0 f1
      go_wp2_with fail
      refine (t_next g v 6 _ (by omega) (by omega) T7H.out.tp).mono ?_
      rintro e w7 ⟨z, rfl, z0, z1, ht, hg⟩
      have T8 := Lib.hid (T7H.out.call ht hg)
      have K8 := Lib.hid (has_grown K7.out hg (by have := T7H.out.lg; have := T7H.out.lo; omega))
      clear ht hg T7H K7
      by_cases hz : z = 0
      · subst hz
        have c1 := T8.out.out.cell 1 _ rfl
        have p0 := K8.out.cell 0 _ rfl
        have p1 := K8.out.cell 1 _ rfl
        have TA := Lib.hid (T8.out.alloc (.cells (pCells ⟨x, y⟩) 31))
        have SB : Hid (go + 1 ≤ (w7.alloc (.cells (pCells ⟨x, y⟩) 31)).heap.size) := Lib.hid (by have := T8.out.out.lt; simp; omega)
        have N2 : Hid (N + 1 + 1 ≤ 8796093022208) := Lib.hid (by omega)
        have HN2 : Hid ((ps ++ [(⟨x, y⟩ : Pt)]).length = N + 1) := Lib.hid (by rw [List.length_append, HN.out]; rfl)
        clear z0 z1
        go_wp2_with (at_builtin; refine wpList_append_pl rfl _ _ rfl (N + 1) HN2.out rfl w7.heap.size 0 1 1 rfl [⟨x, y⟩] rfl (by decide) N2.out (prow_one ⟨x, y⟩ _) TA.out.own SB.out ?_)
        intro g2 cap2 w8 ho hg hat
        have f0 := (TA.out.fine hg).1
        have f1 := (TA.out.fine hg).2
        have T9 := Lib.hid (Tpp.put HT.out TA.out ho hg SM2.out)
        have LL : Hid ((ps ++ [(⟨x, y⟩ : Pt), ⟨x, y⟩]).length + 2 * m' ≤ 12) := Lib.hid (by simp [HN.out]; omega)
        clear ho hg hat TA SB c1 p0 p1
        go_wp2
        go_roundw
        case rel => exact ⟨m', _, _, by go_num, by omega, LL.out, T9.out⟩
        case measure => simp [intOf]
      · have LL : Hid ((ps ++ [(⟨x, y⟩ : Pt)]).length + 2 * m' ≤ 12) := Lib.hid (by simp [HN.out]; omega)
        clear z0 z1
        go_wp2
        go_roundw
        case rel => exact ⟨m', _, _, by go_num, by omega, LL.out, T8.out⟩
        case measure => simp [intOf]

end Go.Proofs.Ytgnmiilmmbblmaa

namespace Go.Proofs.Ytgnmiilmmbblmaa
namespace M

def sh (a : Int) : Int := clamp a 0 65536
def spA (f t : Int) : Int := if sh t < sh f then sh t else sh f
def spB (f t : Int) : Int := if sh t < sh f then sh f else sh t
theorem sh_lo (a : Int) : 0 ≤ sh a := by unfold sh clamp; split <;> (try split) <;> omega
theorem sh_hi (a : Int) : sh a ≤ 65536 := by unfold sh clamp; split <;> (try split) <;> omega
theorem sh_in {a : Int} (h0 : 0 ≤ a) (h1 : a ≤ 65536) : sh a = a := by unfold sh clamp; rw [if_neg (by omega), if_neg (by omega)]
theorem spA_comm (f t : Int) : spA f t = spA t f := by unfold spA; split <;> split <;> omega
theorem spB_comm (f t : Int) : spB f t = spB t f := by unfold spB; split <;> split <;> omega
theorem sp_in (f t : Int) : 0 ≤ spA f t ∧ spA f t ≤ spB f t ∧ spB f t ≤ 65536 := by
  have a0 := sh_lo f
  have a1 := sh_hi f
  have b0 := sh_lo t
  have b1 := sh_hi t
  unfold spA spB
  split <;> omega
theorem spA_le {f t : Int} (h : f ≤ t) (h0 : 0 ≤ f) (h1 : t ≤ 65536) : spA f t = f := by unfold spA; rw [sh_in (by omega) (by omega), sh_in (by omega) (by omega), if_neg (by omega)]
theorem spB_le {f t : Int} (h : f ≤ t) (h0 : 0 ≤ f) (h1 : t ≤ 65536) : spB f t = t := by unfold spB; rw [sh_in (by omega) (by omega), sh_in (by omega) (by omega), if_neg (by omega)]
/-- What lies between two shares of a line. -/
def partP (a b : Int) (c : Bool) (ps : List Pt) : List Pt := cutL c ps (mul (lengthL c ps) a) (mul (lengthL c ps) b)
theorem partP_length (a b : Int) (c : Bool) (ps : List Pt) : (partP a b c ps).length ≤ ps.length + 1 := cutL_length _ _ _ _
/-- What is left of the first polys. -/
def keepN (a b : Int) (f : Nat → Bool × List Pt) : Nat → List (Bool × List Pt)
  | 0 => []
  | n + 1 => if 2 ≤ (partP a b (f n).1 (f n).2).length then keepN a b f n ++ [(false, partP a b (f n).1 (f n).2)] else keepN a b f n
theorem keepN_zero (a b : Int) (f : Nat → Bool × List Pt) : keepN a b f 0 = [] := rfl
theorem keepN_yes {a b : Int} {f : Nat → Bool × List Pt} {n : Nat} (h : 2 ≤ (partP a b (f n).1 (f n).2).length) : keepN a b f (n + 1) = keepN a b f n ++ [(false, partP a b (f n).1 (f n).2)] := if_pos h
theorem keepN_no {a b : Int} {f : Nat → Bool × List Pt} {n : Nat} (h : ¬ 2 ≤ (partP a b (f n).1 (f n).2).length) : keepN a b f (n + 1) = keepN a b f n := if_neg h
theorem keepN_length (a b : Int) (f : Nat → Bool × List Pt) : ∀ n, (keepN a b f n).length ≤ n
  | 0 => by simp [keepN]
  | n + 1 => by
    have ih := keepN_length a b f n
    by_cases h : 2 ≤ (partP a b (f n).1 (f n).2).length
    · rw [keepN_yes h]; simp; omega
    · rw [keepN_no h]; omega
/-- The first polys, all of them. -/
def allN (f : Nat → Bool × List Pt) (n : Nat) : List (Bool × List Pt) := (List.range n).map f
theorem allN_succ (f : Nat → Bool × List Pt) (n : Nat) : allN f (n + 1) = allN f n ++ [f n] := by unfold allN; rw [List.range_succ, List.map_append, List.map_singleton]
theorem allN_length (f : Nat → Bool × List Pt) (n : Nat) : (allN f n).length ≤ n := by unfold allN; simp
def trimL (f t : Int) (g : Nat → Bool × List Pt) (n : Nat) : List (Bool × List Pt) := if spA f t = 0 ∧ spB f t = 65536 then (List.range n).map g else keepN (spA f t) (spB f t) g n
theorem trimL_all {f t : Int} {g : Nat → Bool × List Pt} {n : Nat} (h : spA f t = 0 ∧ spB f t = 65536) : trimL f t g n = (List.range n).map g := if_pos h
theorem trimL_part {f t : Int} {g : Nat → Bool × List Pt} {n : Nat} (h : ¬ (spA f t = 0 ∧ spB f t = 65536)) : trimL f t g n = keepN (spA f t) (spB f t) g n := if_neg h
theorem trimL_comm (f t : Int) (g : Nat → Bool × List Pt) (n : Nat) : trimL f t g n = trimL t f g n := by unfold trimL; rw [spA_comm f t, spB_comm f t]

/-- Of one poly. -/
def trim1 (f t : Int) (c : Bool) (ps : List Pt) : List (Bool × List Pt) := if spA f t = 0 ∧ spB f t = 65536 then [(c, ps)] else if 2 ≤ (partP (spA f t) (spB f t) c ps).length then [(false, partP (spA f t) (spB f t) c ps)] else []
theorem trimL_one (f t : Int) {g : Nat → Bool × List Pt} {c : Bool} {ps : List Pt} (hg : g 0 = (c, ps)) : trimL f t g 1 = trim1 f t c ps := by
  unfold trimL trim1
  split
  · simp [List.range_succ, hg]
  · rw [keepN, hg]
    simp only [keepN_zero, List.nil_append]
theorem trim1_comm (f t : Int) (c : Bool) (ps : List Pt) : trim1 f t c ps = trim1 t f c ps := by unfold trim1; rw [spA_comm f t, spB_comm f t]

end M
end Go.Proofs.Ytgnmiilmmbblmaa

namespace Go.Proofs.Ytgnmiilmmbblmaa
namespace M

/-- Lengths of at most 700 sides are plain sums. -/
theorem lenN_plain (ps : List Pt) : ∀ n, n ≤ 700 → lenN ps n ≤ n * 1518500249 ∧ lenN ps (n + 1) = lenN ps n + sideL ps n
  | 0, _ => by
    have h0 := sideL_lo ps 0
    have h1 := sideL_hi ps 0
    refine ⟨by simp [lenN], ?_⟩
    rw [← lenN_step, add_near (by simp [lenN]) (by simp [lenN]) h0 h1, hold_in (by simp [lenN]; omega) (by simp [lenN]; omega)]
  | n + 1, h => by
    have ih := lenN_plain ps n (by omega)
    have i0 := lenN_in ps n
    have i1 := lenN_in ps (n + 1)
    have a0 := sideL_lo ps n
    have a1 := sideL_hi ps n
    have h0 := sideL_lo ps (n + 1)
    have h1 := sideL_hi ps (n + 1)
    have hb : lenN ps (n + 1) ≤ (n + 1 : Nat) * 1518500249 := by rw [ih.2]; have := ih.1; omega
    refine ⟨hb, ?_⟩
    rw [← lenN_step ps (n + 1), add_near i1.1 i1.2 h0 h1, hold_in (by omega) (by omega)]
theorem lenN_succ {ps : List Pt} {n : Nat} (h : n ≤ 700) : lenN ps (n + 1) = lenN ps n + sideL ps n := (lenN_plain ps n h).2
theorem lenN_mono {ps : List Pt} {i : Nat} : ∀ {j : Nat}, i ≤ j → j ≤ 700 → lenN ps i ≤ lenN ps j
  | 0, h, _ => by
    obtain rfl : i = 0 := by omega
    exact Int.le_refl _
  | j + 1, h, hj => by
    by_cases e : i = j + 1
    · rw [e]; omega
    · have := lenN_mono (ps := ps) (i := i) (j := j) (by omega) (by omega)
      have := sideL_lo ps j
      rw [lenN_succ (ps := ps) (n := j) (by omega)]
      omega
theorem lenN_join {ps qs : List Pt} {k : Nat} : ∀ {j : Nat}, k + j ≤ 700 → (∀ i, i < j → sideL ps (k + i) = sideL qs i) → lenN ps (k + j) = lenN ps k + lenN qs j
  | 0, _, _ => by simp [lenN]
  | j + 1, hj, h => by
    have ih := lenN_join (ps := ps) (qs := qs) (k := k) (j := j) (by omega) (fun i hi => h i (by omega))
    rw [← Nat.add_assoc, lenN_succ (ps := ps) (n := k + j) (by omega), lenN_succ (ps := qs) (n := j) (by omega), ih, h j (by omega)]
    omega
theorem lenN_same {ps qs : List Pt} {j : Nat} (hj : j ≤ 700) (h : ∀ i, i < j → sideL ps i = sideL qs i) : lenN ps j = lenN qs j := by
  have := lenN_join (ps := ps) (qs := qs) (k := 0) (j := j) (by omega) (fun i hi => by rw [Nat.zero_add]; exact h i hi)
  rw [Nat.zero_add, lenN_zero] at this
  omega
theorem isq_zero : isq 0 = 0 := by
  have := (isq_spec 0).1
  cases h : isq 0 with
  | zero => rfl
  | succ n => rw [h] at this; simp at this
theorem longP_self (a : Pt) : longP a a = 0 := by
  unfold longP hyp
  rw [Int.sub_self, Int.sub_self]
  have e : wide 0 = 0 := by decide
  rw [e]
  simp [isq_zero]
theorem longP_zero {a b : Pt} (h : longP (plc a) (plc b) = 0) : plc a = plc b := by
  obtain ⟨x, y⟩ := a
  obtain ⟨x2, y2⟩ := b
  unfold longP hyp at h
  simp only [plc] at h ⊢
  have l1 := place_lo x; have l2 := place_hi x; have l3 := place_lo y; have l4 := place_hi y
  have m1 := place_lo x2; have m2 := place_hi x2; have m3 := place_lo y2; have m4 := place_hi y2
  rw [wide_in (a := place x2 - place x) (by omega) (by omega), wide_in (a := place y2 - place y) (by omega) (by omega)] at h
  obtain ⟨d, hd⟩ : ∃ d, place x2 - place x = d := ⟨_, rfl⟩
  obtain ⟨e, he⟩ : ∃ e, place y2 - place y = e := ⟨_, rfl⟩
  rw [hd, he] at h
  have s1 : 0 ≤ d * d := by rcases Int.le_total 0 d with g | g; exact Int.mul_nonneg g g; exact Int.mul_nonneg_of_nonpos_of_nonpos g g
  have s2 : 0 ≤ e * e := by rcases Int.le_total 0 e with g | g; exact Int.mul_nonneg g g; exact Int.mul_nonneg_of_nonpos_of_nonpos g g
  have hz : isq (d * d + e * e).toNat = 0 := by omega
  have hs := (isq_spec (d * d + e * e).toNat).2
  rw [hz] at hs
  have z : d * d + e * e = 0 := by omega
  have zd : d * d = 0 := by omega
  have ze : e * e = 0 := by omega
  have d0 : d = 0 := by rcases Int.mul_eq_zero.1 zd with h | h <;> exact h
  have e0 : e = 0 := by rcases Int.mul_eq_zero.1 ze with h | h <;> exact h
  simp only [Pt.mk.injEq]
  omega
theorem side_zero {ps : List Pt} {i : Nat} : sideL ps i = 0 ↔ sa ps i = sb ps i := by
  refine ⟨fun h => longP_zero h, fun h => ?_⟩
  unfold sideL
  rw [h, longP_self]
/-- The corners of the sides k, k + 1, .. k + m - 1. -/
def corN (ps : List Pt) (k : Nat) : Nat → List Pt
  | 0 => []
  | m + 1 => if sa ps (k + m) = sb ps (k + m) then corN ps k m else (if (corN ps k m).length = 0 then [sa ps (k + m)] else corN ps k m) ++ [sb ps (k + m)]
theorem corN_zero (ps : List Pt) (k : Nat) : corN ps k 0 = [] := rfl
theorem corN_off {ps : List Pt} {k m : Nat} (h : sa ps (k + m) = sb ps (k + m)) : corN ps k (m + 1) = corN ps k m := by rw [corN, if_pos h]
theorem corN_first {ps : List Pt} {k m : Nat} (h : ¬ sa ps (k + m) = sb ps (k + m)) (h0 : (corN ps k m).length = 0) : corN ps k (m + 1) = [sa ps (k + m)] ++ [sb ps (k + m)] := by rw [corN, if_neg h, if_pos h0]
theorem corN_more {ps : List Pt} {k m : Nat} (h : ¬ sa ps (k + m) = sb ps (k + m)) (h0 : ¬ (corN ps k m).length = 0) : corN ps k (m + 1) = corN ps k m ++ [sb ps (k + m)] := by rw [corN, if_neg h, if_neg h0]
theorem corN_length (ps : List Pt) (k : Nat) : ∀ m, (corN ps k m).length ≤ m + 1
  | 0 => by simp [corN]
  | m + 1 => by
    have ih := corN_length ps k m
    by_cases h : sa ps (k + m) = sb ps (k + m)
    · rw [corN_off h]; omega
    · by_cases h0 : (corN ps k m).length = 0
      · rw [corN_first h h0]; simp
      · rw [corN_more h h0]; simp; omega
/-- No corner yet: nothing of the way is done. -/
theorem corN_none {ps : List Pt} {k : Nat} : ∀ {m : Nat}, k + m ≤ 700 → (corN ps k m).length = 0 → lenN ps (k + m) = lenN ps k
  | 0, _, _ => rfl
  | m + 1, hm, h => by
    by_cases e : sa ps (k + m) = sb ps (k + m)
    · rw [corN_off e] at h
      rw [← Nat.add_assoc, lenN_succ (by omega), side_zero.2 e, corN_none (by omega) h]
      omega
    · by_cases h0 : (corN ps k m).length = 0
      · rw [corN_first e h0] at h; simp at h
      · rw [corN_more e h0] at h; simp at h
theorem hold_len (ps : List Pt) (n : Nat) : hold (lenN ps n) = lenN ps n := hold_in (by have := (lenN_in ps n).1; omega) (lenN_in ps n).2
/-- The part from corner k on to the end of side k + M. -/
theorem cut_none {ps : List Pt} {k : Nat} {t : Int} (hk : k ≤ 700) : ∀ {i : Nat}, i ≤ k → cutN ps (lenN ps k) t i = []
  | 0, _ => rfl
  | i + 1, hi => by
    rw [cutN_off]
    · exact cut_none hk (by omega)
    · rintro ⟨_, h, _⟩
      have := lenN_mono (ps := ps) hi hk
      rw [lenN_succ (ps := ps) (n := i) (by omega)] at this
      omega
theorem cut_cor {ps : List Pt} {k M : Nat} (hM : k + M ≤ 700) : ∀ {m : Nat}, m ≤ M → cutN ps (lenN ps k) (lenN ps (k + M)) (k + m) = corN ps k m
  | 0, _ => cut_none (by omega) (Nat.le_refl _)
  | m + 1, hm => by
    have ih := cut_cor (ps := ps) hM (m := m) (by omega)
    have e1 := lenN_succ (ps := ps) (n := k + m) (by omega)
    have m1 := lenN_mono (ps := ps) (i := k) (j := k + m) (by omega) (by omega)
    have m2 := lenN_mono (ps := ps) (i := k + m + 1) (j := k + M) (by omega) (by omega)
    have s0 := sideL_lo ps (k + m)
    have i1 := lenN_in ps (k + M)
    have i2 := lenN_in ps (k + m)
    rw [← Nat.add_assoc]
    by_cases e : sa ps (k + m) = sb ps (k + m)
    · rw [corN_off e, cutN_off, ih]
      rintro ⟨h, _⟩
      rw [side_zero.2 e] at h
      omega
    · have hz : ¬ sideL ps (k + m) = 0 := fun h => e (side_zero.1 h)
      have hh : hit ps (lenN ps k) (lenN ps (k + M)) (k + m) := ⟨by omega, by omega, by omega⟩
      have ft : fromP ps (lenN ps (k + M)) (k + m) = sb ps (k + m) := by
        unfold fromP
        rw [onP_b (by rw [hold_in (by omega) (by omega)]; omega) (by rw [hold_in (by omega) (by omega)]; omega)]
        exact plc_plc _
      by_cases h0 : (corN ps k m).length = 0
      · rw [corN_first e h0, cutN_first hh (by rw [ih]; exact h0), ft]
        have q := corN_none (by omega) h0
        have ff : fromP ps (lenN ps k) (k + m) = sa ps (k + m) := by
          unfold fromP
          rw [q, onP_a (by rw [Int.sub_self]; decide)]
          exact plc_plc _
        rw [ff]
      · rw [corN_more e h0, cutN_more hh (by rw [ih]; exact h0), ft, ih]
/-- Each side begins where the one ahead of it ended. -/
def Chain (ps : List Pt) (k M : Nat) : Prop := ∀ i, i + 1 < M → sa ps (k + i + 1) = sb ps (k + i)
theorem chain_in {ps : List Pt} {k M : Nat} (h : k + M ≤ ps.length) : Chain ps k M := fun i hi => by
  unfold sa sb
  rw [nxt_in (by omega)]
theorem sb_snoc {C : List Pt} {q : Pt} {i : Nat} (hi : i + 1 < C.length) : sideL (C ++ [q]) i = sideL C i := by
  unfold sideL sa sb
  rw [List.length_append, nxt_in (n := C.length + [q].length) (i := i) (by simp; omega), nxt_in (n := C.length) (i := i) (by omega), pt_left (by omega), pt_left (by omega)]
theorem sb_last {C : List Pt} {q : Pt} {L : Nat} (hL : C.length = L + 1) : sideL (C ++ [q]) L = longP (plc (pt C L)) (plc q) := by
  unfold sideL sa sb
  rw [List.length_append, nxt_in (n := C.length + [q].length) (i := L) (by simp; omega), pt_left (by omega), ← hL, pt_last]
/-- What the corners are: where they begin and end, and how long the way over them is. -/
theorem cor_inv {ps : List Pt} {k M : Nat} (hM : k + M ≤ 700) (hc : Chain ps k M) : ∀ {m : Nat}, m ≤ M →
    ((corN ps k m).length = 0 ∧ (0 < m → sb ps (k + m - 1) = sa ps k)) ∨
    ∃ L, (corN ps k m).length = L + 2 ∧ 0 < m ∧ pt (corN ps k m) 0 = sa ps k ∧ pt (corN ps k m) (L + 1) = sb ps (k + m - 1) ∧ lenN (corN ps k m) (L + 1) = lenN ps (k + m) - lenN ps k
  | 0, _ => Or.inl ⟨rfl, fun h => by omega⟩
  | m + 1, hm => by
    have ih := cor_inv hM hc (m := m) (by omega)
    have e1 := lenN_succ (ps := ps) (n := k + m) (by omega)
    have em : k + (m + 1) - 1 = k + m := by omega
    have link : 0 < m → sa ps (k + m) = sb ps (k + m - 1) := fun h => by
      have := hc (m - 1) (by omega)
      rw [show k + (m - 1) + 1 = k + m by omega, show k + (m - 1) = k + m - 1 by omega] at this
      exact this
    rw [em, ← Nat.add_assoc]
    by_cases e : sa ps (k + m) = sb ps (k + m)
    · rw [corN_off e]
      rcases ih with ⟨h0, h1⟩ | ⟨L, h0, h1, h2, h3, h4⟩
      · refine Or.inl ⟨h0, fun _ => ?_⟩
        by_cases hm0 : m = 0
        · subst hm0; exact e.symm
        · rw [← e, link (by omega), h1 (by omega)]
      · refine Or.inr ⟨L, h0, by omega, h2, ?_, ?_⟩
        · rw [h3, ← e, link h1]
        · rw [h4, e1, side_zero.2 e]; omega
    · rcases ih with ⟨h0, h1⟩ | ⟨L, h0, h1, h2, h3, h4⟩
      · have q := corN_none (by omega) h0
        have es : sa ps (k + m) = sa ps k := by
          by_cases hm0 : m = 0
          · subst hm0; rfl
          · rw [link (by omega), h1 (by omega)]
        rw [corN_first e h0]
        refine Or.inr ⟨0, rfl, by omega, ?_, rfl, ?_⟩
        · exact es
        · rw [lenN_succ (by omega), lenN_zero, e1, q]
          have : sideL ([sa ps (k + m)] ++ [sb ps (k + m)]) 0 = sideL ps (k + m) := by
            rw [sb_last (L := 0) rfl]
            show longP (plc (sa ps (k + m))) (plc (sb ps (k + m))) = _
            unfold sideL
            rw [show plc (sa ps (k + m)) = sa ps (k + m) from plc_plc _, show plc (sb ps (k + m)) = sb ps (k + m) from plc_plc _]
          rw [this]
          omega
      · rw [corN_more e (by omega)]
        refine Or.inr ⟨L + 1, by simp [h0], by omega, ?_, ?_, ?_⟩
        · rw [pt_left (by omega)]; exact h2
        · have := pt_last (corN ps k m) (sb ps (k + m))
          rw [h0] at this
          exact this
        · have b := corN_length ps k m
          rw [lenN_succ (by omega), sb_last (L := L + 1) h0, h3, ← link h1, e1]
          have s1 : lenN (corN ps k m ++ [sb ps (k + m)]) (L + 1) = lenN (corN ps k m) (L + 1) := lenN_same (by omega) fun i hi => sb_snoc (by omega)
          rw [s1, h4]
          have : longP (plc (sa ps (k + m))) (plc (sb ps (k + m))) = sideL ps (k + m) := by
            unfold sideL
            rw [show plc (sa ps (k + m)) = sa ps (k + m) from plc_plc _, show plc (sb ps (k + m)) = sb ps (k + m) from plc_plc _]
          rw [this]
          omega
/-- How long the corners are as an open line. -/
theorem cor_long {ps : List Pt} {k M : Nat} (hM : k + M ≤ 700) (hc : Chain ps k M) : lengthL false (corN ps k M) = lenN ps (k + M) - lenN ps k := by
  rcases cor_inv hM hc (Nat.le_refl M) with ⟨h0, _⟩ | ⟨L, h0, _, _, _, h4⟩
  · rw [corN_none hM h0]
    unfold lengthL
    rw [h0, sidesN_few _ (by omega), lenN_zero]
    omega
  · unfold lengthL
    rw [h0, sidesN_open (by omega)]
    exact h4
/-- The whole part: of n 0 nothing, else the corners. -/
theorem cut_whole {c : Bool} {ps : List Pt} (h : ps.length ≤ 700) (hn : ¬ lengthL c ps = 0) : cutL c ps 0 (lengthL c ps) = corN ps 0 (sidesN c ps.length) := by
  have i := lenN_in ps (sidesN c ps.length)
  have hs := sidesN_le c ps.length
  unfold lengthL at hn ⊢
  rw [cutL_yes (by rw [hold_len, show hold 0 = 0 by decide]; omega), hold_len, show hold 0 = 0 by decide]
  have := cut_cor (ps := ps) (k := 0) (M := sidesN c ps.length) (by omega) (Nat.le_refl _)
  rw [Nat.zero_add, lenN_zero] at this
  exact this
theorem cut_nothing {c : Bool} {ps : List Pt} (hn : lengthL c ps = 0) : cutL c ps 0 (lengthL c ps) = [] := by
  rw [hn]; exact cutL_no (by decide)
theorem whole_chain {c : Bool} {ps : List Pt} : Chain ps 0 (sidesN c ps.length) := chain_in (by have := sidesN_le c ps.length; omega)
theorem whole_long {c : Bool} {ps : List Pt} (h : ps.length ≤ 700) : lengthL false (corN ps 0 (sidesN c ps.length)) = lengthL c ps := by
  have hs := sidesN_le c ps.length
  rw [cor_long (by omega) whole_chain, lenN_zero, Nat.zero_add]
  unfold lengthL
  omega
theorem whole_two {c : Bool} {ps : List Pt} (h : ps.length ≤ 700) (hn : ¬ lengthL c ps = 0) : 2 ≤ (corN ps 0 (sidesN c ps.length)).length := by
  have hs := sidesN_le c ps.length
  rcases cor_inv (ps := ps) (k := 0) (M := sidesN c ps.length) (by omega) whole_chain (Nat.le_refl _) with ⟨h0, _⟩ | ⟨L, h0, _⟩
  · exact absurd (by have := corN_none (ps := ps) (k := 0) (by omega) h0; rw [Nat.zero_add, lenN_zero] at this; exact this) hn
  · omega

end M
end Go.Proofs.Ytgnmiilmmbblmaa

namespace Go.Proofs.Ytgnmiilmmbblmaa
namespace M

theorem hyp_spec {x y : Int} (x1 : -1073741824 ≤ x) (x2 : x ≤ 1073741824) (y1 : -1073741824 ≤ y) (y2 : y ≤ 1073741824) : 0 ≤ hyp x y ∧ hyp x y * hyp x y ≤ x * x + y * y ∧ x * x + y * y < (hyp x y + 1) * (hyp x y + 1) := by
  have ex : wide x = x := by unfold wide clamp; rw [if_neg (by omega), if_neg (by omega)]
  have ey : wide y = y := by unfold wide clamp; rw [if_neg (by omega), if_neg (by omega)]
  have sx := (wide_sq x).1
  have sy := (wide_sq y).1
  rw [ex] at sx
  rw [ey] at sy
  unfold hyp
  rw [ex, ey]
  obtain ⟨h1, h2⟩ := isq_spec (x * x + y * y).toNat
  have e : (((x * x + y * y).toNat : Nat) : Int) = x * x + y * y := Int.toNat_of_nonneg (by omega)
  generalize (x * x + y * y).toNat = n at *
  rw [← e]
  refine ⟨Int.natCast_nonneg _, ?_, ?_⟩
  · exact_mod_cast h1
  · exact_mod_cast h2
theorem sq_le {a b : Int} (h0 : 0 ≤ a) (h : a ≤ b) : a * a ≤ b * b := Int.mul_le_mul h h h0 (by omega)
theorem of_sq_lt {a b : Int} (hb : 0 ≤ b) (h : a * a < b * b) : a < b := by
  by_cases e : a < b
  · exact e
  · have := sq_le hb (show b ≤ a by omega); omega
theorem sq_nonneg (a : Int) : 0 ≤ a * a := by
  by_cases h : 0 ≤ a
  · exact Int.mul_nonneg h h
  · have := Int.mul_nonneg (show 0 ≤ -a by omega) (show 0 ≤ -a by omega)
    rwa [Int.neg_mul_neg] at this
/-- The way over a third place is not shorter, but for what rounding takes. -/
theorem way_over {p q r s A C : Int} (hA : 0 ≤ A) (hC : 0 ≤ C) (h1 : p * p + q * q < (A + 1) * (A + 1)) (h2 : r * r + s * s < (C + 1) * (C + 1)) : (p + r) * (p + r) + (q + s) * (q + s) < (A + C + 2) * (A + C + 2) := by
  have hx : p * r + q * s < (A + 1) * (C + 1) := by
    refine of_sq_lt (Int.mul_nonneg (by omega) (by omega)) ?_
    have id1 : (p * r + q * s) * (p * r + q * s) + (p * s - q * r) * (p * s - q * r) = (p * p + q * q) * (r * r + s * s) := by grind
    have n1 := sq_nonneg (p * s - q * r)
    have np : 0 ≤ p * p + q * q := by have := sq_nonneg p; have := sq_nonneg q; omega
    have nr : 0 ≤ r * r + s * s := by have := sq_nonneg r; have := sq_nonneg s; omega
    have m1 : (p * p + q * q) * (r * r + s * s) ≤ (A + 1) * (A + 1) * (r * r + s * s) := Int.mul_le_mul_of_nonneg_right (by omega) nr
    have pa : 0 < (A + 1) * (A + 1) := Int.mul_pos (by omega) (by omega)
    have m2 : (A + 1) * (A + 1) * (r * r + s * s) < (A + 1) * (A + 1) * ((C + 1) * (C + 1)) := Int.mul_lt_mul_of_pos_left h2 pa
    have id2 : (A + 1) * (C + 1) * ((A + 1) * (C + 1)) = (A + 1) * (A + 1) * ((C + 1) * (C + 1)) := by grind
    omega
  have id3 : (p + r) * (p + r) + (q + s) * (q + s) = (p * p + q * q) + (r * r + s * s) + 2 * (p * r + q * s) := by grind
  have id4 : (A + C + 2) * (A + C + 2) = (A + 1) * (A + 1) + (C + 1) * (C + 1) + 2 * ((A + 1) * (C + 1)) := by grind
  omega
/-- A share of a way is not longer than the share of its length, but for what rounding takes. -/
theorem way_part {u v t x y A l : Int} (t0 : 0 ≤ t) (hl : 0 ≤ l) (hA : A * A ≤ x * x + y * y) (h : u * u + v * v < (l + 1) * (l + 1))
    (x1 : u * t - 65536 ≤ 65536 * x) (x2 : 65536 * x ≤ u * t + 65536) (y1 : v * t - 65536 ≤ 65536 * y) (y2 : 65536 * y ≤ v * t + 65536) : 65536 * A ≤ t * (l + 1) + 131072 := by
  have big : ∀ {a : Int}, a * a < (l + 1) * (l + 1) → -(l + 1) < a ∧ a < l + 1 := fun {a} ha => ⟨by
    have := of_sq_lt (a := -a) (b := l + 1) (by omega) (by rw [Int.neg_mul_neg]; exact ha)
    omega, of_sq_lt (by omega) ha⟩
  have su := sq_nonneg u
  have sv := sq_nonneg v
  obtain ⟨u1, u2⟩ := big (a := u) (by omega)
  obtain ⟨v1, v2⟩ := big (a := v) (by omega)
  have ut1 : u * t ≤ (l + 1) * t := Int.mul_le_mul_of_nonneg_right (by omega) t0
  have ut2 : -(l + 1) * t ≤ u * t := Int.mul_le_mul_of_nonneg_right (by omega) t0
  have vt1 : v * t ≤ (l + 1) * t := Int.mul_le_mul_of_nonneg_right (by omega) t0
  have vt2 : -(l + 1) * t ≤ v * t := Int.mul_le_mul_of_nonneg_right (by omega) t0
  rw [Int.neg_mul] at ut2 vt2
  have pos : 0 ≤ (l + 1) * t := Int.mul_nonneg (by omega) t0
  by_cases e : 65536 * A ≤ t * (l + 1) + 131072
  · exact e
  · exfalso
    have ec : t * (l + 1) = (l + 1) * t := Int.mul_comm _ _
    have sq1 := sq_le (a := (l + 1) * t + 131072) (b := 65536 * A) (by omega) (by omega)
    have sx : ∀ {k m z : Int}, m - 65536 ≤ k → k ≤ m + 65536 → -z ≤ m → m ≤ z → k * k ≤ m * m + 131072 * z + 4294967296 := by
      intro k m z h1 h2 h3 h4
      obtain ⟨d, rfl⟩ : ∃ d, k = m + d := ⟨k - m, by omega⟩
      have id1 : (m + d) * (m + d) = m * m + 2 * (m * d) + d * d := by grind
      have d2 : d * d ≤ 4294967296 := by
        by_cases hd : 0 ≤ d
        · have := sq_le hd (show d ≤ 65536 by omega); omega
        · have := sq_le (a := -d) (by omega) (show -d ≤ 65536 by omega); rw [Int.neg_mul_neg] at this; omega
      have md : m * d ≤ z * 65536 := by
        by_cases hm : 0 ≤ m
        · have a1 : m * d ≤ m * 65536 := Int.mul_le_mul_of_nonneg_left (by omega) hm
          omega
        · have a1 : -m * -d ≤ -m * 65536 := Int.mul_le_mul_of_nonneg_left (by omega) (by omega)
          rw [Int.neg_mul_neg, Int.neg_mul] at a1
          omega
      omega
    have s1 := sx (k := 65536 * x) (m := u * t) (z := (l + 1) * t) x1 x2 ut2 ut1
    have s2 := sx (k := 65536 * y) (m := v * t) (z := (l + 1) * t) y1 y2 vt2 vt1
    have id2 : 65536 * x * (65536 * x) + 65536 * y * (65536 * y) = 4294967296 * (x * x + y * y) := by grind
    have id3 : 65536 * A * (65536 * A) = 4294967296 * (A * A) := by grind
    have id4 : u * t * (u * t) + v * t * (v * t) = (u * u + v * v) * (t * t) := by grind
    have tt := sq_nonneg t
    have m1 : (u * u + v * v) * (t * t) ≤ (l + 1) * (l + 1) * (t * t) := Int.mul_le_mul_of_nonneg_right (by omega) tt
    have id5 : (l + 1) * (l + 1) * (t * t) = (l + 1) * t * ((l + 1) * t) := by grind
    have id6 : ((l + 1) * t + 131072) * ((l + 1) * t + 131072) = (l + 1) * t * ((l + 1) * t) + 262144 * ((l + 1) * t) + 17179869184 := by grind
    omega

end M
end Go.Proofs.Ytgnmiilmmbblmaa

namespace Go.Proofs.Ytgnmiilmmbblmaa
namespace M

theorem link_in {ps : List Pt} {n : Nat} (h : n + 1 < ps.length) : sa ps (n + 1) = sb ps n := by
  unfold sa sb
  rw [nxt_in (by omega)]
theorem mul_none (x : Int) : mul x 0 = 0 := by unfold mul; rw [show hold 0 = 0 by decide, Int.mul_zero]; decide
theorem mul_whole {x : Int} (h1 : 0 ≤ x) (h2 : x ≤ 1099511627776) : mul x 65536 = x := by
  unfold mul
  rw [hold_in (a := x) (by omega) (by omega), show hold 65536 = 65536 by decide, Int.mul_ediv_cancel _ (by decide), hold_in (by omega) (by omega)]
/-- Where a part that begins at 0 begins. -/
theorem cut_from {ps : List Pt} {T : Int} (hT : 0 < T) : ∀ {n : Nat}, n < ps.length → n ≤ 700 →
    ((cutN ps 0 T n).length = 0 ∧ lenN ps n = 0 ∧ sa ps n = sa ps 0) ∨ (¬ (cutN ps 0 T n).length = 0 ∧ pt (cutN ps 0 T n) 0 = sa ps 0)
  | 0, _, _ => Or.inl ⟨rfl, rfl, rfl⟩
  | n + 1, hn, h7 => by
    have e1 := lenN_succ (ps := ps) (n := n) (by omega)
    have s0 := sideL_lo ps n
    rcases cut_from (ps := ps) hT (n := n) (by omega) (by omega) with ⟨h0, h1, h2⟩ | ⟨h0, h1⟩
    · by_cases hz : sideL ps n = 0
      · refine Or.inl ⟨by rw [cutN_off (fun h => by have := h.1; omega)]; exact h0, by omega, ?_⟩
        rw [link_in hn, ← side_zero.1 hz, h2]
      · have hh : hit ps 0 T n := ⟨by omega, by omega, by omega⟩
        rw [cutN_first hh h0]
        refine Or.inr ⟨by simp, ?_⟩
        show fromP ps 0 n = _
        unfold fromP
        rw [h1, onP_a (by decide), show plc (sa ps n) = sa ps n from plc_plc _, h2]
    · by_cases hh : hit ps 0 T n
      · rw [cutN_more hh h0]
        refine Or.inr ⟨by simp, ?_⟩
        rw [pt_left (by omega), h1]
      · rw [cutN_off hh]
        exact Or.inr ⟨h0, h1⟩
/-- Where a part that ends at the line's end ends. -/
theorem cut_to {ps : List Pt} {F : Int} {M : Nat} (hM : M < ps.length) (h7 : M ≤ 700) : ∀ {n : Nat}, n ≤ M →
    (cutN ps F (lenN ps M) n).length = 0 ∨ (F < lenN ps n ∧ pt (cutN ps F (lenN ps M) n) ((cutN ps F (lenN ps M) n).length - 1) = sa ps n)
  | 0, _ => Or.inl rfl
  | n + 1, hn => by
    have e1 := lenN_succ (ps := ps) (n := n) (by omega)
    have s0 := sideL_lo ps n
    have m1 := lenN_mono (ps := ps) (i := n + 1) (j := M) hn h7
    have i1 := lenN_in ps M
    have i2 := lenN_in ps n
    have ih := cut_to (ps := ps) (F := F) hM h7 (n := n) (by omega)
    by_cases hh : hit ps F (lenN ps M) n
    · have h1 := hh.1
      have h2 := hh.2.1
      have ft : fromP ps (lenN ps M) n = sa ps (n + 1) := by
        unfold fromP
        rw [onP_b (by rw [hold_in (by omega) (by omega)]; omega) (by rw [hold_in (by omega) (by omega)]; omega), link_in (by omega)]
        exact plc_plc _
      right
      refine ⟨by omega, ?_⟩
      by_cases h0 : (cutN ps F (lenN ps M) n).length = 0
      · rw [cutN_first hh h0, ft]
        rfl
      · rw [cutN_more hh h0, ft, List.length_append]
        exact pt_last _ _
    · rw [cutN_off hh]
      rcases ih with h0 | ⟨h0, h1⟩
      · exact Or.inl h0
      · right
        have hz : sideL ps n = 0 := by
          by_cases hp : 0 < sideL ps n
          · exact absurd (⟨hp, by omega, by omega⟩ : hit ps F (lenN ps M) n) hh
          · omega
        refine ⟨by omega, ?_⟩
        rw [h1, link_in (by omega), ← side_zero.1 hz]
theorem part_first {ps : List Pt} {b : Int} (h7 : ps.length ≤ 700) (h : 2 ≤ (partP 0 b false ps).length) : 0 < ps.length ∧ pt (partP 0 b false ps) 0 = sa ps 0 := by
  unfold partP at h ⊢
  rw [mul_none] at h ⊢
  by_cases hT : hold (mul (lengthL false ps) b) ≤ hold 0
  · rw [cutL_no hT] at h; simp at h
  · rw [cutL_yes hT] at h ⊢
    rw [show hold 0 = 0 by decide] at hT h ⊢
    by_cases h2 : ps.length < 2
    · rw [sidesN_few _ h2] at h
      simp [cutN_zero] at h
    · rw [sidesN_open h2] at h ⊢
      rcases cut_from (ps := ps) (T := hold (mul (lengthL false ps) b)) (by omega) (n := ps.length - 1) (by omega) (by omega) with ⟨h0, _⟩ | ⟨_, h1⟩
      · omega
      · exact ⟨by omega, h1⟩
theorem part_last {ps : List Pt} {a : Int} (h7 : ps.length ≤ 700) (h : 2 ≤ (partP a 65536 false ps).length) : 0 < ps.length ∧ pt (partP a 65536 false ps) ((partP a 65536 false ps).length - 1) = sa ps (ps.length - 1) := by
  have i1 := lenN_in ps (sidesN false ps.length)
  unfold partP at h ⊢
  have e : mul (lengthL false ps) 65536 = lengthL false ps := mul_whole i1.1 i1.2
  rw [e] at h ⊢
  by_cases hT : hold (lengthL false ps) ≤ hold (mul (lengthL false ps) a)
  · rw [cutL_no hT] at h; simp at h
  · rw [cutL_yes hT] at h ⊢
    have e2 : hold (lengthL false ps) = lengthL false ps := hold_len _ _
    rw [e2] at h ⊢
    by_cases h2 : ps.length < 2
    · rw [sidesN_few _ h2] at h
      simp [cutN_zero] at h
    · have e3 : lengthL false ps = lenN ps (ps.length - 1) := by unfold lengthL; rw [sidesN_open h2]
      rw [sidesN_open h2, e3] at h ⊢
      rcases cut_to (ps := ps) (F := hold (mul (lenN ps (ps.length - 1)) a)) (M := ps.length - 1) (by omega) (by omega) (Nat.le_refl _) with h0 | ⟨_, h1⟩
      · omega
      · exact ⟨by omega, h1⟩

theorem trim1_part {x y : Int} {c : Bool} {ps : List Pt} (h0 : 0 ≤ x) (h1 : x ≤ y) (h2 : y ≤ 65536) (hw : ¬ (x = 0 ∧ y = 65536)) : trim1 x y c ps = if 2 ≤ (partP x y c ps).length then [(false, partP x y c ps)] else [] := by
  unfold trim1
  rw [spA_le h1 h0 h2, spB_le h1 h0 h2, if_neg hw]

end M
end Go.Proofs.Ytgnmiilmmbblmaa

namespace Go.Proofs.Ytgnmiilmmbblmaa
namespace M

/-- A small place. -/
def Sm (p : Pt) : Prop := -2000000 ≤ p.x ∧ p.x ≤ 2000000 ∧ -2000000 ≤ p.y ∧ p.y ≤ 2000000
theorem Sm.plc {p : Pt} (h : Sm p) : plc p = p := by
  obtain ⟨h1, h2, h3, h4⟩ := h
  have ex : place p.x = p.x := by unfold place clamp; rw [if_neg (by omega), if_neg (by omega)]
  have ey : place p.y = p.y := by unfold place clamp; rw [if_neg (by omega), if_neg (by omega)]
  show (⟨place p.x, place p.y⟩ : Pt) = p
  rw [ex, ey]
/-- A place on a side: it is small, and both pieces are together as long as the side but for a few. -/
theorem on_side {a b : Pt} {d l : Int} (ha : Sm a) (hb : Sm b) (hl : longP a b = l) (d0 : 0 < d) (d1 : d < l) : Sm (onP a b d l) ∧ l - 1 ≤ longP a (onP a b d l) + longP (onP a b d l) b ∧ longP a (onP a b d l) + longP (onP a b d l) b ≤ l + 5 := by
  obtain ⟨a1, a2, a3, a4⟩ := id ha
  obtain ⟨b1, b2, b3, b4⟩ := id hb
  have l2 : l ≤ 1518500249 := hl ▸ longP_hi a b
  have hd : hold d = d := hold_in (by omega) (by omega)
  have hll : hold l = l := hold_in (by omega) (by omega)
  have pa := ha.plc
  have pb := hb.plc
  have pax : place a.x = a.x := congrArg Pt.x pa
  have pay : place a.y = a.y := congrArg Pt.y pa
  have pbx : place b.x = b.x := congrArg Pt.x pb
  have pby : place b.y = b.y := congrArg Pt.y pb
  obtain ⟨t, ht⟩ : ∃ t, dv d l = t := ⟨_, rfl⟩
  have t0 : 0 ≤ t ∧ t ≤ 65536 := by
    have h1 : 0 ≤ d * 65536 / l := Int.ediv_nonneg (by omega) (by omega)
    have h2 : d * 65536 / l ≤ 65536 := by
      have : d * 65536 / l < 65537 := Int.ediv_lt_of_lt_mul (by omega) (by omega)
      omega
    rw [← ht]
    unfold dv flo
    rw [hd, hll, if_neg (by omega), if_pos (by omega), hold_in (by omega) (by omega)]
    exact ⟨h1, h2⟩
  have eq : onP a b d l = ⟨a.x + (b.x - a.x) * t / 65536, a.y + (b.y - a.y) * t / 65536⟩ := by
    rw [onP_mid (by rw [hd]; omega) (by rw [hd]; omega), hd, ht, pax, pay, pbx, pby, mid_small (by omega) (by omega) (by omega) (by omega) t0.1 t0.2, mid_small (by omega) (by omega) (by omega) (by omega) t0.1 t0.2]
  have ix := mid_in (x := a.x) (y := b.x) (k := t) (by omega) (by omega) (by omega) (by omega) t0.1 t0.2
  have iy := mid_in (x := a.y) (y := b.y) (k := t) (by omega) (by omega) (by omega) (by omega) t0.1 t0.2
  rw [mid_small (by omega) (by omega) (by omega) (by omega) t0.1 t0.2] at ix iy
  rw [eq]
  have hs : Sm ⟨a.x + (b.x - a.x) * t / 65536, a.y + (b.y - a.y) * t / 65536⟩ := ⟨by simp only; omega, by simp only; omega, by simp only; omega, by simp only; omega⟩
  refine ⟨hs, ?_⟩
  obtain ⟨s1, s2, s3, s4⟩ := id hs
  simp only at s1 s2 s3 s4
  unfold longP at hl ⊢
  simp only
  obtain ⟨u, hu⟩ : ∃ u, b.x - a.x = u := ⟨_, rfl⟩
  obtain ⟨v, hv⟩ : ∃ v, b.y - a.y = v := ⟨_, rfl⟩
  obtain ⟨p, hp⟩ : ∃ p, u * t / 65536 = p := ⟨_, rfl⟩
  obtain ⟨q, hq⟩ : ∃ q, v * t / 65536 = q := ⟨_, rfl⟩
  rw [hu, hv] at hl
  rw [hu, hp] at s1 s2
  rw [hv, hq] at s3 s4
  rw [hu, hv, hp, hq]
  rw [show a.x + p - a.x = p by omega, show a.y + q - a.y = q by omega, show b.x - (a.x + p) = u - p by omega, show b.y - (a.y + q) = v - q by omega]
  have z := hyp_spec (x := u) (y := v) (by omega) (by omega) (by omega) (by omega)
  have zA := hyp_spec (x := p) (y := q) (by omega) (by omega) (by omega) (by omega)
  have zC := hyp_spec (x := u - p) (y := v - q) (by omega) (by omega) (by omega) (by omega)
  rw [hl] at z
  generalize hyp p q = A at *
  generalize hyp (u - p) (v - q) = C at *
  have dp : u * t - 65535 ≤ 65536 * p ∧ 65536 * p ≤ u * t := by rw [← hp]; generalize u * t = k; omega
  have dq : v * t - 65535 ≤ 65536 * q ∧ 65536 * q ≤ v * t := by rw [← hq]; generalize v * t = k; omega
  have up := way_part (u := u) (v := v) (t := t) (x := p) (y := q) (A := A) (l := l) t0.1 z.1 zA.2.1 z.2.2 (by omega) (by omega) (by omega) (by omega)
  have eu : u * (65536 - t) = 65536 * u - u * t := by grind
  have ev : v * (65536 - t) = 65536 * v - v * t := by grind
  have uc := way_part (u := u) (v := v) (t := 65536 - t) (x := u - p) (y := v - q) (A := C) (l := l) (by omega) z.1 zC.2.1 z.2.2 (by rw [eu]; omega) (by rw [eu]; omega) (by rw [ev]; omega) (by rw [ev]; omega)
  have es : t * (l + 1) + (65536 - t) * (l + 1) = 65536 * (l + 1) := by grind
  have lo := way_over (p := p) (q := q) (r := u - p) (s := v - q) zA.1 zC.1 zA.2.2 zC.2.2
  rw [show p + (u - p) = u by omega, show q + (v - q) = v by omega] at lo
  have l3 := of_sq_lt (a := l) (b := A + C + 2) (by omega) (by omega)
  omega

theorem few_long {ps : List Pt} (h : ps.length < 2) : lengthL false ps = 0 := by unfold lengthL; rw [sidesN_few _ h, lenN_zero]
theorem long_snoc {X : List Pt} {z : Pt} (h0 : 0 < X.length) (h7 : X.length ≤ 700) : lengthL false (X ++ [z]) = lengthL false X + longP (plc (pt X (X.length - 1))) (plc z) := by
  obtain ⟨L, hL⟩ : ∃ L, X.length = L + 1 := ⟨X.length - 1, by omega⟩
  have e1 : lengthL false X = lenN X L := by
    unfold lengthL
    rw [hL]
    by_cases h : L = 0
    · subst h; rw [sidesN_few _ (by omega)]
    · rw [sidesN_open (by omega)]; rfl
  rw [e1]
  unfold lengthL
  rw [List.length_append, sidesN_open (by simp; omega), show X.length + [z].length - 1 = L + 1 by simp; omega, lenN_succ (by omega), sb_last hL, hL]
  have : lenN (X ++ [z]) L = lenN X L := lenN_same (by omega) fun i hi => sb_snoc (by omega)
  rw [this]
  rfl
theorem find_side {ps : List Pt} {D : Int} (h0 : 0 ≤ D) : ∀ {n : Nat}, D < lenN ps n → ∃ m, m < n ∧ lenN ps m ≤ D ∧ D < lenN ps (m + 1)
  | 0, h => by rw [lenN_zero] at h; omega
  | n + 1, h => by
    by_cases e : D < lenN ps n
    · obtain ⟨m, h1, h2⟩ := find_side h0 e
      exact ⟨m, by omega, h2⟩
    · exact ⟨n, by omega, by omega, h⟩
/-- The part up to D, as far as D reaches. -/
theorem cut_ahead {ps : List Pt} {D : Int} (hD : D ≤ 1099511627776) : ∀ {n : Nat}, n ≤ 700 → lenN ps n ≤ D → cutN ps 0 D n = corN ps 0 n
  | 0, _, _ => rfl
  | n + 1, h7, h => by
    have e1 := lenN_succ (ps := ps) (n := n) (by omega)
    have s0 := sideL_lo ps n
    have i2 := lenN_in ps n
    have ih := cut_ahead (ps := ps) hD (n := n) (by omega) (by omega)
    by_cases e : sa ps (0 + n) = sb ps (0 + n)
    · rw [corN_off e, cutN_off, ih]
      rintro ⟨hh, _⟩
      rw [Nat.zero_add] at e
      rw [side_zero.2 e] at hh
      omega
    · have hz : ¬ sideL ps n = 0 := fun hh => e (by rw [Nat.zero_add]; exact side_zero.1 hh)
      have hh : hit ps 0 D n := ⟨by omega, by omega, by omega⟩
      have ft : fromP ps D n = sb ps (0 + n) := by
        unfold fromP
        rw [onP_b (by rw [hold_in (by omega) (by omega)]; omega) (by rw [hold_in (by omega) (by omega)]; omega), Nat.zero_add]
        exact plc_plc _
      by_cases h0 : (corN ps 0 n).length = 0
      · have q := corN_none (ps := ps) (k := 0) (by omega) h0
        rw [Nat.zero_add, lenN_zero] at q
        have ff : fromP ps 0 n = sa ps (0 + n) := by
          unfold fromP
          rw [q, onP_a (by decide), Nat.zero_add]
          exact plc_plc _
        rw [corN_first e h0, cutN_first hh (by rw [ih]; exact h0), ft, ff]
      · rw [corN_more e h0, cutN_more hh (by rw [ih]; exact h0), ft, ih]
theorem cut_still {ps : List Pt} {F D : Int} {m : Nat} (h : D ≤ lenN ps m) : ∀ {j : Nat}, m + j ≤ 700 → cutN ps F D (m + j) = cutN ps F D m
  | 0, _ => rfl
  | j + 1, h7 => by
    rw [← Nat.add_assoc, cutN_off, cut_still h (by omega)]
    rintro ⟨_, _, hh⟩
    have := lenN_mono (ps := ps) (i := m) (j := m + j) (by omega) (by omega)
    omega
theorem cut_not {ps : List Pt} {D T : Int} : ∀ {n : Nat}, n ≤ 700 → lenN ps n ≤ D → cutN ps D T n = []
  | 0, _, _ => rfl
  | n + 1, h7, h => by
    have e1 := lenN_succ (ps := ps) (n := n) (by omega)
    have s0 := sideL_lo ps n
    rw [cutN_off, cut_not (by omega) (by omega)]
    rintro ⟨_, hh, _⟩
    omega
/-- How long the part up to a place on side m is. -/
theorem long_ahead {ps : List Pt} {D : Int} {m : Nat} (h7 : ps.length ≤ 700) (hm : m + 1 < ps.length) (hs : ∀ i, i < ps.length → Sm (sa ps i)) (d0 : lenN ps m < D) (d1 : D < lenN ps (m + 1)) :
    lengthL false (cutN ps 0 D (ps.length - 1)) = lenN ps m + longP (sa ps m) (onP (sa ps m) (sb ps m) (D - lenN ps m) (sideL ps m)) := by
  have e1 := lenN_succ (ps := ps) (n := m) (by omega)
  have i2 := lenN_in ps m
  have i3 := lenN_in ps (m + 1)
  have hA := hs m (by omega)
  have hB := hs (m + 1) hm
  rw [link_in hm] at hB
  obtain ⟨sq, _⟩ := on_side (a := sa ps m) (b := sb ps m) (d := D - lenN ps m) (l := sideL ps m) hA hB rfl (by omega) (by omega)
  have st := cut_still (ps := ps) (F := 0) (D := D) (m := m + 1) (by omega) (j := ps.length - 1 - (m + 1)) (by omega)
  rw [show m + 1 + (ps.length - 1 - (m + 1)) = ps.length - 1 by omega] at st
  rw [st]
  have hh : hit ps 0 D m := ⟨by omega, by omega, by omega⟩
  have ih := cut_ahead (ps := ps) (D := D) (by omega) (n := m) (by omega) (by omega)
  have hq : fromP ps D m = onP (sa ps m) (sb ps m) (D - lenN ps m) (sideL ps m) := rfl
  have hc : Chain ps 0 m := chain_in (by omega)
  rcases cor_inv (ps := ps) (k := 0) (M := m) (by omega) hc (Nat.le_refl m) with ⟨h0, _⟩ | ⟨L, h0, h1, h2, h3, h4⟩
  · have q := corN_none (ps := ps) (k := 0) (by omega) h0
    rw [Nat.zero_add, lenN_zero] at q
    have ff : fromP ps 0 m = sa ps m := by
      unfold fromP
      rw [q, onP_a (by decide)]
      exact plc_plc _
    rw [cutN_first hh (by rw [ih]; exact h0), ff, hq, long_snoc (by simp) (by simp), few_long (by simp)]
    show 0 + longP (plc (sa ps m)) _ = _
    rw [hA.plc, sq.plc, q]
  · rw [cutN_more hh (by rw [ih]; omega), hq, ih, long_snoc (by omega) (by have := corN_length ps 0 m; omega), cor_long (by omega) hc, h0, show L + 2 - 1 = L + 1 by omega, h3, Nat.zero_add, lenN_zero]
    have lk : sb ps (m - 1) = sa ps m := by
      have := link_in (ps := ps) (n := m - 1) (by omega)
      rw [show m - 1 + 1 = m by omega] at this
      exact this.symm
    rw [lk, hA.plc, sq.plc]
    omega
/-- How long the part from a place on side m on is. -/
theorem long_behind {ps : List Pt} {D : Int} {m : Nat} (h7 : ps.length ≤ 700) (hm : m + 1 < ps.length) (hs : ∀ i, i < ps.length → Sm (sa ps i)) (d0 : lenN ps m ≤ D) (d1 : D < lenN ps (m + 1)) (hq : Sm (fromP ps D m)) : ∀ {j : Nat}, m + 1 + j < ps.length →
    0 < (cutN ps D (lenN ps (ps.length - 1)) (m + 1 + j)).length ∧ (cutN ps D (lenN ps (ps.length - 1)) (m + 1 + j)).length ≤ j + 2 ∧ pt (cutN ps D (lenN ps (ps.length - 1)) (m + 1 + j)) ((cutN ps D (lenN ps (ps.length - 1)) (m + 1 + j)).length - 1) = sa ps (m + 1 + j) ∧
    lengthL false (cutN ps D (lenN ps (ps.length - 1)) (m + 1 + j)) = longP (fromP ps D m) (sb ps m) + (lenN ps (m + 1 + j) - lenN ps (m + 1))
  | 0, hj => by
    have e1 := lenN_succ (ps := ps) (n := m) (by omega)
    have i2 := lenN_in ps m
    have i3 := lenN_in ps (ps.length - 1)
    have m2 := lenN_mono (ps := ps) (i := m + 1) (j := ps.length - 1) (by omega) (by omega)
    have hh : hit ps D (lenN ps (ps.length - 1)) m := ⟨by omega, by omega, by omega⟩
    have hB := hs (m + 1) hm
    rw [link_in hm] at hB
    have ft : fromP ps (lenN ps (ps.length - 1)) m = sb ps m := by
      unfold fromP
      rw [onP_b (by rw [hold_in (by omega) (by omega)]; omega) (by rw [hold_in (by omega) (by omega)]; omega)]
      exact plc_plc _
    have ih := cut_not (ps := ps) (D := D) (T := lenN ps (ps.length - 1)) (n := m) (by omega) d0
    rw [Nat.add_zero, cutN_first hh (by rw [ih]; rfl), ft]
    refine ⟨by simp, by simp, ?_, ?_⟩
    · rw [link_in hm]; rfl
    · rw [long_snoc (by simp) (by simp), few_long (by simp)]
      show 0 + longP (plc (fromP ps D m)) _ = _
      rw [hq.plc, hB.plc]
      omega
  | j + 1, hj => by
    have e1 := lenN_succ (ps := ps) (n := m + 1 + j) (by omega)
    have s0 := sideL_lo ps (m + 1 + j)
    have i2 := lenN_in ps (m + 1 + j)
    have i3 := lenN_in ps (ps.length - 1)
    have m1 := lenN_mono (ps := ps) (i := m + 1) (j := m + 1 + j) (by omega) (by omega)
    have m2 := lenN_mono (ps := ps) (i := m + 1 + j + 1) (j := ps.length - 1) (by omega) (by omega)
    obtain ⟨h1, h2, h3, h4⟩ := long_behind h7 hm hs d0 d1 hq (j := j) (by omega)
    have lk := link_in (ps := ps) (n := m + 1 + j) (by omega)
    have hA := hs (m + 1 + j) (by omega)
    have hB := hs (m + 1 + j + 1) (by omega)
    rw [← Nat.add_assoc]
    by_cases hz : sideL ps (m + 1 + j) = 0
    · rw [cutN_off (fun hh => by have := hh.1; omega)]
      refine ⟨h1, by omega, ?_, ?_⟩
      · rw [h3, lk, ← side_zero.1 hz]
      · rw [h4]; omega
    · have hh : hit ps D (lenN ps (ps.length - 1)) (m + 1 + j) := ⟨by omega, by omega, by omega⟩
      have ft : fromP ps (lenN ps (ps.length - 1)) (m + 1 + j) = sa ps (m + 1 + j + 1) := by
        unfold fromP
        rw [onP_b (by rw [hold_in (by omega) (by omega)]; omega) (by rw [hold_in (by omega) (by omega)]; omega), lk]
        exact plc_plc _
      rw [cutN_more hh (by omega), ft]
      refine ⟨by simp, by simp; omega, ?_, ?_⟩
      · rw [List.length_append]; exact pt_last _ _
      · rw [long_snoc h1 (by omega), h3, hA.plc, hB.plc, h4]
        have : longP (sa ps (m + 1 + j)) (sa ps (m + 1 + j + 1)) = sideL ps (m + 1 + j) := by rw [lk]; rfl
        omega
/-- Both parts together. -/
theorem parts_sum {ps : List Pt} {k : Int} (h7 : ps.length ≤ 600) (hs : ∀ i, i < ps.length → Sm (sa ps i)) (hL : ¬ lengthL false ps = 0) (k0 : 0 < k) (k1 : k < 65536) :
    lengthL false ps - 8192 ≤ lengthL false (partP 0 k false ps) + lengthL false (partP k 65536 false ps) ∧ lengthL false (partP 0 k false ps) + lengthL false (partP k 65536 false ps) ≤ lengthL false ps + 8192 := by
  have iL := lenN_in ps (sidesN false ps.length)
  have h2 : ¬ ps.length < 2 := fun h => hL (few_long h)
  have eL : lengthL false ps = lenN ps (ps.length - 1) := by unfold lengthL; rw [sidesN_open h2]
  change 0 ≤ lengthL false ps ∧ lengthL false ps ≤ _ at iL
  unfold partP
  rw [mul_none, mul_whole iL.1 iL.2]
  obtain ⟨D, hD⟩ : ∃ D, mul (lengthL false ps) k = D := ⟨_, rfl⟩
  have bD : 0 ≤ D ∧ D < lengthL false ps := by
    have p0 : 0 ≤ lengthL false ps * k := Int.mul_nonneg iL.1 (by omega)
    have q0 : 0 ≤ lengthL false ps * k / 65536 := Int.ediv_nonneg p0 (by decide)
    have q1 : lengthL false ps * k / 65536 < lengthL false ps := Int.ediv_lt_of_lt_mul (by decide) (Int.mul_lt_mul_of_pos_left k1 (by omega))
    rw [← hD]
    unfold mul
    rw [hold_in (a := lengthL false ps) (by omega) (by omega), hold_in (a := k) (by omega) (by omega), hold_in (by omega) (by omega)]
    exact ⟨q0, q1⟩
  rw [hD]
  by_cases z : D = 0
  · subst z
    rw [cutL_no (f := 0) (t := 0) (Int.le_refl _), few_long (ps := []) (by simp), cut_whole (by omega) hL, whole_long (by omega)]
    omega
  · have hD0 : hold D = D := hold_in (by omega) (by omega)
    rw [cutL_yes (f := 0) (t := D) (by rw [hD0, show hold 0 = 0 by decide]; omega), cutL_yes (f := D) (t := lengthL false ps) (by rw [hD0, hold_in (by omega) (by omega)]; omega), hD0, show hold 0 = 0 by decide, hold_in (a := lengthL false ps) (by omega) (by omega), sidesN_open h2]
    rw [eL] at bD iL ⊢
    obtain ⟨m, hm, m1, m2⟩ := find_side bD.1 bD.2
    have e1 := lenN_succ (ps := ps) (n := m) (by omega)
    have hm1 : m + 1 < ps.length := by omega
    have hA := hs m (by omega)
    have hB := hs (m + 1) hm1
    rw [link_in hm1] at hB
    by_cases d0 : lenN ps m < D
    · obtain ⟨sq, q1, q2⟩ := on_side (a := sa ps m) (b := sb ps m) (d := D - lenN ps m) (l := sideL ps m) hA hB rfl (by omega) (by omega)
      have r1 := long_ahead (by omega) hm1 hs d0 m2
      obtain ⟨_, _, _, r2⟩ := long_behind (by omega) hm1 hs m1 m2 sq (j := ps.length - 1 - (m + 1)) (by omega)
      rw [show m + 1 + (ps.length - 1 - (m + 1)) = ps.length - 1 by omega] at r2
      rw [r1, r2]
      have : longP (fromP ps D m) (sb ps m) = longP (onP (sa ps m) (sb ps m) (D - lenN ps m) (sideL ps m)) (sb ps m) := rfl
      omega
    · have ed : D = lenN ps m := by omega
      have ff : fromP ps D m = sa ps m := by
        unfold fromP
        rw [ed, Int.sub_self, onP_a (by decide)]
        exact plc_plc _
      have st := cut_still (ps := ps) (F := 0) (D := D) (m := m) (by omega) (j := ps.length - 1 - m) (by omega)
      rw [show m + (ps.length - 1 - m) = ps.length - 1 by omega, cut_ahead (ps := ps) (D := D) (n := m) (by omega) (by omega) (by omega)] at st
      obtain ⟨_, _, _, r2⟩ := long_behind (by omega) hm1 hs m1 m2 (by rw [ff]; exact hA) (j := ps.length - 1 - (m + 1)) (by omega)
      rw [show m + 1 + (ps.length - 1 - (m + 1)) = ps.length - 1 by omega, ff] at r2
      rw [st, r2, cor_long (by omega) (chain_in (by omega)), Nat.zero_add, lenN_zero]
      have : longP (sa ps m) (sb ps m) = sideL ps m := rfl
      omega

end M
end Go.Proofs.Ytgnmiilmmbblmaa

namespace Go.Proofs.Ytgnmiilmmbblmaa
namespace M

/-- Number i of a list. -/
def nm (ds : List Int) (i : Nat) : Int := ds.getD i 0
theorem nm_cons (d : Int) (ds : List Int) (i : Nat) : nm (d :: ds) (i + 1) = nm ds i := by simp [nm]
theorem nm_zero (d : Int) (ds : List Int) : nm (d :: ds) 0 = d := by simp [nm]
theorem nm_left {ds : List Int} {d : Int} {i : Nat} (h : i < ds.length) : nm (ds ++ [d]) i = nm ds i := by unfold nm; simp [List.getD, List.getElem?_append_left h]
theorem nm_last (ds : List Int) (d : Int) : nm (ds ++ [d]) ds.length = d := by unfold nm; simp [List.getD]
/-- Whether a dash, or a gap, may be so long. -/
def okN (d : Int) : Prop := 65536 ≤ d ∧ d ≤ 67108864
instance (d : Int) : Decidable (okN d) := by unfold okN; infer_instance
def okA (ds : List Int) : Prop := ∀ i, i < ds.length → okN (nm ds i)
instance (ds : List Int) : Decidable (okA ds) := by unfold okA; infer_instance
/-- Right. -/
def okD (ds : List Int) : Bool := decide (ds.length ≤ 8 ∧ okA ds)
theorem okD_many {ds : List Int} (h : 8 < ds.length) : okD ds = false := by unfold okD; rw [decide_eq_false]; omega
theorem okD_bad {ds : List Int} {i : Nat} (hi : i < ds.length) (h : ¬ okN (nm ds i)) : okD ds = false := by
  unfold okD
  rw [decide_eq_false]
  exact fun e => h (e.2 i hi)
theorem okD_yes {ds : List Int} (h8 : ds.length ≤ 8) (h : ∀ i, i < ds.length → okN (nm ds i)) : okD ds = true := by
  unfold okD
  rw [decide_eq_true]
  exact ⟨h8, h⟩
theorem okD_all {ds : List Int} (h : ∀ i, i < ds.length → okN (nm ds i)) : okD ds = decide ((ds.length : Int) ≤ 8) := by
  by_cases h8 : ds.length ≤ 8
  · rw [okD_yes h8 h, decide_eq_true]; omega
  · rw [okD_many (by omega), decide_eq_false]; omega
theorem okD_few {ds : List Int} (h : okD ds = true) : ds.length ≤ 8 ∧ okA ds := by
  unfold okD at h
  simpa using h

/-- Number i, gone through round and round. -/
def tn (ds : List Int) (i : Nat) : Int := nm ds (i % ds.length)
/-- Where dash or gap k begins. -/
def mk (ds : List Int) : Nat → Int
  | 0 => 0
  | k + 1 => mk ds k + tn ds k
theorem mk_zero (ds : List Int) : mk ds 0 = 0 := rfl
theorem mk_step (ds : List Int) (k : Nat) : mk ds (k + 1) = mk ds k + tn ds k := rfl
theorem tn_in {ds : List Int} (h : okD ds = true) (h0 : 0 < ds.length) (i : Nat) : 65536 ≤ tn ds i ∧ tn ds i ≤ 67108864 := (okD_few h).2 _ (Nat.mod_lt _ h0)
theorem mk_in {ds : List Int} (h : okD ds = true) (h0 : 0 < ds.length) : ∀ k : Nat, 0 ≤ mk ds k ∧ mk ds k ≤ k * 67108864
  | 0 => by simp [mk]
  | k + 1 => by
    have ih := mk_in h h0 k
    have t := tn_in h h0 k
    rw [mk_step]
    omega
theorem mk_up {ds : List Int} (h : okD ds = true) (h0 : 0 < ds.length) {i : Nat} : ∀ {j : Nat}, i ≤ j → mk ds i ≤ mk ds j
  | 0, hij => by
    obtain rfl : i = 0 := by omega
    exact Int.le_refl _
  | j + 1, hij => by
    by_cases e : i = j + 1
    · rw [e]; exact Int.le_refl _
    · have ih := mk_up h h0 (i := i) (j := j) (by omega)
      have t := tn_in h h0 j
      rw [mk_step]
      omega
theorem add_mk {ds : List Int} (h : okD ds = true) (h0 : 0 < ds.length) {k : Nat} (hk : k ≤ 200) : add (mk ds k) (tn ds k) = mk ds (k + 1) := by
  have a := mk_in h h0 k
  have t := tn_in h h0 k
  unfold add
  rw [hold_in (a := mk ds k) (by omega) (by omega), hold_in (a := tn ds k) (by omega) (by omega), hold_in (by omega) (by omega), mk_step]
theorem tn_mod {ds : List Int} (i : Nat) : Int.tmod (i : Int) (ds.length : Int) = ((i % ds.length : Nat) : Int) := by
  rw [Int.tmod_eq_emod_of_nonneg (by omega)]
  simp
/-- Dash n. -/
def dashP (c : Bool) (ps : List Pt) (ds : List Int) (n : Nat) : List Pt := cutL c ps (mk ds (2 * n)) (mk ds (2 * n + 1))
theorem dashP_length (c : Bool) (ps : List Pt) (ds : List Int) (n : Nat) : (dashP c ps ds n).length ≤ ps.length + 1 := cutL_length _ _ _ _
/-- The first n dashes. -/
def dashN (c : Bool) (ps : List Pt) (ds : List Int) : Nat → List (Bool × List Pt)
  | 0 => []
  | n + 1 => if mk ds (2 * n) < lengthL c ps ∧ 2 ≤ (dashP c ps ds n).length then dashN c ps ds n ++ [(false, dashP c ps ds n)] else dashN c ps ds n
theorem dashN_zero (c : Bool) (ps : List Pt) (ds : List Int) : dashN c ps ds 0 = [] := rfl
theorem dashN_yes {c : Bool} {ps : List Pt} {ds : List Int} {n : Nat} (h : mk ds (2 * n) < lengthL c ps) (h2 : 2 ≤ (dashP c ps ds n).length) : dashN c ps ds (n + 1) = dashN c ps ds n ++ [(false, dashP c ps ds n)] := if_pos ⟨h, h2⟩
theorem dashN_no {c : Bool} {ps : List Pt} {ds : List Int} {n : Nat} (h2 : ¬ 2 ≤ (dashP c ps ds n).length) : dashN c ps ds (n + 1) = dashN c ps ds n := if_neg fun h => h2 h.2
theorem dashN_off {c : Bool} {ps : List Pt} {ds : List Int} {n : Nat} (h : ¬ mk ds (2 * n) < lengthL c ps) : dashN c ps ds (n + 1) = dashN c ps ds n := if_neg fun e => h e.1
theorem dashN_length (c : Bool) (ps : List Pt) (ds : List Int) : ∀ n, (dashN c ps ds n).length ≤ n
  | 0 => by simp [dashN]
  | n + 1 => by
    have ih := dashN_length c ps ds n
    rw [dashN]
    split
    · simp; omega
    · omega
/-- From the first dash on that would begin at the line's end or behind it nothing comes. -/
theorem dashN_end {c : Bool} {ps : List Pt} {ds : List Int} (h : okD ds = true) (h0 : 0 < ds.length) {n : Nat} (hn : lengthL c ps ≤ mk ds (2 * n)) : ∀ {m : Nat}, n ≤ m → dashN c ps ds m = dashN c ps ds n
  | 0, hm => by
    obtain rfl : n = 0 := by omega
    rfl
  | m + 1, hm => by
    by_cases e : n = m + 1
    · rw [e]
    · have ih := dashN_end h h0 hn (m := m) (by omega)
      have u := mk_up h h0 (i := 2 * n) (j := 2 * m) (by omega)
      rw [dashN_off (by omega), ih]
/-- Of. -/
def dashL (c : Bool) (ps : List Pt) (ds : List Int) : List (Bool × List Pt) := if ds.length = 0 ∨ okD ds = false then [(c, ps)] else dashN c ps ds 64
theorem dashL_none {c : Bool} {ps : List Pt} {ds : List Int} (h : ds.length = 0) : dashL c ps ds = [(c, ps)] := if_pos (Or.inl h)
theorem dashL_bad {c : Bool} {ps : List Pt} {ds : List Int} (h : okD ds = false) : dashL c ps ds = [(c, ps)] := if_pos (Or.inr h)
theorem dashL_some {c : Bool} {ps : List Pt} {ds : List Int} (h0 : 0 < ds.length) (h : okD ds = true) : dashL c ps ds = dashN c ps ds 64 := if_neg fun e => by rcases e with e | e; omega; rw [h] at e; cases e
theorem dashL_length (c : Bool) (ps : List Pt) (ds : List Int) : (dashL c ps ds).length ≤ 64 := by
  unfold dashL
  split
  · simp
  · exact dashN_length _ _ _ _

end M
end Go.Proofs.Ytgnmiilmmbblmaa

namespace Go.Proofs.Ytgnmiilmmbblmaa
namespace M

theorem long_small {a b : Pt} (ha : -327680 ≤ a.x ∧ a.x ≤ 1376255 ∧ -327680 ≤ a.y ∧ a.y ≤ 1376255) (hb : -327680 ≤ b.x ∧ b.x ≤ 1376255 ∧ -327680 ≤ b.y ∧ b.y ≤ 1376255) : longP a b ≤ 2500000 := by
  unfold longP
  obtain ⟨u, hu⟩ : ∃ u, b.x - a.x = u := ⟨_, rfl⟩
  obtain ⟨v, hv⟩ : ∃ v, b.y - a.y = v := ⟨_, rfl⟩
  rw [hu, hv]
  have z := hyp_spec (x := u) (y := v) (by omega) (by omega) (by omega) (by omega)
  obtain ⟨H, hH⟩ : ∃ H, hyp u v = H := ⟨_, rfl⟩
  rw [hH] at z ⊢
  have sq : ∀ {k : Int}, -1703935 ≤ k → k ≤ 1703935 → k * k ≤ 1703935 * 1703935 := fun {k} h1 h2 => by
    by_cases h : 0 ≤ k
    · exact sq_le h h2
    · have := sq_le (a := -k) (by omega) (show -k ≤ 1703935 by omega)
      rwa [Int.neg_mul_neg] at this
  have u2 := sq (k := u) (by omega) (by omega)
  have v2 := sq (k := v) (by omega) (by omega)
  by_cases h : H ≤ 2500000
  · exact h
  · have := sq_le (a := 2500001) (b := H) (by omega) (by omega)
    omega
theorem lenN_small {ps : List Pt} (h7 : ps.length ≤ 600) (hl : ∀ i, i < ps.length → sideL ps i ≤ 2500000) : ∀ {n : Nat}, n ≤ ps.length → lenN ps n ≤ n * 2500000
  | 0, _ => by rw [lenN_zero]; simp
  | n + 1, hn => by
    have ih := lenN_small h7 hl (n := n) (by omega)
    have s := hl n (by omega)
    rw [lenN_succ (by omega)]
    omega
theorem lengthL_small {c : Bool} {ps : List Pt} (h12 : ps.length ≤ 12) (hl : ∀ i, i < ps.length → sideL ps i ≤ 2500000) : lengthL c ps ≤ 30000000 := by
  have hn := sidesN_le c ps.length
  have := lenN_small (by omega) hl hn
  unfold lengthL
  omega
def kw11 : List Int := [67108864, 65536]
theorem kw11_ok : okD kw11 = true := by decide +kernel
theorem whole_none {c : Bool} {ps : List Pt} (hL : lengthL c ps = 0) : dashL c ps kw11 = [] := by
  rw [dashL_some (by decide) kw11_ok, dashN_end (n := 0) kw11_ok (by decide) (by rw [hL, mk_zero]; exact Int.le_refl _) (by decide), dashN_zero]
theorem whole_dash {c : Bool} {ps : List Pt} (h7 : ps.length ≤ 600) (hL : ¬ lengthL c ps = 0) (h9 : lengthL c ps ≤ 67108864) : dashL c ps kw11 = [(false, corN ps 0 (sidesN c ps.length))] := by
  have i := lenN_in ps (sidesN c ps.length)
  have i0 : 0 ≤ lengthL c ps := i.1
  have hn := sidesN_le c ps.length
  have dp : dashP c ps kw11 0 = corN ps 0 (sidesN c ps.length) := by
    unfold dashP
    rw [show mk kw11 (2 * 0) = 0 by decide +kernel, show mk kw11 (2 * 0 + 1) = 67108864 by decide +kernel, cutL_yes (by decide +kernel), show hold 0 = 0 by decide, show hold 67108864 = 67108864 by decide]
    exact cut_ahead (by decide) (by omega) h9
  rw [dashL_some (by decide) kw11_ok, dashN_end (n := 1) kw11_ok (by decide) (by rw [show mk kw11 (2 * 1) = 67174400 by decide +kernel]; omega) (by decide), dashN_yes (n := 0) (by rw [show mk kw11 (2 * 0) = 0 by decide +kernel]; omega) (by rw [dp]; exact whole_two (by omega) hL), dashN_zero, dp]
  rfl

end M
end Go.Proofs.Ytgnmiilmmbblmaa

namespace Go.Proofs.Ytgnmiilmmbblmaa
open Go Go.RowKit
open M

theorem Small9.sm9 {ps : List Pt} (h : Small9 ps) : ∀ i, i < ps.length → Sm (sa ps i) ∧ sa ps i = pt ps i := by
  intro i hi
  obtain ⟨h1, h2, h3, h4⟩ := h i hi
  have hs : Sm (pt ps i) := ⟨by omega, by omega, by omega, by omega⟩
  have e : sa ps i = pt ps i := hs.plc
  rw [e]
  exact ⟨hs, rfl⟩
theorem Small9.sides {ps : List Pt} (h : Small9 ps) : ∀ i, i < ps.length → sideL ps i ≤ 2500000 := by
  intro i hi
  have e1 := (h.sm9 i hi).2
  have e2 : sb ps i = pt ps (nxt ps.length i) := (h.sm9 _ (nxt_lt hi)).2
  unfold sideL
  rw [e1, e2]
  exact long_small (h i hi) (h _ (nxt_lt hi))

end Go.Proofs.Ytgnmiilmmbblmaa

namespace Go.Proofs.Ytgnmiilmmbblmaa
open Go Go.RowKit
open M

theorem and_quad (c : Int) : bits .and .i64 c 262143 = c % 262144 := by
  show IntKind.i64.wrap ((BitVec.ofInt 64 c &&& BitVec.ofInt 64 (262143 : Int)).toNat : Int) = _
  have e0 : (BitVec.ofInt 64 (262143 : Int)).toNat = 262143 := by decide
  have e1 : (BitVec.ofInt 64 c).toNat = (c % 18446744073709551616).toNat := by rw [BitVec.toNat_ofInt]; rfl
  have e2 : ∀ n : Nat, n &&& 262143 = n % 262144 := fun n => Nat.and_two_pow_sub_one_eq_mod n 18
  rw [BitVec.toNat_and, e0, e1, e2, IntKind.wrap_i64]
  omega
/-- The slice's value v holds just these numbers. -/
def Isl (w : World) (v : Value) (ds : List Int) : Prop := ∃ ao cap, v = .slice ao ds.length cap ∧ ds.length ≤ 1000 ∧ (0 < ds.length → ∃ g o, ao = some ⟨g, o, none⟩ ∧ ∀ i, i < ds.length → w.cell? ⟨g, o + i, none⟩ = some (.int .i64 (nm ds i)))
theorem Isl.few {w : World} {v : Value} {ds : List Int} (h : Isl w v ds) : ds.length ≤ 1000 := by
  obtain ⟨_, _, _, h, _⟩ := h
  exact h
theorem Isl.slice {w : World} {v : Value} {ds : List Int} (h : Isl w v ds) : ∃ ao cap, v = .slice ao ds.length cap := by
  obtain ⟨ao, cap, h, _⟩ := h
  exact ⟨ao, cap, h⟩
theorem Isl.blocks {w w' : World} {v : Value} {ds : List Int} (h : Isl w v ds) (hb : ∀ k, k < w.heap.size → v.ownBlock = some k → w'.heap[k]? = w.heap[k]?) : Isl w' v ds := by
  obtain ⟨ao, cap, rfl, hf, hr⟩ := h
  refine ⟨ao, cap, rfl, hf, fun h0 => ?_⟩
  obtain ⟨g, o, rfl, hr'⟩ := hr h0
  exact ⟨g, o, rfl, fun i hi => (World.cell?_of_block (a := ⟨g, _, _⟩) (hb g (World.block_lt_of_cell? w _ (hr' 0 h0)) rfl)).trans (hr' i hi)⟩
theorem Isl.below {w w' : World} {v : Value} {ds : List Int} (h : Isl w v ds) (hb : Below w.heap.size w w') : Isl w' v ds := h.blocks fun k hk _ => hb.block k hk
theorem Isl.alloc {w : World} {v : Value} {ds : List Int} (h : Isl w v ds) (o : Obj) : Isl (w.alloc o) v ds := h.blocks fun k hk _ => (MapKept.heap_alloc w o).2 k hk
theorem Isl.at {w : World} {ao : Option Addr} {N cap : Nat} {ds : List Int} (h : Isl w (.slice ao N cap) ds) (h0 : 0 < N) : ds.length = N ∧ ∃ g o, ao = some ⟨g, o, none⟩ ∧ ∀ i, i < N → w.cell? ⟨g, o + i, none⟩ = some (.int .i64 (nm ds i)) := by
  obtain ⟨ao', cap', e, hf, hr⟩ := h
  simp only [Value.slice.injEq] at e
  obtain ⟨rfl, rfl, rfl⟩ := e
  exact ⟨rfl, hr h0⟩
theorem isl_nil (w : World) (ao : Option Addr) (cap : Nat) : Isl w (.slice ao 0 cap) [] := ⟨ao, cap, rfl, by simp, fun h => by simp at h⟩
theorem isl_lit {w : World} {g n c : Nat} {ds : List Int} {cs : Array Value} {t : TypeId} (hn : ds.length = n) (hf : n ≤ 1000) (h : Has w g cs t) (hc : cs.toList = ds.map (Value.int .i64)) : Isl w (.slice (some ⟨g, 0, none⟩) n c) ds := by
  subst hn
  refine ⟨_, c, rfl, hf, fun _ => ⟨g, 0, rfl, fun i hi => ?_⟩⟩
  rw [Nat.zero_add]
  refine h.cell i _ ?_
  have : cs.toList[i]? = some (.int .i64 (nm ds i)) := by rw [hc]; simp [nm, List.getD, hi]
  simpa using this

theorem d_right {v : Value} {ds : List Int} {w : World} (h : Isl w v ds) : Calls Try.prog 17 #[v] w fun e w' => e = .returned (.bool (okD ds)) ∧ w = w' := by
  have hf := h.few
  obtain ⟨ao, cap, rfl⟩ := h.slice
  by_cases h8 : 8 < ds.length
  · rw [okD_many h8]
    have o1 : (8 : Int) < ds.length := by omega
    clear h
    go_enter Try.func17, Try.ntmps17
    go_wp2
    go_ret
    exact ⟨rfl, rfl⟩
  · have o1 : ¬ (8 : Int) < ds.length := by omega
    obtain ⟨N, hN⟩ : ∃ N, ds.length = N := ⟨_, rfl⟩
    have HN := Lib.hid hN
    rw [hN] at h hf h8 o1 ⊢
    have HS := Lib.hid h
    clear h hN
    go_enter Try.func17, Try.ntmps17
    go_wp2
    go_loop [10] (fun i => ∃ n : Nat, n ≤ N ∧ i = .int .i64 n ∧ ∀ j, j < n → okN (nm ds j)) (fun i => N - (intOf i).toNat)
    case atStart => exact ⟨0, by omega, rfl, fun j hj => by omega⟩
    case round =>
      obtain ⟨n, hn, rfl, ha⟩ := hrel
      have HA := Lib.hid ha
      clear ha
      by_cases hlt : n < N
      · obtain ⟨_, g, o, e1, hc⟩ := HS.out.at (by omega)
        subst e1
        have c0 := hc n hlt
        have o3 : (n : Int) < N := by omega
        have o4 : n < N := hlt
        obtain ⟨d, hd⟩ : ∃ d, nm ds n = d := ⟨_, rfl⟩
        rw [hd] at c0
        have HD := Lib.hid hd
        clear hd hc
        by_cases h1 : d < 65536
        · have E : Hid (okD ds = false) := Lib.hid (okD_bad (i := n) (by rw [HN.out]; exact hlt) (by rw [HD.out]; intro e; have := e.1; omega))
          go_wp2
          go_ret
          exact ⟨by rw [E.out]; rfl, rfl⟩
        · by_cases h2 : 67108864 < d
          · have E : Hid (okD ds = false) := Lib.hid (okD_bad (i := n) (by rw [HN.out]; exact hlt) (by rw [HD.out]; intro e; have := e.2; omega))
            go_wp2
            go_ret
            exact ⟨by rw [E.out]; rfl, rfl⟩
          · have E : Hid (okN d) := Lib.hid ⟨by omega, by omega⟩
            go_wp2
            go_round
            case rel => exact ⟨n + 1, by omega, by go_num, fun j hj => by
              by_cases e : j = n
              · rw [e, HD.out]; exact E.out
              · exact HA.out j (by omega)⟩
            case measure => simp [intOf]; omega
      · obtain rfl : n = N := by omega
        have E : Hid (okD ds = true) := Lib.hid (okD_yes (by rw [HN.out]; omega) (fun i hi => HA.out i (by rw [HN.out] at hi; exact hi)))
        have o3 : ¬ (n : Int) < n := by omega
        go_wp2
        go_ret
        exact ⟨by rw [E.out]; rfl, rfl⟩

theorem r9_dashes {v : Value} {ds : List Int} {w : World} (h : Isl w v ds) : Calls Try.prog 18 #[v] w fun e w' => e = .returned (.bool (okD ds)) ∧ w = w' := by
  have hf := h.few
  obtain ⟨ao, cap, rfl⟩ := h.slice
  obtain ⟨N, hN⟩ : ∃ N, ds.length = N := ⟨_, rfl⟩
  have HN := Lib.hid hN
  rw [hN] at h hf ⊢
  have HS := Lib.hid h
  clear h hN
  go_enter Try.func18, Try.ntmps18
  go_wp2
  go_loop [3] (fun i => ∃ n : Nat, n ≤ N ∧ i = .int .i64 n ∧ ∀ j, j < n → okN (nm ds j)) (fun i => N - (intOf i).toNat)
  case atStart => exact ⟨0, by omega, rfl, fun j hj => by omega⟩
  case round =>
    obtain ⟨n, hn, rfl, ha⟩ := hrel
    have HA := Lib.hid ha
    clear ha
    by_cases hlt : n < N
    · obtain ⟨_, g, o, e1, hc⟩ := HS.out.at (by omega)
      subst e1
      have c0 := hc n hlt
      have o3 : (n : Int) < N := by omega
      have o4 : n < N := hlt
      obtain ⟨d, hd⟩ : ∃ d, nm ds n = d := ⟨_, rfl⟩
      rw [hd] at c0
      have HD := Lib.hid hd
      clear hd hc
      by_cases h1 : d < 65536
      · have E : Hid (okD ds = false) := Lib.hid (okD_bad (i := n) (by rw [HN.out]; exact hlt) (by rw [HD.out]; intro e; have := e.1; omega))
        go_wp2
        go_ret
        exact ⟨by rw [E.out]; rfl, rfl⟩
      · by_cases h2 : 67108864 < d
        · have E : Hid (okD ds = false) := Lib.hid (okD_bad (i := n) (by rw [HN.out]; exact hlt) (by rw [HD.out]; intro e; have := e.2; omega))
          go_wp2
          go_ret
          exact ⟨by rw [E.out]; rfl, rfl⟩
        · have E : Hid (okN d) := Lib.hid ⟨by omega, by omega⟩
          go_wp2
          go_round
          case rel => exact ⟨n + 1, by omega, by go_num, fun j hj => by
            by_cases e : j = n
            · rw [e, HD.out]; exact E.out
            · exact HA.out j (by omega)⟩
          case measure => simp [intOf]; omega
    · obtain rfl : n = N := by omega
      have E : Hid (okD ds = decide ((n : Int) ≤ 8)) := Lib.hid (by rw [okD_all (fun i hi => HA.out i (by rw [HN.out] at hi; exact hi)), HN.out])
      have o3 : ¬ (n : Int) < n := by omega
      by_cases h8 : (n : Int) ≤ 8
      · go_wp2
        go_ret
        exact ⟨by rw [E.out]; simp [h8], rfl⟩
      · go_wp2
        go_ret
        exact ⟨by rw [E.out]; simp [h8], rfl⟩

theorem d_turn {v : Value} {ds : List Int} {w : World} (h : Isl w v ds) (h0 : 0 < ds.length) (i : Nat) (hi : i ≤ 200) : Calls Try.prog 23 #[v, .int .i64 (i : Int)] w fun e w' => e = .returned (.int .i64 (tn ds i)) ∧ w = w' := by
  have hf := h.few
  obtain ⟨ao, cap, rfl⟩ := h.slice
  have tm := tn_mod (ds := ds) i
  have lt := Nat.mod_lt i h0
  unfold tn
  obtain ⟨k, hk⟩ : ∃ k, i % ds.length = k := ⟨_, rfl⟩
  rw [hk] at tm lt ⊢
  obtain ⟨N, hN⟩ : ∃ N, ds.length = N := ⟨_, rfl⟩
  rw [hN] at h hf lt tm h0 ⊢
  obtain ⟨_, g, o, rfl, hc⟩ := h.at h0
  have c0 := hc k lt
  have o1 : (k : Int) < N := by omega
  have o2 : ¬ (N : Int) = 0 := by omega
  have tm' : (i : Int) % (N : Int) = k := by rw [← tm, Int.tmod_eq_emod_of_nonneg (by omega)]
  clear h hc hN hk
  go_enter Try.func23, Try.ntmps23
  go_wp2
  go_ret
  exact ⟨rfl, rfl⟩


end Go.Proofs.Ytgnmiilmmbblmaa

namespace Go.Proofs.Ytgnmiilmmbblmaa
open Go Go.RowKit

section
variable {L : List Oper} {mk : List Nat} {o : Oper} {p : Nat} {G : Nat → Option Value} {e : Act}
/-- Operation o's guard is no made value. -/
def guardB (L : List Oper) (mk : List Nat) (o : Oper) : Bool := match o.guard with | none => true | some (g, _) => (match dstAt L g with | some d => mk.all fun j => dstAt L j != some d | none => true)
theorem wanted_put (h : guardB L mk o = true) (hGn : ∀ k, k ∉ mk → G k = none) (hw : Region.wanted o (yielded L.toArray e.tmps) = true) : Region.wanted o (yielded L.toArray (putV (dstAt L) G p e).tmps) = true := by
  unfold Region.wanted at hw ⊢
  unfold guardB at h
  cases hg : o.guard with
  | none => rfl
  | some gb =>
    obtain ⟨g, b⟩ := gb
    rw [hg] at h hw
    simp only at h hw ⊢
    have key : yielded L.toArray (putV (dstAt L) G p e).tmps g = yielded L.toArray e.tmps g := by
      unfold yielded
      have ed : (L.toArray[g]?).bind (·.dst) = dstAt L g := by unfold dstAt; simp
      rw [ed]
      cases hd : dstAt L g with
      | none => rfl
      | some d =>
        rw [hd] at h
        simp only at h
        have q : (putV (dstAt L) G p e).tmps[d]? = e.tmps[d]? := putV_at e p fun k hk hkn he => by
          have hkm : k ∈ mk := by
            apply Classical.byContradiction
            intro hn
            exact hkn (hGn k hn)
          have := List.all_eq_true.1 h k hkm
          rw [he] at this
          simp at this
        simp only [Option.bind_some, q]
    rw [key]
    exact hw
end

end Go.Proofs.Ytgnmiilmmbblmaa

namespace Go.Proofs.Ytgnmiilmmbblmaa
open Go Go.RowKit
open M

/-- A poly's part is stored into a block of the call's own. -/
theorem part_put {w V w3 : World} {r : Nat} {l : Value} {ps : List Pt} {cs : Array Value} (hb : Below w.heap.size w V) (hl : w.heap.size ≤ r) (hr : Has V r cs 24) (hs : cs.size = 2) (ho : Pown w3 V.heap.size l ps) (hb3 : Below V.heap.size V w3) :
    Gives w false ps (.returned (.agg #[.bool false, l])) ((w3.setCell ⟨r, 0, none⟩ (.bool false)).setCell ⟨r, 1, none⟩ l) ∧ Has ((w3.setCell ⟨r, 0, none⟩ (.bool false)).setCell ⟨r, 1, none⟩ l) r #[.bool false, l] 24 := by
  have k3 := hr.below hb3 hr.lt
  refine ⟨⟨l, rfl, (ho.lower hb.size).kept (grownBy_set (grownBy_set (World.grownBy.refl _ _) _ _) _ _) (fun k hk e => by simp at hk; have := (ho.base k e).1; have := hr.lt; omega), ((hb.trans (hb3.mono hb.size)).setCell hl _).setCell hl _⟩, ?_⟩
  have := has_set (has_set k3 0 (.bool false)) 1 l
  match cs, hs with
  | ⟨[x, y]⟩, _ => simpa using this

end Go.Proofs.Ytgnmiilmmbblmaa

namespace Go.Proofs.Ytgnmiilmmbblmaa
open Go Go.RowKit
open M

/-- The value v is a poly whose list is of the call's own. -/
def PolyO (base : Nat) (c : Bool) (ps : List Pt) (v : Value) (w : World) : Prop := ∃ l, v = .agg #[.bool c, l] ∧ Pown w base l ps
theorem PolyO.stay {base : Nat} {c : Bool} {ps : List Pt} {v : Value} {w w' : World} (h : PolyO base c ps v w) (hb : Below w.heap.size w w') : PolyO base c ps v w' := by
  obtain ⟨l, e, hp⟩ := h
  exact ⟨l, e, hp.below hb (Nat.le_refl _)⟩
theorem Pown.ne_has {w : World} {B g : Nat} {l : Value} {ps : List Pt} {cs : Array Value} (h : Pown w B l ps) (hg : Has w g cs 24) : l.ownBlock ≠ some g := by
  intro e
  rcases h.2 with ⟨rfl, _⟩ | ⟨g', cap, cur, rfl, _, hh, _⟩
  · cases e
  · have e' : some g' = some g := e
    simp at e'
    subst e'
    unfold Has at hg
    rw [hh] at hg
    simp at hg
theorem ysl_lit {w : World} {g n cp : Nat} {ys : List Po} {cs : Array Value} {t : TypeId} (hn : ys.length = n) (hf : n ≤ 100) (hs : ∀ i, i < ys.length → Psl w (po ys i).v (po ys i).ps) (h : Has w g cs t) (hc : cs = (yls ys).toArray) : Ysl w (.slice (some ⟨g, 0, none⟩) n cp) ys := ysl_has hn hf hs (hc ▸ h)
theorem ysl_one {w : World} {g : Nat} {c : Bool} {l : Value} {fs : List Pt} {t : TypeId} (hs : Psl w l fs) (h : Has w g #[.bool c, l] t) : Ysl w (.slice (some ⟨g, 0, none⟩) 1 1) [⟨c, l, fs⟩] := by
  refine ysl_lit (ys := [⟨c, l, fs⟩]) rfl (by decide) (fun i hi => ?_) h rfl
  obtain rfl : i = 0 := by simp at hi; omega
  exact hs
theorem ysl_two {w : World} {g : Nat} {c c2 : Bool} {l l2 : Value} {fs fs2 : List Pt} {t : TypeId} (hs : Psl w l fs) (hs2 : Psl w l2 fs2) (h : Has w g #[.bool c, l, .bool c2, l2] t) : Ysl w (.slice (some ⟨g, 0, none⟩) 2 2) [⟨c, l, fs⟩, ⟨c2, l2, fs2⟩] :=
  ysl_lit (ys := [⟨c, l, fs⟩, ⟨c2, l2, fs2⟩]) rfl (by decide) (fun i hi => by
    rcases (show i = 0 ∨ i = 1 by simp at hi; omega) with rfl | rfl
    · exact hs
    · exact hs2) h rfl
theorem one_alike {c : Bool} {l l2 : Value} {fs : List Pt} : ∀ j, j < [(⟨c, l, fs⟩ : Po)].length → bareY (po [(⟨c, l, fs⟩ : Po)] j) = bareY (po [(⟨c, l2, fs⟩ : Po)] j) := fun j hj => by
  obtain rfl : j = 0 := by simp at hj; omega
  rfl
theorem ysl_shape {w : World} {v : Value} {ys : List Po} {n : Nat} (h : Ysl w v ys) (hn : ys.length = n) : ∃ ao cap, v = .slice ao n cap := by
  obtain ⟨ao, cap, e, _⟩ := h
  exact ⟨ao, cap, by rw [e, hn]⟩

end Go.Proofs.Ytgnmiilmmbblmaa

namespace Go.Proofs.Ytgnmiilmmbblmaa
open Go Go.RowKit

section
variable {P : Program}
theorem run_append_noth (w : World) (t ty e : TypeId) (i : TypeInfo) (ht : P.underlying t = some (.slice e)) (hi : P.info? e = some i) (base : Option Addr) (sLen sCap : Nat) (hle : sLen ≤ sCap) (ao : Option Addr) (cap : Nat) :
    (Builtin.append_ #[t, t] ty #[.slice base sLen sCap, .slice ao 0 cap]).run P w = .ok (.slice base sLen sCap) w := by
  have hlo : ∀ (x : Addr), (loadCells x 0).run P w = .ok #[] w := fun x => by simpa using run_loadCells_list (P := P) w x [] (by simp)
  cases ao <;> cases base <;> simp [Builtin.append_, run_underlying ht, sizeOf, typeInfo, hi, Builtin.lenOf, Builtin.firstCells, hle, hlo, storeCells]
theorem wp_append_noth {w : World} {o : Oper} {a : Act} {K : Act → World → Prop} {Q : Exit → Act → World → Prop} (s x : Operand) (t : TypeId)
    (ho : o.op = .call { callee := .builtin .append, args := #[s, x], argTypes := #[t, t] }) (e : TypeId) (i : TypeInfo) (ht : P.underlying t = some (.slice e)) (hi : P.info? e = some i) (base : Option Addr) (sLen sCap : Nat) (hle : sLen ≤ sCap) (hs : a.eval s = .slice base sLen sCap)
    (ao : Option Addr) (cap : Nat) (hx : a.eval x = .slice ao 0 cap) (h : K (a.put o.dst (.slice base sLen sCap)) w) : o.wp P a w K Q := by
  have hrun := run_append_noth (P := P) w t o.type e i ht hi base sLen sCap hle ao cap
  unfold Oper.wp
  simp [execOp, ho, resolve, invoke, builtin, hs, hx, hrun, Result.andThen]
  exact h
theorem wpList_append_noth {w : World} {ops : Array Oper} {rest : List Oper} {o : Oper} {a : Act} {Q : Exit → Act → World → Prop} (hgd : o.guard = none) (s x : Operand) (t : TypeId)
    (ho : o.op = .call { callee := .builtin .append, args := #[s, x], argTypes := #[t, t] }) (e : TypeId) (i : TypeInfo) (ht : P.underlying t = some (.slice e)) (hi : P.info? e = some i) (base : Option Addr) (sLen sCap : Nat) (hle : sLen ≤ sCap) (hs : a.eval s = .slice base sLen sCap)
    (ao : Option Addr) (cap : Nat) (hx : a.eval x = .slice ao 0 cap) (h : wpList P ops Q rest (a.put o.dst (.slice base sLen sCap)) w) : wpList P ops Q (o :: rest) a w :=
  wpList_plain hgd fun _ hK => wp_append_noth s x t ho e i ht hi base sLen sCap hle hs ao cap hx (hK _ _ h)
end

end Go.Proofs.Ytgnmiilmmbblmaa

namespace Go.Proofs.Ytgnmiilmmbblmaa
open Go Go.RowKit
open M

/-- A list of just these polys is returned. -/
def GivesL (w : World) (L : List (Bool × List Pt)) (e : Ending) (w' : World) : Prop := ∃ v zs, e = .returned v ∧ Ysl w' v zs ∧ zs.map bareY = L ∧ Below w.heap.size w w'
theorem Ysl.slice {w : World} {v : Value} {ys : List Po} (h : Ysl w v ys) : ∃ ao cap, v = .slice ao ys.length cap := by
  obtain ⟨ao, cap, e, _⟩ := h
  exact ⟨ao, cap, e⟩
theorem GivesL.on {w w1 w2 : World} {L : List (Bool × List Pt)} {e : Ending} (h : GivesL w1 L e w2) (hb : Below w.heap.size w w1) : GivesL w L e w2 := by
  obtain ⟨v, zs, he, hy, hz, hq⟩ := h
  exact ⟨v, zs, he, hy, hz, hb.trans (hq.mono hb.size)⟩
/-- The value v is a list of just these polys. -/
def LR (L : List (Bool × List Pt)) (v : Value) (w : World) : Prop := ∃ zs, Ysl w v zs ∧ zs.map bareY = L
theorem LR.stay {L : List (Bool × List Pt)} {v : Value} {w w' : World} (h : LR L v w) (hb : Below w.heap.size w w') : LR L v w' := by
  obtain ⟨zs, hy, hz⟩ := h
  exact ⟨zs, hy.below hb, hz⟩
theorem bares_of {zs : List Po} {N : Nat} {f : Nat → Bool × List Pt} (hl : zs.length = N) (h : ∀ j, j < N → bareY (po zs j) = f j) : zs.map bareY = (List.range N).map f := by
  apply List.ext_getElem?
  intro i
  by_cases hi : i < N
  · have := h i hi
    unfold po at this
    rw [List.getD_eq_getElem?_getD, List.getElem?_eq_getElem (by omega)] at this
    simp [hi, hl]
    simpa using this
  · rw [List.getElem?_eq_none (by simp; omega), List.getElem?_eq_none (by simp; omega)]
theorem grownBy_drew {a b : World} {r : Option Nat} (h : a.grownBy b r) : a.grownBy b.drew r := ⟨h.os, h.tape, h.output, h.size, h.block⟩
theorem Yfill.copied {w1 wr V : World} {gs N n : Nat} {f : Nat → Bool × List Pt} {zs : List Po} (h : Yfill w1 gs N f n zs wr) (hn : n < N) {c : Bool} {v : Value} {ps : List Pt} (hf : f n = (c, ps)) (hv : Psl V v ps) (hne : v.ownBlock ≠ some gs)
    (hk : ∀ k, k < wr.heap.size → k ≠ gs → V.heap[k]? = wr.heap[k]?) (hh : Has V gs (((yls zs).set (n * 2) (.bool c)).set (n * 2 + 1) v).toArray 24) (hb : Below w1.heap.size w1 V) : Yfill w1 gs N f (n + 1) (zs.set n ⟨c, v, ps⟩) V := by
  refine ⟨by rw [List.length_set]; exact h.len, ?_, fun j hj => ?_, hb, h.lo⟩
  · rw [yls_set (by rw [h.len]; exact hn)]
    exact hh
  · by_cases e : n = j
    · subst e
      rw [po_set_eq (by rw [h.len]; exact hn)]
      exact ⟨hf.symm, hv, hne⟩
    · rw [po_set_ne e]
      obtain ⟨a, b, c'⟩ := h.told j (by omega)
      exact ⟨a, b.blocks (fun k hkk e => hk k hkk (fun e2 => c' (by rw [e, e2]))), c'⟩

theorem gives_append {P : Program} {o : Oper} {e : Act} {w : World} {K : Value → World → Prop} (s x : Operand) (t : TypeId) (ho : o.op = .call { callee := .builtin .append, args := #[s, x], argTypes := #[t, t] })
    {v u : Value} (hs : e.eval s = v) (hx : e.eval x = u) {v' : Value} {w' : World} (hr : (Builtin.append_ #[t, t] o.type #[v, u]).run P w = .ok v' w') (h : K v' w') : gives P o e w K := by
  unfold gives execOp
  simp only [ho, resolve, invoke, builtin, Sem.run_bind, Sem.run_pure, Result.andThen_ok, List.map_toArray, List.map_cons, List.map_nil, hs, hx, hr]
  exact h
/-- A list of no places, in a block of the call's own, still bare where c says so. -/
def NoP (base : Nat) (c : Prop) (v : Value) (w : World) : Prop := ∃ g, v = .slice (some ⟨g, 0, none⟩) 0 0 ∧ base ≤ g ∧ g < w.heap.size ∧ (c → Has w g #[] 31)
theorem NoP.stay {base : Nat} {c : Prop} {v : Value} {w w' : World} (h : NoP base c v w) (hb : Below w.heap.size w w') : NoP base c v w' := by
  obtain ⟨g, e, l, s, k⟩ := h
  exact ⟨g, e, l, Nat.lt_of_lt_of_le s hb.size, fun hc => (k hc).below hb (k hc).lt⟩
/-- All places of a list appended to a list of none: what lies where. -/
theorem append_all {w : World} {B g : Nat} {ps : List Pt} {ao : Option Addr} {M cap : Nat} (hk : Has w g #[] 31) (hg : B ≤ g) (hs : Psl w (.slice ao M cap) ps) (hM : ps.length = M) (ty : TypeId) :
    ∃ v' w', (Builtin.append_ #[22, 22] ty #[.slice (some ⟨g, 0, none⟩) 0 0, .slice ao M cap]).run Try.prog w = .ok v' w' ∧ Pown w' B v' ps ∧ w.grownBy w' (some g) := by
  obtain ⟨i0, hi, hz0, hz1, hz2⟩ := info_parts Try.infoPt
  have hlt := hk.lt
  have ho : Pown w B (.slice (some ⟨g, 0, none⟩) 0 0) [] := ⟨rfl, Or.inr ⟨g, 0, #[], rfl, hg, hk, by simp, by simp, by simp, by simp [pls]⟩⟩
  have hf := hs.few
  by_cases h0 : M = 0
  · subst h0
    obtain rfl : ps = [] := List.eq_nil_of_length_eq_zero hM
    exact ⟨_, w, run_append_noth w _ ty _ i0 Try.underlying22 hi _ 0 0 (Nat.le_refl _) ao cap, ho, World.grownBy.refl _ _⟩
  · obtain ⟨ao', cap', hv, _, hrow⟩ := hs
    obtain ⟨gs, o, rfl, row⟩ := hrow (by omega)
    simp only [Value.slice.injEq] at hv
    obtain ⟨rfl, _, _⟩ := hv
    obtain ⟨g', cap2, w', hr, h2, h3, _, _⟩ := run_append_lies (P := Try.prog) w 22 ty B 31 i0 _ 2 16 Try.underlying22 hi hz0 hz1 hz2 rfl (by decide) (.slice (some ⟨g, 0, none⟩) 0 0) 0 [] ho ⟨gs, o, none⟩ M cap (pls ps) (by rw [pls_length, hM]) (fun j u hu => by rw [Addr.add_lit]; exact row.at j u hu) (ones_pls ps) (by omega) (by unfold maxLen; omega) (by omega) (by omega) _ rfl
    refine ⟨_, w', hr, ?_, h3⟩
    unfold Pown
    rw [hM]
    simpa using h2

set_option maxRecDepth 100000 in
set_option maxHeartbeats 2000000 in
theorem r9_copied (c : Bool) {v : Value} {ps : List Pt} {w : World} (h : Psl w v ps) :
    Calls Try.prog 33 #[.agg #[.bool c, v]] w (Gives w c ps) := by
  obtain ⟨B, hB⟩ : ∃ B, w.heap.size = B := ⟨_, rfl⟩
  obtain ⟨W, hW⟩ : ∃ W, (w.alloc (.cells #[.bool c, v] 24)).alloc (.cells #[.bool false, .slice none 0 0] 24) = W := ⟨_, rfl⟩
  have ha : Has W B #[.bool c, v] 24 := by rw [← hW]; exact (has_new hB).alloc _
  have hr : Has W (B + 1) #[.bool false, .slice none 0 0] 24 := by rw [← hW]; exact has_new (by simp [hB])
  have hbl : Below w.heap.size w W := by rw [← hW]; exact ((Below.refl _ _).alloc (Nat.le_refl _) _).alloc (by simp) _
  have hs := h.below hbl (Nat.le_refl _)
  obtain ⟨M, hM⟩ : ∃ M, ps.length = M := ⟨_, rfl⟩
  have hlen := h.few
  rw [hM] at hlen
  obtain ⟨ao, cap, ev⟩ : ∃ ao cap, v = .slice ao M cap := by obtain ⟨ao, cap, e, _⟩ := h; rw [hM] at e; exact ⟨_, _, e⟩
  subst ev
  have HA := Lib.hid ha
  have HR := Lib.hid hr
  have HBL := Lib.hid hbl
  have HW := Lib.hid hW
  have HB := Lib.hid hB
  have HS := Lib.hid hs
  have HM := Lib.hid hM
  clear ha hr hbl hs hW hM h
  go_enter Try.func33, Try.ntmps33
  go_upto_region 1 with fail
  rw [HW.out]
  clear hB
  refine wp_region_gen 6 [2, 5] [] [0, 0, 1, 0, 0, 1] (by kernel_rfl) (by kernel_rfl) (fun c a d v w h => by cases d <;> exact h) trivial (fun G w' => (∀ v, G 2 = some v → NoP W.heap.size (G 5 = none) v w') ∧ (∀ v, G 5 = some v → Pown w' W.heap.size v ps)) (fun G w w' h hb => ⟨fun v hv => (h.1 v hv).stay hb, fun v hv => (h.2 v hv).below hb (Nat.le_refl _)⟩) ⟨fun v hv => (by cases hv), fun v hv => (by cases hv)⟩ ?_
  apply Exists.intro
  refine ⟨fun R hR hN => ?_, ?_, ?_⟩
  · have A0 := fun z => LaterR.read (R := R) HA.out 0 _ rfl z
    have A1 := fun z => LaterR.read (R := R) HA.out 1 _ rfl z
    simp only [quietL, takeA]
    repeat (go_big_quiet_step (fail))
    exact wpQuiet_nil rfl
  · intro i oo hi ho
    have hi' : i = 2 ∨ i = 5 := by simpa using hi
    clear hi
    rcases hi' with rfl | rfl
    · cases ho
      intro G w' hG hGn hdep hb hR
      refine ⟨rfl, gives_none (by kernel_rfl) hGn ?_⟩
      unfold gives
      simp [go_sem]
      refine ⟨hb.alloc hb.size _, fun v hv => ?_, fun v hv => ?_⟩
      · rw [updV_eq] at hv; cases hv; exact ⟨_, rfl, hb.size, by simp, fun _ => has_new0⟩
      · rw [updV_ne G _ (by omega)] at hv; exact (hR.2 v hv).alloc _
    · cases ho
      intro G w' hG hGn hdep hb hR
      obtain ⟨v2, hv2⟩ := Option.ne_none_iff_exists'.1 (hdep 2 (by simp) (by kernel_rfl))
      obtain ⟨g, rfl, hg, hlt, hk⟩ := hR.1 v2 hv2
      refine ⟨rfl, gives_one (k := 2) (by kernel_rfl) hGn (by omega) hv2 ?_⟩
      obtain ⟨v', w'', hr, ho, hgr⟩ := append_all (hk hG) hg (HS.out.below hb (Nat.le_refl _)) HM.out 22
      refine gives_append (.tmp 5) (.tmp 7) 22 rfl rfl rfl hr ?_
      refine ⟨hb.grown hgr hb.size (fun k hk => by simp at hk; omega), fun v hv => ?_, fun v hv => ?_⟩
      · rw [updV_ne G _ (by omega)] at hv
        rw [hv2] at hv
        cases hv
        exact ⟨g, rfl, hg, Nat.lt_of_lt_of_le hlt hgr.size, fun e => by rw [updV_eq] at e; cases e⟩
      · rw [updV_eq] at hv; cases hv; exact ho
  · intro G w1 hb hR hG hN
    obtain ⟨v2, e2⟩ := hG 2 (by simp)
    obtain ⟨v5, e5⟩ := hG 5 (by simp)
    have ho := hR.2 v5 e5
    obtain ⟨al, cl, el⟩ := ho.len
    rw [HM.out] at el
    subst el
    simp only [putV, dstAt, e2, e5, hN 0 (by simp), hN 1 (by simp), hN 3 (by simp), hN 4 (by simp), List.drop_succ_cons, List.drop_zero, List.getElem?_cons_succ, List.getElem?_cons_zero, Option.bind_some]
    have kr := HR.out.below hb HR.out.lt
    have c0 := kr.cell 0 _ rfl
    have c1 := kr.cell 1 _ rfl
    have f0 := has_fro kr
    have G1 := Lib.hid (gives_put (w := w) (c := c) (r := B + 1) HB.out (ho.lower (by have := HBL.out.size; have := HB.out; omega)) (fun e => by have := (ho.base _ e).1; have := HR.out.lt; omega) (by omega) (HB.out ▸ HBL.out.trans (hb.mono HBL.out.size)) rfl (.bool c) _ rfl)
    have kz := has_set (has_set kr 0 (.bool c)) 1 (.slice al M cl)
    have u0 := kz.cell 0 _ rfl
    have u1 := kz.cell 1 _ rfl
    clear hR hG hN e2 e5 hb kr kz ho
    go_wp2
    refine bodyPost_ret (v := .agg #[.bool c, .slice al M cl]) (by simp [results, Try.results33, go_sem, u0, u1]) rfl ?_
    exact G1.out

end Go.Proofs.Ytgnmiilmmbblmaa

namespace Go.Proofs.Ytgnmiilmmbblmaa
open Go Go.RowKit
open M

/-- A poly is begun: its list of N zero places in block gs, the poly itself in block go. -/
structure OutZ (W : World) (B : Nat) (c : Bool) (N gs go : Nat) (V : World) : Prop where
  own : Pown V B (.slice (some ⟨gs, 0, none⟩) N N) (List.replicate N default)
  out : Has V go #[.bool c, .slice (some ⟨gs, 0, none⟩) N N] 24
  lg : W.heap.size ≤ gs
  lo : W.heap.size ≤ go
  ne : gs ≠ go
  below : Below W.heap.size W V
theorem outz_a {W : World} {B N : Nat} {c : Bool} (hB : B ≤ W.heap.size) (hN : N ≤ 8796093022208) : ∃ gs go V, ((W.alloc (.cells (zer N) 31)).alloc (.cells #[.bool c, .slice (some ⟨W.heap.size, 0, none⟩) N N] 24)).drew = V ∧ W.heap.size + 1 = go ∧ W.heap.size = gs ∧ OutZ W B c N gs go V :=
  ⟨_, _, _, rfl, rfl, rfl, (((own_made hN hB rfl).alloc _).drew), (has_new (by simp)).drew, Nat.le_refl _, by omega, by omega, below_drew (((Below.refl _ _).alloc (Nat.le_refl _) _).alloc (by simp) _)⟩
theorem outz_b {W : World} {B N : Nat} {c : Bool} (hB : B ≤ W.heap.size) (hN : N ≤ 8796093022208) : ∃ gs go V, ((W.alloc (.cells #[.bool c, .slice (some ⟨W.heap.size + 1, 0, none⟩) N N] 24)).alloc (.cells (zer N) 31)).drew = V ∧ W.heap.size + 1 = gs ∧ W.heap.size = go ∧ OutZ W B c N gs go V :=
  ⟨_, _, _, rfl, rfl, rfl, (own_made hN (by simp; omega) (by simp)).drew, ((has_new rfl).alloc _).drew, by omega, Nat.le_refl _, by omega, below_drew (((Below.refl _ _).alloc (Nat.le_refl _) _).alloc (by simp) _)⟩

set_option maxHeartbeats 1000000 in
theorem d_alone {v : Value} {ps : List Pt} {w : World} (c : Bool) (h : Psl w v ps) : Calls Try.prog 20 #[.agg #[.bool c, v]] w (GivesL w [(c, ps)]) := by
  have hs := h
  obtain ⟨ao, cap, rfl, hf, _⟩ := h
  obtain ⟨N, hN⟩ : ∃ N, ps.length = N := ⟨_, rfl⟩
  rw [hN] at hf hs ⊢
  have mk := make_pts (n := N) (by omega)
  obtain ⟨B, hB⟩ : ∃ B, w.heap.size = B := ⟨_, rfl⟩
  obtain ⟨W, hW⟩ : ∃ W, w.alloc (.cells #[.bool c, .slice ao N cap] 24) = W := ⟨_, rfl⟩
  have h0 : Has W B #[.bool c, .slice ao N cap] 24 := by rw [← hW]; exact has_new hB
  have hsz : W.heap.size = B + 1 := by rw [← hW]; simp [hB]
  have hbl : Below B w W := by rw [← hW]; exact (Below.refl _ _).alloc (by omega) _
  have hs' : Psl W (.slice ao N cap) ps := hs.below hbl (by omega)
  have a0 := h0.cell 0 _ rfl
  have a1 := h0.cell 1 _ rfl
  have a2 := fun o => (h0.alloc o).cell 0 _ rfl
  have a3 := fun o => (h0.alloc o).cell 1 _ rfl
  have a4 := fun o o' => ((h0.alloc o).alloc o').cell 0 _ rfl
  have a5 := fun o o' => ((h0.alloc o).alloc o').cell 1 _ rfl
  have HN := Lib.hid hN
  have HB := Lib.hid hB
  have HW := Lib.hid hW
  have H0 := Lib.hid h0
  have HBL := Lib.hid hbl
  have HS := Lib.hid hs'
  have HSZ := Lib.hid hsz
  have DON : Hid (∀ (gs go : Nat) (V : World), OutZ W B c N gs go V → ∃ V', (Builtin.copy_ #[22, 22] 3 #[.slice (some ⟨gs, 0, none⟩) N N, .slice ao N cap]).run Try.prog V = .ok (.int .i64 N) V' ∧ Has V' go #[.bool c, .slice (some ⟨gs, 0, none⟩) N N] 24 ∧ Has V B #[.bool c, .slice ao N cap] 24 ∧
      GivesL w [(c, ps)] (.returned (.slice (some ⟨V'.heap.size, 0, none⟩) 1 1)) (V'.alloc (.cells #[.bool c, .slice (some ⟨gs, 0, none⟩) N N] 24))) := Lib.hid (by
    intro gs go V D
    have l1 := D.lg
    have l2 := D.lo
    have l3 := HSZ.out
    obtain ⟨V', hcp, ho, hg⟩ := copy_pts D.own (by simp) ao cap (hs'.below D.below (Nat.le_refl _)) hN 3
    have q0 : Has V' go #[.bool c, .slice (some ⟨gs, 0, none⟩) N N] 24 := (hg.block go D.out.lt (by simpa using Ne.symm D.ne)).trans D.out
    have hb1 : Below B w V := hbl.trans (D.below.mono (by omega))
    have hb2 : Below B w V' := hb1.grown hg (by have := hb1.size; omega) (fun k hk => by simp at hk; omega)
    have hs2 : Psl V' (.slice (some ⟨gs, 0, none⟩) N N) ps := ho.sl (by rw [hN]; exact hf)
    refine ⟨V', hcp, q0, h0.below D.below h0.lt, _, [⟨c, .slice (some ⟨gs, 0, none⟩) N N, ps⟩], rfl, ysl_one (hs2.alloc _) (has_new rfl), rfl, ?_⟩
    rw [hB]
    exact hb2.alloc (by have := hb2.size; omega) _)
  clear hN hs hs' h0 hbl hW hsz
  go_enter Try.func20, Try.ntmps20
  go_wp2
  rw [HW.out]
  clear hB
  go_region
  · obtain ⟨gs, go, V, hV, hgo, hgs, D⟩ := outz_a (c := c) (B := B) (W := W) (N := N) (by have := HSZ.out; omega) hf
    rw [hV, hgo, hgs]
    obtain ⟨V', hcp, q0, k0, R⟩ := DON.out gs go V D
    have RH := Lib.hid R
    have b0 := k0.cell 0 _ rfl
    have b1 := k0.cell 1 _ rfl
    have o0 := D.out.cell 0 _ rfl
    have o1 := D.out.cell 1 _ rfl
    have p0 := q0.cell 0 _ rfl
    have p1 := q0.cell 1 _ rfl
    clear R k0 q0 D HS H0 HBL HSZ mk a0 a1 a2 a3 a4 a5 hV hgo hgs DON
    go_wp2
    go_ret
    exact RH.out
  · obtain ⟨gs, go, V, hV, hgs, hgo, D⟩ := outz_b (c := c) (B := B) (W := W) (N := N) (by have := HSZ.out; omega) hf
    rw [hV, hgs, hgo]
    obtain ⟨V', hcp, q0, k0, R⟩ := DON.out gs go V D
    have RH := Lib.hid R
    have b0 := k0.cell 0 _ rfl
    have b1 := k0.cell 1 _ rfl
    have o0 := D.out.cell 0 _ rfl
    have o1 := D.out.cell 1 _ rfl
    have p0 := q0.cell 0 _ rfl
    have p1 := q0.cell 1 _ rfl
    clear R k0 q0 D HS H0 HBL HSZ mk a0 a1 a2 a3 a4 a5 hV hgo hgs DON
    go_wp2
    go_ret
    exact RH.out

end Go.Proofs.Ytgnmiilmmbblmaa

namespace Go.Proofs.Ytgnmiilmmbblmaa
open Go Go.RowKit
open M

theorem ones_yls {ys : List Po} (h : ∀ i, i < ys.length → ∃ ao n cap, (po ys i).v = .slice ao n cap) : ∀ u ∈ yls ys, u.oneCell' = true := by
  induction ys with
  | nil => intro u hu; cases hu
  | cons y ys ih =>
    intro u hu
    rw [yls_cons] at hu
    rcases List.mem_append.1 hu with hu | hu
    · simp [yl] at hu
      obtain ⟨ao, n, cap, e⟩ := h 0 (by simp)
      rw [po_zero] at e
      rcases hu with rfl | rfl
      · rfl
      · rw [e]; rfl
    · exact ih (fun i hi => by have := h (i + 1) (by simpa using hi); rwa [po_cons] at this) u hu
/-- A list of polys of the call's own that grows. -/
structure Ygrow (w1 : World) (base : Nat) (f : Nat → Bool × List Pt) (n : Nat) (zs : List Po) (v : Value) (wr : World) : Prop where
  len : zs.length = n
  own : wr.ownsRow base 24 2 v n (yls zs)
  told : ∀ j, j < n → bareY (po zs j) = f j ∧ Psl wr (po zs j).v (po zs j).ps ∧ (∀ k, v.ownBlock = some k → (po zs j).v.ownBlock ≠ some k) ∧ (∃ ao n cap, (po zs j).v = .slice ao n cap) ∧ (∀ k, (po zs j).v.ownBlock = some k → k < wr.heap.size)
  below : Below w1.heap.size w1 wr
  lo : w1.heap.size ≤ base
theorem Ygrow.later {w1 wr w' : World} {base n : Nat} {f : Nat → Bool × List Pt} {zs : List Po} {v : Value} (h : Ygrow w1 base f n zs v wr) (hb : Below wr.heap.size wr w') : Ygrow w1 base f n zs v w' :=
  ⟨h.len, World.ownsRow.kept h.own (grownBy_below hb (Nat.le_refl _)) (by by_cases e : v.ownBlock = none; exact Or.inl e; exact Or.inr e), fun j hj => ⟨(h.told j hj).1, (h.told j hj).2.1.below hb (Nat.le_refl _), (h.told j hj).2.2.1, (h.told j hj).2.2.2.1, fun k hk => Nat.lt_of_lt_of_le ((h.told j hj).2.2.2.2 k hk) hb.size⟩, h.below.trans (hb.mono h.below.size), h.lo⟩
theorem Ygrow.sl {w1 wr : World} {base n : Nat} {f : Nat → Bool × List Pt} {zs : List Po} {v : Value} (h : Ygrow w1 base f n zs v wr) (hf : n ≤ 100) : Ysl wr v zs := by
  have hl := h.len
  rcases h.own.2 with ⟨rfl, hn⟩ | ⟨g, cap, cur, rfl, _, hg, _, _, _, ht⟩
  · exact ⟨none, 0, by rw [hl, hn], by omega, fun h0 => by omega⟩
  · refine ⟨_, cap, by rw [hl], by omega, fun _ => ⟨g, 0, rfl, yrow_of (by omega) (fun i hi => (h.told i (by omega)).2.1) fun j u hu => ?_⟩⟩
    rw [Nat.zero_add, cell_of_row wr g j cur _ _ hg]
    rw [← ht, List.getElem?_take] at hu
    split at hu
    · simpa using hu
    · cases hu
theorem Ygrow.shape {w1 wr : World} {base n : Nat} {f : Nat → Bool × List Pt} {zs : List Po} {v : Value} (h : Ygrow w1 base f n zs v wr) : ∃ ao cap, v = .slice ao n cap := by
  rcases h.own.2 with ⟨rfl, hn⟩ | ⟨g, cap, cur, rfl, _⟩
  · exact ⟨none, 0, by rw [hn]⟩
  · exact ⟨_, cap, rfl⟩
/-- One poly more: it lies in block H from cell o on. -/
theorem wp_append_yr {W w1 : World} {base n : Nat} {f : Nat → Bool × List Pt} {zs : List Po} {l : Value} {op : Oper} {a : Act} {K : Act → World → Prop} {Q : Exit → Act → World → Prop} (s x : Operand)
    (hop : op.op = .call { callee := .builtin .append, args := #[s, x], argTypes := #[37, 37] }) (hs : a.eval s = l) (H o c2 : Nat) (hx : a.eval x = .slice (some ⟨H, o, none⟩) 1 c2)
    (y : Po) (hc0 : W.cell? ⟨H, o, none⟩ = some (.bool y.cl)) (hc1 : W.cell? ⟨H, o + 1, none⟩ = some y.v) (hT : Ygrow w1 base f n zs l W) (hf : n ≤ 90) (hfy : bareY y = f n) (hy : Psl W y.v y.ps) (hyl : ∀ k, l.ownBlock = some k → y.v.ownBlock ≠ some k) (hyc : ∀ k, y.v.ownBlock = some k → k < W.heap.size) (hys : ∃ ao n cap, y.v = .slice ao n cap) (hb : base ≤ W.heap.size)
    (h : ∀ g' cap' w', Ygrow w1 base f (n + 1) (zs ++ [y]) (.slice (some ⟨g', 0, none⟩) (n + 1) cap') w' → K (a.put op.dst (.slice (some ⟨g', 0, none⟩) (n + 1) cap')) w') : op.wp Try.prog a W K Q := by
  obtain ⟨i0, hi, hz0, hz1, hz2⟩ := info_parts Try.infoPoly
  have h1 : ∀ u ∈ yl y, u.oneCell' = true := fun u hu => by
    simp [yl] at hu
    obtain ⟨ao, n, cap, e⟩ := hys
    rcases hu with rfl | rfl
    · rfl
    · rw [e]; rfl
  refine wp_append_lies W s x 37 hop base 24 i0 _ 2 32 Try.underlying37 hi hz0 hz1 hz2 rfl (by decide) l n (yls zs) hs hT.own ⟨H, o, none⟩ 1 c2 (yl y) hx rfl ?_ h1 (by decide) (by unfold maxLen; omega) (by omega) hb _ rfl ?_
  · intro j u hu
    rw [Addr.add_lit]
    have hj : j < 2 := by
      have := (List.getElem?_eq_some_iff.1 hu).1
      simpa [yl] using this
    rcases (show j = 0 ∨ j = 1 by omega) with rfl | rfl
    · simp [yl] at hu; rw [← hu]; exact hc0
    · simp [yl] at hu; rw [← hu]; exact hc1
  intro g' cap' w' hown' hg hat hlt
  have hgl : ∀ k, l.ownBlock = some k → k < W.heap.size ∧ base ≤ k := fun k hk => by
    have := World.ownsRow.lt hT.own k hk
    exact ⟨this.2, this.1⟩
  refine h g' cap' w' ⟨by simp [hT.len], ?_, fun j hj => ?_, ?_, hT.lo⟩
  · have e : yls (zs ++ [y]) = yls zs ++ yl y := by rw [yls_append]; simp [yls]
    rw [e]
    exact hown'
  · by_cases e : j = n
    · subst e
      have el : po (zs ++ [y]) j = y := by have := po_last zs y; rw [hT.len] at this; exact this
      rw [el]
      refine ⟨hfy, hy.grown hg (fun k hk e => hyl k hk e), fun k hk e2 => ?_, hys, fun k hk => Nat.lt_of_lt_of_le (hyc k hk) hg.size⟩
      have hk' : some g' = some k := hk
      simp at hk'
      subst hk'
      rcases hat with e3 | e3
      · exact hyl g' e3 e2
      · have := hyc g' e2; omega
    · rw [po_left (by rw [hT.len]; omega)]
      obtain ⟨a1, a2, a3, a4, a5⟩ := hT.told j (by omega)
      refine ⟨a1, a2.grown hg (fun k hk e => a3 k hk e), fun k hk e2 => ?_, a4, fun k hk => Nat.lt_of_lt_of_le (a5 k hk) hg.size⟩
      have hk' : some g' = some k := hk
      simp at hk'
      subst hk'
      rcases hat with e3 | e3
      · exact a3 g' e3 e2
      · have := a5 g' e2; omega
  · exact hT.below.grown hg hT.below.size (fun k hk => by have := (hgl k hk).2; have := hT.lo; omega)

/-- One poly more: it lies in a block H of its own. -/
theorem wp_append_y {W w1 : World} {base n : Nat} {f : Nat → Bool × List Pt} {zs : List Po} {l : Value} {op : Oper} {a : Act} {K : Act → World → Prop} {Q : Exit → Act → World → Prop} (s x : Operand)
    (hop : op.op = .call { callee := .builtin .append, args := #[s, x], argTypes := #[37, 37] }) (hs : a.eval s = l) (H : Nat) (hx : a.eval x = .slice (some ⟨H, 0, none⟩) 1 1)
    (y : Po) (hn : Has W H (yl y).toArray 24) (hT : Ygrow w1 base f n zs l W) (hf : n ≤ 90) (hfy : bareY y = f n) (hy : Psl W y.v y.ps) (hyl : ∀ k, l.ownBlock = some k → y.v.ownBlock ≠ some k) (hyc : ∀ k, y.v.ownBlock = some k → k < W.heap.size) (hys : ∃ ao n cap, y.v = .slice ao n cap) (hb : base ≤ W.heap.size)
    (h : ∀ g' cap' w', Ygrow w1 base f (n + 1) (zs ++ [y]) (.slice (some ⟨g', 0, none⟩) (n + 1) cap') w' → K (a.put op.dst (.slice (some ⟨g', 0, none⟩) (n + 1) cap')) w') : op.wp Try.prog a W K Q :=
  wp_append_yr s x hop hs H 0 1 hx y (hn.cell 0 _ (by simp [yl])) (hn.cell 1 _ (by simp [yl])) hT hf hfy hy hyl hyc hys hb h

theorem wpList_append_y {W w1 : World} {base n : Nat} {f : Nat → Bool × List Pt} {zs : List Po} {l : Value} {ops : Array Oper} {rest : List Oper} {op : Oper} {a : Act} {Q : Exit → Act → World → Prop} (hgd : op.guard = none) (s x : Operand)
    (hop : op.op = .call { callee := .builtin .append, args := #[s, x], argTypes := #[37, 37] }) (hs : a.eval s = l) (H : Nat) (hx : a.eval x = .slice (some ⟨H, 0, none⟩) 1 1)
    (y : Po) (hn : Has W H (yl y).toArray 24) (hT : Ygrow w1 base f n zs l W) (hf : n ≤ 90) (hfy : bareY y = f n) (hy : Psl W y.v y.ps) (hyl : ∀ k, l.ownBlock = some k → y.v.ownBlock ≠ some k) (hyc : ∀ k, y.v.ownBlock = some k → k < W.heap.size) (hys : ∃ ao n cap, y.v = .slice ao n cap) (hb : base ≤ W.heap.size)
    (h : ∀ g' cap' w', Ygrow w1 base f (n + 1) (zs ++ [y]) (.slice (some ⟨g', 0, none⟩) (n + 1) cap') w' → wpList Try.prog ops Q rest (a.put op.dst (.slice (some ⟨g', 0, none⟩) (n + 1) cap')) w') : wpList Try.prog ops Q (op :: rest) a W :=
  wpList_plain hgd fun _ hK => wp_append_y s x hop hs H hx y hn hT hf hfy hy hyl hyc hys hb fun g' cap' w' h1 => hK _ _ (h g' cap' w' h1)
/-- The value v is a list of places of the call's own. -/
def PtsV (base : Nat) (ps : List Pt) (v : Value) (w : World) : Prop := Psl w v ps ∧ (∀ k, v.ownBlock = some k → base ≤ k ∧ k < w.heap.size) ∧ ∃ ao n cap, v = .slice ao n cap
theorem PtsV.stay {base : Nat} {ps : List Pt} {v : Value} {w w' : World} (h : PtsV base ps v w) (hb : Below w.heap.size w w') : PtsV base ps v w' :=
  ⟨h.1.below hb (Nat.le_refl _), fun k hk => ⟨(h.2.1 k hk).1, Nat.lt_of_lt_of_le (h.2.1 k hk).2 hb.size⟩, h.2.2⟩


end Go.Proofs.Ytgnmiilmmbblmaa

namespace Go.Proofs.Ytgnmiilmmbblmaa
open Go Go.RowKit
open M

theorem Ygrow.re {w1 wr : World} {base n : Nat} {f f' : Nat → Bool × List Pt} {zs : List Po} {v : Value} (h : Ygrow w1 base f n zs v wr) (hf : ∀ j, j < n → bareY (po zs j) = f' j) : Ygrow w1 base f' n zs v wr :=
  ⟨h.len, h.own, fun j hj => ⟨hf j hj, (h.told j hj).2⟩, h.below, h.lo⟩
/-- A list of polys of the call's own: just these. -/
def Kp (w1 : World) (base : Nat) (L : List (Bool × List Pt)) (v : Value) (wr : World) : Prop := ∃ zs : List Po, zs.map bareY = L ∧ Ygrow w1 base (fun j => bareY (po zs j)) L.length zs v wr
theorem Kp.later {w1 wr w' : World} {base : Nat} {L : List (Bool × List Pt)} {v : Value} (h : Kp w1 base L v wr) (hb : Below wr.heap.size wr w') : Kp w1 base L v w' := by
  obtain ⟨zs, e, h⟩ := h
  exact ⟨zs, e, h.later hb⟩
theorem Kp.below {w1 wr : World} {base : Nat} {L : List (Bool × List Pt)} {v : Value} (h : Kp w1 base L v wr) : Below w1.heap.size w1 wr := by
  obtain ⟨zs, e, h⟩ := h
  exact h.below
theorem Kp.shape {w1 wr : World} {base : Nat} {L : List (Bool × List Pt)} {v : Value} (h : Kp w1 base L v wr) : ∃ ao cap, v = .slice ao L.length cap := by
  obtain ⟨zs, e, h⟩ := h
  exact h.shape
theorem Kp.start {w : World} {base : Nat} (hl : w.heap.size ≤ base) : Kp w base [] (.slice none 0 0) w := ⟨[], rfl, rfl, World.ownsRow_nil _ _ _ _, fun j hj => by simp at hj, Below.refl _ _, hl⟩
theorem Kp.gives {w wr : World} {base : Nat} {L : List (Bool × List Pt)} {v : Value} (h : Kp w base L v wr) (hf : L.length ≤ 100) : GivesL w L (.returned v) wr := by
  obtain ⟨zs, e, h⟩ := h
  exact ⟨v, zs, rfl, h.sl hf, e, h.below⟩
theorem Kp.young {w1 wr : World} {base : Nat} {L : List (Bool × List Pt)} {v : Value} (h : Kp w1 base L v wr) (k : Nat) (hk : v.ownBlock = some k) : k < wr.heap.size ∧ base ≤ k := by
  obtain ⟨zs, e, h⟩ := h
  have := World.ownsRow.lt h.own k hk
  exact ⟨this.2, this.1⟩
theorem wpList_append_k {W w1 : World} {base : Nat} {L : List (Bool × List Pt)} {l : Value} {ops : Array Oper} {rest : List Oper} {op : Oper} {a : Act} {Q : Exit → Act → World → Prop} (hgd : op.guard = none) (s x : Operand)
    (hop : op.op = .call { callee := .builtin .append, args := #[s, x], argTypes := #[37, 37] }) (hs : a.eval s = l) (H : Nat) (hx : a.eval x = .slice (some ⟨H, 0, none⟩) 1 1)
    (y : Po) (hn : Has W H (yl y).toArray 24) (hT : Kp w1 base L l W) (hf : L.length ≤ 90) (hy : Psl W y.v y.ps) (hyl : ∀ k, l.ownBlock = some k → y.v.ownBlock ≠ some k) (hyc : ∀ k, y.v.ownBlock = some k → k < W.heap.size) (hys : ∃ ao n cap, y.v = .slice ao n cap) (hb : base ≤ W.heap.size)
    (h : ∀ g' cap' w', Kp w1 base (L ++ [(y.cl, y.ps)]) (.slice (some ⟨g', 0, none⟩) (L.length + 1) cap') w' → wpList Try.prog ops Q rest (a.put op.dst (.slice (some ⟨g', 0, none⟩) (L.length + 1) cap')) w') : wpList Try.prog ops Q (op :: rest) a W := by
  obtain ⟨zs, e, hT⟩ := hT
  have hl := hT.len
  refine wpList_append_y hgd s x hop hs H hx y hn (hT.re (f' := fun j => bareY (po (zs ++ [y]) j)) (fun j hj => by rw [po_left (by omega)])) hf (by have := po_last zs y; rw [hl] at this; rw [this]) hy hyl hyc hys hb ?_
  intro g' cap' w' hY
  refine h g' cap' w' ⟨zs ++ [y], by rw [List.map_append, e]; rfl, ?_⟩
  rw [List.length_append]
  exact hY

end Go.Proofs.Ytgnmiilmmbblmaa

namespace Go.Proofs.Ytgnmiilmmbblmaa
open Go Go.RowKit
open M

set_option maxRecDepth 100000 in
set_option maxHeartbeats 2000000 in
theorem d_of (c : Bool) {v u : Value} {ps : List Pt} {ds : List Int} {w : World} (h : Psl w v ps) (hi : Isl w u ds) (h900 : ps.length ≤ 8796093022000) :
    Calls Try.prog 11 #[.agg #[.bool c, v], u] w (GivesL w (dashL c ps ds)) := by
  obtain ⟨B, hB⟩ : ∃ B, w.heap.size = B := ⟨_, rfl⟩
  obtain ⟨W, hW⟩ : ∃ W, w.alloc (.cells #[.bool c, v] 24) = W := ⟨_, rfl⟩
  have ha : Has W B #[.bool c, v] 24 := by rw [← hW]; exact has_new hB
  have hbl : Below w.heap.size w W := by rw [← hW]; exact (Below.refl _ _).alloc (Nat.le_refl _) _
  have hs := h.below hbl (Nat.le_refl _)
  have hiW := hi.below hbl
  have hf := hi.few
  obtain ⟨N, hN⟩ : ∃ N, ds.length = N := ⟨_, rfl⟩
  obtain ⟨au, cu, eu⟩ := hi.slice
  rw [hN] at eu hf
  subst eu
  obtain ⟨ao, n, cap, ev⟩ : ∃ ao n cap, v = .slice ao n cap := by obtain ⟨ao, cap, e, _⟩ := h; exact ⟨_, _, _, e⟩
  subst ev
  have HA := Lib.hid ha
  have HBL := Lib.hid hbl
  have HW := Lib.hid hW
  have HB := Lib.hid hB
  have HS := Lib.hid hs
  have HI := Lib.hid hiW
  have HN := Lib.hid hN
  have AL := Lib.hid (d_alone c hs)
  have RI := Lib.hid (d_right hiW)
  clear ha hbl hs hiW hW hN h hi
  by_cases h0 : N = 0
  · rw [dashL_none (by rw [HN.out]; exact h0)]
    have o1 : (N : Int) = 0 := by omega
    go_enter Try.func11, Try.ntmps11
    go_upto_region 1 with fail
    rw [HW.out]
    clear hB
    have a0 := HA.out.cell 0 _ rfl
    have a1 := HA.out.cell 1 _ rfl
    go_wp2_with fail
    refine AL.out.mono ?_
    rintro e w1 ⟨u, zs, rfl, hY, hz, hb1⟩
    obtain ⟨ao1, cap1, rfl⟩ := hY.slice
    have R : Hid (GivesL w [(c, ps)] (.returned (.slice ao1 zs.length cap1)) w1) := Lib.hid ⟨_, zs, rfl, hY, hz, HBL.out.trans (hb1.mono HBL.out.size)⟩
    clear hY hz hb1
    go_wp2
    go_ret
    exact R.out
  · have o1 : ¬ (N : Int) = 0 := by omega
    by_cases hok : okD ds = false
    · rw [dashL_bad hok]
      rw [hok] at RI
      clear hok
      go_enter Try.func11, Try.ntmps11
      go_upto_region 1 with fail
      rw [HW.out]
      clear hB
      have a0 := HA.out.cell 0 _ rfl
      have a1 := HA.out.cell 1 _ rfl
      go_wp2_with fail
      refine RI.out.mono ?_
      rintro e w' ⟨rfl, rfl⟩
      go_wp2_with fail
      refine AL.out.mono ?_
      rintro e w1 ⟨u, zs, rfl, hY, hz, hb1⟩
      obtain ⟨ao1, cap1, rfl⟩ := hY.slice
      have R : Hid (GivesL w [(c, ps)] (.returned (.slice ao1 zs.length cap1)) w1) := Lib.hid ⟨_, zs, rfl, hY, hz, HBL.out.trans (hb1.mono HBL.out.size)⟩
      clear hY hz hb1
      go_wp2
      go_ret
      exact R.out
    · have hok' : okD ds = true := by simpa using hok
      rw [dashL_some (by rw [HN.out]; omega) hok']
      rw [hok'] at RI
      have LE := Lib.hid (a_length c HS.out)
      have OK := Lib.hid hok'
      obtain ⟨L, hL⟩ : ∃ L, lengthL c ps = L := ⟨_, rfl⟩
      rw [hL] at LE
      have HL := Lib.hid hL
      clear hok hok' hL
      go_enter Try.func11, Try.ntmps11
      go_upto_region 1 with fail
      rw [HW.out]
      clear hB
      have a0 := HA.out.cell 0 _ rfl
      have a1 := HA.out.cell 1 _ rfl
      go_wp2_with fail
      refine RI.out.mono ?_
      rintro e w' ⟨rfl, rfl⟩
      go_wp2_with fail
      refine LE.out.mono ?_
      rintro e w1 ⟨rfl, hb1⟩
      have B1 := Lib.hid hb1
      clear hb1 a0 a1
      obtain ⟨S, hS⟩ : ∃ S, w1.heap.size = S := ⟨_, rfl⟩
      have HSS := Lib.hid hS
      have K0 : Hid (Kp w1 S (dashN c ps ds 0) (.slice none 0 0) w1) := Lib.hid (Kp.start (by omega))
      have M0 := Lib.hid (mk_zero ds)
      clear hS
      go_wp2_with fail
      go_loopw [5, 6, 8] (fun o f i wr => ∃ n : Nat, n ≤ 64 ∧ i = .int .i64 n ∧ f = .int .i64 (mk ds (2 * n)) ∧ Kp w1 S (dashN c ps ds n) o wr) (fun _ _ i _ => 64 - (intOf i).toNat)
      case atStart => exact ⟨0, by omega, rfl, rfl, K0.out⟩
      case round =>
        clear K0 M0
        obtain ⟨n, hn, rfl, ef, hk⟩ := hrel
        have HK := Lib.hid hk
        obtain ⟨aol, capl, rfl⟩ := hk.shape
        have hb := hk.below
        have F1 := mk_in OK.out (by have := HN.out; omega) (2 * n)
        obtain ⟨F, hF⟩ : ∃ F, mk ds (2 * n) = F := ⟨_, rfl⟩
        have FIN : Hid (¬ (n < 64 ∧ F < L) → dashN c ps ds 64 = dashN c ps ds n) := Lib.hid (fun hx => by
          by_cases e : n = 64
          · rw [e]
          · exact dashN_end OK.out (by have := HN.out; omega) (by rw [HL.out, hF]; omega) hn)
        rw [hF] at F1 ef
        subst ef
        have HFF := Lib.hid hF
        clear hF
        by_cases hlt : n < 64
        · have o3 : (n : Int) < 64 := by omega
          by_cases hFL : F < L
          · clear FIN
            have T1 : Hid (∀ w', Below W.heap.size W w' → Calls Try.prog 23 #[.slice au N cu, .int .i64 (2 * (n : Int))] w' fun e w'' => e = .returned (.int .i64 (tn ds (2 * n))) ∧ w' = w'') := Lib.hid (fun w' hq => by have := d_turn (HI.out.below hq) (by have := HN.out; omega) (2 * n) (by omega); rwa [show ((2 * n : Nat) : Int) = 2 * (n : Int) by omega] at this)
            have T2 : Hid (∀ w', Below W.heap.size W w' → Calls Try.prog 23 #[.slice au N cu, .int .i64 (2 * (n : Int) + 1)] w' fun e w'' => e = .returned (.int .i64 (tn ds (2 * n + 1))) ∧ w' = w'') := Lib.hid (fun w' hq => by have := d_turn (HI.out.below hq) (by have := HN.out; omega) (2 * n + 1) (by omega); rwa [show ((2 * n + 1 : Nat) : Int) = 2 * (n : Int) + 1 by omega] at this)
            have A1 : Hid (∀ w', Calls Try.prog 22 #[.int .i64 F, .int .i64 (tn ds (2 * n))] w' fun e w'' => e = .returned (.int .i64 (mk ds (2 * n + 1))) ∧ w' = w'') := Lib.hid (fun w' => by have := q_add F (tn ds (2 * n)) w'; rwa [← HFF.out, add_mk OK.out (by have := HN.out; omega) (by omega), HFF.out] at this)
            have A2 : Hid (∀ w', Calls Try.prog 22 #[.int .i64 (mk ds (2 * n + 1)), .int .i64 (tn ds (2 * n + 1))] w' fun e w'' => e = .returned (.int .i64 (mk ds (2 * (n + 1)))) ∧ w' = w'') := Lib.hid (fun w' => by have := q_add (mk ds (2 * n + 1)) (tn ds (2 * n + 1)) w'; rwa [add_mk OK.out (by have := HN.out; omega) (by omega), show 2 * n + 1 + 1 = 2 * (n + 1) by omega] at this)
            have BW := Lib.hid (B1.out.trans (hb.mono B1.out.size))
            have PT := Lib.hid (a_part c F (mk ds (2 * n + 1)) (HS.out.below BW.out (Nat.le_refl _)) h900)
            have KPP : Hid (∀ R, dashP c ps ds n = R → dashN c ps ds (n + 1) = if 2 ≤ R.length then dashN c ps ds n ++ [(false, R)] else dashN c ps ds n) := Lib.hid (fun R hR => by
              split
              · rw [dashN_yes (by rw [HL.out, HFF.out]; exact hFL) (by rw [hR]; assumption), hR]
              · rw [dashN_no (by rw [hR]; assumption)])
            have hpl := dashP_length c ps ds n
            have ecut : cutL c ps F (mk ds (2 * n + 1)) = dashP c ps ds n := by rw [← HFF.out]; rfl
            rw [ecut] at PT
            have KPQ := Lib.hid (KPP.out _ rfl)
            obtain ⟨R, hR⟩ : ∃ R, dashP c ps ds n = R := ⟨_, rfl⟩
            rw [hR] at PT KPQ hpl
            have HPL : Hid (R.length ≤ 8796093022208) := Lib.hid (by omega)
            have LL := Lib.hid (dashN_length c ps ds n)
            obtain ⟨x1, hx1⟩ : ∃ x, tn ds (2 * n) = x := ⟨_, rfl⟩
            obtain ⟨x2, hx2⟩ : ∃ x, tn ds (2 * n + 1) = x := ⟨_, rfl⟩
            obtain ⟨G, hG⟩ : ∃ x, mk ds (2 * n + 1) = x := ⟨_, rfl⟩
            obtain ⟨G2, hG2⟩ : ∃ x, mk ds (2 * (n + 1)) = x := ⟨_, rfl⟩
            rw [hx1] at T1 A1
            rw [hx2] at T2 A2
            rw [hG] at A1 A2 PT
            rw [hG2] at A2
            have HG2 := Lib.hid hG2
            have HAR := Lib.hid (HA.out.below BW.out HA.out.lt)
            clear hb hk hpl ecut hR hx1 hx2 hG hG2 KPP
            go_wp2_with fail
            refine (T1.out _ BW.out).mono ?_
            rintro e w' ⟨rfl, rfl⟩
            go_wp2_with fail
            refine (A1.out _).mono ?_
            rintro e w' ⟨rfl, rfl⟩
            have a0 := HAR.out.cell 0 _ rfl
            have a1 := HAR.out.cell 1 _ rfl
            go_wp2_with fail
            refine PT.out.mono ?_
            rintro e w2 ⟨l, rfl, hol, hb2⟩
            obtain ⟨rl, hrl⟩ : ∃ k, R.length = k := ⟨_, rfl⟩
            obtain ⟨al, cl, el⟩ := hol.len
            rw [hrl] at el
            subst el
            obtain ⟨gx, hgx⟩ : ∃ g, w2.heap.size = g := ⟨_, rfl⟩
            obtain ⟨X, hX⟩ : ∃ X, w2.alloc (.cells #[.bool false, .slice al rl cl] 24) = X := ⟨_, rfl⟩
            have bX : Below wr.heap.size wr X := by rw [← hX]; exact hb2.alloc hb2.size _
            have kx : Has X gx #[.bool false, .slice al rl cl] 24 := by rw [← hX]; exact has_new hgx
            have KX := Lib.hid (HK.out.later bX)
            have BX := Lib.hid (BW.out.trans (bX.mono BW.out.size))
            have OX : Hid (Pown X wr.heap.size (.slice al rl cl) R) := Lib.hid (by rw [← hX]; exact hol.alloc _)
            have HX := Lib.hid hX
            have KXX := Lib.hid kx
            have HRL := Lib.hid hrl
            clear hol hb2 hX hrl a0 a1 bX kx
            go_upto_region 11 with fail
            rw [HX.out]
            clear hgx
            have y0 := KXX.out.cell 0 _ rfl
            have y1 := KXX.out.cell 1 _ rfl
            by_cases h2 : 2 ≤ rl
            · have h2' : (2 : Int) ≤ rl := by omega
              have KE : Hid (dashN c ps ds (n + 1) = dashN c ps ds n ++ [(false, R)]) := Lib.hid (by rw [KPQ.out, if_pos (by rw [HRL.out]; exact h2)])
              have bA : Below X.heap.size X (X.alloc (.cells #[.bool false, .slice al rl cl] 24)) := (Below.refl _ _).alloc (Nat.le_refl _) _
              have KA := Lib.hid (KX.out.later bA)
              have PA := Lib.hid ((OX.out.sl HPL.out).alloc (.cells #[.bool false, .slice al rl cl] 24))
              have YL : Hid (∀ k, Value.ownBlock (.slice aol (dashN c ps ds n).length capl) = some k → Value.ownBlock (.slice al rl cl) ≠ some k) := Lib.hid (fun k hk1 hk2 => by have := (HK.out.young k hk1).1; have := (OX.out.base k hk2).1; omega)
              have YK : Hid (∀ k, Value.ownBlock (.slice al rl cl) = some k → k < (X.alloc (.cells #[.bool false, .slice al rl cl] 24)).heap.size) := Lib.hid (fun k hk1 => by have := (OX.out.base k hk1).2; simp; omega)
              have SB : Hid (S ≤ (X.alloc (.cells #[.bool false, .slice al rl cl] 24)).heap.size) := Lib.hid (by have := KX.out.below.size; have := HSS.out; simp; omega)
              have N90 : Hid ((dashN c ps ds n).length ≤ 90) := Lib.hid (by have := LL.out; omega)
              clear bA
              go_wp2_with (at_builtin; refine wpList_append_k rfl _ _ rfl rfl X.heap.size rfl ⟨false, .slice al rl cl, R⟩ (has_new rfl) KA.out N90.out PA.out YL.out YK.out ⟨_, _, _, rfl⟩ SB.out ?_)
              intro g' cap' w4 hY
              have SK := Lib.hid hY
              have B4 := Lib.hid (B1.out.trans (hY.below.mono B1.out.size))
              clear hY y0 y1
              go_wp2_with fail
              refine (T2.out _ B4.out).mono ?_
              rintro e w' ⟨rfl, rfl⟩
              go_wp2_with fail
              refine (A2.out _).mono ?_
              rintro e w' ⟨rfl, rfl⟩
              go_wp2
              go_roundw
              case rel => exact ⟨n + 1, by omega, by go_num, by rw [HG2.out], by rw [KE.out]; exact SK.out⟩
              case measure => simp [intOf]; omega
            · have h2' : ¬ (2 : Int) ≤ rl := by omega
              have KE : Hid (dashN c ps ds (n + 1) = dashN c ps ds n) := Lib.hid (by rw [KPQ.out, if_neg (by rw [HRL.out]; exact h2)])
              go_wp2_with fail
              refine (T2.out _ BX.out).mono ?_
              rintro e w' ⟨rfl, rfl⟩
              go_wp2_with fail
              refine (A2.out _).mono ?_
              rintro e w' ⟨rfl, rfl⟩
              go_wp2
              go_roundw
              case rel => exact ⟨n + 1, by omega, by go_num, by rw [HG2.out], by rw [KE.out]; exact KX.out⟩
              case measure => simp [intOf]; omega
          · have R : Hid (GivesL w (dashN c ps ds 64) (.returned (.slice aol (dashN c ps ds n).length capl)) wr) := Lib.hid (by
              rw [FIN.out (by omega)]
              exact (HK.out.gives (by have := dashN_length c ps ds n; omega)).on (HBL.out.trans (B1.out.mono HBL.out.size)))
            clear hk hb FIN
            go_wp2
            go_ret
            exact R.out
        · have R : Hid (GivesL w (dashN c ps ds 64) (.returned (.slice aol (dashN c ps ds n).length capl)) wr) := Lib.hid (by
            rw [FIN.out (by omega)]
            exact (HK.out.gives (by have := dashN_length c ps ds n; omega)).on (HBL.out.trans (B1.out.mono HBL.out.size)))
          have o3 : ¬ (n : Int) < 64 := by omega
          clear hk hb FIN
          go_wp2
          go_ret
          exact R.out

end Go.Proofs.Ytgnmiilmmbblmaa

namespace Go.Proofs.Ytgnmiilmmbblmaa
open Go Go.RowKit
open M

set_option maxRecDepth 100000 in
set_option maxHeartbeats 2000000 in
theorem r8_polys {v u : Value} {ys zs : List Po} {w : World} (h : Ysl w v ys) (h2 : Ysl w u zs) (hl : ys.length = zs.length) (he : ∀ j, j < ys.length → bareY (po ys j) = bareY (po zs j)) :
    Calls Try.prog 13 #[v, u] w fun e w' => e = .returned (.bool true) ∧ Below w.heap.size w w' := by
  have hs := h
  have hs2 := h2
  obtain ⟨ao, cap, rfl, hf, _⟩ := h
  obtain ⟨ao2, cap2, rfl, hf2, _⟩ := h2
  obtain ⟨N, hN⟩ : ∃ N, ys.length = N := ⟨_, rfl⟩
  rw [hN] at hl he hf hs
  rw [← hl] at hs2 hf2 ⊢
  rw [hN]
  have HS := Lib.hid hs
  have HS2 := Lib.hid hs2
  have HE := Lib.hid he
  have HN := Lib.hid hN
  have HL := Lib.hid hl
  clear hs hs2 he hN hl hf2
  go_enter Try.func13, Try.ntmps13
  go_wp2
  go_loopw [5] (fun i wr => ∃ n : Nat, n ≤ N ∧ i = .int .i64 n ∧ Below w.heap.size w wr) (fun i _ => N - (intOf i).toNat)
  case atStart => exact ⟨0, by omega, rfl, Below.refl _ _⟩
  case round =>
    obtain ⟨n, hn, rfl, hb⟩ := hrel
    by_cases hlt : n < N
    · obtain ⟨g, o, e1, r, l1⟩ := (HS.out.below hb).row (by omega)
      obtain ⟨g2, o2, e2, r2, l2⟩ := (HS2.out.below hb).row (by omega)
      subst e1 e2
      have b0 := HE.out n hlt
      have sa := r.sl n (by omega)
      have sb := r2.sl n (by omega)
      have c0 := r.c0 n (by omega)
      have c1 := r.c1 n (by omega)
      have d0 := r2.c0 n (by omega)
      have d1 := r2.c1 n (by omega)
      obtain ⟨y, hy⟩ : ∃ y, po ys n = y := ⟨_, rfl⟩
      obtain ⟨z, hz⟩ : ∃ y, po zs n = y := ⟨_, rfl⟩
      rw [hy] at b0 sa c0 c1
      rw [hz] at b0 sb d0 d1
      obtain ⟨c, vy, ps⟩ := y
      obtain ⟨c', vz, qs⟩ := z
      simp only [bareY, Prod.mk.injEq] at b0
      obtain ⟨rfl, rfl⟩ := b0
      simp only at sa sb c0 c1 d0 d1
      have y0 := fun z : Later wr => (z.below.cell (p := ⟨g, _, _⟩) (World.block_lt_of_cell? wr _ c0)).trans c0
      have y1 := fun z : Later wr => (z.below.cell (p := ⟨g, _, _⟩) (World.block_lt_of_cell? wr _ c1)).trans c1
      have z0 := fun z : Later wr => (z.below.cell (p := ⟨g2, _, _⟩) (World.block_lt_of_cell? wr _ d0)).trans d0
      have z1 := fun z : Later wr => (z.below.cell (p := ⟨g2, _, _⟩) (World.block_lt_of_cell? wr _ d1)).trans d1
      have PT : Hid (∀ z : Later wr, Calls Try.prog 29 #[vy, vz] z.to fun e w' => e = .returned (.bool true) ∧ Below z.to.heap.size z.to w') := Lib.hid (fun z => by have := r8_points (sa.later z) (sb.later z); rw [decide_eq_true rfl] at this; exact this)
      obtain ⟨aoy, ny, capy, evy⟩ : ∃ ao n cap, vy = .slice ao n cap := by obtain ⟨ao, cap, hv, _⟩ := sa; exact ⟨_, _, _, hv⟩
      obtain ⟨aoz, nz, capz, evz⟩ : ∃ ao n cap, vz = .slice ao n cap := by obtain ⟨ao, cap, hv, _⟩ := sb; exact ⟨_, _, _, hv⟩
      subst evy evz
      have HBB := Lib.hid hb
      have o3 : (n : Int) < N := by omega
      have o4 : n < N := hlt
      clear r r2 l1 l2 hy hz hb sa sb c0 c1 d0 d1
      go_upto_region 6 with fail
      refine wp_region_class (C := fun w' => ∃ z : Later wr, w' = z.to) (by kernel_rfl) (by kernel_rfl) ⟨⟨_, below_drew (Below.refl _ _)⟩, rfl⟩ ?_
      repeat (go_big_quiet_step (first | (go_at_call 29; exact Later.calls (PT.out _))))
      refine wpQuiet_nil ?_
      rintro _ ⟨z, rfl⟩
      have BZ := Lib.hid (HBB.out.trans (z.below.mono HBB.out.size))
      clear y0 y1 z0 z1
      go_wp2
      go_roundw
      case rel => exact ⟨n + 1, by omega, by go_num, BZ.out⟩
      case measure => simp [intOf]; omega
    · obtain rfl : n = N := by omega
      have o3 : ¬ (n : Int) < n := by omega
      have HBB := Lib.hid hb
      clear hb
      go_wp2
      go_ret
      exact ⟨rfl, HBB.out⟩

end Go.Proofs.Ytgnmiilmmbblmaa

namespace Go.Proofs.Ytgnmiilmmbblmaa
open Go Go.RowKit
open M

theorem bares_len {ys zs : List Po} (h : ys.map bareY = zs.map bareY) : ys.length = zs.length := by simpa using congrArg List.length h
theorem bares_at {ys zs : List Po} (h : ys.map bareY = zs.map bareY) : ∀ j, j < ys.length → bareY (po ys j) = bareY (po zs j) := by
  intro j hj
  have hl := bares_len h
  have := congrArg (fun l => l[j]?) h
  simp [hj, show j < zs.length by omega] at this
  unfold po
  rw [List.getD_eq_getElem?_getD, List.getD_eq_getElem?_getD, List.getElem?_eq_getElem hj, List.getElem?_eq_getElem (by omega)]
  exact this
theorem bares_one {zs : List Po} {c : Bool} {ps : List Pt} (h : zs.map bareY = [(c, ps)]) : ∃ l, zs = [⟨c, l, ps⟩] := by
  match zs, h with
  | [⟨c', l, ps'⟩], h =>
    simp [bareY] at h
    obtain ⟨rfl, rfl⟩ := h
    exact ⟨l, rfl⟩

def kn10 : List Pt := [⟨0, 0⟩, ⟨655360, 0⟩]
theorem kn10_sa : sa kn10 0 = ⟨0, 0⟩ := by decide +kernel
theorem kn10_sb : sb kn10 0 = ⟨655360, 0⟩ := by decide +kernel
theorem kn10_side : sideL kn10 0 = 655360 := by
  unfold sideL longP
  rw [kn10_sa, kn10_sb]
  unfold hyp
  rw [show (wide ((655360 : Int) - 0) * wide (655360 - 0) + wide (0 - 0) * wide (0 - 0)).toNat = 429496729600 by decide +kernel, isq_eq (r := 655360) (by decide) (by decide)]
  rfl
theorem kn10_len : lengthL false kn10 = 655360 := by
  show add (lenN kn10 0) (sideL kn10 0) = 655360
  rw [kn10_side, lenN_zero]
  decide +kernel
theorem kn10_half : partP 0 32768 false kn10 = [⟨0, 0⟩, ⟨327680, 0⟩] := by
  unfold partP
  rw [kn10_len, show mul 655360 0 = 0 by decide +kernel, show mul 655360 32768 = 327680 by decide +kernel, cutL_yes (by decide +kernel), show hold 0 = 0 by decide +kernel, show hold 327680 = 327680 by decide +kernel]
  show cutN kn10 0 327680 (0 + 1) = _
  rw [cutN_first (by unfold hit; rw [kn10_side, lenN_zero]; decide) rfl]
  unfold fromP
  rw [kn10_side, lenN_zero, kn10_sa, kn10_sb]
  decide +kernel
theorem kn10_h : trim1 32768 0 false kn10 = [(false, [⟨0, 0⟩, ⟨327680, 0⟩])] := by
  unfold trim1
  rw [show spA 32768 0 = 0 by decide +kernel, show spB 32768 0 = 32768 by decide +kernel, if_neg (by decide), kn10_half]
  rfl
theorem kn10_a : trim1 0 65536 false kn10 = [(false, kn10)] := by
  unfold trim1
  rw [if_pos (by decide +kernel)]
theorem kn10_n : trim1 5 5 false kn10 = [] := by
  unfold trim1
  rw [show spA 5 5 = 5 by decide +kernel, show spB 5 5 = 5 by decide +kernel, if_neg (by decide)]
  unfold partP
  rw [cutL_no (Int.le_refl _)]
  rfl
theorem kn10_s : spA 9 (-1) = 0 ∧ spB 9 (-1) = 9 := by decide +kernel

end Go.Proofs.Ytgnmiilmmbblmaa

namespace Go.Proofs.Ytgnmiilmmbblmaa
open Go Go.RowKit
open M

def kn11 : List Pt := [⟨0, 0⟩, ⟨1048576, 0⟩]
def kd11 : List Int := [131072, 196608]
theorem kn11_sa : sa kn11 0 = ⟨0, 0⟩ := by decide +kernel
theorem kn11_sb : sb kn11 0 = ⟨1048576, 0⟩ := by decide +kernel
theorem kn11_side : sideL kn11 0 = 1048576 := by
  unfold sideL longP
  rw [kn11_sa, kn11_sb]
  unfold hyp
  rw [show (wide ((1048576 : Int) - 0) * wide (1048576 - 0) + wide (0 - 0) * wide (0 - 0)).toNat = 1099511627776 by decide +kernel, isq_eq (r := 1048576) (by decide) (by decide)]
  rfl
theorem kn11_len : lengthL false kn11 = 1048576 := by
  show add (lenN kn11 0) (sideL kn11 0) = 1048576
  rw [kn11_side, lenN_zero]
  decide +kernel
theorem kn11_cut {f t : Int} (h : hit kn11 f t 0) : cutN kn11 f t 1 = [onP ⟨0, 0⟩ ⟨1048576, 0⟩ (f - 0) 1048576] ++ [onP ⟨0, 0⟩ ⟨1048576, 0⟩ (t - 0) 1048576] := by
  rw [cutN_first h rfl]
  unfold fromP
  rw [kn11_side, lenN_zero, kn11_sa, kn11_sb]
theorem kn11_dash {n : Nat} {f t : Int} (h1 : mk kd11 (2 * n) = f) (h2 : mk kd11 (2 * n + 1) = t) (h3 : ¬ hold t ≤ hold f) (h4 : 0 < (1048576 : Int) ∧ hold f < 0 + (1048576 : Int) ∧ 0 < hold t) : dashP false kn11 kd11 n = [onP ⟨0, 0⟩ ⟨1048576, 0⟩ (hold f - 0) 1048576] ++ [onP ⟨0, 0⟩ ⟨1048576, 0⟩ (hold t - 0) 1048576] := by
  unfold dashP
  rw [h1, h2, cutL_yes h3]
  exact kn11_cut (by unfold hit; rw [kn11_side, lenN_zero]; exact h4)
theorem kn11_0 : dashP false kn11 kd11 0 = [⟨0, 0⟩, ⟨131072, 0⟩] := by
  rw [kn11_dash (f := 0) (t := 131072) (by decide +kernel) (by decide +kernel) (by decide +kernel) (by decide +kernel)]
  decide +kernel
theorem kn11_1 : dashP false kn11 kd11 1 = [⟨327680, 0⟩, ⟨458752, 0⟩] := by
  rw [kn11_dash (f := 327680) (t := 458752) (by decide +kernel) (by decide +kernel) (by decide +kernel) (by decide +kernel)]
  decide +kernel
theorem kn11_2 : dashP false kn11 kd11 2 = [⟨655360, 0⟩, ⟨786432, 0⟩] := by
  rw [kn11_dash (f := 655360) (t := 786432) (by decide +kernel) (by decide +kernel) (by decide +kernel) (by decide +kernel)]
  decide +kernel
theorem kn11_3 : dashP false kn11 kd11 3 = [⟨983040, 0⟩, ⟨1048576, 0⟩] := by
  rw [kn11_dash (f := 983040) (t := 1114112) (by decide +kernel) (by decide +kernel) (by decide +kernel) (by decide +kernel)]
  decide +kernel
theorem kn11_all : dashL false kn11 kd11 = [(false, [⟨0, 0⟩, ⟨131072, 0⟩]), (false, [⟨327680, 0⟩, ⟨458752, 0⟩]), (false, [⟨655360, 0⟩, ⟨786432, 0⟩]), (false, [⟨983040, 0⟩, ⟨1048576, 0⟩])] := by
  have ok : okD kd11 = true := by decide +kernel
  rw [dashL_some (by decide) ok, dashN_end (n := 4) ok (by decide) (by rw [kn11_len]; decide +kernel) (by decide)]
  rw [dashN_yes (n := 3) (by rw [kn11_len]; decide +kernel) (by rw [kn11_3]; decide), dashN_yes (n := 2) (by rw [kn11_len]; decide +kernel) (by rw [kn11_2]; decide), dashN_yes (n := 1) (by rw [kn11_len]; decide +kernel) (by rw [kn11_1]; decide), dashN_yes (n := 0) (by rw [kn11_len]; decide +kernel) (by rw [kn11_0]; decide), kn11_0, kn11_1, kn11_2, kn11_3, dashN_zero]
  rfl
theorem bares_four {zs : List Po} {p0 p1 p2 p3 : List Pt} (h : zs.map bareY = [(false, p0), (false, p1), (false, p2), (false, p3)]) : zs.length = 4 ∧ (po zs 0).ps = p0 ∧ (po zs 1).ps = p1 := by
  match zs, h with
  | [⟨c, l, ps⟩, ⟨c1, l1, ps1⟩, ⟨c2, l2, ps2⟩, ⟨c3, l3, ps3⟩], h =>
    simp [bareY] at h
    obtain ⟨⟨rfl, rfl⟩, ⟨rfl, rfl⟩, ⟨rfl, rfl⟩, rfl, rfl⟩ := h
    exact ⟨rfl, rfl, rfl⟩

set_option maxRecDepth 100000 in
set_option maxHeartbeats 2000000 in
theorem known11 (w : World) : Calls Try.prog 10 #[] w fun r w' => r = .returned (.bool true) ∧ Below w.heap.size w w' := by
  obtain ⟨B, hB⟩ : ∃ B, w.heap.size = B := ⟨_, rfl⟩
  obtain ⟨W, hW⟩ : ∃ W, ((w.alloc (.cells #[.int .i64 0, .int .i64 0, .int .i64 1048576, .int .i64 0] 31)).alloc (.cells #[.bool false, .slice (some ⟨B, 0, none⟩) 2 2] 24)).alloc (.cells #[.int .i64 131072, .int .i64 196608] 2) = W := ⟨_, rfl⟩
  have k0 : Has W B #[.int .i64 0, .int .i64 0, .int .i64 1048576, .int .i64 0] 31 := by rw [← hW]; exact ((has_new hB).alloc _).alloc _
  have k2 : Has W (B + 2) #[.int .i64 131072, .int .i64 196608] 2 := by rw [← hW]; exact has_new (by simp [hB])
  have hs : Psl W (.slice (some ⟨B, 0, none⟩) 2 2) kn11 := psl_lit (ps := kn11) 2 2 rfl (by decide) k0 rfl
  have hi : Isl W (.slice (some ⟨B + 2, 0, none⟩) 2 2) kd11 := isl_lit (ds := kd11) rfl (by decide) k2 rfl
  have bW : Below w.heap.size w W := by rw [← hW]; exact (((Below.refl _ _).alloc (by omega) _).alloc (by simp) _).alloc (by simp; omega) _
  have OF := Lib.hid (kn11_all ▸ d_of false hs hi (by decide))
  have BW := Lib.hid bW
  have HW := Lib.hid hW
  have RN := Lib.hid (fun (w' : World) => (show okD [] = true by decide +kernel) ▸ d_right (isl_nil w' none 0))
  have RZ := Lib.hid (fun (w' : World) => (show okD [0] = false by decide +kernel) ▸ d_right (isl_lit (ds := [0]) (n := 1) (c := 1) rfl (by decide) (has_new (w := w') (cs := #[.int .i64 0]) (t := 2) rfl) rfl))
  clear hs hi bW hW k0 k2
  go_enter Try.func10, Try.ntmps10
  go_wp2_with fail
  rw [HW.out]
  clear hB
  refine OF.out.mono ?_
  rintro e w1 ⟨v1, z1, rfl, hy1, hz1, hb1⟩
  obtain ⟨h4, p0, p1⟩ := bares_four hz1
  obtain ⟨ao1, cap1, rfl⟩ := hy1.slice
  rw [h4] at hy1 ⊢
  obtain ⟨g, o, e1, row, _⟩ := hy1.row (by decide)
  subst e1
  have c1 := row.c1 0 (by omega)
  have d1 := row.c1 1 (by omega)
  have s1 := row.sl 0 (by omega)
  have t1 := row.sl 1 (by omega)
  rw [p0] at s1
  rw [p1] at t1
  simp only [Nat.zero_mul, Nat.one_mul, Nat.add_zero] at c1 d1
  obtain ⟨ao4, cap4, ev, _, hr4⟩ := s1
  obtain ⟨g4, o4, e4, r4⟩ := hr4 (by decide)
  obtain ⟨ao5, cap5, ev5, _, hr5⟩ := t1
  obtain ⟨g5, o5, e5, r5⟩ := hr5 (by decide)
  subst e4
  subst e5
  rw [ev] at c1
  rw [ev5] at d1
  have x1 := r4.c0 1 (by decide)
  have x2 := r5.c0 0 (by decide)
  simp only [Nat.one_mul, Nat.zero_mul, Nat.add_zero, pt_cons, pt_zero] at x1 x2
  have B1 := Lib.hid (BW.out.trans (hb1.mono BW.out.size))
  clear hy1 hz1 hb1 row hr4 hr5 r4 r5 p0 p1 ev ev5
  go_wp2_with fail
  refine (RZ.out _).mono ?_
  rintro e w2 ⟨rfl, rfl⟩
  have B2 := Lib.hid (B1.out.alloc B1.out.size (.cells #[.int .i64 0] 2))
  go_wp2_with fail
  refine (RN.out _).mono ?_
  rintro e w3 ⟨rfl, rfl⟩
  go_wp2
  go_ret
  exact ⟨rfl, B2.out⟩

end Go.Proofs.Ytgnmiilmmbblmaa

namespace Go.Proofs.Ytgnmiilmmbblmaa
namespace M

/-- The place d of l on the way, as a share of the way. -/
theorem onP_at {a b : Pt} {d l : Int} (ha : Sm a) (hb : Sm b) (l0 : 0 < l) (l9 : l ≤ 1518500249) (d0 : 0 ≤ d) (d9 : d ≤ 1099511627776) :
    ∃ t : Int, 0 ≤ t ∧ t ≤ 65536 ∧ onP a b d l = ⟨a.x + (b.x - a.x) * t / 65536, a.y + (b.y - a.y) * t / 65536⟩ ∧ t * l ≤ 65536 * min d l ∧ 65536 * min d l < t * l + l := by
  obtain ⟨a1, a2, a3, a4⟩ := id ha
  obtain ⟨b1, b2, b3, b4⟩ := id hb
  have hd : hold d = d := hold_in (by omega) (by omega)
  have hll : hold l = l := hold_in (by omega) (by omega)
  by_cases h0 : d = 0
  · refine ⟨0, by omega, by omega, ?_, by omega, by omega⟩
    rw [onP_a (by rw [hd]; omega), ha.plc, Int.mul_zero, Int.mul_zero]
    simp
  · by_cases h1 : l ≤ d
    · refine ⟨65536, by omega, by omega, ?_, by omega, by omega⟩
      rw [onP_b (by rw [hd]; omega) (by rw [hd]; omega), hb.plc, Int.mul_ediv_cancel _ (by decide), Int.mul_ediv_cancel _ (by decide)]
      rw [show a.x + (b.x - a.x) = b.x by omega, show a.y + (b.y - a.y) = b.y by omega]
    · have pax : place a.x = a.x := congrArg Pt.x ha.plc
      have pay : place a.y = a.y := congrArg Pt.y ha.plc
      have pbx : place b.x = b.x := congrArg Pt.x hb.plc
      have pby : place b.y = b.y := congrArg Pt.y hb.plc
      have q1 : 0 ≤ d * 65536 / l := Int.ediv_nonneg (by omega) (by omega)
      have q2 : d * 65536 / l ≤ 65536 := by
        have : d * 65536 / l < 65537 := Int.ediv_lt_of_lt_mul (by omega) (by omega)
        omega
      have ed : dv d l = d * 65536 / l := by
        unfold dv flo
        rw [hd, hll, if_neg (by omega), if_pos (by omega), hold_in (by omega) (by omega)]
      have m1 : l * (d * 65536 / l) ≤ d * 65536 := Int.mul_ediv_self_le (by omega)
      have m2 : d * 65536 < l * (d * 65536 / l) + l := Int.lt_mul_ediv_self_add (by omega)
      refine ⟨d * 65536 / l, q1, q2, ?_, ?_, ?_⟩
      · rw [onP_mid (by rw [hd]; omega) (by rw [hd]; omega), hd, ed, pax, pay, pbx, pby, mid_small (by omega) (by omega) (by omega) (by omega) q1 q2, mid_small (by omega) (by omega) (by omega) (by omega) q1 q2]
      · rw [Int.mul_comm, Int.min_eq_left (by omega)]; omega
      · rw [Int.mul_comm (d * 65536 / l) l, Int.min_eq_left (by omega)]; omega
theorem onP_sm {a b : Pt} {d l : Int} (ha : Sm a) (hb : Sm b) (l0 : 0 < l) (l9 : l ≤ 1518500249) (d0 : 0 ≤ d) (d9 : d ≤ 1099511627776) : Sm (onP a b d l) := by
  obtain ⟨t, t0, t9, e, _, _⟩ := onP_at ha hb l0 l9 d0 d9
  obtain ⟨a1, a2, a3, a4⟩ := id ha
  obtain ⟨b1, b2, b3, b4⟩ := id hb
  have ix := mid_in (x := a.x) (y := b.x) (k := t) (by omega) (by omega) (by omega) (by omega) t0 t9
  have iy := mid_in (x := a.y) (y := b.y) (k := t) (by omega) (by omega) (by omega) (by omega) t0 t9
  rw [mid_small (by omega) (by omega) (by omega) (by omega) t0 t9] at ix iy
  rw [e]
  exact ⟨by simp only; omega, by simp only; omega, by simp only; omega, by simp only; omega⟩
/-- How long the way between two places on a side is. -/
theorem seg {a b : Pt} {d1 d2 l : Int} (ha : Sm a) (hb : Sm b) (hl : longP a b = l) (l0 : 0 < l) (l9 : l ≤ 2500000) (h1 : 0 ≤ d1) (h2 : d1 < l) (h12 : d1 ≤ d2) (h9 : d2 ≤ 1099511627776) :
    longP (onP a b d1 l) (onP a b d2 l) ≤ min d2 l - d1 + 42 := by
  have s1 := onP_sm ha hb l0 (by omega) h1 (by omega)
  have s2 := onP_sm ha hb l0 (by omega) (by omega) h9
  obtain ⟨t1, t10, t19, e1, _, f1⟩ := onP_at ha hb l0 (by omega) h1 (by omega)
  obtain ⟨t2, t20, t29, e2, g2, _⟩ := onP_at ha hb l0 (by omega) (show 0 ≤ d2 by omega) h9
  rw [Int.min_eq_left (by omega)] at f1
  obtain ⟨m, hm⟩ : ∃ m, min d2 l = m := ⟨_, rfl⟩
  have m1 : d1 ≤ m := by omega
  rw [hm] at g2 ⊢
  rw [e1] at s1
  rw [e2] at s2
  rw [e1, e2]
  obtain ⟨a1, a2, a3, a4⟩ := id ha
  obtain ⟨b1, b2, b3, b4⟩ := id hb
  obtain ⟨p1, p2, p3, p4⟩ := s1
  obtain ⟨q1, q2, q3, q4⟩ := s2
  simp only at p1 p2 p3 p4 q1 q2 q3 q4
  unfold longP at hl ⊢
  simp only
  obtain ⟨u, hu⟩ : ∃ u, b.x - a.x = u := ⟨_, rfl⟩
  obtain ⟨v, hv⟩ : ∃ v, b.y - a.y = v := ⟨_, rfl⟩
  rw [hu, hv] at hl
  rw [hu] at p1 p2 q1 q2
  rw [hv] at p3 p4 q3 q4
  rw [hu, hv]
  have z := hyp_spec (x := u) (y := v) (by omega) (by omega) (by omega) (by omega)
  rw [hl] at z
  obtain ⟨A1, hA1⟩ : ∃ x, u * t1 = x := ⟨_, rfl⟩
  obtain ⟨A2, hA2⟩ : ∃ x, u * t2 = x := ⟨_, rfl⟩
  obtain ⟨C1, hC1⟩ : ∃ x, v * t1 = x := ⟨_, rfl⟩
  obtain ⟨C2, hC2⟩ : ∃ x, v * t2 = x := ⟨_, rfl⟩
  rw [hA1] at p1 p2
  rw [hC1] at p3 p4
  rw [hA2] at q1 q2
  rw [hC2] at q3 q4
  rw [hA1, hA2, hC1, hC2]
  obtain ⟨x, hx⟩ : ∃ x, A2 / 65536 - A1 / 65536 = x := ⟨_, rfl⟩
  obtain ⟨y, hy⟩ : ∃ y, C2 / 65536 - C1 / 65536 = y := ⟨_, rfl⟩
  rw [show a.x + A2 / 65536 - (a.x + A1 / 65536) = x by omega, show a.y + C2 / 65536 - (a.y + C1 / 65536) = y by omega]
  have zA := hyp_spec (x := x) (y := y) (by omega) (by omega) (by omega) (by omega)
  obtain ⟨A, hA⟩ : ∃ A, hyp x y = A := ⟨_, rfl⟩
  rw [hA] at zA ⊢
  by_cases ht : t1 ≤ t2
  · have eu : u * (t2 - t1) = A2 - A1 := by rw [← hA1, ← hA2]; grind
    have ev : v * (t2 - t1) = C2 - C1 := by rw [← hC1, ← hC2]; grind
    have up := way_part (u := u) (v := v) (t := t2 - t1) (x := x) (y := y) (A := A) (l := l) (by omega) (by omega) zA.2.1 z.2.2 (by rw [eu]; omega) (by rw [eu]; omega) (by rw [ev]; omega) (by rw [ev]; omega)
    have es : (t2 - t1) * (l + 1) = t2 * l - t1 * l + (t2 - t1) := by grind
    rw [es] at up
    omega
  · exfalso
    have : t2 * l + l ≤ t1 * l := by
      have := Int.mul_le_mul_of_nonneg_right (show t2 + 1 ≤ t1 by omega) (show 0 ≤ l by omega)
      rw [Int.add_mul] at this
      omega
    omega

theorem sm_b {ps : List Pt} (hs : ∀ i, i < ps.length → Sm (sa ps i)) {n : Nat} (hn : n < ps.length) : Sm (sb ps n) := hs _ (nxt_lt hn)
/-- How long what the first n sides have between f and t is. -/
theorem cut_long {ps : List Pt} {f t : Int} (h7 : ps.length ≤ 600) (hs : ∀ i, i < ps.length → Sm (sa ps i)) (hl : ∀ i, i < ps.length → sideL ps i ≤ 2500000) (f0 : 0 ≤ f) (ft : f < t) (t9 : t ≤ 1099511627776) : ∀ {n : Nat}, n ≤ ps.length →
    ((cutN ps f t n).length = 0 ∧ lenN ps n ≤ f) ∨
    (0 < n ∧ 0 < (cutN ps f t n).length ∧ (cutN ps f t n).length ≤ n + 1 ∧ f < lenN ps n ∧ (lenN ps n ≤ t → pt (cutN ps f t n) ((cutN ps f t n).length - 1) = sb ps (n - 1)) ∧ lengthL false (cutN ps f t n) ≤ min t (lenN ps n) - f + 42 * n)
  | 0, _ => Or.inl ⟨rfl, by rw [lenN_zero]; exact f0⟩
  | n + 1, hn => by
    have e1 := lenN_succ (ps := ps) (n := n) (by omega)
    have s0 := sideL_lo ps n
    have s9 := hl n (by omega)
    have i2 := lenN_in ps n
    have hA := hs n (by omega)
    have hB := sm_b hs (show n < ps.length by omega)
    have ih := cut_long h7 hs hl f0 ft t9 (n := n) (by omega)
    by_cases hz : sideL ps n = 0
    · rw [cutN_off (fun hh => by have := hh.1; omega)]
      rcases ih with ⟨h0, h1⟩ | ⟨hn0, h0, h1, h2, h3, h4⟩
      · exact Or.inl ⟨h0, by omega⟩
      · refine Or.inr ⟨by omega, h0, by omega, by omega, fun h => ?_, by omega⟩
        rw [h3 (by omega), Nat.add_sub_cancel, ← side_zero.1 hz]
        have := link_in (ps := ps) (n := n - 1) (by omega)
        rw [show n - 1 + 1 = n by omega] at this
        exact this.symm
    · rcases ih with ⟨h0, h1⟩ | ⟨hn0, h0, h1, h2, h3, h4⟩
      · by_cases hf : f < lenN ps n + sideL ps n
        · have hh : hit ps f t n := ⟨by omega, hf, by omega⟩
          rw [cutN_first hh h0]
          have sg := seg (a := sa ps n) (b := sb ps n) (d1 := f - lenN ps n) (d2 := t - lenN ps n) (l := sideL ps n) hA hB rfl (by omega) s9 (by omega) (by omega) (by omega) (by omega)
          have k1 : Sm (fromP ps f n) := onP_sm hA hB (by omega) (by omega) (by omega) (by omega)
          have k2 : Sm (fromP ps t n) := onP_sm hA hB (by omega) (by omega) (by omega) (by omega)
          refine Or.inr ⟨by omega, by simp, by simp, by omega, fun h => ?_, ?_⟩
          · show fromP ps t n = sb ps n
            unfold fromP
            rw [onP_b (by rw [hold_in (by omega) (by omega)]; omega) (by rw [hold_in (by omega) (by omega)]; omega)]
            exact plc_plc _
          · rw [long_snoc (by simp) (by simp), few_long (by simp)]
            show 0 + longP (plc (fromP ps f n)) (plc (fromP ps t n)) ≤ _
            rw [k1.plc, k2.plc]
            have : longP (fromP ps f n) (fromP ps t n) ≤ min (t - lenN ps n) (sideL ps n) - (f - lenN ps n) + 42 := sg
            omega
        · rw [cutN_off (fun hh => hf hh.2.1)]
          exact Or.inl ⟨h0, by omega⟩
      · by_cases hf : lenN ps n < t
        · have hh : hit ps f t n := ⟨by omega, by omega, hf⟩
          rw [cutN_more hh (by omega)]
          have sg := seg (a := sa ps n) (b := sb ps n) (d1 := 0) (d2 := t - lenN ps n) (l := sideL ps n) hA hB rfl (by omega) s9 (by omega) (by omega) (by omega) (by omega)
          rw [onP_a (show hold 0 ≤ 0 by decide), hA.plc] at sg
          have k2 : Sm (fromP ps t n) := onP_sm hA hB (by omega) (by omega) (by omega) (by omega)
          have lk := link_in (ps := ps) (n := n - 1) (by omega)
          rw [show n - 1 + 1 = n by omega] at lk
          refine Or.inr ⟨by omega, by simp, by simp; omega, by omega, fun h => ?_, ?_⟩
          · rw [List.length_append, Nat.add_sub_cancel]
            have ft : fromP ps t n = sb ps n := by
              unfold fromP
              rw [onP_b (by rw [hold_in (by omega) (by omega)]; omega) (by rw [hold_in (by omega) (by omega)]; omega)]
              exact plc_plc _
            rw [ft]
            exact pt_last _ _
          · rw [long_snoc h0 (by omega), h3 (by omega), ← lk, hA.plc, k2.plc]
            have : longP (sa ps n) (fromP ps t n) ≤ min (t - lenN ps n) (sideL ps n) - 0 + 42 := sg
            omega
        · rw [cutN_off (fun hh => hf hh.2.2)]
          exact Or.inr ⟨by omega, h0, by omega, by omega, fun h => by omega, by omega⟩
/-- How long a dash is. -/
theorem dash_long {c : Bool} {ps : List Pt} {f t : Int} (h12 : ps.length ≤ 12) (hs : ∀ i, i < ps.length → Sm (sa ps i)) (hl : ∀ i, i < ps.length → sideL ps i ≤ 2500000) (f0 : 0 ≤ f) (ft : f < t) (t9 : t ≤ 1099511627776) (hf : f < lengthL c ps) :
    lengthL false (cutL c ps f t) ≤ min t (lengthL c ps) - f + 504 := by
  rw [cutL_yes (by rw [hold_in (by omega) (by omega), hold_in (by omega) (by omega)]; omega), hold_in (by omega) (by omega), hold_in (a := t) (by omega) (by omega)]
  have hn := sidesN_le c ps.length
  rcases cut_long (n := sidesN c ps.length) (by omega) hs hl f0 ft t9 hn with ⟨h0, h1⟩ | ⟨_, _, _, _, _, h4⟩
  · rw [few_long (by omega)]
    omega
  · have : lenN ps (sidesN c ps.length) = lengthL c ps := rfl
    omega

/-- How long the first j of a list of lines are together. -/
def sumL (L : List (Bool × List Pt)) : Int := (L.map fun q => lengthL false q.2).sum
theorem sumL_nil : sumL [] = 0 := rfl
theorem sumL_snoc (L : List (Bool × List Pt)) (q : Bool × List Pt) : sumL (L ++ [q]) = sumL L + lengthL false q.2 := by unfold sumL; simp
/-- Of a pattern of two numbers each dash is as long as the first, but for a little, and all together as long as the line, but for a little. -/
theorem dashes_long {c : Bool} {ps : List Pt} {x y : Int} (h12 : ps.length ≤ 12) (hs : ∀ i, i < ps.length → Sm (sa ps i)) (hl : ∀ i, i < ps.length → sideL ps i ≤ 2500000) (ok : okD [x, y] = true) : ∀ {n : Nat}, n ≤ 64 →
    sumL (dashN c ps [x, y] n) ≤ min (mk [x, y] (2 * n)) (lengthL c ps) + 504 * n ∧ ∀ q ∈ dashN c ps [x, y] n, q.1 = false ∧ 2 ≤ q.2.length ∧ q.2.length ≤ 13 ∧ lengthL false q.2 ≤ x + 504
  | 0, _ => by
    have := lenN_in ps (sidesN c ps.length)
    have : 0 ≤ lengthL c ps := this.1
    rw [dashN_zero, sumL_nil]
    refine ⟨?_, fun q hq => by cases hq⟩
    rw [show mk [x, y] (2 * 0) = 0 from rfl]
    omega
  | n + 1, hn => by
    obtain ⟨h1, h2⟩ := dashes_long (c := c) h12 hs hl ok (n := n) (by omega)
    have m0 := mk_in ok (by simp) (2 * n)
    have t0 := tn_in ok (by simp) (2 * n)
    have t1 := tn_in ok (by simp) (2 * n + 1)
    have e1 := mk_step [x, y] (2 * n)
    have e2 := mk_step [x, y] (2 * n + 1)
    have ex : tn [x, y] (2 * n) = x := by
      unfold tn
      rw [show (2 * n) % [x, y].length = 0 by simp]
      rfl
    rw [show 2 * n + 1 + 1 = 2 * (n + 1) by omega] at e2
    by_cases hf : mk [x, y] (2 * n) < lengthL c ps
    · have dl := dash_long (c := c) (f := mk [x, y] (2 * n)) (t := mk [x, y] (2 * n + 1)) h12 hs hl m0.1 (by omega) (by omega) hf
      by_cases h2' : 2 ≤ (dashP c ps [x, y] n).length
      · rw [dashN_yes hf h2', sumL_snoc]
        have dl' : lengthL false (dashP c ps [x, y] n) ≤ min (mk [x, y] (2 * n + 1)) (lengthL c ps) - mk [x, y] (2 * n) + 504 := dl
        refine ⟨?_, fun q hq => ?_⟩
        · simp only
          omega
        · rcases List.mem_append.1 hq with hq | hq
          · exact h2 q hq
          · obtain rfl : q = (false, dashP c ps [x, y] n) := by simpa using hq
            have := dashP_length c ps [x, y] n
            exact ⟨rfl, h2', by simp only; omega, by simp only; omega⟩
      · rw [dashN_no h2']
        exact ⟨by omega, h2⟩
    · rw [dashN_off hf]
      exact ⟨by omega, h2⟩

end M
end Go.Proofs.Ytgnmiilmmbblmaa

namespace Go.Proofs.Ytgnmiilmmbblmaa
open Go Go.RowKit
open M

theorem Kp.room {w1 wr : World} {base : Nat} {L : List (Bool × List Pt)} {ao : Option Addr} {n cap : Nat} (h : Kp w1 base L (.slice ao n cap) wr) : n ≤ cap := by
  obtain ⟨zs, e, h⟩ := h
  rcases h.own.2 with ⟨hv, hn⟩ | ⟨g, cap', cur, hv, _, _, h1, _⟩
  · simp at hv; omega
  · simp at hv
    obtain ⟨_, rfl, rfl⟩ := hv
    exact h1
/-- A list of no polys, in a block of the call's own. -/
theorem Kp.bare {w : World} {g : Nat} (hg : w.heap.size = g) : Kp w g [] (.slice (some ⟨g, 0, none⟩) 0 0) (w.alloc (.cells #[] 24)) :=
  ⟨[], rfl, rfl, ⟨rfl, Or.inr ⟨g, 0, #[], rfl, Nat.le_refl _, has_new hg, by simp, by simp, by simp, by simp [yls]⟩⟩, fun j hj => by simp at hj, (Below.refl _ _).alloc (Nat.le_refl _) _, by omega⟩
theorem wpList_append_l {W w1 : World} {base : Nat} {L : List (Bool × List Pt)} {ops : Array Oper} {rest : List Oper} {op : Oper} {a : Act} {Q : Exit → Act → World → Prop} (hgd : op.guard = none) (s x : Operand)
    (hop : op.op = .call { callee := .builtin .append, args := #[s, x], argTypes := #[37, 37] }) (ao : Option Addr) (cap : Nat) (hs : a.eval s = .slice ao L.length cap) (ax : Option Addr) (n cx : Nat) (hx : a.eval x = .slice ax n cx)
    (zs : List Po) (hl : zs.length = n) (hY : Ysl W (.slice ax n cx) zs) (h1 : n ≤ 1) (hz : ∀ j, j < n → ∀ k, (po zs j).v.ownBlock = some k → k < base) (hT : Kp w1 base L (.slice ao L.length cap) W) (hf : L.length ≤ 90) (hb : base ≤ W.heap.size)
    (h : ∀ a' c' w', Kp w1 base (L ++ zs.map bareY) (.slice a' (L ++ zs.map bareY).length c') w' → wpList Try.prog ops Q rest (a.put op.dst (.slice a' (L ++ zs.map bareY).length c')) w') : wpList Try.prog ops Q (op :: rest) a W := by
  by_cases h0 : n = 0
  · subst h0
    obtain rfl : zs = [] := List.eq_nil_of_length_eq_zero hl
    obtain ⟨i0, hi0, _⟩ := info_parts Try.infoPoly
    refine wpList_append_noth hgd s x 37 hop 24 i0 Try.underlying37 hi0 ao L.length cap hT.room hs ax cx hx ?_
    simpa using h ao cap W (by simpa using hT)
  · obtain rfl : n = 1 := by omega
    match zs, hl with
    | [y], _ =>
      obtain ⟨g, o, rfl, row, _⟩ := hY.row (by omega)
      have c0 := row.c0 0 (by simp)
      have c1 := row.c1 0 (by simp)
      have sy := row.sl 0 (by simp)
      have hz0 := hz 0 (by omega)
      simp only [Nat.zero_mul, Nat.add_zero, po_zero] at c0 c1 sy hz0
      obtain ⟨zs', e, hT'⟩ := id hT
      have hln := hT'.len
      obtain ⟨ay, cy, ey, _⟩ := id sy
      refine wpList_plain hgd fun _ hK => wp_append_yr s x hop hs g o cx hx y c0 c1 (hT'.re (f' := fun j => bareY (po (zs' ++ [y]) j)) (fun j hj => by rw [po_left (by omega)])) hf (by have := po_last zs' y; rw [hln] at this; rw [this]) sy (fun k hk e2 => by have := (hT.young k hk).2; have := hz0 k e2; omega) (fun k hk => by have := hz0 k hk; omega) ⟨_, _, _, ey⟩ hb fun g' cap' w' hY' => hK _ _ ?_
      have key : Kp w1 base (L ++ [y].map bareY) (.slice (some ⟨g', 0, none⟩) (L ++ [y].map bareY).length cap') w' := by
        refine ⟨zs' ++ [y], by rw [List.map_append, e], ?_⟩
        rw [List.length_append]
        exact hY'
      have := h (some ⟨g', 0, none⟩) cap' w' key
      rw [List.length_append] at this
      exact this

/-- How long the first polys of a list are together. -/
def sumZ (zs : List Po) : Nat → Int
  | 0 => 0
  | j + 1 => sumZ zs j + lengthL false (po zs j).ps
theorem sumZ_in (zs : List Po) : ∀ j : Nat, 0 ≤ sumZ zs j ∧ sumZ zs j ≤ j * 1099511627776
  | 0 => by simp [sumZ]
  | j + 1 => by
    have ih := sumZ_in zs j
    have i := lenN_in (po zs j).ps (sidesN false (po zs j).ps.length)
    change 0 ≤ lengthL false (po zs j).ps ∧ lengthL false (po zs j).ps ≤ _ at i
    unfold sumZ
    omega
theorem sumZ_step (zs : List Po) (j : Nat) : sumZ zs j + lengthL false (po zs j).ps = sumZ zs (j + 1) := rfl
/-- Two lists of a line each, or of none where the line has less than two places: how long they are together. -/
theorem sum_two {zs : List Po} {R1 R2 : List Pt} (h : zs.map bareY = (if 2 ≤ R1.length then [(false, R1)] else []) ++ (if 2 ≤ R2.length then [(false, R2)] else [])) : zs.length ≤ 2 ∧ (∀ j, j < zs.length → (po zs j).cl = false ∧ 2 ≤ (po zs j).ps.length) ∧ sumZ zs zs.length = lengthL false R1 + lengthL false R2 := by
  have few : ∀ {R : List Pt}, ¬ 2 ≤ R.length → lengthL false R = 0 := fun {R} hR => by unfold lengthL; rw [sidesN_few _ (by omega), lenN_zero]
  by_cases h1 : 2 ≤ R1.length
  · by_cases h2 : 2 ≤ R2.length
    · rw [if_pos h1, if_pos h2] at h
      match zs, h with
      | [⟨c, l, ps⟩, ⟨c2, l2, ps2⟩], h =>
        simp [bareY] at h
        obtain ⟨⟨rfl, rfl⟩, rfl, rfl⟩ := h
        refine ⟨by simp, fun j hj => ?_, ?_⟩
        · rcases (show j = 0 ∨ j = 1 by simp at hj; omega) with rfl | rfl
          · exact ⟨rfl, h1⟩
          · exact ⟨rfl, h2⟩
        · show 0 + lengthL false ps + lengthL false ps2 = _
          omega
    · rw [if_pos h1, if_neg h2] at h
      match zs, h with
      | [⟨c, l, ps⟩], h =>
        simp [bareY] at h
        obtain ⟨rfl, rfl⟩ := h
        refine ⟨by simp, fun j hj => ?_, ?_⟩
        · obtain rfl : j = 0 := by simp at hj; omega
          exact ⟨rfl, h1⟩
        · show 0 + lengthL false ps = _
          rw [few h2]
          omega
  · by_cases h2 : 2 ≤ R2.length
    · rw [if_neg h1, if_pos h2] at h
      match zs, h with
      | [⟨c, l, ps⟩], h =>
        simp [bareY] at h
        obtain ⟨rfl, rfl⟩ := h
        refine ⟨by simp, fun j hj => ?_, ?_⟩
        · obtain rfl : j = 0 := by simp at hj; omega
          exact ⟨rfl, h2⟩
        · show 0 + lengthL false ps = _
          rw [few h1]
    · rw [if_neg h1, if_neg h2] at h
      obtain rfl : zs = [] := by simpa using h
      refine ⟨by simp, fun j hj => by simp at hj, ?_⟩
      show 0 = _
      rw [few h1, few h2]
      omega

end Go.Proofs.Ytgnmiilmmbblmaa

namespace Go.Proofs.Ytgnmiilmmbblmaa
open Go Go.RowKit
open M

theorem sumZ_left {zs : List Po} {z : Po} : ∀ {j : Nat}, j ≤ zs.length → sumZ (zs ++ [z]) j = sumZ zs j
  | 0, _ => rfl
  | j + 1, h => by rw [← sumZ_step, ← sumZ_step, sumZ_left (by omega), po_left (by omega)]
theorem sumZ_all (zs : List Po) : sumZ zs zs.length = sumL (zs.map bareY) := by
  rw [← List.reverse_reverse zs]
  induction zs.reverse with
  | nil => rfl
  | cons z l ih =>
    rw [List.reverse_cons, List.map_append, List.map_singleton, sumL_snoc, ← ih, List.length_append]
    show sumZ (l.reverse ++ [z]) (l.reverse.length + 1) = _
    rw [← sumZ_step, sumZ_left (Nat.le_refl _), po_last]
    rfl
theorem po_mem {zs : List Po} {j : Nat} (h : j < zs.length) : bareY (po zs j) ∈ zs.map bareY := by
  refine List.mem_map.2 ⟨po zs j, ?_, rfl⟩
  unfold po
  rw [List.getD_eq_getElem?_getD, List.getElem?_eq_getElem h]
  exact List.getElem_mem h

set_option maxRecDepth 100000 in
set_option maxHeartbeats 8000000 in
theorem dashLengths_walk {w : World} (l1 : Value) (_ : Unit) (a b : Int) (hN1 : Nums w l1) :
    Calls Try.prog 5 #[l1, .int .i64 a, .int .i64 b] w fun r w' => r = .returned (.bool true) ∧ Below w.heap.size w w' := by
  obtain ⟨B, hB⟩ : ∃ B, w.heap.size = B := ⟨_, rfl⟩
  obtain ⟨W, hW⟩ : ∃ W, w.alloc (.cells #[l1, .int .i64 0] 35) = W := ⟨_, rfl⟩
  have hb0 : Below w.heap.size w W := by rw [← hW]; exact (Below.refl _ _).alloc (Nat.le_refl _) _
  have T1 : Tp W B l1 := tp_start hN1 (by rw [← hW]; exact has_new hB) hb0 (by omega)
  have sz0 : W.heap.size = B + 1 := by rw [← hW]; simp [hB]
  obtain ⟨a1, n1, c1, rfl⟩ := hN1.shape
  obtain ⟨xa, hxa, xa0, xa9⟩ : ∃ x, bits .and .i64 a 262143 = x ∧ 0 ≤ x ∧ x ≤ 262143 := ⟨_, rfl, by rw [and_quad]; omega, by rw [and_quad]; omega⟩
  obtain ⟨xb, hxb, xb0, xb9⟩ : ∃ x, bits .and .i64 b 262143 = x ∧ 0 ≤ x ∧ x ≤ 262143 := ⟨_, rfl, by rw [and_quad]; omega, by rw [and_quad]; omega⟩
  have HB := Lib.hid hB
  have HW := Lib.hid hW
  have HB0 := Lib.hid hb0
  have SZ := Lib.hid sz0
  have PL := Lib.hid (l9_poly _ _ _ T1)
  clear hb0 T1 hW hN1 sz0
  go_enter Try.func5, Try.ntmps5
  go_wp2_with fail
  rw [HW.out]
  clear hB
  refine PL.out.mono ?_
  rintro e w1 ⟨c, pl, ps, rfl, h12, sm, ho, tp1, hg1⟩
  obtain ⟨ao, cap, hv⟩ := ho.len
  obtain ⟨N, hN⟩ : ∃ N, ps.length = N := ⟨_, rfl⟩
  rw [hN] at hv h12
  subst hv
  obtain ⟨gp, hgp⟩ : ∃ g, w1.heap.size = g := ⟨_, rfl⟩
  obtain ⟨V, hV⟩ : ∃ V, w1.alloc (.cells #[.bool c, .slice ao N cap] 24) = V := ⟨_, rfl⟩
  have KP : Has V gp #[.bool c, .slice ao N cap] 24 := by rw [← hV]; exact has_new hgp
  have SP : Psl V (.slice ao N cap) ps := by rw [← hV]; exact (ho.alloc _).sl (by omega)
  have bV : Below w.heap.size w V := by
    rw [← hV]
    have q := SZ.out
    have q2 := HB.out
    have q3 := hg1.size
    exact (below_on HB0.out hg1 (by omega) (by omega)).alloc (by omega) _
  obtain ⟨x, hx⟩ : ∃ x, 65536 + xa = x := ⟨_, rfl⟩
  obtain ⟨y, hy⟩ : ∃ x, 65536 + xb = x := ⟨_, rfl⟩
  have ok : okD [x, y] = true := okD_yes (by simp) (fun i hi => by
    rcases (show i = 0 ∨ i = 1 by simp at hi; omega) with rfl | rfl
    · exact ⟨by show 65536 ≤ x; omega, by show x ≤ 67108864; omega⟩
    · exact ⟨by show 65536 ≤ y; omega, by show y ≤ 67108864; omega⟩)
  have DL := Lib.hid (dashes_long (c := c) (x := x) (y := y) (by omega) (fun i hi => (sm.sm9 i hi).1) sm.sides ok (n := 64) (by omega))
  have DE : Hid (dashL c ps [x, y] = dashN c ps [x, y] 64) := Lib.hid (dashL_some (by simp) ok)
  have DN := Lib.hid (dashL_length c ps [x, y])
  have iL := lenN_in ps (sidesN c ps.length)
  change 0 ≤ lengthL c ps ∧ lengthL c ps ≤ _ at iL
  obtain ⟨L, hL⟩ : ∃ L, lengthL c ps = L := ⟨_, rfl⟩
  rw [hL] at iL
  obtain ⟨L0, L9⟩ := iL
  have LE := Lib.hid (fun (w' : World) (hb : Below V.heap.size V w') => hL ▸ r9_length c (SP.below hb (Nat.le_refl _)))
  have XP := Lib.hid KP
  have XS := Lib.hid SP
  have BV := Lib.hid bV
  have HV := Lib.hid hV
  have HN := Lib.hid hN
  have HL := Lib.hid hL
  have xr : 65536 ≤ x ∧ x ≤ 327679 := by omega
  have yr : 65536 ≤ y ∧ y ≤ 327679 := by omega
  obtain ⟨x0, x9⟩ := xr
  obtain ⟨y0, y9⟩ := yr
  have W1 : IntKind.i64.wrap (65536 + xa) = x := by rw [hx, IntKind.wrap_i64]; omega
  have W2 : IntKind.i64.wrap (65536 + xb) = y := by rw [hy, IntKind.wrap_i64]; omega
  clear KP SP bV hV ho tp1 hg1 sm hN PL HB0 SZ HW hL ok
  go_upto_region 2 with fail
  rw [HV.out]
  clear hgp
  obtain ⟨g3, hg3⟩ : ∃ g, V.heap.size = g := ⟨_, rfl⟩
  obtain ⟨W3, hW3⟩ : ∃ W, V.alloc (.cells #[.int .i64 x, .int .i64 y] 2) = W := ⟨_, rfl⟩
  have b3 : Below V.heap.size V W3 := by rw [← hW3]; exact (Below.refl _ _).alloc (Nat.le_refl _) _
  have i3 : Isl W3 (.slice (some ⟨g3, 0, none⟩) 2 2) [x, y] := by rw [← hW3]; exact isl_lit (ds := [x, y]) rfl (by decide) (has_new hg3) rfl
  have OF := Lib.hid (d_of c (XS.out.below b3 (Nat.le_refl _)) i3 (by have := HN.out; omega))
  have HW3 := Lib.hid hW3
  have C3 := Lib.hid b3
  have p0 := XP.out.cell 0 _ rfl
  have p1 := XP.out.cell 1 _ rfl
  clear i3 hW3 b3
  go_wp2_with fail
  rw [HW3.out]
  clear hg3 p0 p1
  refine OF.out.mono ?_
  rintro e w4 ⟨vl, zs, rfl, hy4, hz4, hb4⟩
  have hzl : zs.length ≤ 64 := by
    have := congrArg List.length hz4
    simp only [List.length_map] at this
    have := DN.out
    omega
  have TOT : Hid (sumZ zs zs.length ≤ L + 65536) := Lib.hid (by
    rw [sumZ_all, hz4, DE.out]
    have := DL.out.1
    have := HL.out
    omega)
  have EA : Hid (∀ j, j < zs.length → (po zs j).cl = false ∧ 2 ≤ (po zs j).ps.length ∧ (po zs j).ps.length ≤ 13 ∧ lengthL false (po zs j).ps ≤ x + 504) := Lib.hid (fun j hj => by
    have hm := po_mem hj
    rw [hz4, DE.out] at hm
    exact DL.out.2 _ hm)
  have B4 := Lib.hid (C3.out.trans (hb4.mono C3.out.size))
  have Y4 := Lib.hid hy4
  obtain ⟨al, cl, rfl⟩ := hy4.slice
  obtain ⟨M, hM⟩ : ∃ M, zs.length = M := ⟨_, rfl⟩
  have HM := Lib.hid hM
  rw [hM] at hzl TOT EA Y4 ⊢
  have o64 : (M : Int) ≤ 64 := by omega
  clear hy4 hz4 hb4 hM OF DL DE DN W1 W2
  go_wp2_with fail
  go_loopw [10, 32] (fun s i wr => ∃ j : Nat, j ≤ M ∧ i = .int .i64 j ∧ s = .int .i64 (sumZ zs j) ∧ Below w4.heap.size w4 wr) (fun _ i _ => 70 - (intOf i).toNat)
  case atStart => exact ⟨0, by omega, rfl, rfl, Below.refl _ _⟩
  case round =>
    obtain ⟨j, hj, rfl, es, hb⟩ := hrel
    have B5 := Lib.hid hb
    have SB := sumZ_in zs j
    obtain ⟨S, hS⟩ : ∃ S, sumZ zs j = S := ⟨_, rfl⟩
    rw [hS] at es SB
    subst es
    have HS := Lib.hid hS
    obtain ⟨S0, S9⟩ := SB
    have S8 : S ≤ 70368744177664 := by omega
    clear hb hS S9
    by_cases hjl : j < M
    · have o1 : (j : Int) < M := by omega
      have o2 : j < M := hjl
      have y5 := Y4.out.below B5.out
      obtain ⟨g, o, e1, row, _⟩ := y5.row (by omega)
      subst e1
      have q0 := row.c0 j (by have := HM.out; omega)
      have q1 := row.c1 j (by have := HM.out; omega)
      have sz := row.sl j (by have := HM.out; omega)
      obtain ⟨ec, e2, e13, ek⟩ := EA.out j hjl
      have ST := Lib.hid (sumZ_step zs j)
      have kin := lenN_in (po zs j).ps (sidesN false (po zs j).ps.length)
      change 0 ≤ lengthL false (po zs j).ps ∧ lengthL false (po zs j).ps ≤ _ at kin
      obtain ⟨yy, hyy⟩ : ∃ y, po zs j = y := ⟨_, rfl⟩
      rw [hyy] at q0 q1 sz ec e2 e13 ek ST kin
      obtain ⟨dc, dv, dps⟩ := yy
      simp only at q0 q1 sz ec e2 e13 ek ST kin
      subst ec
      obtain ⟨ad, cd, ed⟩ : ∃ ao cap, dv = .slice ao dps.length cap := by obtain ⟨ao, cap, e, _⟩ := sz; exact ⟨_, _, e⟩
      obtain ⟨K, hK⟩ : ∃ K, dps.length = K := ⟨_, rfl⟩
      rw [hK] at ed e2 e13
      subst ed
      obtain ⟨gd, hgd⟩ : ∃ g, wr.heap.size = g := ⟨_, rfl⟩
      obtain ⟨X, hX⟩ : ∃ X, wr.alloc (.cells #[.bool false, .slice ad K cd] 24) = X := ⟨_, rfl⟩
      have bX : Below wr.heap.size wr X := by rw [← hX]; exact (Below.refl _ _).alloc (Nat.le_refl _) _
      have kX : Has X gd #[.bool false, .slice ad K cd] 24 := by rw [← hX]; exact has_new hgd
      have LD := Lib.hid (r9_length false (sz.below bX (Nat.le_refl _)))
      obtain ⟨k, hk⟩ : ∃ k, lengthL false dps = k := ⟨_, rfl⟩
      rw [hk] at LD ek ST kin
      rw [HS.out] at ST
      obtain ⟨k0, k9⟩ := kin
      have BX := Lib.hid (B5.out.trans (bX.mono B5.out.size))
      have KX := Lib.hid kX
      have HX := Lib.hid hX
      have t2 : ¬ (K : Int) < 2 := by omega
      have tk : ¬ x + 16384 < k := by omega
      clear row y5 sz hyy hK hk bX kX hX
      go_upto_region 8 with fail
      rw [HX.out]
      clear hgd q0 q1
      have d0 := KX.out.cell 0 _ rfl
      have d1 := KX.out.cell 1 _ rfl
      go_wp2_with fail
      refine LD.out.mono ?_
      rintro e w6 ⟨rfl, hq6⟩
      have B6 := Lib.hid (BX.out.trans (hq6.mono BX.out.size))
      have K6 := KX.out.below hq6 KX.out.lt
      clear hq6 d0 d1
      have d0 := K6.cell 0 _ rfl
      have d1 := K6.cell 1 _ rfl
      clear K6
      go_wp2
      go_roundw
      case rel => exact ⟨j + 1, by omega, by go_num, by rw [ST.out], B6.out⟩
      case measure => simp [intOf]; omega
    · obtain rfl : j = M := by omega
      have o3 : ¬ (j : Int) < j := by omega
      have TT : S ≤ L + 65536 := by have := TOT.out; rw [← HM.out, HM.out, HS.out] at this; exact this
      have B6 := Lib.hid (B4.out.trans (B5.out.mono B4.out.size))
      have LP := Lib.hid (LE.out _ B6.out)
      have kp := XP.out.below B6.out XP.out.lt
      have p0 := kp.cell 0 _ rfl
      have p1 := kp.cell 1 _ rfl
      clear kp
      go_wp2_with fail
      refine LP.out.mono ?_
      rintro e w7 ⟨rfl, hq7⟩
      have B7 := Lib.hid (B6.out.trans (hq7.mono B6.out.size))
      clear hq7 p0 p1
      go_wp2_with fail
      refine (known11 _).mono ?_
      rintro e w8 ⟨rfl, hq8⟩
      have D := Lib.hid (BV.out.trans ((B7.out.trans (hq8.mono B7.out.size)).mono BV.out.size))
      clear hq8
      go_wp2
      go_ret
      exact ⟨rfl, D.out⟩

end Go.Proofs.Ytgnmiilmmbblmaa

namespace Go.Proofs.Ytgnmiilmmbblmaa
open Go.RowKit Go.ChangeShapes Go.WideShapes Go.Deep
open M

section
variable {H : Type} {enc : TypeId × Value → H} {w : World} {base : Nat} {held : Bool}
theorem cell_int : Try.prog.cellsOf 3 = 1 := by kernel_rfl
set_option maxRecDepth 100000 in
theorem open_tape {r : Reach} {b0 : Nat} {v : Value} {d : DataW H} {p : List MemPlace} (hv : Value.okWide Try.prog w r b0 33 v) (h : DataW.Trod enc Try.prog w base (fun _ => true) held 33 v d p) : ∃ _ : Unit, Nums w v := by
  refine ⟨(), ?_⟩
  obtain ⟨a0, len0, cap0, rfl⟩ := okWide_slice Try.underlying33 hv
  obtain ⟨fuel, hf⟩ := h
  rcases open_slice1 Try.underlying33 cell_int hf with ⟨hc, _⟩ | ⟨a, len, cap, m, n, V, D, Pl, hc, _, hl, hm, hmm, _, hi⟩
  · simp [Value.cells] at hc
    obtain ⟨rfl, rfl, rfl⟩ := hc
    exact Or.inl ⟨_, _, rfl⟩
  · simp [Value.cells] at hc
    obtain ⟨rfl, rfl, rfl⟩ := hc
    rw [if_pos rfl] at hmm
    subst hmm
    by_cases h0 : len0 = 0
    · subst h0
      exact Or.inl ⟨_, _, rfl⟩
    · have hspot : a.spot = none := by
        have := (hi 0 (by omega)).1
        simpa [Addr.add] using World.cell?_spot this
      obtain ⟨b, o, sp⟩ := a
      simp only at hspot
      subst hspot
      have h63 : len0 ≤ 9223372036854775807 := by
        have h := hm
        simp [maxLen] at h
        omega
      refine Or.inr ⟨b, o, len0, _, rfl, by omega, h63, fun i hil => ?_⟩
      obtain ⟨h1, h2⟩ := hi i (by omega)
      obtain ⟨k, hk, _⟩ := DataW.trod_int Try.underlying3 h2
      rw [Addr.add_lit] at h1
      refine ⟨k, h1.trans ?_⟩
      simpa using hk
end

end Go.Proofs.Ytgnmiilmmbblmaa

namespace Go.Proofs.Ytgnmiilmmbblmaa.dashLengths
open Go.ChangeShapes Go.WideShapes Go.ChangeAt Go.RowKit

theorem post_below {H : Type} {enc : TypeId × Value → H} {P : Program} {f : Func} {s : ChangeSpec} {apart fresh handsOn : Bool} {W V : World} {args : Array Value} {v : Value} {ds gs : List (DataW H)} {before pa pv : List MemPlace}
    (hW : DataW.Whole enc P f.params.toList s.vars apart W args.toList ds gs before)
    (hres : ∀ (b : Nat) (sp : Nat → Bool) (hd : Bool), DataW.TrodAll enc P V b sp hd f.resultTypes.toList (v.resultList f.resultTypes.size) (s.fn H (ds ++ gs)).results [])
    (hargs : ∀ sp : Nat → Bool, (∀ p ∈ before, sp p.block = true) → DataW.TrodAll enc P V 0 sp true f.params.toList args.toList (s.fn H (ds ++ gs)).args pa)
    (hvars : ∀ sp : Nat → Bool, (∀ p ∈ before, sp p.block = true) → DataW.TrodVars enc P V sp s.vars (s.fn H (ds ++ gs)).vars pv)
    (hps : before = pa ++ pv) (hb : Below W.heap.size W V) : s.post enc P f apart fresh handsOn false W args v V := by
  have hl : ∀ p ∈ before, (fun b => decide (b < W.heap.size)) p.block = true := fun p hp => by simpa using hW.lt p hp
  refine ⟨ds, gs, before, [], pa, pv, hW, hres _ _ _, hargs _ hl, hvars _ hl, World.keptBut_mono (fun p hp => ⟨hp, ?_⟩) (hb.frame (· ∈ before)), fun h => by cases h⟩
  rw [hps, List.mem_append] at hp
  exact Or.inr hp

theorem own : ownKnob Try.prog.godebug = none := by kernel_rfl
theorem laid : laidOutB Try.prog = true := by kernel_rfl

set_option maxRecDepth 100000 in
theorem lifted (os : Os) (started : os.Started) (H : Type) (enc : TypeId × Value → H) :
    ReturnsInHanded {} Try.checked os 5 .any (Rows.dashLengthsSpec.pre6 enc Try.prog Try.f5 Rows.dashLengthsRow.domain false) (Rows.dashLengthsSpec.post enc Try.prog Try.f5 false true false false) := by
  refine returnsInHanded_of_change (C := Try.checked) own started (by kernel_rfl) Try.func5
    (ChangeSpec.witness6 (enc := enc) (C := Try.checked) false ⟨#[], #[.slice none 0 0, .int .i64 0, .int .i64 0], []⟩ 8 (by kernel_rfl) (by kernel_rfl) (by kernel_rfl) (by kernel_rfl)) ?_
  intro W base args ds gs before hval0 hW hcnd _
  have hval : ∀ (j : Nat) t v, Try.f5.params[j]? = some t → args[j]? = some v → Value.okWide Try.prog W .any base t v := hval0
  have hW' := hW
  obtain ⟨p, q, hA0, hV, rfl, hfz, hnd⟩ := hW
  have hA : DataW.TrodAll enc Try.prog W 0 (fun _ => true) true Try.f5.params.toList args.toList ds p := hA0
  rw [Try.params5] at hA hval
  obtain ⟨v0, vs0, d0, ds0, p0, q0, hargs, rfl, rfl, h0, r0⟩ := trodAll_cons hA
  obtain ⟨v1, vs1, d1, ds1, p1, q1, rfl, rfl, rfl, h1, r1⟩ := trodAll_cons r0
  obtain ⟨v2, vs2, d2, ds2, p2, q2, rfl, rfl, rfl, h2, r2⟩ := trodAll_cons r1
  obtain ⟨rfl, rfl, rfl⟩ := trodAll_nil r2
  obtain rfl : args = #[v0, v1, v2] := by cases args; simp_all
  obtain ⟨rfl, rfl⟩ := trodVars_none hV
  obtain ⟨a0, w0⟩ := open_tape (hval 0 33 v0 rfl rfl) h0
  obtain ⟨a1, rfl, rfl, rfl, w1⟩ := open_int Try.underlying2 (hval 1 2 v1 rfl rfl) h1
  obtain ⟨a2, rfl, rfl, rfl, w2⟩ := open_int Try.underlying2 (hval 2 2 v2 rfl rfl) h2
  clear hA0 hval0
  simp only [List.append_nil] at hW'
  refine (dashLengths_walk (w := W) v0 a0 a1 a2 w0).mono fun e W' ⟨he, hg⟩ => ?_
  subst he
  exact ⟨_, rfl, post_below (pv := []) hW' (fun _ _ _ => (trodAll_cons_mk (shut_bool Try.underlying4 _) trodAll_mk0)) (fun sp hsp => (trodAll_cons_mk (WideElems.Trod_stays laid (by kernel_rfl) (of_decide_eq_true (by kernel_rfl)) h0 (fun x hx => hg.same (by simpa using hW'.lt x (by simp [hx]))) (fun x hx => hsp x (by simp [hx]))) (trodAll_cons_mk (shut_int Try.underlying2 w1) (trodAll_cons_mk (shut_int Try.underlying2 w2) trodAll_mk0)))) (fun _ _ => rfl) (by simp) hg⟩

theorem over : Rows.dashLengthsRow.holds Try.pinned (OpenSpec.ofChange Rows.dashLengthsSpec) :=
  OpenClaim.holds_of_wide 5 Try.f5 rfl rfl rfl rfl rfl rfl rfl ⟨rfl, rfl, rfl, rfl, rfl⟩ rfl rfl rfl rfl rfl (by kernel_rfl) Try.func5 (by kernel_rfl)
    (of_decide_eq_true (by kernel_rfl)) (by unfold Func.isWrapper; first | (rw [if_pos (by decide +kernel)]; kernel_rfl) | (rw [if_neg (by decide +kernel)]; exact ⟨rfl, rfl⟩))
    (fun os started H enc _ => lifted os started H enc)

end Go.Proofs.Ytgnmiilmmbblmaa.dashLengths
namespace Go.Proofs.Ytgnmiilmmbblmaa
theorem dashLengths_holds : Rows.DashLengthsSaid := dashLengths.over
#print axioms dashLengths_holds
end Go.Proofs.Ytgnmiilmmbblmaa
