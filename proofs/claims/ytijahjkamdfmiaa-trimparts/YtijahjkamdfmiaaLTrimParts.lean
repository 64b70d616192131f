/- TrimParts of the statements: whatever the numbers are, the call returns true and each argument reads as it did; no condition. -/
import Derived.Test.YtijahjkamdfmiaaPB
import Derived.Test.YtijahjkamdfmiaaX1
import Derived.Test.YtijahjkamdfmiaaYO8
import Derived.BigRegion
import Derived.Test.YtijahjkamdfmiaaY8
import Derived.Deep.AppendLies
import Derived.Test.YtijahjkamdfmiaaQ8
import Derived.Test.YtijahjkamdfmiaaNMath
import Derived.Test.YtijahjkamdfmiaaAP8
import Derived.Test.YtijahjkamdfmiaaTB7
import Derived.Test.YtijahjkamdfmiaaIO
import Derived.Test.YtijahjkamdfmiaaPM
import Derived.Test.YtijahjkamdfmiaaXMath
import Derived.Test.YtijahjkamdfmiaaMidM
import Derived.Test.YtijahjkamdfmiaaRows
import Derived.WalkKit
import Derived.ProofKit
import Derived.OpenShut
import Derived.Test.YtijahjkamdfmiaaAT5
import Derived.Carry
namespace Go.Proofs.Ytijahjkamdfmiaa
open Go Go.RowKit

section
variable {P : Program}
theorem run_append_noth (w : World) (t ty e : TypeId) (i : TypeInfo) (ht : P.underlying t = some (.slice e)) (hi : P.info? e = some i) (base : Option Addr) (sLen sCap : Nat) (hle : sLen ≤ sCap) (ao : Option Addr) (cap : Nat) :
    (Builtin.append_ #[t, t] ty #[.slice base sLen sCap, .slice ao 0 cap]).run P w = .ok (.slice base sLen sCap) w := by
  have hlo : ∀ (x : Addr), (loadCells x 0).run P w = .ok #[] w := fun x => by simpa using run_loadCells_list (P := P) w x [] (by simp)
  cases ao <;> cases base <;> simp [Builtin.append_, run_underlying ht, sizeOf, typeInfo, hi, Builtin.lenOf, Builtin.firstCells, hle, hlo, storeCells]
theorem wp_append_noth {w : World} {o : Oper} {a : Act} {K : Act → World → Prop} {Q : Exit → Act → World → Prop} (s x : Operand) (t : TypeId)
    (ho : o.op = .call { callee := .builtin .append, args := #[s, x], argTypes := #[t, t] }) (e : TypeId) (i : TypeInfo) (ht : P.underlying t = some (.slice e)) (hi : P.info? e = some i) (base : Option Addr) (sLen sCap : Nat) (hle : sLen ≤ sCap) (hs : a.eval s = .slice base sLen sCap)
    (ao : Option Addr) (cap : Nat) (hx : a.eval x = .slice ao 0 cap) (h : K (a.put o.dst (.slice base sLen sCap)) w) : o.wp P a w K Q := by
  have hrun := run_append_noth (P := P) w t o.type e i ht hi base sLen sCap hle ao cap
  unfold Oper.wp
  simp [execOp, ho, resolve, invoke, builtin, hs, hx, hrun, Result.andThen]
  exact h
theorem wpList_append_noth {w : World} {ops : Array Oper} {rest : List Oper} {o : Oper} {a : Act} {Q : Exit → Act → World → Prop} (hgd : o.guard = none) (s x : Operand) (t : TypeId)
    (ho : o.op = .call { callee := .builtin .append, args := #[s, x], argTypes := #[t, t] }) (e : TypeId) (i : TypeInfo) (ht : P.underlying t = some (.slice e)) (hi : P.info? e = some i) (base : Option Addr) (sLen sCap : Nat) (hle : sLen ≤ sCap) (hs : a.eval s = .slice base sLen sCap)
    (ao : Option Addr) (cap : Nat) (hx : a.eval x = .slice ao 0 cap) (h : wpList P ops Q rest (a.put o.dst (.slice base sLen sCap)) w) : wpList P ops Q (o :: rest) a w :=
  wpList_plain hgd fun _ hK => wp_append_noth s x t ho e i ht hi base sLen sCap hle hs ao cap hx (hK _ _ h)
end

end Go.Proofs.Ytijahjkamdfmiaa

namespace Go.Proofs.Ytijahjkamdfmiaa
open Go Go.RowKit
open M

/-- A list of just these polys is returned. -/
def GivesL (w : World) (L : List (Bool × List Pt)) (e : Ending) (w' : World) : Prop := ∃ v zs, e = .returned v ∧ Ysl w' v zs ∧ zs.map bareY = L ∧ Below w.heap.size w w'
theorem bares_of {zs : List Po} {N : Nat} {f : Nat → Bool × List Pt} (hl : zs.length = N) (h : ∀ j, j < N → bareY (po zs j) = f j) : zs.map bareY = (List.range N).map f := by
  apply List.ext_getElem?
  intro i
  by_cases hi : i < N
  · have := h i hi
    unfold po at this
    rw [List.getD_eq_getElem?_getD, List.getElem?_eq_getElem (by omega)] at this
    simp [hi, hl]
    simpa using this
  · rw [List.getElem?_eq_none (by simp; omega), List.getElem?_eq_none (by simp; omega)]
theorem grownBy_drew {a b : World} {r : Option Nat} (h : a.grownBy b r) : a.grownBy b.drew r := ⟨h.os, h.tape, h.output, h.size, h.block⟩
theorem Yfill.copied {w1 wr V : World} {gs N n : Nat} {f : Nat → Bool × List Pt} {zs : List Po} (h : Yfill w1 gs N f n zs wr) (hn : n < N) {c : Bool} {v : Value} {ps : List Pt} (hf : f n = (c, ps)) (hv : Psl V v ps) (hne : v.ownBlock ≠ some gs)
    (hk : ∀ k, k < wr.heap.size → k ≠ gs → V.heap[k]? = wr.heap[k]?) (hh : Has V gs (((yls zs).set (n * 2) (.bool c)).set (n * 2 + 1) v).toArray 26) (hb : Below w1.heap.size w1 V) : Yfill w1 gs N f (n + 1) (zs.set n ⟨c, v, ps⟩) V := by
  refine ⟨by rw [List.length_set]; exact h.len, ?_, fun j hj => ?_, hb, h.lo⟩
  · rw [yls_set (by rw [h.len]; exact hn)]
    exact hh
  · by_cases e : n = j
    · subst e
      rw [po_set_eq (by rw [h.len]; exact hn)]
      exact ⟨hf.symm, hv, hne⟩
    · rw [po_set_ne e]
      obtain ⟨a, b, c'⟩ := h.told j (by omega)
      exact ⟨a, b.blocks (fun k hkk e => hk k hkk (fun e2 => c' (by rw [e, e2]))), c'⟩

set_option maxRecDepth 100000 in
set_option maxHeartbeats 2000000 in
theorem t_copied {v : Value} {ys : List Po} {w : World} (h : Ysl w v ys) :
    Calls Try.prog 23 #[v] w (GivesL w ((List.range ys.length).map fun j => bareY (po ys j))) := by
  obtain ⟨B, hB⟩ : ∃ B, w.heap.size = B := ⟨_, rfl⟩
  have hs1 := h
  obtain ⟨ao, cap, rfl, hf, _⟩ := h
  obtain ⟨N, hN⟩ : ∃ N, ys.length = N := ⟨_, rfl⟩
  rw [hN] at hf hs1 ⊢
  obtain ⟨f, hff⟩ : ∃ f : Nat → Bool × List Pt, (fun j => bareY (po ys j)) = f := ⟨_, rfl⟩
  rw [hff]
  have mk := make_ys (n := N) hf
  obtain ⟨W2, hW2⟩ : ∃ W, w.alloc (.cells (zeY N) 26) = W := ⟨_, rfl⟩
  have F0 : Yfill w B N f 0 (List.replicate N default) W2 := by
    rw [← hW2]
    exact ⟨by simp, by rw [← zeY_yls]; exact has_new hB, fun j hj => by omega, (Below.refl _ _).alloc (Nat.le_refl _) _, by omega⟩
  have HN := Lib.hid hN
  have HB := Lib.hid hB
  have HW2 := Lib.hid hW2
  have HS1 := Lib.hid hs1
  have HF0 := Lib.hid F0
  have HFF := Lib.hid hff
  clear hW2 hN hs1 F0 hff
  go_enter Try.func23, Try.ntmps23
  go_wp2
  rw [HW2.out]
  clear hB mk
  go_loopw [11] (fun i wr => ∃ (n : Nat) (zs : List Po), n ≤ N ∧ i = .int .i64 n ∧ Yfill w B N f n zs wr) (fun i _ => N - (intOf i).toNat)
  case atStart => exact ⟨0, _, by omega, rfl, HF0.out⟩
  case round =>
    clear HF0 HW2
    obtain ⟨n, zs, hn, rfl, hfl⟩ := hrel
    have HFL := Lib.hid hfl
    have hb := hfl.below
    by_cases hlt : n < N
    · obtain ⟨g, o, e1, r0, l0⟩ := HS1.out.row (by omega)
      subst e1
      have r := r0.below hb (by omega)
      have hf1 : f n = ((po ys n).cl, (po ys n).ps) := by rw [← HFF.out]; rfl
      have hsl := r0.sl n (by omega)
      obtain ⟨y, hy⟩ : ∃ y, po ys n = y := ⟨_, rfl⟩
      have c0 := r.c0 n (by omega)
      have c1 := r.c1 n (by omega)
      rw [hy] at c0 c1 hsl hf1
      obtain ⟨c, vy, ps⟩ := y
      simp only at c0 c1 hsl hf1
      have hlen := hsl.few
      obtain ⟨M, hM⟩ : ∃ M, ps.length = M := ⟨_, rfl⟩
      obtain ⟨aoy, capy, evy⟩ : ∃ ao cap, vy = .slice ao M cap := by obtain ⟨ao, cap, hv, _⟩ := hsl; rw [hM] at hv; exact ⟨_, _, hv⟩
      subst evy
      rw [hM] at hlen
      obtain ⟨gp, hgp⟩ : ∃ g, wr.heap.size = g := ⟨_, rfl⟩
      obtain ⟨V, hV⟩ : ∃ V, wr.alloc (.cells #[.bool c, .slice aoy M capy] 26) = V := ⟨_, rfl⟩
      have kp : Has V gp #[.bool c, .slice aoy M capy] 26 := by rw [← hV]; exact has_new hgp
      have bV : Below wr.heap.size wr V := by rw [← hV]; exact (Below.refl _ _).alloc (Nat.le_refl _) _
      have sV : V.heap.size = gp + 1 := by rw [← hV]; simp [hgp]
      have hlg : B < gp := by have := hfl.has.lt; omega
      have KP := Lib.hid kp
      have BV := Lib.hid bV
      have SV := Lib.hid sV
      have HV := Lib.hid hV
      have SL : Hid (Psl w (.slice aoy M capy) ps) := Lib.hid hsl
      have F1 := Lib.hid hf1
      have HM := Lib.hid hM
      have LG := Lib.hid hlg
      have o3 : (n : Int) < N := by omega
      have o4 : n < N := hlt
      clear r r0 l0 hy hb hfl hsl hf1 kp bV sV hV hM hlg
      go_upto_region 5 with fail
      rw [HV.out]
      clear hgp c0 c1
      have mk := make_pts (n := M) hlen
      obtain ⟨U, hU⟩ : ∃ U, V.alloc (.cells (zer M) 40) = U := ⟨_, rfl⟩
      have FV := HFL.out.later BV.out
      have FU : Yfill w B N f n zs U := by rw [← hU]; exact FV.later ((Below.refl _ _).alloc (Nat.le_refl _) _)
      have v0 := KP.out.cell 0 _ rfl
      have v1 := KP.out.cell 1 _ rfl
      have v2 := fun o => (KP.out.alloc o).cell 0 _ rfl
      have v3 := fun o => (KP.out.alloc o).cell 1 _ rfl
      have q0 : U.cell? ⟨B, n * 2, none⟩ = some (.bool (po zs n).cl) := FU.has.cell (n * 2) _ (by have := yls_at (ys := zs) (i := n) (j := 0) (by rw [FU.len]; exact hlt) (by decide); simpa [yl] using this)
      have q1 : U.cell? ⟨B, n * 2 + 1, none⟩ = some (po zs n).v := FU.has.cell (n * 2 + 1) _ (by have := yls_at (ys := zs) (i := n) (j := 1) (by rw [FU.len]; exact hlt) (by decide); simpa [yl] using this)
      have fz := has_fro FU.has
      have HU := Lib.hid hU
      rw [← hU] at q0 q1 fz
      clear hU FU FV
      go_region
      obtain ⟨H, hH⟩ : ∃ H, V.heap.size = H := ⟨_, rfl⟩
      rw [hH, HU.out]
      rw [HU.out] at q0 q1 fz
      obtain ⟨X, hX⟩ : ∃ X, ((U.setCell ⟨B, n * 2, none⟩ (.bool c)).setCell ⟨B, n * 2 + 1, none⟩ (.slice (some ⟨H, 0, none⟩) M M)).drew = X := ⟨_, rfl⟩
      rw [hX]
      have FU : Yfill w B N f n zs U := by rw [← HU.out]; exact (HFL.out.later BV.out).later ((Below.refl _ _).alloc (Nat.le_refl _) _)
      have lH : B < H ∧ gp < H := ⟨by have := LG.out; have := SV.out; omega, by have := SV.out; omega⟩
      have gX : U.grownBy X (some B) := by rw [← hX]; exact grownBy_drew (grownBy_set (grownBy_set (World.grownBy.refl _ _) _ _) _ _)
      have oX : Pown X H (.slice (some ⟨H, 0, none⟩) M M) (List.replicate M default) := by
        have h1 : Pown U H (.slice (some ⟨H, 0, none⟩) M M) (List.replicate M default) := by rw [← HU.out]; exact own_made hlen (by omega) hH
        exact h1.kept gX (fun k hk e => by have e' : some H = some k := e; simp at hk e'; omega)
      have bX : Below w.heap.size w X := by rw [← hX]; exact below_drew ((FU.below.setCell FU.lo _).setCell FU.lo _)
      have kB : Has X B (((yls zs).set (n * 2) (.bool c)).set (n * 2 + 1) (.slice (some ⟨H, 0, none⟩) M M)).toArray 26 := by
        have := has_set (has_set FU.has (n * 2) (.bool c)) (n * 2 + 1) (.slice (some ⟨H, 0, none⟩) M M)
        rw [← hX]
        exact (by simpa using this : Has ((U.setCell ⟨B, n * 2, none⟩ (.bool c)).setCell ⟨B, n * 2 + 1, none⟩ (.slice (some ⟨H, 0, none⟩) M M)) B _ _)
      have kX : Has X gp #[.bool c, .slice aoy M capy] 26 := has_grown (by rw [← HU.out]; exact KP.out.alloc _) gX (by have := LG.out; omega)
      have sX : X.heap.size = H + 1 := by rw [← hX, ← HU.out]; simp [hH]
      obtain ⟨Y, hcp, hoY, hgY⟩ := copy_pts oX.drew (by simp) aoy capy (SL.out.below bX (Nat.le_refl _)).drew HM.out 3
      have kY : Has Y B (((yls zs).set (n * 2) (.bool c)).set (n * 2 + 1) (.slice (some ⟨H, 0, none⟩) M M)).toArray 26 := has_grown kB.drew hgY (by omega)
      have S : Yfill w B N f (n + 1) (zs.set n ⟨c, .slice (some ⟨H, 0, none⟩) M M, ps⟩) Y := by
        refine HFL.out.copied hlt F1.out (hoY.sl (by rw [HM.out]; exact hlen)) (fun e => by have e' : some H = some B := e; simp at e'; omega) (fun k hk hne => ?_) kY ((below_drew bX).grown hgY bX.size (fun k hk => by simp at hk; have := HB.out; omega))
        rw [hgY.block k (by have := BV.out.size; show k < X.heap.size; rw [sX]; omega) (by simp; have := BV.out.size; omega), show X.drew.heap[k]? = X.heap[k]? from rfl, gX.block k (by rw [← HU.out]; have := BV.out.size; simp; omega) (by simpa using hne), ← HU.out, (MapKept.heap_alloc V _).2 k (by have := BV.out.size; omega), BV.out.block k hk]
      have b1 : X.cell? ⟨B, n * 2 + 1, none⟩ = some (.slice (some ⟨H, 0, none⟩) M M) := kB.cell (n * 2 + 1) _ (by rw [List.getElem?_toArray, List.getElem?_set_self (by rw [List.length_set, yls_length, FU.len]; omega)])
      have x1 := kX.cell 1 _ rfl
      have SY := Lib.hid S
      clear S kY hoY hgY kX kB oX bX gX FU sX hX q0 q1 fz v0 v1 v2 v3 mk HU hH
      go_upto_region 6 with fail
      go_region
      clear hcp b1 x1
      go_wp2
      go_roundw
      case rel => exact ⟨n + 1, _, by omega, by go_num, SY.out⟩
      case measure => simp [intOf]; omega
    · obtain rfl : n = N := by omega
      have R : Hid (GivesL w ((List.range n).map f) (.returned (.slice (some ⟨B, 0, none⟩) n n)) wr) := Lib.hid ⟨_, zs, rfl, ysl_has hfl.len hf (fun i hi => (hfl.told i (by have := hfl.len; omega)).2.1) hfl.has, bares_of hfl.len (fun j hj => (hfl.told j hj).1), hfl.below⟩
      have o3 : ¬ (n : Int) < n := by omega
      clear hfl hb
      go_wp2
      go_ret
      exact R.out

theorem gives_append {P : Program} {o : Oper} {e : Act} {w : World} {K : Value → World → Prop} (s x : Operand) (t : TypeId) (ho : o.op = .call { callee := .builtin .append, args := #[s, x], argTypes := #[t, t] })
    {v u : Value} (hs : e.eval s = v) (hx : e.eval x = u) {v' : Value} {w' : World} (hr : (Builtin.append_ #[t, t] o.type #[v, u]).run P w = .ok v' w') (h : K v' w') : gives P o e w K := by
  unfold gives execOp
  simp only [ho, resolve, invoke, builtin, Sem.run_bind, Sem.run_pure, Result.andThen_ok, List.map_toArray, List.map_cons, List.map_nil, hs, hx, hr]
  exact h
/-- A list of no places, in a block of the call's own, still bare where c says so. -/
def NoP (base : Nat) (c : Prop) (v : Value) (w : World) : Prop := ∃ g, v = .slice (some ⟨g, 0, none⟩) 0 0 ∧ base ≤ g ∧ g < w.heap.size ∧ (c → Has w g #[] 40)
theorem NoP.stay {base : Nat} {c : Prop} {v : Value} {w w' : World} (h : NoP base c v w) (hb : Below w.heap.size w w') : NoP base c v w' := by
  obtain ⟨g, e, l, s, k⟩ := h
  exact ⟨g, e, l, Nat.lt_of_lt_of_le s hb.size, fun hc => (k hc).below hb (k hc).lt⟩
/-- All places of a list appended to a list of none: what lies where. -/
theorem append_all {w : World} {B g : Nat} {ps : List Pt} {ao : Option Addr} {M cap : Nat} (hk : Has w g #[] 40) (hg : B ≤ g) (hs : Psl w (.slice ao M cap) ps) (hM : ps.length = M) (ty : TypeId) :
    ∃ v' w', (Builtin.append_ #[24, 24] ty #[.slice (some ⟨g, 0, none⟩) 0 0, .slice ao M cap]).run Try.prog w = .ok v' w' ∧ Pown w' B v' ps ∧ w.grownBy w' (some g) := by
  obtain ⟨i0, hi, hz0, hz1, hz2⟩ := info_parts Try.infoPt
  have hlt := hk.lt
  have ho : Pown w B (.slice (some ⟨g, 0, none⟩) 0 0) [] := ⟨rfl, Or.inr ⟨g, 0, #[], rfl, hg, hk, by simp, by simp, by simp, by simp [pls]⟩⟩
  have hf := hs.few
  by_cases h0 : M = 0
  · subst h0
    obtain rfl : ps = [] := List.eq_nil_of_length_eq_zero hM
    exact ⟨_, w, run_append_noth w _ ty _ i0 Try.underlying24 hi _ 0 0 (Nat.le_refl _) ao cap, ho, World.grownBy.refl _ _⟩
  · obtain ⟨ao', cap', hv, _, hrow⟩ := hs
    obtain ⟨gs, o, rfl, row⟩ := hrow (by omega)
    simp only [Value.slice.injEq] at hv
    obtain ⟨rfl, _, _⟩ := hv
    obtain ⟨g', cap2, w', hr, h2, h3, _, _⟩ := run_append_lies (P := Try.prog) w 24 ty B 40 i0 _ 2 16 Try.underlying24 hi hz0 hz1 hz2 rfl (by decide) (.slice (some ⟨g, 0, none⟩) 0 0) 0 [] ho ⟨gs, o, none⟩ M cap (pls ps) (by rw [pls_length, hM]) (fun j u hu => by rw [Addr.add_lit]; exact row.at j u hu) (ones_pls ps) (by omega) (by unfold maxLen; omega) (by omega) (by omega) _ rfl
    refine ⟨_, w', hr, ?_, h3⟩
    unfold Pown
    rw [hM]
    simpa using h2

set_option maxRecDepth 100000 in
set_option maxHeartbeats 2000000 in
theorem r9_copied (c : Bool) {v : Value} {ps : List Pt} {w : World} (h : Psl w v ps) :
    Calls Try.prog 29 #[.agg #[.bool c, v]] w (Gives w c ps) := by
  obtain ⟨B, hB⟩ : ∃ B, w.heap.size = B := ⟨_, rfl⟩
  obtain ⟨W, hW⟩ : ∃ W, (w.alloc (.cells #[.bool c, v] 26)).alloc (.cells #[.bool false, .slice none 0 0] 26) = W := ⟨_, rfl⟩
  have ha : Has W B #[.bool c, v] 26 := by rw [← hW]; exact (has_new hB).alloc _
  have hr : Has W (B + 1) #[.bool false, .slice none 0 0] 26 := by rw [← hW]; exact has_new (by simp [hB])
  have hbl : Below w.heap.size w W := by rw [← hW]; exact ((Below.refl _ _).alloc (Nat.le_refl _) _).alloc (by simp) _
  have hs := h.below hbl (Nat.le_refl _)
  obtain ⟨M, hM⟩ : ∃ M, ps.length = M := ⟨_, rfl⟩
  have hlen := h.few
  rw [hM] at hlen
  obtain ⟨ao, cap, ev⟩ : ∃ ao cap, v = .slice ao M cap := by obtain ⟨ao, cap, e, _⟩ := h; rw [hM] at e; exact ⟨_, _, e⟩
  subst ev
  have HA := Lib.hid ha
  have HR := Lib.hid hr
  have HBL := Lib.hid hbl
  have HW := Lib.hid hW
  have HB := Lib.hid hB
  have HS := Lib.hid hs
  have HM := Lib.hid hM
  clear ha hr hbl hs hW hM h
  go_enter Try.func29, Try.ntmps29
  go_upto_region 1 with fail
  rw [HW.out]
  clear hB
  refine wp_region_gen 6 [2, 5] [] [0, 0, 1, 0, 0, 1] (by kernel_rfl) (by kernel_rfl) (fun c a d v w h => by cases d <;> exact h) trivial (fun G w' => (∀ v, G 2 = some v → NoP W.heap.size (G 5 = none) v w') ∧ (∀ v, G 5 = some v → Pown w' W.heap.size v ps)) (fun G w w' h hb => ⟨fun v hv => (h.1 v hv).stay hb, fun v hv => (h.2 v hv).below hb (Nat.le_refl _)⟩) ⟨fun v hv => (by cases hv), fun v hv => (by cases hv)⟩ ?_
  apply Exists.intro
  refine ⟨fun R hR hN => ?_, ?_, ?_⟩
  · have A0 := fun z => LaterR.read (R := R) HA.out 0 _ rfl z
    have A1 := fun z => LaterR.read (R := R) HA.out 1 _ rfl z
    simp only [quietL, takeA]
    repeat (go_big_quiet_step (fail))
    exact wpQuiet_nil rfl
  · intro i oo hi ho
    have hi' : i = 2 ∨ i = 5 := by simpa using hi
    clear hi
    rcases hi' with rfl | rfl
    · cases ho
      intro G w' hG hGn hdep hb hR
      refine ⟨rfl, gives_none (by kernel_rfl) hGn ?_⟩
      unfold gives
      simp [go_sem]
      refine ⟨hb.alloc hb.size _, fun v hv => ?_, fun v hv => ?_⟩
      · rw [updV_eq] at hv; cases hv; exact ⟨_, rfl, hb.size, by simp, fun _ => has_new0⟩
      · rw [updV_ne G _ (by omega)] at hv; exact (hR.2 v hv).alloc _
    · cases ho
      intro G w' hG hGn hdep hb hR
      obtain ⟨v2, hv2⟩ := Option.ne_none_iff_exists'.1 (hdep 2 (by simp) (by kernel_rfl))
      obtain ⟨g, rfl, hg, hlt, hk⟩ := hR.1 v2 hv2
      refine ⟨rfl, gives_one (k := 2) (by kernel_rfl) hGn (by omega) hv2 ?_⟩
      obtain ⟨v', w'', hr, ho, hgr⟩ := append_all (hk hG) hg (HS.out.below hb (Nat.le_refl _)) HM.out 24
      refine gives_append (.tmp 5) (.tmp 7) 24 rfl rfl rfl hr ?_
      refine ⟨hb.grown hgr hb.size (fun k hk => by simp at hk; omega), fun v hv => ?_, fun v hv => ?_⟩
      · rw [updV_ne G _ (by omega)] at hv
        rw [hv2] at hv
        cases hv
        exact ⟨g, rfl, hg, Nat.lt_of_lt_of_le hlt hgr.size, fun e => by rw [updV_eq] at e; cases e⟩
      · rw [updV_eq] at hv; cases hv; exact ho
  · intro G w1 hb hR hG hN
    obtain ⟨v2, e2⟩ := hG 2 (by simp)
    obtain ⟨v5, e5⟩ := hG 5 (by simp)
    have ho := hR.2 v5 e5
    obtain ⟨al, cl, el⟩ := ho.len
    rw [HM.out] at el
    subst el
    simp only [putV, dstAt, e2, e5, hN 0 (by simp), hN 1 (by simp), hN 3 (by simp), hN 4 (by simp), List.drop_succ_cons, List.drop_zero, List.getElem?_cons_succ, List.getElem?_cons_zero, Option.bind_some]
    have kr := HR.out.below hb HR.out.lt
    have c0 := kr.cell 0 _ rfl
    have c1 := kr.cell 1 _ rfl
    have f0 := has_fro kr
    have G1 := Lib.hid (gives_put (w := w) (c := c) (r := B + 1) HB.out (ho.lower (by have := HBL.out.size; have := HB.out; omega)) (fun e => by have := (ho.base _ e).1; have := HR.out.lt; omega) (by omega) (HB.out ▸ HBL.out.trans (hb.mono HBL.out.size)) rfl (.bool c) _ rfl)
    have kz := has_set (has_set kr 0 (.bool c)) 1 (.slice al M cl)
    have u0 := kz.cell 0 _ rfl
    have u1 := kz.cell 1 _ rfl
    clear hR hG hN e2 e5 hb kr kz ho
    go_wp2
    refine bodyPost_ret (v := .agg #[.bool c, .slice al M cl]) (by simp [results, Try.results29, go_sem, u0, u1]) rfl ?_
    exact G1.out

end Go.Proofs.Ytijahjkamdfmiaa

namespace Go.Proofs.Ytijahjkamdfmiaa
open Go Go.RowKit
open M

theorem ones_yls {ys : List Po} (h : ∀ i, i < ys.length → ∃ ao n cap, (po ys i).v = .slice ao n cap) : ∀ u ∈ yls ys, u.oneCell' = true := by
  induction ys with
  | nil => intro u hu; cases hu
  | cons y ys ih =>
    intro u hu
    rw [yls_cons] at hu
    rcases List.mem_append.1 hu with hu | hu
    · simp [yl] at hu
      obtain ⟨ao, n, cap, e⟩ := h 0 (by simp)
      rw [po_zero] at e
      rcases hu with rfl | rfl
      · rfl
      · rw [e]; rfl
    · exact ih (fun i hi => by have := h (i + 1) (by simpa using hi); rwa [po_cons] at this) u hu
/-- A list of polys of the call's own that grows. -/
structure Ygrow (w1 : World) (base : Nat) (f : Nat → Bool × List Pt) (n : Nat) (zs : List Po) (v : Value) (wr : World) : Prop where
  len : zs.length = n
  own : wr.ownsRow base 26 2 v n (yls zs)
  told : ∀ j, j < n → bareY (po zs j) = f j ∧ Psl wr (po zs j).v (po zs j).ps ∧ (∀ k, v.ownBlock = some k → (po zs j).v.ownBlock ≠ some k) ∧ (∃ ao n cap, (po zs j).v = .slice ao n cap) ∧ (∀ k, (po zs j).v.ownBlock = some k → k < wr.heap.size)
  below : Below w1.heap.size w1 wr
  lo : w1.heap.size ≤ base
theorem Ygrow.later {w1 wr w' : World} {base n : Nat} {f : Nat → Bool × List Pt} {zs : List Po} {v : Value} (h : Ygrow w1 base f n zs v wr) (hb : Below wr.heap.size wr w') : Ygrow w1 base f n zs v w' :=
  ⟨h.len, World.ownsRow.kept h.own (grownBy_below hb (Nat.le_refl _)) (by by_cases e : v.ownBlock = none; exact Or.inl e; exact Or.inr e), fun j hj => ⟨(h.told j hj).1, (h.told j hj).2.1.below hb (Nat.le_refl _), (h.told j hj).2.2.1, (h.told j hj).2.2.2.1, fun k hk => Nat.lt_of_lt_of_le ((h.told j hj).2.2.2.2 k hk) hb.size⟩, h.below.trans (hb.mono h.below.size), h.lo⟩
theorem Ygrow.sl {w1 wr : World} {base n : Nat} {f : Nat → Bool × List Pt} {zs : List Po} {v : Value} (h : Ygrow w1 base f n zs v wr) (hf : n ≤ 100) : Ysl wr v zs := by
  have hl := h.len
  rcases h.own.2 with ⟨rfl, hn⟩ | ⟨g, cap, cur, rfl, _, hg, _, _, _, ht⟩
  · exact ⟨none, 0, by rw [hl, hn], by omega, fun h0 => by omega⟩
  · refine ⟨_, cap, by rw [hl], by omega, fun _ => ⟨g, 0, rfl, yrow_of (by omega) (fun i hi => (h.told i (by omega)).2.1) fun j u hu => ?_⟩⟩
    rw [Nat.zero_add, cell_of_row wr g j cur _ _ hg]
    rw [← ht, List.getElem?_take] at hu
    split at hu
    · simpa using hu
    · cases hu
theorem Ygrow.shape {w1 wr : World} {base n : Nat} {f : Nat → Bool × List Pt} {zs : List Po} {v : Value} (h : Ygrow w1 base f n zs v wr) : ∃ ao cap, v = .slice ao n cap := by
  rcases h.own.2 with ⟨rfl, hn⟩ | ⟨g, cap, cur, rfl, _⟩
  · exact ⟨none, 0, by rw [hn]⟩
  · exact ⟨_, cap, rfl⟩
/-- One poly more: it lies in block H from cell o on. -/
theorem wp_append_yr {W w1 : World} {base n : Nat} {f : Nat → Bool × List Pt} {zs : List Po} {l : Value} {op : Oper} {a : Act} {K : Act → World → Prop} {Q : Exit → Act → World → Prop} (s x : Operand)
    (hop : op.op = .call { callee := .builtin .append, args := #[s, x], argTypes := #[28, 28] }) (hs : a.eval s = l) (H o c2 : Nat) (hx : a.eval x = .slice (some ⟨H, o, none⟩) 1 c2)
    (y : Po) (hc0 : W.cell? ⟨H, o, none⟩ = some (.bool y.cl)) (hc1 : W.cell? ⟨H, o + 1, none⟩ = some y.v) (hT : Ygrow w1 base f n zs l W) (hf : n ≤ 90) (hfy : bareY y = f n) (hy : Psl W y.v y.ps) (hyl : ∀ k, l.ownBlock = some k → y.v.ownBlock ≠ some k) (hyc : ∀ k, y.v.ownBlock = some k → k < W.heap.size) (hys : ∃ ao n cap, y.v = .slice ao n cap) (hb : base ≤ W.heap.size)
    (h : ∀ g' cap' w', Ygrow w1 base f (n + 1) (zs ++ [y]) (.slice (some ⟨g', 0, none⟩) (n + 1) cap') w' → K (a.put op.dst (.slice (some ⟨g', 0, none⟩) (n + 1) cap')) w') : op.wp Try.prog a W K Q := by
  obtain ⟨i0, hi, hz0, hz1, hz2⟩ := info_parts Try.infoPoly
  have h1 : ∀ u ∈ yl y, u.oneCell' = true := fun u hu => by
    simp [yl] at hu
    obtain ⟨ao, n, cap, e⟩ := hys
    rcases hu with rfl | rfl
    · rfl
    · rw [e]; rfl
  refine wp_append_lies W s x 28 hop base 26 i0 _ 2 32 Try.underlying28 hi hz0 hz1 hz2 rfl (by decide) l n (yls zs) hs hT.own ⟨H, o, none⟩ 1 c2 (yl y) hx rfl ?_ h1 (by decide) (by unfold maxLen; omega) (by omega) hb _ rfl ?_
  · intro j u hu
    rw [Addr.add_lit]
    have hj : j < 2 := by
      have := (List.getElem?_eq_some_iff.1 hu).1
      simpa [yl] using this
    rcases (show j = 0 ∨ j = 1 by omega) with rfl | rfl
    · simp [yl] at hu; rw [← hu]; exact hc0
    · simp [yl] at hu; rw [← hu]; exact hc1
  intro g' cap' w' hown' hg hat hlt
  have hgl : ∀ k, l.ownBlock = some k → k < W.heap.size ∧ base ≤ k := fun k hk => by
    have := World.ownsRow.lt hT.own k hk
    exact ⟨this.2, this.1⟩
  refine h g' cap' w' ⟨by simp [hT.len], ?_, fun j hj => ?_, ?_, hT.lo⟩
  · have e : yls (zs ++ [y]) = yls zs ++ yl y := by rw [yls_append]; simp [yls]
    rw [e]
    exact hown'
  · by_cases e : j = n
    · subst e
      have el : po (zs ++ [y]) j = y := by have := po_last zs y; rw [hT.len] at this; exact this
      rw [el]
      refine ⟨hfy, hy.grown hg (fun k hk e => hyl k hk e), fun k hk e2 => ?_, hys, fun k hk => Nat.lt_of_lt_of_le (hyc k hk) hg.size⟩
      have hk' : some g' = some k := hk
      simp at hk'
      subst hk'
      rcases hat with e3 | e3
      · exact hyl g' e3 e2
      · have := hyc g' e2; omega
    · rw [po_left (by rw [hT.len]; omega)]
      obtain ⟨a1, a2, a3, a4, a5⟩ := hT.told j (by omega)
      refine ⟨a1, a2.grown hg (fun k hk e => a3 k hk e), fun k hk e2 => ?_, a4, fun k hk => Nat.lt_of_lt_of_le (a5 k hk) hg.size⟩
      have hk' : some g' = some k := hk
      simp at hk'
      subst hk'
      rcases hat with e3 | e3
      · exact a3 g' e3 e2
      · have := a5 g' e2; omega
  · exact hT.below.grown hg hT.below.size (fun k hk => by have := (hgl k hk).2; have := hT.lo; omega)

/-- One poly more: it lies in a block H of its own. -/
theorem wp_append_y {W w1 : World} {base n : Nat} {f : Nat → Bool × List Pt} {zs : List Po} {l : Value} {op : Oper} {a : Act} {K : Act → World → Prop} {Q : Exit → Act → World → Prop} (s x : Operand)
    (hop : op.op = .call { callee := .builtin .append, args := #[s, x], argTypes := #[28, 28] }) (hs : a.eval s = l) (H : Nat) (hx : a.eval x = .slice (some ⟨H, 0, none⟩) 1 1)
    (y : Po) (hn : Has W H (yl y).toArray 26) (hT : Ygrow w1 base f n zs l W) (hf : n ≤ 90) (hfy : bareY y = f n) (hy : Psl W y.v y.ps) (hyl : ∀ k, l.ownBlock = some k → y.v.ownBlock ≠ some k) (hyc : ∀ k, y.v.ownBlock = some k → k < W.heap.size) (hys : ∃ ao n cap, y.v = .slice ao n cap) (hb : base ≤ W.heap.size)
    (h : ∀ g' cap' w', Ygrow w1 base f (n + 1) (zs ++ [y]) (.slice (some ⟨g', 0, none⟩) (n + 1) cap') w' → K (a.put op.dst (.slice (some ⟨g', 0, none⟩) (n + 1) cap')) w') : op.wp Try.prog a W K Q :=
  wp_append_yr s x hop hs H 0 1 hx y (hn.cell 0 _ (by simp [yl])) (hn.cell 1 _ (by simp [yl])) hT hf hfy hy hyl hyc hys hb h

theorem wpList_append_y {W w1 : World} {base n : Nat} {f : Nat → Bool × List Pt} {zs : List Po} {l : Value} {ops : Array Oper} {rest : List Oper} {op : Oper} {a : Act} {Q : Exit → Act → World → Prop} (hgd : op.guard = none) (s x : Operand)
    (hop : op.op = .call { callee := .builtin .append, args := #[s, x], argTypes := #[28, 28] }) (hs : a.eval s = l) (H : Nat) (hx : a.eval x = .slice (some ⟨H, 0, none⟩) 1 1)
    (y : Po) (hn : Has W H (yl y).toArray 26) (hT : Ygrow w1 base f n zs l W) (hf : n ≤ 90) (hfy : bareY y = f n) (hy : Psl W y.v y.ps) (hyl : ∀ k, l.ownBlock = some k → y.v.ownBlock ≠ some k) (hyc : ∀ k, y.v.ownBlock = some k → k < W.heap.size) (hys : ∃ ao n cap, y.v = .slice ao n cap) (hb : base ≤ W.heap.size)
    (h : ∀ g' cap' w', Ygrow w1 base f (n + 1) (zs ++ [y]) (.slice (some ⟨g', 0, none⟩) (n + 1) cap') w' → wpList Try.prog ops Q rest (a.put op.dst (.slice (some ⟨g', 0, none⟩) (n + 1) cap')) w') : wpList Try.prog ops Q (op :: rest) a W :=
  wpList_plain hgd fun _ hK => wp_append_y s x hop hs H hx y hn hT hf hfy hy hyl hyc hys hb fun g' cap' w' h1 => hK _ _ (h g' cap' w' h1)
/-- The value v is a list of places of the call's own. -/
def PtsV (base : Nat) (ps : List Pt) (v : Value) (w : World) : Prop := Psl w v ps ∧ (∀ k, v.ownBlock = some k → base ≤ k ∧ k < w.heap.size) ∧ ∃ ao n cap, v = .slice ao n cap
theorem PtsV.stay {base : Nat} {ps : List Pt} {v : Value} {w w' : World} (h : PtsV base ps v w) (hb : Below w.heap.size w w') : PtsV base ps v w' :=
  ⟨h.1.below hb (Nat.le_refl _), fun k hk => ⟨(h.2.1 k hk).1, Nat.lt_of_lt_of_le (h.2.1 k hk).2 hb.size⟩, h.2.2⟩


end Go.Proofs.Ytijahjkamdfmiaa

namespace Go.Proofs.Ytijahjkamdfmiaa
open Go Go.RowKit
open M

theorem Ygrow.re {w1 wr : World} {base n : Nat} {f f' : Nat → Bool × List Pt} {zs : List Po} {v : Value} (h : Ygrow w1 base f n zs v wr) (hf : ∀ j, j < n → bareY (po zs j) = f' j) : Ygrow w1 base f' n zs v wr :=
  ⟨h.len, h.own, fun j hj => ⟨hf j hj, (h.told j hj).2⟩, h.below, h.lo⟩
/-- A list of polys of the call's own: just these. -/
def Kp (w1 : World) (base : Nat) (L : List (Bool × List Pt)) (v : Value) (wr : World) : Prop := ∃ zs : List Po, zs.map bareY = L ∧ Ygrow w1 base (fun j => bareY (po zs j)) L.length zs v wr
theorem Kp.later {w1 wr w' : World} {base : Nat} {L : List (Bool × List Pt)} {v : Value} (h : Kp w1 base L v wr) (hb : Below wr.heap.size wr w') : Kp w1 base L v w' := by
  obtain ⟨zs, e, h⟩ := h
  exact ⟨zs, e, h.later hb⟩
theorem Kp.below {w1 wr : World} {base : Nat} {L : List (Bool × List Pt)} {v : Value} (h : Kp w1 base L v wr) : Below w1.heap.size w1 wr := by
  obtain ⟨zs, e, h⟩ := h
  exact h.below
theorem Kp.shape {w1 wr : World} {base : Nat} {L : List (Bool × List Pt)} {v : Value} (h : Kp w1 base L v wr) : ∃ ao cap, v = .slice ao L.length cap := by
  obtain ⟨zs, e, h⟩ := h
  exact h.shape
theorem Kp.start {w : World} {base : Nat} (hl : w.heap.size ≤ base) : Kp w base [] (.slice none 0 0) w := ⟨[], rfl, rfl, World.ownsRow_nil _ _ _ _, fun j hj => by simp at hj, Below.refl _ _, hl⟩
theorem Kp.gives {w wr : World} {base : Nat} {L : List (Bool × List Pt)} {v : Value} (h : Kp w base L v wr) (hf : L.length ≤ 100) : GivesL w L (.returned v) wr := by
  obtain ⟨zs, e, h⟩ := h
  exact ⟨v, zs, rfl, h.sl hf, e, h.below⟩
theorem Kp.young {w1 wr : World} {base : Nat} {L : List (Bool × List Pt)} {v : Value} (h : Kp w1 base L v wr) (k : Nat) (hk : v.ownBlock = some k) : k < wr.heap.size ∧ base ≤ k := by
  obtain ⟨zs, e, h⟩ := h
  have := World.ownsRow.lt h.own k hk
  exact ⟨this.2, this.1⟩
theorem wpList_append_k {W w1 : World} {base : Nat} {L : List (Bool × List Pt)} {l : Value} {ops : Array Oper} {rest : List Oper} {op : Oper} {a : Act} {Q : Exit → Act → World → Prop} (hgd : op.guard = none) (s x : Operand)
    (hop : op.op = .call { callee := .builtin .append, args := #[s, x], argTypes := #[28, 28] }) (hs : a.eval s = l) (H : Nat) (hx : a.eval x = .slice (some ⟨H, 0, none⟩) 1 1)
    (y : Po) (hn : Has W H (yl y).toArray 26) (hT : Kp w1 base L l W) (hf : L.length ≤ 90) (hy : Psl W y.v y.ps) (hyl : ∀ k, l.ownBlock = some k → y.v.ownBlock ≠ some k) (hyc : ∀ k, y.v.ownBlock = some k → k < W.heap.size) (hys : ∃ ao n cap, y.v = .slice ao n cap) (hb : base ≤ W.heap.size)
    (h : ∀ g' cap' w', Kp w1 base (L ++ [(y.cl, y.ps)]) (.slice (some ⟨g', 0, none⟩) (L.length + 1) cap') w' → wpList Try.prog ops Q rest (a.put op.dst (.slice (some ⟨g', 0, none⟩) (L.length + 1) cap')) w') : wpList Try.prog ops Q (op :: rest) a W := by
  obtain ⟨zs, e, hT⟩ := hT
  have hl := hT.len
  refine wpList_append_y hgd s x hop hs H hx y hn (hT.re (f' := fun j => bareY (po (zs ++ [y]) j)) (fun j hj => by rw [po_left (by omega)])) hf (by have := po_last zs y; rw [hl] at this; rw [this]) hy hyl hyc hys hb ?_
  intro g' cap' w' hY
  refine h g' cap' w' ⟨zs ++ [y], by rw [List.map_append, e]; rfl, ?_⟩
  rw [List.length_append]
  exact hY

set_option maxRecDepth 100000 in
set_option maxHeartbeats 2000000 in
theorem t_of (f t : Int) {v : Value} {ys : List Po} {w : World} (h : Ysl w v ys) (h80 : ys.length ≤ 80) (hm : ∀ j, j < ys.length → (po ys j).ps.length ≤ 8796093022000) :
    Calls Try.prog 12 #[v, .int .i64 f, .int .i64 t] w (GivesL w (trimL f t (fun j => bareY (po ys j)) ys.length)) := by
  have SP := Lib.hid (t_span f t)
  by_cases hw : spA f t = 0 ∧ spB f t = 65536
  · rw [trimL_all hw]
    rw [hw.1, hw.2] at SP
    have CP := Lib.hid (t_copied h)
    obtain ⟨ao, n, cap, ev⟩ : ∃ ao n cap, v = .slice ao n cap := by obtain ⟨ao, cap, e, _⟩ := h; exact ⟨_, _, _, e⟩
    subst ev
    clear h h80 hm hw
    go_enter Try.func12, Try.ntmps12
    go_wp2_with fail
    refine (SP.out _).mono ?_
    rintro e w' ⟨rfl, rfl⟩
    go_wp2_with fail
    refine CP.out.mono ?_
    rintro e w1 ⟨u, zs, rfl, hY⟩
    have HY := Lib.hid hY
    obtain ⟨ao1, n1, cap1, rfl⟩ : ∃ ao n cap, u = .slice ao n cap := by obtain ⟨⟨ao, cap, e, _⟩, _⟩ := hY; exact ⟨_, _, _, e⟩
    clear hY
    go_wp2
    go_ret
    exact ⟨_, zs, rfl, HY.out⟩
  · rw [trimL_part hw]
    obtain ⟨a, ha⟩ : ∃ a, spA f t = a := ⟨_, rfl⟩
    obtain ⟨b, hb⟩ : ∃ a, spB f t = a := ⟨_, rfl⟩
    rw [ha, hb] at hw SP ⊢
    obtain ⟨ff, hff⟩ : ∃ f : Nat → Bool × List Pt, (fun j => bareY (po ys j)) = f := ⟨_, rfl⟩
    rw [hff]
    obtain ⟨N, hN⟩ : ∃ N, ys.length = N := ⟨_, rfl⟩
    obtain ⟨B, hB⟩ : ∃ B, w.heap.size = B := ⟨_, rfl⟩
    obtain ⟨ao, cap, ev⟩ : ∃ ao cap, v = .slice ao N cap := by obtain ⟨ao, cap, e, _⟩ := h; rw [hN] at e; exact ⟨_, _, e⟩
    subst ev
    rw [hN] at h80 hm ⊢
    have HS := Lib.hid h
    have HM := Lib.hid hm
    have HB := Lib.hid hB
    have HFF := Lib.hid hff
    have K0 : Hid (Kp w B [] (.slice none 0 0) w) := Lib.hid (Kp.start (by omega))
    clear h hm hB hff ha hb hN
    go_enter Try.func12, Try.ntmps12
    go_wp2_with fail
    refine (SP.out _).mono ?_
    rintro e w' ⟨rfl, rfl⟩
    go_upto_region 2 with fail
    go_cut [24] (fun s wx => s = .bool false ∧ wx = w)
    case first =>
      by_cases h0 : a = 0
      · have h1 : ¬ b = 65536 := fun e => hw ⟨h0, e⟩
        go_wp2_with fail
        go_meet
        exact ⟨by simp [h1], rfl⟩
      · go_wp2_with fail
        go_meet
        exact ⟨rfl, rfl⟩
    case rest =>
      obtain ⟨rfl, rfl⟩ := hcut
      clear hw
      rename World => w
      go_wp2_with fail
      go_loopw [9, 29] (fun o i wr => ∃ n : Nat, n ≤ N ∧ i = .int .i64 n ∧ Kp w B (keepN a b ff n) o wr) (fun _ i _ => N - (intOf i).toNat)
      case atStart => exact ⟨0, by omega, rfl, K0.out⟩
      case round =>
        clear K0
        obtain ⟨n, hn, rfl, hk⟩ := hrel
        have HK := Lib.hid hk
        obtain ⟨aol, capl, rfl⟩ := hk.shape
        have hb := hk.below
        by_cases hlt : n < N
        · obtain ⟨g, o, e1, r0, l0⟩ := HS.out.row (by omega)
          subst e1
          have r := r0.below hb (by omega)
          have hf1 : ff n = ((po ys n).cl, (po ys n).ps) := by rw [← HFF.out]; rfl
          have hsl := r.sl n (by omega)
          have hml := HM.out n hlt
          obtain ⟨y, hy⟩ : ∃ y, po ys n = y := ⟨_, rfl⟩
          have c0 := r.c0 n (by omega)
          have c1 := r.c1 n (by omega)
          rw [hy] at c0 c1 hsl hf1 hml
          obtain ⟨c, vy, ps⟩ := y
          simp only at c0 c1 hsl hf1 hml
          obtain ⟨aoy, ny, capy, evy⟩ : ∃ ao n cap, vy = .slice ao n cap := by obtain ⟨ao, cap, hv, _⟩ := hsl; exact ⟨_, _, _, hv⟩
          subst evy
          obtain ⟨V, hV⟩ : ∃ V, wr.alloc (.cells #[.bool c, .slice aoy ny capy] 26) = V := ⟨_, rfl⟩
          obtain ⟨gp, hgp⟩ : ∃ g, wr.heap.size = g := ⟨_, rfl⟩
          have bV : Below wr.heap.size wr V := by rw [← hV]; exact (Below.refl _ _).alloc (Nat.le_refl _) _
          have PT := Lib.hid (t_part c a b (hsl.below bV (Nat.le_refl _)) hml)
          have KPP := Lib.hid (show keepN a b ff (n + 1) = if 2 ≤ (partP a b c ps).length then keepN a b ff n ++ [(false, partP a b c ps)] else keepN a b ff n by rw [keepN, hf1])
          have hpl : (partP a b c ps).length ≤ 8796093022208 := by have := partP_length a b c ps; omega
          obtain ⟨R, hR⟩ : ∃ R, partP a b c ps = R := ⟨_, rfl⟩
          rw [hR] at PT KPP hpl
          have kp : Has V gp #[.bool c, .slice aoy ny capy] 26 := by rw [← hV]; exact has_new hgp
          have KV := Lib.hid (HK.out.later bV)
          have BV := Lib.hid bV
          have HV := Lib.hid hV
          have KPX := Lib.hid kp
          have HGP := Lib.hid hgp
          have HPL := Lib.hid hpl
          have LL := Lib.hid (keepN_length a b ff n)
          have o3 : (n : Int) < N := by omega
          have o4 : n < N := hlt
          clear r r0 l0 hy hb hk hsl hf1 bV hV hR kp hml hpl
          go_upto_region 8 with fail
          rw [HV.out]
          clear hgp c0 c1
          have x0 := KPX.out.cell 0 _ rfl
          have x1 := KPX.out.cell 1 _ rfl
          go_wp2_with fail
          refine PT.out.mono ?_
          rintro e w2 ⟨l, rfl, hol, hb2⟩
          obtain ⟨rl, hrl⟩ : ∃ k, R.length = k := ⟨_, rfl⟩
          obtain ⟨al, cl, el⟩ := hol.len
          rw [hrl] at el
          subst el
          obtain ⟨gx, hgx⟩ : ∃ g, w2.heap.size = g := ⟨_, rfl⟩
          obtain ⟨X, hX⟩ : ∃ X, w2.alloc (.cells #[.bool false, .slice al rl cl] 26) = X := ⟨_, rfl⟩
          have bX : Below V.heap.size V X := by rw [← hX]; exact hb2.alloc hb2.size _
          have kx : Has X gx #[.bool false, .slice al rl cl] 26 := by rw [← hX]; exact has_new hgx
          have KX := Lib.hid (KV.out.later bX)
          have OX : Hid (Pown X V.heap.size (.slice al rl cl) R) := Lib.hid (by rw [← hX]; exact hol.alloc _)
          have HX := Lib.hid hX
          have KXX := Lib.hid kx
          have HRL := Lib.hid hrl
          clear hol hb2 hX hrl x0 x1 bX kx
          go_upto_region 9 with fail
          rw [HX.out]
          clear hgx
          have y0 := KXX.out.cell 0 _ rfl
          have y1 := KXX.out.cell 1 _ rfl
          by_cases h2 : 2 ≤ rl
          · have h2' : (2 : Int) ≤ rl := by omega
            have KE : Hid (keepN a b ff (n + 1) = keepN a b ff n ++ [(false, R)]) := Lib.hid (by rw [KPP.out, if_pos (by rw [HRL.out]; exact h2)])
            have bA : Below X.heap.size X (X.alloc (.cells #[.bool false, .slice al rl cl] 26)) := (Below.refl _ _).alloc (Nat.le_refl _) _
            have KA := Lib.hid (KX.out.later bA)
            have PA := Lib.hid ((OX.out.sl HPL.out).alloc (.cells #[.bool false, .slice al rl cl] 26))
            have YL : Hid (∀ k, Value.ownBlock (.slice aol (keepN a b ff n).length capl) = some k → Value.ownBlock (.slice al rl cl) ≠ some k) := Lib.hid (fun k hk1 hk2 => by have := (KV.out.young k hk1).1; have := (OX.out.base k hk2).1; omega)
            have YK : Hid (∀ k, Value.ownBlock (.slice al rl cl) = some k → k < (X.alloc (.cells #[.bool false, .slice al rl cl] 26)).heap.size) := Lib.hid (fun k hk1 => by have := (OX.out.base k hk1).2; simp; omega)
            have SB : Hid (B ≤ (X.alloc (.cells #[.bool false, .slice al rl cl] 26)).heap.size) := Lib.hid (by have := KX.out.below.size; have := HB.out; simp; omega)
            have N90 : Hid ((keepN a b ff n).length ≤ 90) := Lib.hid (by have := LL.out; omega)
            clear bA
            go_wp2_with (at_builtin; refine wpList_append_k rfl _ _ rfl rfl X.heap.size rfl ⟨false, .slice al rl cl, R⟩ (has_new rfl) KA.out N90.out PA.out YL.out YK.out ⟨_, _, _, rfl⟩ SB.out ?_)
            intro g' cap' w4 hY
            have S := Lib.hid hY
            clear hY y0 y1
            go_wp2
            go_roundw
            case rel => exact ⟨n + 1, by omega, by go_num, by rw [KE.out]; exact S.out⟩
            case measure => simp [intOf]; omega
          · have h2' : ¬ (2 : Int) ≤ rl := by omega
            have KE : Hid (keepN a b ff (n + 1) = keepN a b ff n) := Lib.hid (by rw [KPP.out, if_neg (by rw [HRL.out]; exact h2)])
            go_wp2
            go_roundw
            case rel => exact ⟨n + 1, by omega, by go_num, by rw [KE.out]; exact KX.out⟩
            case measure => simp [intOf]; omega
        · obtain rfl : n = N := by omega
          have R := Lib.hid (hk.gives (by have := keepN_length a b ff n; omega))
          have o3 : ¬ (n : Int) < n := by omega
          clear hk hb
          go_wp2
          go_ret
          exact R.out

end Go.Proofs.Ytijahjkamdfmiaa

namespace Go.Proofs.Ytijahjkamdfmiaa
open Go Go.RowKit
open M

set_option maxRecDepth 100000 in
set_option maxHeartbeats 2000000 in
theorem r9_trim (f t : Int) {v : Value} {ys : List Po} {w : World} (h : Ysl w v ys) (h80 : ys.length ≤ 80) (hm : ∀ j, j < ys.length → (po ys j).ps.length ≤ 8796093022000) :
    Calls Try.prog 18 #[v, .int .i64 f, .int .i64 t] w (GivesL w (trimL f t (fun j => bareY (po ys j)) ys.length)) := by
  have SP := Lib.hid (r9_span f t)
  by_cases hw : spA f t = 0 ∧ spB f t = 65536
  · rw [trimL_all hw]
    rw [hw.1, hw.2] at SP
    obtain ⟨ff, hff⟩ : ∃ f : Nat → Bool × List Pt, (fun j => bareY (po ys j)) = f := ⟨_, rfl⟩
    rw [hff]
    obtain ⟨N, hN⟩ : ∃ N, ys.length = N := ⟨_, rfl⟩
    obtain ⟨B, hB⟩ : ∃ B, w.heap.size = B := ⟨_, rfl⟩
    obtain ⟨ao, cap, ev⟩ : ∃ ao cap, v = .slice ao N cap := by obtain ⟨ao, cap, e, _⟩ := h; rw [hN] at e; exact ⟨_, _, e⟩
    subst ev
    rw [hN] at h80 hm ⊢
    have HS := Lib.hid h
    have HM := Lib.hid hm
    have HB := Lib.hid hB
    have HFF := Lib.hid hff
    have K0 : Hid (Kp w B [] (.slice none 0 0) w) := Lib.hid (Kp.start (by omega))
    change Calls Try.prog 18 _ w (GivesL w (allN ff N))
    clear h hm hB hff hN hw
    go_enter Try.func18, Try.ntmps18
    go_wp2_with fail
    refine (SP.out _).mono ?_
    rintro e w' ⟨rfl, rfl⟩
    go_wp2_with fail
    go_loopw [9, 10] (fun o i wr => ∃ n : Nat, n ≤ N ∧ i = .int .i64 n ∧ Kp w B (allN ff n) o wr) (fun _ i _ => N - (intOf i).toNat)
    case atStart => exact ⟨0, by omega, rfl, K0.out⟩
    case round =>
      clear K0
      obtain ⟨n, hn, rfl, hk⟩ := hrel
      have HK := Lib.hid hk
      obtain ⟨aol, capl, rfl⟩ := hk.shape
      have hb := hk.below
      by_cases hlt : n < N
      · obtain ⟨g, o, e1, r0, l0⟩ := HS.out.row (by omega)
        subst e1
        have r := r0.below hb (by omega)
        have hf1 : ff n = ((po ys n).cl, (po ys n).ps) := by rw [← HFF.out]; rfl
        have hsl := r.sl n (by omega)
        have hml := HM.out n hlt
        obtain ⟨y, hy⟩ : ∃ y, po ys n = y := ⟨_, rfl⟩
        have c0 := r.c0 n (by omega)
        have c1 := r.c1 n (by omega)
        rw [hy] at c0 c1 hsl hf1 hml
        obtain ⟨c, vy, ps⟩ := y
        simp only at c0 c1 hsl hf1 hml
        obtain ⟨aoy, ny, capy, evy⟩ : ∃ ao n cap, vy = .slice ao n cap := by obtain ⟨ao, cap, hv, _⟩ := hsl; exact ⟨_, _, _, hv⟩
        subst evy
        have CP := Lib.hid (r9_copied c hsl)
        have FL := Lib.hid hsl.few
        have HML := Lib.hid hml
        have KE : Hid (allN ff (n + 1) = allN ff n ++ [(c, ps)]) := Lib.hid (by rw [allN_succ, hf1])
        have LL := Lib.hid (allN_length ff n)
        have o3 : (n : Int) < N := by omega
        have o4 : n < N := hlt
        clear r r0 l0 hy hb hk hsl hf1 hml
        go_wp2_with fail
        refine CP.out.mono ?_
        rintro e w2 ⟨l, rfl, hol, hb2⟩
        obtain ⟨sl, hsl⟩ : ∃ k, ps.length = k := ⟨_, rfl⟩
        obtain ⟨al, cl, el⟩ := hol.len
        rw [hsl] at el
        subst el
        obtain ⟨gx, hgx⟩ : ∃ g, w2.heap.size = g := ⟨_, rfl⟩
        obtain ⟨X, hX⟩ : ∃ X, w2.alloc (.cells #[.bool c, .slice al sl cl] 26) = X := ⟨_, rfl⟩
        have bX : Below wr.heap.size wr X := by rw [← hX]; exact hb2.alloc hb2.size _
        have kx : Has X gx #[.bool c, .slice al sl cl] 26 := by rw [← hX]; exact has_new hgx
        have KX := Lib.hid (HK.out.later bX)
        have OX : Hid (Pown X wr.heap.size (.slice al sl cl) ps) := Lib.hid (by rw [← hX]; exact hol.alloc _)
        have BX := Lib.hid bX
        have HX := Lib.hid hX
        have KXX := Lib.hid kx
        have HSL := Lib.hid hsl
        have GX : Hid (wr.heap.size ≤ gx ∧ gx < X.heap.size) := Lib.hid ⟨by have := hb2.size; omega, kx.lt⟩
        clear hol hb2 hX hsl c0 c1 bX kx
        go_upto_region 7 with fail
        rw [HX.out]
        clear hgx
        have OXX := OX
        have KXXX := KX
        have y0 := KXX.out.cell 0 _ rfl
        have y1 := KXX.out.cell 1 _ rfl
        have bA : Below X.heap.size X (X.alloc (.cells #[.bool c, .slice al sl cl] 26)) := (Below.refl _ _).alloc (Nat.le_refl _) _
        have KA := Lib.hid (KXXX.out.later bA)
        have PA := Lib.hid ((OXX.out.sl FL.out).alloc (.cells #[.bool c, .slice al sl cl] 26))
        have YL : Hid (∀ k, Value.ownBlock (.slice aol (allN ff n).length capl) = some k → Value.ownBlock (.slice al sl cl) ≠ some k) := Lib.hid (fun k hk1 hk2 => by have := (HK.out.young k hk1).1; have := (OXX.out.base k hk2).1; omega)
        have YK : Hid (∀ k, Value.ownBlock (.slice al sl cl) = some k → k < (X.alloc (.cells #[.bool c, .slice al sl cl] 26)).heap.size) := Lib.hid (fun k hk1 => by have := (OXX.out.base k hk1).2; simp; omega)
        have SB : Hid (B ≤ (X.alloc (.cells #[.bool c, .slice al sl cl] 26)).heap.size) := Lib.hid (by have := KXXX.out.below.size; have := HB.out; simp; omega)
        have N90 : Hid ((allN ff n).length ≤ 90) := Lib.hid (by have := LL.out; omega)
        clear bA
        go_wp2_with (at_builtin; refine wpList_append_k rfl _ _ rfl rfl X.heap.size rfl ⟨c, .slice al sl cl, ps⟩ (has_new rfl) KA.out N90.out PA.out YL.out YK.out ⟨_, _, _, rfl⟩ SB.out ?_)
        intro g' cap' w4 hY
        have S := Lib.hid hY
        clear hY y0 y1
        go_wp2
        go_roundw
        case rel => exact ⟨n + 1, by omega, by go_num, by rw [KE.out]; exact S.out⟩
        case measure => simp [intOf]; omega
      · obtain rfl : n = N := by omega
        have R := Lib.hid (hk.gives (by have := allN_length ff n; omega))
        have o3 : ¬ (n : Int) < n := by omega
        clear hk hb
        go_wp2
        go_ret
        exact R.out
  · rw [trimL_part hw]
    obtain ⟨a, ha⟩ : ∃ a, spA f t = a := ⟨_, rfl⟩
    obtain ⟨b, hb⟩ : ∃ a, spB f t = a := ⟨_, rfl⟩
    rw [ha, hb] at hw SP ⊢
    obtain ⟨ff, hff⟩ : ∃ f : Nat → Bool × List Pt, (fun j => bareY (po ys j)) = f := ⟨_, rfl⟩
    rw [hff]
    obtain ⟨N, hN⟩ : ∃ N, ys.length = N := ⟨_, rfl⟩
    obtain ⟨B, hB⟩ : ∃ B, w.heap.size = B := ⟨_, rfl⟩
    obtain ⟨ao, cap, ev⟩ : ∃ ao cap, v = .slice ao N cap := by obtain ⟨ao, cap, e, _⟩ := h; rw [hN] at e; exact ⟨_, _, e⟩
    subst ev
    rw [hN] at h80 hm ⊢
    have HS := Lib.hid h
    have HM := Lib.hid hm
    have HB := Lib.hid hB
    have HFF := Lib.hid hff
    have K0 : Hid (Kp w B [] (.slice none 0 0) w) := Lib.hid (Kp.start (by omega))
    clear h hm hB hff hN ha hb
    go_enter Try.func18, Try.ntmps18
    go_wp2_with fail
    refine (SP.out _).mono ?_
    rintro e w' ⟨rfl, rfl⟩
    go_wp2_with fail
    go_loopw [9, 10] (fun o i wr => ∃ n : Nat, n ≤ N ∧ i = .int .i64 n ∧ Kp w B (keepN a b ff n) o wr) (fun _ i _ => N - (intOf i).toNat)
    case atStart => exact ⟨0, by omega, rfl, K0.out⟩
    case round =>
      clear K0
      obtain ⟨n, hn, rfl, hk⟩ := hrel
      have HK := Lib.hid hk
      obtain ⟨aol, capl, rfl⟩ := hk.shape
      have hb := hk.below
      by_cases hlt : n < N
      · obtain ⟨g, o, e1, r0, l0⟩ := HS.out.row (by omega)
        subst e1
        have r := r0.below hb (by omega)
        have hf1 : ff n = ((po ys n).cl, (po ys n).ps) := by rw [← HFF.out]; rfl
        have hsl := r.sl n (by omega)
        have hml := HM.out n hlt
        obtain ⟨y, hy⟩ : ∃ y, po ys n = y := ⟨_, rfl⟩
        have c0 := r.c0 n (by omega)
        have c1 := r.c1 n (by omega)
        rw [hy] at c0 c1 hsl hf1 hml
        obtain ⟨c, vy, ps⟩ := y
        simp only at c0 c1 hsl hf1 hml
        obtain ⟨aoy, ny, capy, evy⟩ : ∃ ao n cap, vy = .slice ao n cap := by obtain ⟨ao, cap, hv, _⟩ := hsl; exact ⟨_, _, _, hv⟩
        subst evy
        have CP := Lib.hid (r9_copied c hsl)
        have FL := Lib.hid hsl.few
        have HML := Lib.hid hml
        have KPP := Lib.hid (show keepN a b ff (n + 1) = if 2 ≤ (partP a b c ps).length then keepN a b ff n ++ [(false, partP a b c ps)] else keepN a b ff n by rw [keepN, hf1])
        have hpl : (partP a b c ps).length ≤ 8796093022208 := by have := partP_length a b c ps; omega
        have HPL := Lib.hid hpl
        clear hpl
        have LL := Lib.hid (keepN_length a b ff n)
        have o3 : (n : Int) < N := by omega
        have o4 : n < N := hlt
        clear r r0 l0 hy hb hk hsl hf1 hml
        go_wp2_with fail
        refine CP.out.mono ?_
        rintro e w2 ⟨l, rfl, hol, hb2⟩
        obtain ⟨sl, hsl⟩ : ∃ k, ps.length = k := ⟨_, rfl⟩
        obtain ⟨al, cl, el⟩ := hol.len
        rw [hsl] at el
        subst el
        obtain ⟨gx, hgx⟩ : ∃ g, w2.heap.size = g := ⟨_, rfl⟩
        obtain ⟨X, hX⟩ : ∃ X, w2.alloc (.cells #[.bool c, .slice al sl cl] 26) = X := ⟨_, rfl⟩
        have bX : Below wr.heap.size wr X := by rw [← hX]; exact hb2.alloc hb2.size _
        have kx : Has X gx #[.bool c, .slice al sl cl] 26 := by rw [← hX]; exact has_new hgx
        have KX := Lib.hid (HK.out.later bX)
        have OX : Hid (Pown X wr.heap.size (.slice al sl cl) ps) := Lib.hid (by rw [← hX]; exact hol.alloc _)
        have BX := Lib.hid bX
        have HX := Lib.hid hX
        have KXX := Lib.hid kx
        have HSL := Lib.hid hsl
        have GX : Hid (wr.heap.size ≤ gx ∧ gx < X.heap.size) := Lib.hid ⟨by have := hb2.size; omega, kx.lt⟩
        clear hol hb2 hX hsl c0 c1 bX kx
        go_upto_region 7 with fail
        rw [HX.out]
        clear hgx
        go_cut [35] from 19 to 53 (fun s wx => s = .bool true ∧ wx = X)
        case first =>
          by_cases h0 : a = 0
          · have h1 : ¬ b = 65536 := fun e => hw ⟨h0, e⟩
            go_wp2_with fail
            go_meet
            exact ⟨by simp [h1], rfl⟩
          · go_wp2_with fail
            go_meet
            exact ⟨rfl, rfl⟩
        case rest =>
          obtain ⟨rfl, hx⟩ := hcut
          subst hx
          rename World => X
          have LE := Lib.hid (r9_length c (OX.out.sl FL.out))
          have PT := Lib.hid (fun (w' : World) (hb : Below X.heap.size X w') => r9_part c (mul (lengthL c ps) a) (mul (lengthL c ps) b) ((OX.out.sl FL.out).below hb (Nat.le_refl _)) HML.out)
          change Hid (∀ w', Below X.heap.size X w' → Calls Try.prog 30 #[.agg #[.bool c, .slice al sl cl], .int .i64 (mul (lengthL c ps) a), .int .i64 (mul (lengthL c ps) b)] w' (Gives w' false (partP a b c ps))) at PT
          obtain ⟨R, hR⟩ : ∃ R, partP a b c ps = R := ⟨_, rfl⟩
          rw [hR] at PT KPP HPL
          obtain ⟨le, hle⟩ : ∃ k, lengthL c ps = k := ⟨_, rfl⟩
          rw [hle] at LE PT
          clear hR hle
          have x0 := KXX.out.cell 0 _ rfl
          have x1 := KXX.out.cell 1 _ rfl
          go_wp2_with fail
          refine LE.out.mono ?_
          rintro e w3 ⟨rfl, hq3⟩
          have B3 := Lib.hid hq3
          have K3 := Lib.hid (KXX.out.below hq3 KXX.out.lt)
          clear hq3 x0 x1
          go_upto_region 9 with fail
          refine wp_region_make0 7 (by kernel_rfl) (by kernel_rfl) (by kernel_rfl) ?_
          apply Exists.intro
          refine ⟨fun R hR hN => ?_, ?_⟩
          · have A0 := fun z => LaterR.read (R := R) K3.out 0 _ rfl z
            have A1 := fun z => LaterR.read (R := R) K3.out 1 _ rfl z
            simp only [List.take_succ_cons, List.take_zero]
            repeat (go_big_quiet_step (first | (go_at_call 31; exact LaterR.calls hR (drawnB (r_mul _ _ _)))))
            exact wpQuiet_nil rfl
          · intro w4 hb4
            simp only [List.drop_succ_cons, List.drop_zero]
            have B4 := Lib.hid (B3.out.trans (hb4.mono B3.out.size))
            have C4 := Lib.hid (BX.out.trans (B4.out.mono BX.out.size))
            have k4 := K3.out.below hb4 K3.out.lt
            have K4 := Lib.hid k4
            clear k4 hb4
            go_wp2_with fail
            refine (PT.out _ B4.out).mono ?_
            rintro e w5 ⟨l, rfl, ho5, hb5⟩
            obtain ⟨rl, hrl⟩ : ∃ k, R.length = k := ⟨_, rfl⟩
            obtain ⟨ar, cr, er⟩ := ho5.len
            rw [hrl] at er
            subst er
            obtain ⟨g1, g2⟩ := part_put (w := wr) C4.out GX.out.1 K4.out rfl ho5 hb5
            have k5 := K4.out.below hb5 K4.out.lt
            have q0 := k5.cell 0 _ rfl
            have q1 := k5.cell 1 _ rfl
            have fz := has_fro k5
            obtain ⟨Z, hZ⟩ : ∃ Z, (w5.setCell ⟨gx, 0, none⟩ (.bool false)).setCell ⟨gx, 1, none⟩ (.slice ar rl cr) = Z := ⟨_, rfl⟩
            rw [hZ] at g1 g2
            obtain ⟨l', el, oZ, bZ⟩ := g1
            simp only [Ending.returned.injEq, Value.agg.injEq, Array.mk.injEq, List.cons.injEq, true_and, and_true] at el
            subst el
            have OXZ := Lib.hid oZ
            have KXZ := Lib.hid (HK.out.later bZ)
            have KZ := Lib.hid g2
            have HZ := Lib.hid hZ
            have HRL := Lib.hid hrl
            clear ho5 hb5 hrl g2 k5 hZ oZ bZ
            go_upto_region 10 with fail
            rw [HZ.out]
            clear q0 q1 fz
            have y0 := KZ.out.cell 0 _ rfl
            have y1 := KZ.out.cell 1 _ rfl
            by_cases h2 : 2 ≤ rl
            · have h2' : ¬ (rl : Int) < 2 := by omega
              have KE : Hid (keepN a b ff (n + 1) = keepN a b ff n ++ [(false, R)]) := Lib.hid (by rw [KPP.out, if_pos (by rw [HRL.out]; exact h2)])
              have bA : Below Z.heap.size Z (Z.alloc (.cells #[.bool false, .slice ar rl cr] 26)) := (Below.refl _ _).alloc (Nat.le_refl _) _
              have KA := Lib.hid (KXZ.out.later bA)
              have PA := Lib.hid ((OXZ.out.sl HPL.out).alloc (.cells #[.bool false, .slice ar rl cr] 26))
              have YL : Hid (∀ k, Value.ownBlock (.slice aol (keepN a b ff n).length capl) = some k → Value.ownBlock (.slice ar rl cr) ≠ some k) := Lib.hid (fun k hk1 hk2 => by have := (HK.out.young k hk1).1; have := (OXZ.out.base k hk2).1; omega)
              have YK : Hid (∀ k, Value.ownBlock (.slice ar rl cr) = some k → k < (Z.alloc (.cells #[.bool false, .slice ar rl cr] 26)).heap.size) := Lib.hid (fun k hk1 => by have := (OXZ.out.base k hk1).2; simp; omega)
              have SB : Hid (B ≤ (Z.alloc (.cells #[.bool false, .slice ar rl cr] 26)).heap.size) := Lib.hid (by have := KXZ.out.below.size; have := HB.out; simp; omega)
              have N90 : Hid ((keepN a b ff n).length ≤ 90) := Lib.hid (by have := LL.out; omega)
              clear bA
              go_wp2_with (at_builtin; refine wpList_append_k rfl _ _ rfl rfl Z.heap.size rfl ⟨false, .slice ar rl cr, R⟩ (has_new rfl) KA.out N90.out PA.out YL.out YK.out ⟨_, _, _, rfl⟩ SB.out ?_)
              intro g' cap' w6 hY
              have S := Lib.hid hY
              clear hY y0 y1
              go_wp2
              go_roundw
              case rel => exact ⟨n + 1, by omega, by go_num, by rw [KE.out]; exact S.out⟩
              case measure => simp [intOf]; omega
            · have h2' : (rl : Int) < 2 := by omega
              have KE : Hid (keepN a b ff (n + 1) = keepN a b ff n) := Lib.hid (by rw [KPP.out, if_neg (by rw [HRL.out]; exact h2)])
              go_wp2
              go_roundw
              case rel => exact ⟨n + 1, by omega, by go_num, by rw [KE.out]; exact KXZ.out⟩
              case measure => simp [intOf]; omega
      · obtain rfl : n = N := by omega
        have R := Lib.hid (hk.gives (by have := keepN_length a b ff n; omega))
        have o3 : ¬ (n : Int) < n := by omega
        clear hk hb
        go_wp2
        go_ret
        exact R.out

end Go.Proofs.Ytijahjkamdfmiaa

namespace Go.Proofs.Ytijahjkamdfmiaa
open Go Go.RowKit
open M

set_option maxRecDepth 100000 in
set_option maxHeartbeats 2000000 in
theorem r8_polys {v u : Value} {ys zs : List Po} {w : World} (h : Ysl w v ys) (h2 : Ysl w u zs) (hl : ys.length = zs.length) (he : ∀ j, j < ys.length → bareY (po ys j) = bareY (po zs j)) :
    Calls Try.prog 13 #[v, u] w fun e w' => e = .returned (.bool true) ∧ Below w.heap.size w w' := by
  have hs := h
  have hs2 := h2
  obtain ⟨ao, cap, rfl, hf, _⟩ := h
  obtain ⟨ao2, cap2, rfl, hf2, _⟩ := h2
  obtain ⟨N, hN⟩ : ∃ N, ys.length = N := ⟨_, rfl⟩
  rw [hN] at hl he hf hs
  rw [← hl] at hs2 hf2 ⊢
  rw [hN]
  have HS := Lib.hid hs
  have HS2 := Lib.hid hs2
  have HE := Lib.hid he
  have HN := Lib.hid hN
  have HL := Lib.hid hl
  clear hs hs2 he hN hl hf2
  go_enter Try.func13, Try.ntmps13
  go_wp2
  go_loopw [5] (fun i wr => ∃ n : Nat, n ≤ N ∧ i = .int .i64 n ∧ Below w.heap.size w wr) (fun i _ => N - (intOf i).toNat)
  case atStart => exact ⟨0, by omega, rfl, Below.refl _ _⟩
  case round =>
    obtain ⟨n, hn, rfl, hb⟩ := hrel
    by_cases hlt : n < N
    · obtain ⟨g, o, e1, r, l1⟩ := (HS.out.below hb).row (by omega)
      obtain ⟨g2, o2, e2, r2, l2⟩ := (HS2.out.below hb).row (by omega)
      subst e1 e2
      have b0 := HE.out n hlt
      have sa := r.sl n (by omega)
      have sb := r2.sl n (by omega)
      have c0 := r.c0 n (by omega)
      have c1 := r.c1 n (by omega)
      have d0 := r2.c0 n (by omega)
      have d1 := r2.c1 n (by omega)
      obtain ⟨y, hy⟩ : ∃ y, po ys n = y := ⟨_, rfl⟩
      obtain ⟨z, hz⟩ : ∃ y, po zs n = y := ⟨_, rfl⟩
      rw [hy] at b0 sa c0 c1
      rw [hz] at b0 sb d0 d1
      obtain ⟨c, vy, ps⟩ := y
      obtain ⟨c', vz, qs⟩ := z
      simp only [bareY, Prod.mk.injEq] at b0
      obtain ⟨rfl, rfl⟩ := b0
      simp only at sa sb c0 c1 d0 d1
      have y0 := fun z : Later wr => (z.below.cell (p := ⟨g, _, _⟩) (World.block_lt_of_cell? wr _ c0)).trans c0
      have y1 := fun z : Later wr => (z.below.cell (p := ⟨g, _, _⟩) (World.block_lt_of_cell? wr _ c1)).trans c1
      have z0 := fun z : Later wr => (z.below.cell (p := ⟨g2, _, _⟩) (World.block_lt_of_cell? wr _ d0)).trans d0
      have z1 := fun z : Later wr => (z.below.cell (p := ⟨g2, _, _⟩) (World.block_lt_of_cell? wr _ d1)).trans d1
      have PT : Hid (∀ z : Later wr, Calls Try.prog 25 #[vy, vz] z.to fun e w' => e = .returned (.bool true) ∧ Below z.to.heap.size z.to w') := Lib.hid (fun z => by have := r8_points (sa.later z) (sb.later z); rw [decide_eq_true rfl] at this; exact this)
      obtain ⟨aoy, ny, capy, evy⟩ : ∃ ao n cap, vy = .slice ao n cap := by obtain ⟨ao, cap, hv, _⟩ := sa; exact ⟨_, _, _, hv⟩
      obtain ⟨aoz, nz, capz, evz⟩ : ∃ ao n cap, vz = .slice ao n cap := by obtain ⟨ao, cap, hv, _⟩ := sb; exact ⟨_, _, _, hv⟩
      subst evy evz
      have HBB := Lib.hid hb
      have o3 : (n : Int) < N := by omega
      have o4 : n < N := hlt
      clear r r2 l1 l2 hy hz hb sa sb c0 c1 d0 d1
      go_upto_region 6 with fail
      refine wp_region_class (C := fun w' => ∃ z : Later wr, w' = z.to) (by kernel_rfl) (by kernel_rfl) ⟨⟨_, below_drew (Below.refl _ _)⟩, rfl⟩ ?_
      repeat (go_big_quiet_step (first | (go_at_call 25; exact Later.calls (PT.out _))))
      refine wpQuiet_nil ?_
      rintro _ ⟨z, rfl⟩
      have BZ := Lib.hid (HBB.out.trans (z.below.mono HBB.out.size))
      clear y0 y1 z0 z1
      go_wp2
      go_roundw
      case rel => exact ⟨n + 1, by omega, by go_num, BZ.out⟩
      case measure => simp [intOf]; omega
    · obtain rfl : n = N := by omega
      have o3 : ¬ (n : Int) < n := by omega
      have HBB := Lib.hid hb
      clear hb
      go_wp2
      go_ret
      exact ⟨rfl, HBB.out⟩

end Go.Proofs.Ytijahjkamdfmiaa

namespace Go.Proofs.Ytijahjkamdfmiaa
open Go Go.RowKit
open M

theorem Ysl.slice {w : World} {v : Value} {ys : List Po} (h : Ysl w v ys) : ∃ ao cap, v = .slice ao ys.length cap := by
  obtain ⟨ao, cap, e, _⟩ := h
  exact ⟨ao, cap, e⟩
theorem bares_len {ys zs : List Po} (h : ys.map bareY = zs.map bareY) : ys.length = zs.length := by simpa using congrArg List.length h
theorem bares_at {ys zs : List Po} (h : ys.map bareY = zs.map bareY) : ∀ j, j < ys.length → bareY (po ys j) = bareY (po zs j) := by
  intro j hj
  have hl := bares_len h
  have := congrArg (fun l => l[j]?) h
  simp [hj, show j < zs.length by omega] at this
  unfold po
  rw [List.getD_eq_getElem?_getD, List.getD_eq_getElem?_getD, List.getElem?_eq_getElem hj, List.getElem?_eq_getElem (by omega)]
  exact this
theorem bares_one {zs : List Po} {c : Bool} {ps : List Pt} (h : zs.map bareY = [(c, ps)]) : ∃ l, zs = [⟨c, l, ps⟩] := by
  match zs, h with
  | [⟨c', l, ps'⟩], h =>
    simp [bareY] at h
    obtain ⟨rfl, rfl⟩ := h
    exact ⟨l, rfl⟩

set_option maxRecDepth 100000 in
set_option maxHeartbeats 2000000 in
theorem l10_same (f t : Int) {v : Value} {ys : List Po} {w : World} (h : Ysl w v ys) (h80 : ys.length ≤ 80) (hm : ∀ j, j < ys.length → (po ys j).ps.length ≤ 8796093022000) :
    Calls Try.prog 9 #[v, .int .i64 f, .int .i64 t] w fun e w' => e = .returned (.bool true) ∧ Below w.heap.size w w' := by
  have T1 := Lib.hid (t_of f t h h80 hm)
  have T2 := Lib.hid (fun (w' : World) (hb : Below w.heap.size w w') => r9_trim f t (h.below hb) h80 hm)
  have S1 := Lib.hid (t_span f t)
  have S2 := Lib.hid (r9_span f t)
  obtain ⟨R, hR⟩ : ∃ R, trimL f t (fun j => bareY (po ys j)) ys.length = R := ⟨_, rfl⟩
  rw [hR] at T1 T2
  obtain ⟨a, ha⟩ : ∃ a, spA f t = a := ⟨_, rfl⟩
  obtain ⟨b, hb⟩ : ∃ a, spB f t = a := ⟨_, rfl⟩
  rw [ha, hb] at S1 S2
  obtain ⟨ao, cap, rfl⟩ := h.slice
  clear h h80 hm hR ha hb
  go_enter Try.func9, Try.ntmps9
  go_wp2_with fail
  refine (S1.out _).mono ?_
  rintro e w' ⟨rfl, rfl⟩
  go_wp2_with fail
  refine (S2.out _).mono ?_
  rintro e w' ⟨rfl, rfl⟩
  go_wp2_with fail
  refine T1.out.mono ?_
  rintro e w1 ⟨v1, z1, rfl, hy1, hz1, hb1⟩
  have Y1 := Lib.hid hy1
  have Z1 := Lib.hid hz1
  have B1 := Lib.hid hb1
  obtain ⟨ao1, cap1, rfl⟩ := hy1.slice
  clear hy1 hz1 hb1
  go_wp2_with fail
  refine (T2.out _ B1.out).mono ?_
  rintro e w2 ⟨v2, z2, rfl, hy2, hz2, hb2⟩
  have PL := Lib.hid (r8_polys (Y1.out.below hb2) hy2 (bares_len (Z1.out.trans hz2.symm)) (bares_at (Z1.out.trans hz2.symm)))
  have B2 := Lib.hid (B1.out.trans (hb2.mono B1.out.size))
  obtain ⟨ao2, cap2, rfl⟩ := hy2.slice
  clear hy2 hz2 hb2
  go_wp2_with fail
  refine PL.out.mono ?_
  rintro e w3 ⟨rfl, hb3⟩
  have B3 := Lib.hid (B2.out.trans (hb3.mono B2.out.size))
  clear hb3
  go_wp2
  go_ret
  exact ⟨rfl, B3.out⟩

def kn10 : List Pt := [⟨0, 0⟩, ⟨655360, 0⟩]
theorem kn10_sa : sa kn10 0 = ⟨0, 0⟩ := by decide +kernel
theorem kn10_sb : sb kn10 0 = ⟨655360, 0⟩ := by decide +kernel
theorem kn10_side : sideL kn10 0 = 655360 := by
  unfold sideL longP
  rw [kn10_sa, kn10_sb]
  unfold hyp
  rw [show (wide ((655360 : Int) - 0) * wide (655360 - 0) + wide (0 - 0) * wide (0 - 0)).toNat = 429496729600 by decide +kernel, isq_eq (r := 655360) (by decide) (by decide)]
  rfl
theorem kn10_len : lengthL false kn10 = 655360 := by
  show add (lenN kn10 0) (sideL kn10 0) = 655360
  rw [kn10_side, lenN_zero]
  decide +kernel
theorem kn10_half : partP 0 32768 false kn10 = [⟨0, 0⟩, ⟨327680, 0⟩] := by
  unfold partP
  rw [kn10_len, show mul 655360 0 = 0 by decide +kernel, show mul 655360 32768 = 327680 by decide +kernel, cutL_yes (by decide +kernel), show hold 0 = 0 by decide +kernel, show hold 327680 = 327680 by decide +kernel]
  show cutN kn10 0 327680 (0 + 1) = _
  rw [cutN_first (by unfold hit; rw [kn10_side, lenN_zero]; decide) rfl]
  unfold fromP
  rw [kn10_side, lenN_zero, kn10_sa, kn10_sb]
  decide +kernel
theorem kn10_h : trim1 32768 0 false kn10 = [(false, [⟨0, 0⟩, ⟨327680, 0⟩])] := by
  unfold trim1
  rw [show spA 32768 0 = 0 by decide +kernel, show spB 32768 0 = 32768 by decide +kernel, if_neg (by decide), kn10_half]
  rfl
theorem kn10_a : trim1 0 65536 false kn10 = [(false, kn10)] := by
  unfold trim1
  rw [if_pos (by decide +kernel)]
theorem kn10_n : trim1 5 5 false kn10 = [] := by
  unfold trim1
  rw [show spA 5 5 = 5 by decide +kernel, show spB 5 5 = 5 by decide +kernel, if_neg (by decide)]
  unfold partP
  rw [cutL_no (Int.le_refl _)]
  rfl
theorem kn10_s : spA 9 (-1) = 0 ∧ spB 9 (-1) = 9 := by decide +kernel

set_option maxRecDepth 100000 in
set_option maxHeartbeats 2000000 in
theorem known10 (w : World) : Calls Try.prog 10 #[] w fun r w' => r = .returned (.bool true) ∧ Below w.heap.size w w' := by
  obtain ⟨B, hB⟩ : ∃ B, w.heap.size = B := ⟨_, rfl⟩
  obtain ⟨W, hW⟩ : ∃ W, (w.alloc (.cells #[.int .i64 0, .int .i64 0, .int .i64 655360, .int .i64 0] 40)).alloc (.cells #[.bool false, .slice (some ⟨B, 0, none⟩) 2 2] 26) = W := ⟨_, rfl⟩
  have k0 : Has W B #[.int .i64 0, .int .i64 0, .int .i64 655360, .int .i64 0] 40 := by rw [← hW]; exact (has_new hB).alloc _
  have k1 : Has W (B + 1) #[.bool false, .slice (some ⟨B, 0, none⟩) 2 2] 26 := by rw [← hW]; exact has_new (by simp [hB])
  have hs : Psl W (.slice (some ⟨B, 0, none⟩) 2 2) kn10 := psl_lit (ps := kn10) 2 2 rfl (by decide) k0 rfl
  have hy : Ysl W (.slice (some ⟨B + 1, 0, none⟩) 1 1) [⟨false, .slice (some ⟨B, 0, none⟩) 2 2, kn10⟩] := ysl_one hs k1
  have bW : Below w.heap.size w W := by rw [← hW]; exact ((Below.refl _ _).alloc (by omega) _).alloc (by simp) _
  have hml : ∀ j, j < [(⟨false, .slice (some ⟨B, 0, none⟩) 2 2, kn10⟩ : Po)].length → (po [(⟨false, .slice (some ⟨B, 0, none⟩) 2 2, kn10⟩ : Po)] j).ps.length ≤ 8796093022000 := fun j hj => by
    obtain rfl : j = 0 := by simp at hj; omega
    rw [po_zero]
    show kn10.length ≤ _
    decide
  have OF := Lib.hid (fun (f t : Int) (w' : World) (hb : Below W.heap.size W w') => t_of f t (hy.below hb) (by simp) hml)
  have OE : ∀ f t : Int, trimL f t (fun j => bareY (po [⟨false, .slice (some ⟨B, 0, none⟩) 2 2, kn10⟩] j)) 1 = trim1 f t false kn10 := fun f t => trimL_one f t rfl
  have O1 : Hid (∀ w', Below W.heap.size W w' → Calls Try.prog 12 #[.slice (some ⟨B + 1, 0, none⟩) 1 1, .int .i64 32768, .int .i64 0] w' (GivesL w' [(false, [⟨0, 0⟩, ⟨327680, 0⟩])])) := Lib.hid (fun w' hb => by have := OF.out 32768 0 w' hb; rw [show ([(⟨false, .slice (some ⟨B, 0, none⟩) 2 2, kn10⟩ : Po)]).length = 1 from rfl, OE, kn10_h] at this; exact this)
  have O2 : Hid (∀ w', Below W.heap.size W w' → Calls Try.prog 12 #[.slice (some ⟨B + 1, 0, none⟩) 1 1, .int .i64 0, .int .i64 65536] w' (GivesL w' [(false, kn10)])) := Lib.hid (fun w' hb => by have := OF.out 0 65536 w' hb; rw [show ([(⟨false, .slice (some ⟨B, 0, none⟩) 2 2, kn10⟩ : Po)]).length = 1 from rfl, OE, kn10_a] at this; exact this)
  have O3 : Hid (∀ w', Below W.heap.size W w' → Calls Try.prog 12 #[.slice (some ⟨B + 1, 0, none⟩) 1 1, .int .i64 5, .int .i64 5] w' (GivesL w' [])) := Lib.hid (fun w' hb => by have := OF.out 5 5 w' hb; rw [show ([(⟨false, .slice (some ⟨B, 0, none⟩) 2 2, kn10⟩ : Po)]).length = 1 from rfl, OE, kn10_n] at this; exact this)
  have SP : Hid (∀ w', Calls Try.prog 16 #[.int .i64 9, .int .i64 (-1)] w' fun e w'' => e = .returned (.tuple #[.int .i64 0, .int .i64 9]) ∧ w' = w'') := Lib.hid (fun w' => by have := t_span 9 (-1) w'; rw [kn10_s.1, kn10_s.2] at this; exact this)
  have HY := Lib.hid hy
  have BW := Lib.hid bW
  have HW := Lib.hid hW
  clear hs hy bW hW k0 k1 OF OE hml
  go_enter Try.func10, Try.ntmps10
  go_upto_region 2 with fail
  rw [HW.out]
  clear hB
  go_wp2_with fail
  refine (O1.out _ (Below.refl _ _)).mono ?_
  rintro e w1 ⟨v1, z1, rfl, hy1, hz1, hb1⟩
  obtain ⟨l1, rfl⟩ := bares_one hz1
  obtain ⟨ao1, cap1, rfl⟩ := hy1.slice
  have Y1 := Lib.hid hy1
  have B1 := Lib.hid hb1
  clear hy1 hz1 hb1
  go_wp2_with fail
  refine (SP.out _).mono ?_
  rintro e w2 ⟨rfl, rfl⟩
  go_wp2_with fail
  refine (O2.out _ B1.out).mono ?_
  rintro e w3 ⟨v3, z3, rfl, hy3, hz3, hb3⟩
  obtain ⟨l3, rfl⟩ := bares_one hz3
  have B3 := Lib.hid (B1.out.trans (hb3.mono B1.out.size))
  have PL := Lib.hid (r8_polys hy3 (HY.out.below B3.out) rfl one_alike)
  have Y3 := Lib.hid (Y1.out.below hb3)
  obtain ⟨ao3, cap3, rfl⟩ := hy3.slice
  clear hy3 hz3 hb3 Y1
  go_wp2_with fail
  refine PL.out.mono ?_
  rintro e w4 ⟨rfl, hb4⟩
  have B4 := Lib.hid (B3.out.trans (hb4.mono B3.out.size))
  have y4 := Y3.out.below hb4
  obtain ⟨g, o, e1, row, _⟩ := y4.row (by simp)
  subst e1
  have c1 := row.c1 0 (by simp)
  have s1 := row.sl 0 (by simp)
  simp only [Nat.zero_mul, Nat.add_zero, po_zero] at c1 s1
  obtain ⟨ao4, cap4, ev, _, hr4⟩ := s1
  obtain ⟨g4, o4, e4, r4⟩ := hr4 (by decide)
  subst e4
  subst ev
  have x1 := r4.c0 1 (by decide)
  simp only [Nat.one_mul, pt_cons, pt_zero] at x1
  clear hb4 y4 row hr4 r4 Y3
  go_wp2_with fail
  refine (O3.out _ B4.out).mono ?_
  rintro e w5 ⟨v5, z5, rfl, hy5, hz5, hb5⟩
  obtain rfl : z5 = [] := by simpa using hz5
  obtain ⟨ao5, cap5, rfl⟩ := hy5.slice
  have B5 := Lib.hid (B4.out.trans (hb5.mono B4.out.size))
  clear hy5 hz5 hb5
  go_wp2
  go_ret
  exact ⟨rfl, BW.out.trans (B5.out.mono BW.out.size)⟩

end Go.Proofs.Ytijahjkamdfmiaa

namespace Go.Proofs.Ytijahjkamdfmiaa
open Go Go.RowKit
open M

/-- Places as a tape of layer 9 gives them. -/
def Small9 (ps : List Pt) : Prop := ∀ i, i < ps.length → -327680 ≤ (pt ps i).x ∧ (pt ps i).x ≤ 1376255 ∧ -327680 ≤ (pt ps i).y ∧ (pt ps i).y ≤ 1376255
theorem Small9.nil : Small9 [] := fun i hi => by simp at hi
theorem Small9.snoc {ps : List Pt} {p : Pt} (h : Small9 ps) (h1 : -327680 ≤ p.x) (h2 : p.x ≤ 1376255) (h3 : -327680 ≤ p.y) (h4 : p.y ≤ 1376255) : Small9 (ps ++ [p]) := by
  intro i hi
  by_cases e : i = ps.length
  · subst e; rw [pt_last]; exact ⟨h1, h2, h3, h4⟩
  · rw [pt_left (by simp at hi; omega)]; exact h i (by simp at hi; omega)
/-- A poly that a tape fills: it lies in block go, its list l in blocks behind it, the result's block is B. -/
structure Tpp (w : World) (g : Nat) (v : Value) (B go : Nat) (c : Bool) (ps : List Pt) (l : Value) (wr : World) : Prop where
  own : Pown wr (go + 1) l ps
  out : Has wr go #[.bool c, l] 26
  res : Has wr B #[.bool false, .slice none 0 0] 26
  tp : Tp wr g v
  grown : w.grownBy wr (some g)
  small : Small9 ps
  lo : B < go
  lg : g < B
  hB : w.heap.size = B
section
variable {w wr W w' w2 : World} {g B go : Nat} {v l l' : Value} {c : Bool} {ps qs : List Pt}
theorem Tpp.alloc (h : Tpp w g v B go c ps l wr) (o : Obj) : Tpp w g v B go c ps l (wr.alloc o) :=
  ⟨h.own.alloc o, h.out.alloc o, h.res.alloc o, tp_alloc h.tp o, grownBy_own h.grown (World.grownBy_alloc wr o none) (fun k hk => by cases hk), h.small, h.lo, h.lg, h.hB⟩
theorem Tpp.call (h : Tpp w g v B go c ps l wr) (ht : Tp w2 g v) (hg : wr.grownBy w2 (some g)) : Tpp w g v B go c ps l w2 :=
  ⟨h.own.young hg (by have := h.lg; have := h.lo; omega), has_grown h.out hg (by have := h.lg; have := h.lo; omega), has_grown h.res hg (by have := h.lg; omega), ht, grownBy_trans h.grown hg, h.small, h.lo, h.lg, h.hB⟩
theorem Tpp.away (h : Tpp w g v B go c ps l W) : l.ownBlock ≠ some go ∧ l.ownBlock ≠ some B := ⟨fun e => by have := (h.own.base go e).1; omega, fun e => by have := (h.own.base B e).1; have := h.lo; omega⟩
/-- The list has grown, and is stored. -/
theorem Tpp.put (ht0 : Tp w g v) (h : Tpp w g v B go c ps l W) (ho : Pown w' (go + 1) l' qs) (hg : W.grownBy w' l.ownBlock) (hs : Small9 qs) : Tpp w g v B go c qs l' (w'.setCell ⟨go, 1, none⟩ l') := by
  have b0 := h.hB
  have b1 := h.lo
  have b2 := h.lg
  have hset : w'.grownBy (w'.setCell ⟨go, 1, none⟩ l') (some go) := grownBy_set (World.grownBy.refl _ _) _ _
  have hl : ∀ k, l.ownBlock = some k → w.heap.size ≤ k := fun k hk => by have := (h.own.base k hk).1; omega
  have t1 : Tp w' g v := ht0.young h.tp hg hl
  have g1 : w.grownBy w' (some g) := grownBy_own h.grown hg hl
  have hk : Has w' go #[.bool c, l] 26 := (hg.block go h.out.lt (fun e => h.away.1 e.symm)).trans h.out
  have hr : Has w' B #[.bool false, .slice none 0 0] 26 := (hg.block B h.res.lt (fun e => h.away.2 e.symm)).trans h.res
  refine ⟨ho.kept hset (fun k hk e => by simp at hk; have := (ho.base k e).1; omega), ?_, has_grown hr hset (by omega), ht0.young t1 hset (fun k hk => by simp at hk; omega), grownBy_own g1 hset (fun k hk => by simp at hk; omega), hs, h.lo, h.lg, h.hB⟩
  have := has_set hk 1 l'
  simpa using this
theorem Tpp.fine (h : Tpp w g v B go c ps l W) (hg : W.grownBy w' l.ownBlock) : w'.cell? ⟨go, 1, none⟩ = some l ∧ w'.frozen? ⟨go, 1, none⟩ = false := by
  have hk : Has w' go #[.bool c, l] 26 := (hg.block go h.out.lt (fun e => h.away.1 e.symm)).trans h.out
  exact ⟨hk.cell 1 _ rfl, has_fro hk 1⟩
/-- A block that is neither the list's nor the poly's stays where the list grows. -/
theorem keep_put {k : Nat} {cs : Array Value} {t : TypeId} (hg : W.grownBy w' l.ownBlock) (hk : Has W k cs t) (hne : l.ownBlock ≠ some k) (hgo : k ≠ go) (l' : Value) : Has (w'.setCell ⟨go, 1, none⟩ l') k cs t :=
  has_grown ((hg.block k hk.lt (fun e => hne e.symm)).trans hk) (grownBy_set (World.grownBy.refl _ _) _ _) hgo
end

def Polyss (w : World) (g : Nat) (v : Value) (e : Ending) (w' : World) : Prop := ∃ (c : Bool) (l : Value) (ps : List Pt), e = .returned (.agg #[.bool c, l]) ∧ ps.length ≤ 12 ∧ Small9 ps ∧ Pown w' w.heap.size l ps ∧ Tp w' g v ∧ w.grownBy w' (some g)

set_option maxRecDepth 100000 in
set_option maxHeartbeats 4000000 in
theorem l9_poly (g : Nat) (v : Value) (w : World) (h : Tp w g v) : Calls Try.prog 8 #[.pointer (some ⟨g, 0, none⟩)] w (Polyss w g v) := by
  obtain ⟨B, hB⟩ : ∃ B, w.heap.size = B := ⟨_, rfl⟩
  have hgB : g < B := by rw [← hB]; exact h.lt
  have h0 : Tp (w.alloc (.cells #[.bool false, .slice none 0 0] 26)) g v := tp_alloc h _
  have g0 : w.grownBy (w.alloc (.cells #[.bool false, .slice none 0 0] 26)) (some g) := World.grownBy_alloc _ _ _
  have k0 : Has (w.alloc (.cells #[.bool false, .slice none 0 0] 26)) B #[.bool false, .slice none 0 0] 26 := has_new hB
  have HT := Lib.hid h
  have H0 := Lib.hid h0
  have G0 := Lib.hid g0
  have K0 := Lib.hid k0
  have HW := Lib.hid hB
  clear h h0 g0 k0
  go_enter Try.func8, Try.ntmps8
  go_wp2_with fail
  refine (t_next g v 2 _ (by omega) (by omega) H0.out).mono ?_
  rintro e w1 ⟨z, rfl, z0, z1, ht, hg⟩
  obtain ⟨c, hc⟩ : ∃ c : Bool, (z == 0) = c := ⟨_, rfl⟩
  have s1 : B < w1.heap.size := by have := hg.size; simp at this; omega
  obtain ⟨go, hgo⟩ : ∃ k, w1.heap.size = k := ⟨_, rfl⟩
  obtain ⟨W, hW⟩ : ∃ W, w1.alloc (.cells #[.bool c, .slice none 0 0] 26) = W := ⟨_, rfl⟩
  have T0 : Tpp w g v B go c [] (.slice none 0 0) W := by
    rw [← hW]
    exact ⟨Pown.nil _ _, has_new hgo, (has_grown K0.out hg (by omega)).alloc _, tp_alloc ht _, grownBy_own (grownBy_trans G0.out hg) (World.grownBy_alloc _ _ none) (fun k hk => by cases hk), Small9.nil, by omega, hgB, HW.out⟩
  have T := Lib.hid T0
  have HWW := Lib.hid hW
  have HC := Lib.hid hc
  clear T0 hW ht hg H0 G0 K0 s1 hB
  go_upto_region 2 with fail
  rw [HWW.out]
  clear hgo hc z0 z1
  go_wp2_with fail
  refine (t_next g v 7 _ (by omega) (by omega) T.out.tp).mono ?_
  rintro e w2 ⟨x, rfl, x0, x1, ht, hg⟩
  have T2 := Lib.hid (T.out.call ht hg)
  obtain ⟨n0, rfl⟩ : ∃ n : Nat, x = n := ⟨x.toNat, by omega⟩
  clear ht hg T HWW
  go_wp2_with fail
  go_loopw [4] (fun i wr => ∃ (m : Nat) (l : Value) (ps : List Pt), i = .int .i64 m ∧ m ≤ 6 ∧ ps.length + 2 * m ≤ 12 ∧ Tpp w g v B go c ps l wr) (fun i _ => (intOf i).toNat)
  case atStart => exact ⟨n0, _, _, rfl, by omega, by simp; omega, T2.out⟩
  case round =>
    obtain ⟨m, l, ps, rfl, hm, hl, hT⟩ := hrel
    clear T2
    by_cases hm0 : m = 0
    · subst hm0
      have c0 := hT.out.cell 0 _ rfl
      have c1 := hT.out.cell 1 _ rfl
      have v0 := hT.res.cell 0 _ rfl
      have v1 := hT.res.cell 1 _ rfl
      have fz := has_fro hT.res
      obtain ⟨aol, capl, hv⟩ := hT.own.len
      obtain ⟨ln, hln⟩ : ∃ k, ps.length = k := ⟨_, rfl⟩
      rw [hln] at hv
      subst hv
      have RR : Polyss w g v (.returned (.agg #[.bool c, .slice aol ln capl])) ((wr.setCell ⟨B, 0, none⟩ (.bool c)).setCell ⟨B, 1, none⟩ (.slice aol ln capl)) := by
        have hset : wr.grownBy ((wr.setCell ⟨B, 0, none⟩ (.bool c)).setCell ⟨B, 1, none⟩ (.slice aol ln capl)) (some B) := grownBy_set (grownBy_set (World.grownBy.refl _ _) _ _) _ _
        have q1 := hT.hB
        have q2 := hT.lo
        refine ⟨c, _, ps, rfl, by omega, hT.small, ?_, HT.out.young hT.tp hset (fun k hk => by simp at hk; omega), grownBy_own hT.grown hset (fun k hk => by simp at hk; omega)⟩
        exact (hT.own.lower (by omega)).kept hset (fun k hk e => hT.away.2 (by rw [e]; exact hk.symm))
      have RRH := Lib.hid RR
      clear RR hT hln
      go_wp2
      refine bodyPost_ret (v := .agg #[.bool c, .slice aol ln capl]) (by simp [results, Try.results8, go_sem, v0, v1]) rfl ?_
      exact RRH.out
    · obtain ⟨m', rfl⟩ : ∃ k, m = k + 1 := ⟨m - 1, by omega⟩
      have om : (m' : Int) ≤ 5 := by omega
      have T3 := Lib.hid hT
      clear hT
      go_wp2_with fail
      refine (t_number g v (-5) 20 _ (by omega) (by omega) (by omega) T3.out.tp).mono ?_
      rintro e w3 ⟨x, rfl, x0, x1, ht, hg⟩
      have T4 := Lib.hid (T3.out.call ht hg)
      clear ht hg T3
      go_wp2_with fail
      refine (t_number g v (-5) 20 _ (by omega) (by omega) (by omega) T4.out.tp).mono ?_
      rintro e w4 ⟨y, rfl, y0, y1, ht, hg⟩
      have T5 := T4.out.call ht hg
      clear ht hg T4
      obtain ⟨gx, hgx⟩ : ∃ k, w4.heap.size = k := ⟨_, rfl⟩
      obtain ⟨V, hV⟩ : ∃ V, w4.alloc (.cells (pCells ⟨x, y⟩) 40) = V := ⟨_, rfl⟩
      have T6 : Tpp w g v B go c ps l V := by rw [← hV]; exact T5.alloc _
      have kx : Has V gx (pCells ⟨x, y⟩) 40 := by rw [← hV]; exact has_new hgx
      have nx : l.ownBlock ≠ some gx := fun e => by have := (T5.own.base gx e).2; omega
      have ngo : go < gx := by have := T5.out.lt; omega
      obtain ⟨N, hN⟩ : ∃ k, ps.length = k := ⟨_, rfl⟩
      obtain ⟨aol, capl, hv⟩ := T6.own.len
      rw [hN] at hv hl
      subst hv
      have HN := Lib.hid hN
      have HV := Lib.hid hV
      have K6 := Lib.hid kx
      have T6H := Lib.hid T6
      have NX := Lib.hid nx
      have c1 := T6.out.cell 1 _ rfl
      have p0 := kx.cell 0 _ rfl
      have p1 := kx.cell 1 _ rfl
      have SM : Hid (Small9 (ps ++ [⟨x, y⟩])) := Lib.hid (T6.small.snoc (by show -327680 ≤ x; omega) (by show x ≤ 1376255; omega) (by show -327680 ≤ y; omega) (by show y ≤ 1376255; omega))
      have TA := Lib.hid (T6.alloc (.cells (pCells ⟨x, y⟩) 40))
      have KXA := Lib.hid (kx.alloc (.cells (pCells ⟨x, y⟩) 40))
      have SB : Hid (go + 1 ≤ (V.alloc (.cells (pCells ⟨x, y⟩) 40)).heap.size) := Lib.hid (by have := T6.out.lt; simp; omega)
      have N1 : Hid (N + 1 ≤ 8796093022208) := Lib.hid (by omega)
      have SM2 : Hid (Small9 (ps ++ [⟨x, y⟩, ⟨x, y⟩])) := Lib.hid (by have q := (SM.out.snoc (p := ⟨x, y⟩) (by show -327680 ≤ x; omega) (by show x ≤ 1376255; omega) (by show -327680 ≤ y; omega) (by show y ≤ 1376255; omega)); simpa using q)
      clear hV T5 T6 kx nx hN x0 x1 y0 y1
      go_upto_region 6 with fail
      rw [HV.out]
      clear hgx
      go_wp2_with (at_builtin; refine wpList_append_pl rfl _ _ rfl N HN.out rfl V.heap.size 0 1 1 rfl [⟨x, y⟩] rfl (by decide) N1.out (prow_one ⟨x, y⟩ _) TA.out.own SB.out ?_)
      intro g' cap' w5 ho hg hat
      have f0 := (TA.out.fine hg).1
      have f1 := (TA.out.fine hg).2
      obtain ⟨w6, hw6⟩ : ∃ w6, w5.setCell ⟨go, 1, none⟩ (.slice (some ⟨g', 0, none⟩) (N + 1) cap') = w6 := ⟨_, rfl⟩
      have T7 := Tpp.put HT.out TA.out ho hg SM.out
      have KX7 := keep_put (go := go) hg KXA.out NX.out (by omega) (.slice (some ⟨g', 0, none⟩) (N + 1) cap')
      rw [hw6] at T7 KX7
      have T7H := Lib.hid T7
      have K7 := Lib.hid KX7
      have HW6 := Lib.hid hw6
      clear ho hg hat hw6 T7 KX7 TA KXA SB p0 p1 c1
      go_upto_region 7 with fail
      rw [HW6.out]
      clear f0 f1
      go_wp2_with fail
      refine (t_next g v 6 _ (by omega) (by omega) T7H.out.tp).mono ?_
      rintro e w7 ⟨z, rfl, z0, z1, ht, hg⟩
      have T8 := Lib.hid (T7H.out.call ht hg)
      have K8 := Lib.hid (has_grown K7.out hg (by have := T7H.out.lg; have := T7H.out.lo; omega))
      clear ht hg T7H K7
      by_cases hz : z = 0
      · subst hz
        have c1 := T8.out.out.cell 1 _ rfl
        have p0 := K8.out.cell 0 _ rfl
        have p1 := K8.out.cell 1 _ rfl
        have TA := Lib.hid (T8.out.alloc (.cells (pCells ⟨x, y⟩) 40))
        have SB : Hid (go + 1 ≤ (w7.alloc (.cells (pCells ⟨x, y⟩) 40)).heap.size) := Lib.hid (by have := T8.out.out.lt; simp; omega)
        have N2 : Hid (N + 1 + 1 ≤ 8796093022208) := Lib.hid (by omega)
        have HN2 : Hid ((ps ++ [(⟨x, y⟩ : Pt)]).length = N + 1) := Lib.hid (by rw [List.length_append, HN.out]; rfl)
        clear z0 z1
        go_wp2_with (at_builtin; refine wpList_append_pl rfl _ _ rfl (N + 1) HN2.out rfl w7.heap.size 0 1 1 rfl [⟨x, y⟩] rfl (by decide) N2.out (prow_one ⟨x, y⟩ _) TA.out.own SB.out ?_)
        intro g2 cap2 w8 ho hg hat
        have f0 := (TA.out.fine hg).1
        have f1 := (TA.out.fine hg).2
        have T9 := Lib.hid (Tpp.put HT.out TA.out ho hg SM2.out)
        have LL : Hid ((ps ++ [(⟨x, y⟩ : Pt), ⟨x, y⟩]).length + 2 * m' ≤ 12) := Lib.hid (by simp [HN.out]; omega)
        clear ho hg hat TA SB c1 p0 p1
        go_wp2
        go_roundw
        case rel => exact ⟨m', _, _, by go_num, by omega, LL.out, T9.out⟩
        case measure => simp [intOf]
      · have LL : Hid ((ps ++ [(⟨x, y⟩ : Pt)]).length + 2 * m' ≤ 12) := Lib.hid (by simp [HN.out]; omega)
        clear z0 z1
        go_wp2
        go_roundw
        case rel => exact ⟨m', _, _, by go_num, by omega, LL.out, T8.out⟩
        case measure => simp [intOf]

end Go.Proofs.Ytijahjkamdfmiaa

namespace Go.Proofs.Ytijahjkamdfmiaa
open Go Go.RowKit
open M

theorem ysl_three {w : World} {g : Nat} {c c2 c3 : Bool} {l l2 l3 : Value} {fs fs2 fs3 : List Pt} {t : TypeId} (hs : Psl w l fs) (hs2 : Psl w l2 fs2) (hs3 : Psl w l3 fs3) (h : Has w g #[.bool c, l, .bool c2, l2, .bool c3, l3] t) : Ysl w (.slice (some ⟨g, 0, none⟩) 3 3) [⟨c, l, fs⟩, ⟨c2, l2, fs2⟩, ⟨c3, l3, fs3⟩] :=
  ysl_lit (ys := [⟨c, l, fs⟩, ⟨c2, l2, fs2⟩, ⟨c3, l3, fs3⟩]) rfl (by decide) (fun i hi => by
    rcases (show i = 0 ∨ i = 1 ∨ i = 2 by simp at hi; omega) with rfl | rfl | rfl
    · exact hs
    · exact hs2
    · exact hs3) h rfl
theorem few_three {c c2 c3 : Bool} {l l2 l3 : Value} {fs fs2 fs3 : List Pt} (h1 : fs.length ≤ 12) (h2 : fs2.length ≤ 12) (h3 : fs3.length ≤ 12) : ∀ j, j < [(⟨c, l, fs⟩ : Po), ⟨c2, l2, fs2⟩, ⟨c3, l3, fs3⟩].length → (po [(⟨c, l, fs⟩ : Po), ⟨c2, l2, fs2⟩, ⟨c3, l3, fs3⟩] j).ps.length ≤ 8796093022000 := by
  intro j hj
  rcases (show j = 0 ∨ j = 1 ∨ j = 2 by simp at hj; omega) with rfl | rfl | rfl <;> simp only [po_zero, po_cons] <;> omega
theorem few_one {c : Bool} {l : Value} {fs : List Pt} (h1 : fs.length ≤ 8796093022000) : ∀ j, j < [(⟨c, l, fs⟩ : Po)].length → (po [(⟨c, l, fs⟩ : Po)] j).ps.length ≤ 8796093022000 := by
  intro j hj
  obtain rfl : j = 0 := by simp at hj; omega
  rw [po_zero]
  exact h1
/-- What stays in the loops over the numbers: a list of polys. -/
structure Nl (B : Nat) (w : World) (v : Value) (ys : List Po) (wr : World) : Prop where
  below : Below B w wr
  size : B ≤ wr.heap.size
  sl : Ysl wr v ys
theorem Nl.later {B : Nat} {w wr w' : World} {v : Value} {ys : List Po} (h : Nl B w v ys wr) (hq : Below wr.heap.size wr w') : Nl B w v ys w' := ⟨h.below.trans (hq.mono h.size), by have := hq.size; have := h.size; omega, h.sl.below hq⟩

end Go.Proofs.Ytijahjkamdfmiaa

namespace Go.Proofs.Ytijahjkamdfmiaa
namespace M

/-- Lengths of at most 700 sides are plain sums. -/
theorem lenN_plain (ps : List Pt) : ∀ n, n ≤ 700 → lenN ps n ≤ n * 1518500249 ∧ lenN ps (n + 1) = lenN ps n + sideL ps n
  | 0, _ => by
    have h0 := sideL_lo ps 0
    have h1 := sideL_hi ps 0
    refine ⟨by simp [lenN], ?_⟩
    rw [← lenN_step, add_near (by simp [lenN]) (by simp [lenN]) h0 h1, hold_in (by simp [lenN]; omega) (by simp [lenN]; omega)]
  | n + 1, h => by
    have ih := lenN_plain ps n (by omega)
    have i0 := lenN_in ps n
    have i1 := lenN_in ps (n + 1)
    have a0 := sideL_lo ps n
    have a1 := sideL_hi ps n
    have h0 := sideL_lo ps (n + 1)
    have h1 := sideL_hi ps (n + 1)
    have hb : lenN ps (n + 1) ≤ (n + 1 : Nat) * 1518500249 := by rw [ih.2]; have := ih.1; omega
    refine ⟨hb, ?_⟩
    rw [← lenN_step ps (n + 1), add_near i1.1 i1.2 h0 h1, hold_in (by omega) (by omega)]
theorem lenN_succ {ps : List Pt} {n : Nat} (h : n ≤ 700) : lenN ps (n + 1) = lenN ps n + sideL ps n := (lenN_plain ps n h).2
theorem lenN_mono {ps : List Pt} {i : Nat} : ∀ {j : Nat}, i ≤ j → j ≤ 700 → lenN ps i ≤ lenN ps j
  | 0, h, _ => by
    obtain rfl : i = 0 := by omega
    exact Int.le_refl _
  | j + 1, h, hj => by
    by_cases e : i = j + 1
    · rw [e]; omega
    · have := lenN_mono (ps := ps) (i := i) (j := j) (by omega) (by omega)
      have := sideL_lo ps j
      rw [lenN_succ (ps := ps) (n := j) (by omega)]
      omega
theorem lenN_join {ps qs : List Pt} {k : Nat} : ∀ {j : Nat}, k + j ≤ 700 → (∀ i, i < j → sideL ps (k + i) = sideL qs i) → lenN ps (k + j) = lenN ps k + lenN qs j
  | 0, _, _ => by simp [lenN]
  | j + 1, hj, h => by
    have ih := lenN_join (ps := ps) (qs := qs) (k := k) (j := j) (by omega) (fun i hi => h i (by omega))
    rw [← Nat.add_assoc, lenN_succ (ps := ps) (n := k + j) (by omega), lenN_succ (ps := qs) (n := j) (by omega), ih, h j (by omega)]
    omega
theorem lenN_same {ps qs : List Pt} {j : Nat} (hj : j ≤ 700) (h : ∀ i, i < j → sideL ps i = sideL qs i) : lenN ps j = lenN qs j := by
  have := lenN_join (ps := ps) (qs := qs) (k := 0) (j := j) (by omega) (fun i hi => by rw [Nat.zero_add]; exact h i hi)
  rw [Nat.zero_add, lenN_zero] at this
  omega
theorem isq_zero : isq 0 = 0 := by
  have := (isq_spec 0).1
  cases h : isq 0 with
  | zero => rfl
  | succ n => rw [h] at this; simp at this
theorem longP_self (a : Pt) : longP a a = 0 := by
  unfold longP hyp
  rw [Int.sub_self, Int.sub_self]
  have e : wide 0 = 0 := by decide
  rw [e]
  simp [isq_zero]
theorem longP_zero {a b : Pt} (h : longP (plc a) (plc b) = 0) : plc a = plc b := by
  obtain ⟨x, y⟩ := a
  obtain ⟨x2, y2⟩ := b
  unfold longP hyp at h
  simp only [plc] at h ⊢
  have l1 := place_lo x; have l2 := place_hi x; have l3 := place_lo y; have l4 := place_hi y
  have m1 := place_lo x2; have m2 := place_hi x2; have m3 := place_lo y2; have m4 := place_hi y2
  rw [wide_in (a := place x2 - place x) (by omega) (by omega), wide_in (a := place y2 - place y) (by omega) (by omega)] at h
  obtain ⟨d, hd⟩ : ∃ d, place x2 - place x = d := ⟨_, rfl⟩
  obtain ⟨e, he⟩ : ∃ e, place y2 - place y = e := ⟨_, rfl⟩
  rw [hd, he] at h
  have s1 : 0 ≤ d * d := by rcases Int.le_total 0 d with g | g; exact Int.mul_nonneg g g; exact Int.mul_nonneg_of_nonpos_of_nonpos g g
  have s2 : 0 ≤ e * e := by rcases Int.le_total 0 e with g | g; exact Int.mul_nonneg g g; exact Int.mul_nonneg_of_nonpos_of_nonpos g g
  have hz : isq (d * d + e * e).toNat = 0 := by omega
  have hs := (isq_spec (d * d + e * e).toNat).2
  rw [hz] at hs
  have z : d * d + e * e = 0 := by omega
  have zd : d * d = 0 := by omega
  have ze : e * e = 0 := by omega
  have d0 : d = 0 := by rcases Int.mul_eq_zero.1 zd with h | h <;> exact h
  have e0 : e = 0 := by rcases Int.mul_eq_zero.1 ze with h | h <;> exact h
  simp only [Pt.mk.injEq]
  omega
theorem side_zero {ps : List Pt} {i : Nat} : sideL ps i = 0 ↔ sa ps i = sb ps i := by
  refine ⟨fun h => longP_zero h, fun h => ?_⟩
  unfold sideL
  rw [h, longP_self]
/-- The corners of the sides k, k + 1, .. k + m - 1. -/
def corN (ps : List Pt) (k : Nat) : Nat → List Pt
  | 0 => []
  | m + 1 => if sa ps (k + m) = sb ps (k + m) then corN ps k m else (if (corN ps k m).length = 0 then [sa ps (k + m)] else corN ps k m) ++ [sb ps (k + m)]
theorem corN_zero (ps : List Pt) (k : Nat) : corN ps k 0 = [] := rfl
theorem corN_off {ps : List Pt} {k m : Nat} (h : sa ps (k + m) = sb ps (k + m)) : corN ps k (m + 1) = corN ps k m := by rw [corN, if_pos h]
theorem corN_first {ps : List Pt} {k m : Nat} (h : ¬ sa ps (k + m) = sb ps (k + m)) (h0 : (corN ps k m).length = 0) : corN ps k (m + 1) = [sa ps (k + m)] ++ [sb ps (k + m)] := by rw [corN, if_neg h, if_pos h0]
theorem corN_more {ps : List Pt} {k m : Nat} (h : ¬ sa ps (k + m) = sb ps (k + m)) (h0 : ¬ (corN ps k m).length = 0) : corN ps k (m + 1) = corN ps k m ++ [sb ps (k + m)] := by rw [corN, if_neg h, if_neg h0]
theorem corN_length (ps : List Pt) (k : Nat) : ∀ m, (corN ps k m).length ≤ m + 1
  | 0 => by simp [corN]
  | m + 1 => by
    have ih := corN_length ps k m
    by_cases h : sa ps (k + m) = sb ps (k + m)
    · rw [corN_off h]; omega
    · by_cases h0 : (corN ps k m).length = 0
      · rw [corN_first h h0]; simp
      · rw [corN_more h h0]; simp; omega
/-- No corner yet: nothing of the way is done. -/
theorem corN_none {ps : List Pt} {k : Nat} : ∀ {m : Nat}, k + m ≤ 700 → (corN ps k m).length = 0 → lenN ps (k + m) = lenN ps k
  | 0, _, _ => rfl
  | m + 1, hm, h => by
    by_cases e : sa ps (k + m) = sb ps (k + m)
    · rw [corN_off e] at h
      rw [← Nat.add_assoc, lenN_succ (by omega), side_zero.2 e, corN_none (by omega) h]
      omega
    · by_cases h0 : (corN ps k m).length = 0
      · rw [corN_first e h0] at h; simp at h
      · rw [corN_more e h0] at h; simp at h
theorem hold_len (ps : List Pt) (n : Nat) : hold (lenN ps n) = lenN ps n := hold_in (by have := (lenN_in ps n).1; omega) (lenN_in ps n).2
/-- The part from corner k on to the end of side k + M. -/
theorem cut_none {ps : List Pt} {k : Nat} {t : Int} (hk : k ≤ 700) : ∀ {i : Nat}, i ≤ k → cutN ps (lenN ps k) t i = []
  | 0, _ => rfl
  | i + 1, hi => by
    rw [cutN_off]
    · exact cut_none hk (by omega)
    · rintro ⟨_, h, _⟩
      have := lenN_mono (ps := ps) hi hk
      rw [lenN_succ (ps := ps) (n := i) (by omega)] at this
      omega
theorem cut_cor {ps : List Pt} {k M : Nat} (hM : k + M ≤ 700) : ∀ {m : Nat}, m ≤ M → cutN ps (lenN ps k) (lenN ps (k + M)) (k + m) = corN ps k m
  | 0, _ => cut_none (by omega) (Nat.le_refl _)
  | m + 1, hm => by
    have ih := cut_cor (ps := ps) hM (m := m) (by omega)
    have e1 := lenN_succ (ps := ps) (n := k + m) (by omega)
    have m1 := lenN_mono (ps := ps) (i := k) (j := k + m) (by omega) (by omega)
    have m2 := lenN_mono (ps := ps) (i := k + m + 1) (j := k + M) (by omega) (by omega)
    have s0 := sideL_lo ps (k + m)
    have i1 := lenN_in ps (k + M)
    have i2 := lenN_in ps (k + m)
    rw [← Nat.add_assoc]
    by_cases e : sa ps (k + m) = sb ps (k + m)
    · rw [corN_off e, cutN_off, ih]
      rintro ⟨h, _⟩
      rw [side_zero.2 e] at h
      omega
    · have hz : ¬ sideL ps (k + m) = 0 := fun h => e (side_zero.1 h)
      have hh : hit ps (lenN ps k) (lenN ps (k + M)) (k + m) := ⟨by omega, by omega, by omega⟩
      have ft : fromP ps (lenN ps (k + M)) (k + m) = sb ps (k + m) := by
        unfold fromP
        rw [onP_b (by rw [hold_in (by omega) (by omega)]; omega) (by rw [hold_in (by omega) (by omega)]; omega)]
        exact plc_plc _
      by_cases h0 : (corN ps k m).length = 0
      · rw [corN_first e h0, cutN_first hh (by rw [ih]; exact h0), ft]
        have q := corN_none (by omega) h0
        have ff : fromP ps (lenN ps k) (k + m) = sa ps (k + m) := by
          unfold fromP
          rw [q, onP_a (by rw [Int.sub_self]; decide)]
          exact plc_plc _
        rw [ff]
      · rw [corN_more e h0, cutN_more hh (by rw [ih]; exact h0), ft, ih]
/-- Each side begins where the one ahead of it ended. -/
def Chain (ps : List Pt) (k M : Nat) : Prop := ∀ i, i + 1 < M → sa ps (k + i + 1) = sb ps (k + i)
theorem chain_in {ps : List Pt} {k M : Nat} (h : k + M ≤ ps.length) : Chain ps k M := fun i hi => by
  unfold sa sb
  rw [nxt_in (by omega)]
theorem sb_snoc {C : List Pt} {q : Pt} {i : Nat} (hi : i + 1 < C.length) : sideL (C ++ [q]) i = sideL C i := by
  unfold sideL sa sb
  rw [List.length_append, nxt_in (n := C.length + [q].length) (i := i) (by simp; omega), nxt_in (n := C.length) (i := i) (by omega), pt_left (by omega), pt_left (by omega)]
theorem sb_last {C : List Pt} {q : Pt} {L : Nat} (hL : C.length = L + 1) : sideL (C ++ [q]) L = longP (plc (pt C L)) (plc q) := by
  unfold sideL sa sb
  rw [List.length_append, nxt_in (n := C.length + [q].length) (i := L) (by simp; omega), pt_left (by omega), ← hL, pt_last]
/-- What the corners are: where they begin and end, and how long the way over them is. -/
theorem cor_inv {ps : List Pt} {k M : Nat} (hM : k + M ≤ 700) (hc : Chain ps k M) : ∀ {m : Nat}, m ≤ M →
    ((corN ps k m).length = 0 ∧ (0 < m → sb ps (k + m - 1) = sa ps k)) ∨
    ∃ L, (corN ps k m).length = L + 2 ∧ 0 < m ∧ pt (corN ps k m) 0 = sa ps k ∧ pt (corN ps k m) (L + 1) = sb ps (k + m - 1) ∧ lenN (corN ps k m) (L + 1) = lenN ps (k + m) - lenN ps k
  | 0, _ => Or.inl ⟨rfl, fun h => by omega⟩
  | m + 1, hm => by
    have ih := cor_inv hM hc (m := m) (by omega)
    have e1 := lenN_succ (ps := ps) (n := k + m) (by omega)
    have em : k + (m + 1) - 1 = k + m := by omega
    have link : 0 < m → sa ps (k + m) = sb ps (k + m - 1) := fun h => by
      have := hc (m - 1) (by omega)
      rw [show k + (m - 1) + 1 = k + m by omega, show k + (m - 1) = k + m - 1 by omega] at this
      exact this
    rw [em, ← Nat.add_assoc]
    by_cases e : sa ps (k + m) = sb ps (k + m)
    · rw [corN_off e]
      rcases ih with ⟨h0, h1⟩ | ⟨L, h0, h1, h2, h3, h4⟩
      · refine Or.inl ⟨h0, fun _ => ?_⟩
        by_cases hm0 : m = 0
        · subst hm0; exact e.symm
        · rw [← e, link (by omega), h1 (by omega)]
      · refine Or.inr ⟨L, h0, by omega, h2, ?_, ?_⟩
        · rw [h3, ← e, link h1]
        · rw [h4, e1, side_zero.2 e]; omega
    · rcases ih with ⟨h0, h1⟩ | ⟨L, h0, h1, h2, h3, h4⟩
      · have q := corN_none (by omega) h0
        have es : sa ps (k + m) = sa ps k := by
          by_cases hm0 : m = 0
          · subst hm0; rfl
          · rw [link (by omega), h1 (by omega)]
        rw [corN_first e h0]
        refine Or.inr ⟨0, rfl, by omega, ?_, rfl, ?_⟩
        · exact es
        · rw [lenN_succ (by omega), lenN_zero, e1, q]
          have : sideL ([sa ps (k + m)] ++ [sb ps (k + m)]) 0 = sideL ps (k + m) := by
            rw [sb_last (L := 0) rfl]
            show longP (plc (sa ps (k + m))) (plc (sb ps (k + m))) = _
            unfold sideL
            rw [show plc (sa ps (k + m)) = sa ps (k + m) from plc_plc _, show plc (sb ps (k + m)) = sb ps (k + m) from plc_plc _]
          rw [this]
          omega
      · rw [corN_more e (by omega)]
        refine Or.inr ⟨L + 1, by simp [h0], by omega, ?_, ?_, ?_⟩
        · rw [pt_left (by omega)]; exact h2
        · have := pt_last (corN ps k m) (sb ps (k + m))
          rw [h0] at this
          exact this
        · have b := corN_length ps k m
          rw [lenN_succ (by omega), sb_last (L := L + 1) h0, h3, ← link h1, e1]
          have s1 : lenN (corN ps k m ++ [sb ps (k + m)]) (L + 1) = lenN (corN ps k m) (L + 1) := lenN_same (by omega) fun i hi => sb_snoc (by omega)
          rw [s1, h4]
          have : longP (plc (sa ps (k + m))) (plc (sb ps (k + m))) = sideL ps (k + m) := by
            unfold sideL
            rw [show plc (sa ps (k + m)) = sa ps (k + m) from plc_plc _, show plc (sb ps (k + m)) = sb ps (k + m) from plc_plc _]
          rw [this]
          omega
/-- How long the corners are as an open line. -/
theorem cor_long {ps : List Pt} {k M : Nat} (hM : k + M ≤ 700) (hc : Chain ps k M) : lengthL false (corN ps k M) = lenN ps (k + M) - lenN ps k := by
  rcases cor_inv hM hc (Nat.le_refl M) with ⟨h0, _⟩ | ⟨L, h0, _, _, _, h4⟩
  · rw [corN_none hM h0]
    unfold lengthL
    rw [h0, sidesN_few _ (by omega), lenN_zero]
    omega
  · unfold lengthL
    rw [h0, sidesN_open (by omega)]
    exact h4
/-- The whole part: of n 0 nothing, else the corners. -/
theorem cut_whole {c : Bool} {ps : List Pt} (h : ps.length ≤ 700) (hn : ¬ lengthL c ps = 0) : cutL c ps 0 (lengthL c ps) = corN ps 0 (sidesN c ps.length) := by
  have i := lenN_in ps (sidesN c ps.length)
  have hs := sidesN_le c ps.length
  unfold lengthL at hn ⊢
  rw [cutL_yes (by rw [hold_len, show hold 0 = 0 by decide]; omega), hold_len, show hold 0 = 0 by decide]
  have := cut_cor (ps := ps) (k := 0) (M := sidesN c ps.length) (by omega) (Nat.le_refl _)
  rw [Nat.zero_add, lenN_zero] at this
  exact this
theorem cut_nothing {c : Bool} {ps : List Pt} (hn : lengthL c ps = 0) : cutL c ps 0 (lengthL c ps) = [] := by
  rw [hn]; exact cutL_no (by decide)
theorem whole_chain {c : Bool} {ps : List Pt} : Chain ps 0 (sidesN c ps.length) := chain_in (by have := sidesN_le c ps.length; omega)
theorem whole_long {c : Bool} {ps : List Pt} (h : ps.length ≤ 700) : lengthL false (corN ps 0 (sidesN c ps.length)) = lengthL c ps := by
  have hs := sidesN_le c ps.length
  rw [cor_long (by omega) whole_chain, lenN_zero, Nat.zero_add]
  unfold lengthL
  omega
theorem whole_two {c : Bool} {ps : List Pt} (h : ps.length ≤ 700) (hn : ¬ lengthL c ps = 0) : 2 ≤ (corN ps 0 (sidesN c ps.length)).length := by
  have hs := sidesN_le c ps.length
  rcases cor_inv (ps := ps) (k := 0) (M := sidesN c ps.length) (by omega) whole_chain (Nat.le_refl _) with ⟨h0, _⟩ | ⟨L, h0, _⟩
  · exact absurd (by have := corN_none (ps := ps) (k := 0) (by omega) h0; rw [Nat.zero_add, lenN_zero] at this; exact this) hn
  · omega

end M
end Go.Proofs.Ytijahjkamdfmiaa

namespace Go.Proofs.Ytijahjkamdfmiaa
namespace M

theorem hyp_spec {x y : Int} (x1 : -1073741824 ≤ x) (x2 : x ≤ 1073741824) (y1 : -1073741824 ≤ y) (y2 : y ≤ 1073741824) : 0 ≤ hyp x y ∧ hyp x y * hyp x y ≤ x * x + y * y ∧ x * x + y * y < (hyp x y + 1) * (hyp x y + 1) := by
  have ex : wide x = x := by unfold wide clamp; rw [if_neg (by omega), if_neg (by omega)]
  have ey : wide y = y := by unfold wide clamp; rw [if_neg (by omega), if_neg (by omega)]
  have sx := (wide_sq x).1
  have sy := (wide_sq y).1
  rw [ex] at sx
  rw [ey] at sy
  unfold hyp
  rw [ex, ey]
  obtain ⟨h1, h2⟩ := isq_spec (x * x + y * y).toNat
  have e : (((x * x + y * y).toNat : Nat) : Int) = x * x + y * y := Int.toNat_of_nonneg (by omega)
  generalize (x * x + y * y).toNat = n at *
  rw [← e]
  refine ⟨Int.natCast_nonneg _, ?_, ?_⟩
  · exact_mod_cast h1
  · exact_mod_cast h2
theorem sq_le {a b : Int} (h0 : 0 ≤ a) (h : a ≤ b) : a * a ≤ b * b := Int.mul_le_mul h h h0 (by omega)
theorem of_sq_lt {a b : Int} (hb : 0 ≤ b) (h : a * a < b * b) : a < b := by
  by_cases e : a < b
  · exact e
  · have := sq_le hb (show b ≤ a by omega); omega
theorem sq_nonneg (a : Int) : 0 ≤ a * a := by
  by_cases h : 0 ≤ a
  · exact Int.mul_nonneg h h
  · have := Int.mul_nonneg (show 0 ≤ -a by omega) (show 0 ≤ -a by omega)
    rwa [Int.neg_mul_neg] at this
/-- The way over a third place is not shorter, but for what rounding takes. -/
theorem way_over {p q r s A C : Int} (hA : 0 ≤ A) (hC : 0 ≤ C) (h1 : p * p + q * q < (A + 1) * (A + 1)) (h2 : r * r + s * s < (C + 1) * (C + 1)) : (p + r) * (p + r) + (q + s) * (q + s) < (A + C + 2) * (A + C + 2) := by
  have hx : p * r + q * s < (A + 1) * (C + 1) := by
    refine of_sq_lt (Int.mul_nonneg (by omega) (by omega)) ?_
    have id1 : (p * r + q * s) * (p * r + q * s) + (p * s - q * r) * (p * s - q * r) = (p * p + q * q) * (r * r + s * s) := by grind
    have n1 := sq_nonneg (p * s - q * r)
    have np : 0 ≤ p * p + q * q := by have := sq_nonneg p; have := sq_nonneg q; omega
    have nr : 0 ≤ r * r + s * s := by have := sq_nonneg r; have := sq_nonneg s; omega
    have m1 : (p * p + q * q) * (r * r + s * s) ≤ (A + 1) * (A + 1) * (r * r + s * s) := Int.mul_le_mul_of_nonneg_right (by omega) nr
    have pa : 0 < (A + 1) * (A + 1) := Int.mul_pos (by omega) (by omega)
    have m2 : (A + 1) * (A + 1) * (r * r + s * s) < (A + 1) * (A + 1) * ((C + 1) * (C + 1)) := Int.mul_lt_mul_of_pos_left h2 pa
    have id2 : (A + 1) * (C + 1) * ((A + 1) * (C + 1)) = (A + 1) * (A + 1) * ((C + 1) * (C + 1)) := by grind
    omega
  have id3 : (p + r) * (p + r) + (q + s) * (q + s) = (p * p + q * q) + (r * r + s * s) + 2 * (p * r + q * s) := by grind
  have id4 : (A + C + 2) * (A + C + 2) = (A + 1) * (A + 1) + (C + 1) * (C + 1) + 2 * ((A + 1) * (C + 1)) := by grind
  omega
/-- A share of a way is not longer than the share of its length, but for what rounding takes. -/
theorem way_part {u v t x y A l : Int} (t0 : 0 ≤ t) (hl : 0 ≤ l) (hA : A * A ≤ x * x + y * y) (h : u * u + v * v < (l + 1) * (l + 1))
    (x1 : u * t - 65536 ≤ 65536 * x) (x2 : 65536 * x ≤ u * t + 65536) (y1 : v * t - 65536 ≤ 65536 * y) (y2 : 65536 * y ≤ v * t + 65536) : 65536 * A ≤ t * (l + 1) + 131072 := by
  have big : ∀ {a : Int}, a * a < (l + 1) * (l + 1) → -(l + 1) < a ∧ a < l + 1 := fun {a} ha => ⟨by
    have := of_sq_lt (a := -a) (b := l + 1) (by omega) (by rw [Int.neg_mul_neg]; exact ha)
    omega, of_sq_lt (by omega) ha⟩
  have su := sq_nonneg u
  have sv := sq_nonneg v
  obtain ⟨u1, u2⟩ := big (a := u) (by omega)
  obtain ⟨v1, v2⟩ := big (a := v) (by omega)
  have ut1 : u * t ≤ (l + 1) * t := Int.mul_le_mul_of_nonneg_right (by omega) t0
  have ut2 : -(l + 1) * t ≤ u * t := Int.mul_le_mul_of_nonneg_right (by omega) t0
  have vt1 : v * t ≤ (l + 1) * t := Int.mul_le_mul_of_nonneg_right (by omega) t0
  have vt2 : -(l + 1) * t ≤ v * t := Int.mul_le_mul_of_nonneg_right (by omega) t0
  rw [Int.neg_mul] at ut2 vt2
  have pos : 0 ≤ (l + 1) * t := Int.mul_nonneg (by omega) t0
  by_cases e : 65536 * A ≤ t * (l + 1) + 131072
  · exact e
  · exfalso
    have ec : t * (l + 1) = (l + 1) * t := Int.mul_comm _ _
    have sq1 := sq_le (a := (l + 1) * t + 131072) (b := 65536 * A) (by omega) (by omega)
    have sx : ∀ {k m z : Int}, m - 65536 ≤ k → k ≤ m + 65536 → -z ≤ m → m ≤ z → k * k ≤ m * m + 131072 * z + 4294967296 := by
      intro k m z h1 h2 h3 h4
      obtain ⟨d, rfl⟩ : ∃ d, k = m + d := ⟨k - m, by omega⟩
      have id1 : (m + d) * (m + d) = m * m + 2 * (m * d) + d * d := by grind
      have d2 : d * d ≤ 4294967296 := by
        by_cases hd : 0 ≤ d
        · have := sq_le hd (show d ≤ 65536 by omega); omega
        · have := sq_le (a := -d) (by omega) (show -d ≤ 65536 by omega); rw [Int.neg_mul_neg] at this; omega
      have md : m * d ≤ z * 65536 := by
        by_cases hm : 0 ≤ m
        · have a1 : m * d ≤ m * 65536 := Int.mul_le_mul_of_nonneg_left (by omega) hm
          omega
        · have a1 : -m * -d ≤ -m * 65536 := Int.mul_le_mul_of_nonneg_left (by omega) (by omega)
          rw [Int.neg_mul_neg, Int.neg_mul] at a1
          omega
      omega
    have s1 := sx (k := 65536 * x) (m := u * t) (z := (l + 1) * t) x1 x2 ut2 ut1
    have s2 := sx (k := 65536 * y) (m := v * t) (z := (l + 1) * t) y1 y2 vt2 vt1
    have id2 : 65536 * x * (65536 * x) + 65536 * y * (65536 * y) = 4294967296 * (x * x + y * y) := by grind
    have id3 : 65536 * A * (65536 * A) = 4294967296 * (A * A) := by grind
    have id4 : u * t * (u * t) + v * t * (v * t) = (u * u + v * v) * (t * t) := by grind
    have tt := sq_nonneg t
    have m1 : (u * u + v * v) * (t * t) ≤ (l + 1) * (l + 1) * (t * t) := Int.mul_le_mul_of_nonneg_right (by omega) tt
    have id5 : (l + 1) * (l + 1) * (t * t) = (l + 1) * t * ((l + 1) * t) := by grind
    have id6 : ((l + 1) * t + 131072) * ((l + 1) * t + 131072) = (l + 1) * t * ((l + 1) * t) + 262144 * ((l + 1) * t) + 17179869184 := by grind
    omega

end M
end Go.Proofs.Ytijahjkamdfmiaa

namespace Go.Proofs.Ytijahjkamdfmiaa
namespace M

theorem link_in {ps : List Pt} {n : Nat} (h : n + 1 < ps.length) : sa ps (n + 1) = sb ps n := by
  unfold sa sb
  rw [nxt_in (by omega)]
theorem mul_none (x : Int) : mul x 0 = 0 := by unfold mul; rw [show hold 0 = 0 by decide, Int.mul_zero]; decide
theorem mul_whole {x : Int} (h1 : 0 ≤ x) (h2 : x ≤ 1099511627776) : mul x 65536 = x := by
  unfold mul
  rw [hold_in (a := x) (by omega) (by omega), show hold 65536 = 65536 by decide, Int.mul_ediv_cancel _ (by decide), hold_in (by omega) (by omega)]
/-- Where a part that begins at 0 begins. -/
theorem cut_from {ps : List Pt} {T : Int} (hT : 0 < T) : ∀ {n : Nat}, n < ps.length → n ≤ 700 →
    ((cutN ps 0 T n).length = 0 ∧ lenN ps n = 0 ∧ sa ps n = sa ps 0) ∨ (¬ (cutN ps 0 T n).length = 0 ∧ pt (cutN ps 0 T n) 0 = sa ps 0)
  | 0, _, _ => Or.inl ⟨rfl, rfl, rfl⟩
  | n + 1, hn, h7 => by
    have e1 := lenN_succ (ps := ps) (n := n) (by omega)
    have s0 := sideL_lo ps n
    rcases cut_from (ps := ps) hT (n := n) (by omega) (by omega) with ⟨h0, h1, h2⟩ | ⟨h0, h1⟩
    · by_cases hz : sideL ps n = 0
      · refine Or.inl ⟨by rw [cutN_off (fun h => by have := h.1; omega)]; exact h0, by omega, ?_⟩
        rw [link_in hn, ← side_zero.1 hz, h2]
      · have hh : hit ps 0 T n := ⟨by omega, by omega, by omega⟩
        rw [cutN_first hh h0]
        refine Or.inr ⟨by simp, ?_⟩
        show fromP ps 0 n = _
        unfold fromP
        rw [h1, onP_a (by decide), show plc (sa ps n) = sa ps n from plc_plc _, h2]
    · by_cases hh : hit ps 0 T n
      · rw [cutN_more hh h0]
        refine Or.inr ⟨by simp, ?_⟩
        rw [pt_left (by omega), h1]
      · rw [cutN_off hh]
        exact Or.inr ⟨h0, h1⟩
/-- Where a part that ends at the line's end ends. -/
theorem cut_to {ps : List Pt} {F : Int} {M : Nat} (hM : M < ps.length) (h7 : M ≤ 700) : ∀ {n : Nat}, n ≤ M →
    (cutN ps F (lenN ps M) n).length = 0 ∨ (F < lenN ps n ∧ pt (cutN ps F (lenN ps M) n) ((cutN ps F (lenN ps M) n).length - 1) = sa ps n)
  | 0, _ => Or.inl rfl
  | n + 1, hn => by
    have e1 := lenN_succ (ps := ps) (n := n) (by omega)
    have s0 := sideL_lo ps n
    have m1 := lenN_mono (ps := ps) (i := n + 1) (j := M) hn h7
    have i1 := lenN_in ps M
    have i2 := lenN_in ps n
    have ih := cut_to (ps := ps) (F := F) hM h7 (n := n) (by omega)
    by_cases hh : hit ps F (lenN ps M) n
    · have h1 := hh.1
      have h2 := hh.2.1
      have ft : fromP ps (lenN ps M) n = sa ps (n + 1) := by
        unfold fromP
        rw [onP_b (by rw [hold_in (by omega) (by omega)]; omega) (by rw [hold_in (by omega) (by omega)]; omega), link_in (by omega)]
        exact plc_plc _
      right
      refine ⟨by omega, ?_⟩
      by_cases h0 : (cutN ps F (lenN ps M) n).length = 0
      · rw [cutN_first hh h0, ft]
        rfl
      · rw [cutN_more hh h0, ft, List.length_append]
        exact pt_last _ _
    · rw [cutN_off hh]
      rcases ih with h0 | ⟨h0, h1⟩
      · exact Or.inl h0
      · right
        have hz : sideL ps n = 0 := by
          by_cases hp : 0 < sideL ps n
          · exact absurd (⟨hp, by omega, by omega⟩ : hit ps F (lenN ps M) n) hh
          · omega
        refine ⟨by omega, ?_⟩
        rw [h1, link_in (by omega), ← side_zero.1 hz]
theorem part_first {ps : List Pt} {b : Int} (h7 : ps.length ≤ 700) (h : 2 ≤ (partP 0 b false ps).length) : 0 < ps.length ∧ pt (partP 0 b false ps) 0 = sa ps 0 := by
  unfold partP at h ⊢
  rw [mul_none] at h ⊢
  by_cases hT : hold (mul (lengthL false ps) b) ≤ hold 0
  · rw [cutL_no hT] at h; simp at h
  · rw [cutL_yes hT] at h ⊢
    rw [show hold 0 = 0 by decide] at hT h ⊢
    by_cases h2 : ps.length < 2
    · rw [sidesN_few _ h2] at h
      simp [cutN_zero] at h
    · rw [sidesN_open h2] at h ⊢
      rcases cut_from (ps := ps) (T := hold (mul (lengthL false ps) b)) (by omega) (n := ps.length - 1) (by omega) (by omega) with ⟨h0, _⟩ | ⟨_, h1⟩
      · omega
      · exact ⟨by omega, h1⟩
theorem part_last {ps : List Pt} {a : Int} (h7 : ps.length ≤ 700) (h : 2 ≤ (partP a 65536 false ps).length) : 0 < ps.length ∧ pt (partP a 65536 false ps) ((partP a 65536 false ps).length - 1) = sa ps (ps.length - 1) := by
  have i1 := lenN_in ps (sidesN false ps.length)
  unfold partP at h ⊢
  have e : mul (lengthL false ps) 65536 = lengthL false ps := mul_whole i1.1 i1.2
  rw [e] at h ⊢
  by_cases hT : hold (lengthL false ps) ≤ hold (mul (lengthL false ps) a)
  · rw [cutL_no hT] at h; simp at h
  · rw [cutL_yes hT] at h ⊢
    have e2 : hold (lengthL false ps) = lengthL false ps := hold_len _ _
    rw [e2] at h ⊢
    by_cases h2 : ps.length < 2
    · rw [sidesN_few _ h2] at h
      simp [cutN_zero] at h
    · have e3 : lengthL false ps = lenN ps (ps.length - 1) := by unfold lengthL; rw [sidesN_open h2]
      rw [sidesN_open h2, e3] at h ⊢
      rcases cut_to (ps := ps) (F := hold (mul (lenN ps (ps.length - 1)) a)) (M := ps.length - 1) (by omega) (by omega) (Nat.le_refl _) with h0 | ⟨_, h1⟩
      · omega
      · exact ⟨by omega, h1⟩

theorem trim1_part {x y : Int} {c : Bool} {ps : List Pt} (h0 : 0 ≤ x) (h1 : x ≤ y) (h2 : y ≤ 65536) (hw : ¬ (x = 0 ∧ y = 65536)) : trim1 x y c ps = if 2 ≤ (partP x y c ps).length then [(false, partP x y c ps)] else [] := by
  unfold trim1
  rw [spA_le h1 h0 h2, spB_le h1 h0 h2, if_neg hw]

end M
end Go.Proofs.Ytijahjkamdfmiaa

namespace Go.Proofs.Ytijahjkamdfmiaa
namespace M

/-- A small place. -/
def Sm (p : Pt) : Prop := -2000000 ≤ p.x ∧ p.x ≤ 2000000 ∧ -2000000 ≤ p.y ∧ p.y ≤ 2000000
theorem Sm.plc {p : Pt} (h : Sm p) : plc p = p := by
  obtain ⟨h1, h2, h3, h4⟩ := h
  have ex : place p.x = p.x := by unfold place clamp; rw [if_neg (by omega), if_neg (by omega)]
  have ey : place p.y = p.y := by unfold place clamp; rw [if_neg (by omega), if_neg (by omega)]
  show (⟨place p.x, place p.y⟩ : Pt) = p
  rw [ex, ey]
/-- A place on a side: it is small, and both pieces are together as long as the side but for a few. -/
theorem on_side {a b : Pt} {d l : Int} (ha : Sm a) (hb : Sm b) (hl : longP a b = l) (d0 : 0 < d) (d1 : d < l) : Sm (onP a b d l) ∧ l - 1 ≤ longP a (onP a b d l) + longP (onP a b d l) b ∧ longP a (onP a b d l) + longP (onP a b d l) b ≤ l + 5 := by
  obtain ⟨a1, a2, a3, a4⟩ := id ha
  obtain ⟨b1, b2, b3, b4⟩ := id hb
  have l2 : l ≤ 1518500249 := hl ▸ longP_hi a b
  have hd : hold d = d := hold_in (by omega) (by omega)
  have hll : hold l = l := hold_in (by omega) (by omega)
  have pa := ha.plc
  have pb := hb.plc
  have pax : place a.x = a.x := congrArg Pt.x pa
  have pay : place a.y = a.y := congrArg Pt.y pa
  have pbx : place b.x = b.x := congrArg Pt.x pb
  have pby : place b.y = b.y := congrArg Pt.y pb
  obtain ⟨t, ht⟩ : ∃ t, dv d l = t := ⟨_, rfl⟩
  have t0 : 0 ≤ t ∧ t ≤ 65536 := by
    have h1 : 0 ≤ d * 65536 / l := Int.ediv_nonneg (by omega) (by omega)
    have h2 : d * 65536 / l ≤ 65536 := by
      have : d * 65536 / l < 65537 := Int.ediv_lt_of_lt_mul (by omega) (by omega)
      omega
    rw [← ht]
    unfold dv flo
    rw [hd, hll, if_neg (by omega), if_pos (by omega), hold_in (by omega) (by omega)]
    exact ⟨h1, h2⟩
  have eq : onP a b d l = ⟨a.x + (b.x - a.x) * t / 65536, a.y + (b.y - a.y) * t / 65536⟩ := by
    rw [onP_mid (by rw [hd]; omega) (by rw [hd]; omega), hd, ht, pax, pay, pbx, pby, mid_small (by omega) (by omega) (by omega) (by omega) t0.1 t0.2, mid_small (by omega) (by omega) (by omega) (by omega) t0.1 t0.2]
  have ix := mid_in (x := a.x) (y := b.x) (k := t) (by omega) (by omega) (by omega) (by omega) t0.1 t0.2
  have iy := mid_in (x := a.y) (y := b.y) (k := t) (by omega) (by omega) (by omega) (by omega) t0.1 t0.2
  rw [mid_small (by omega) (by omega) (by omega) (by omega) t0.1 t0.2] at ix iy
  rw [eq]
  have hs : Sm ⟨a.x + (b.x - a.x) * t / 65536, a.y + (b.y - a.y) * t / 65536⟩ := ⟨by simp only; omega, by simp only; omega, by simp only; omega, by simp only; omega⟩
  refine ⟨hs, ?_⟩
  obtain ⟨s1, s2, s3, s4⟩ := id hs
  simp only at s1 s2 s3 s4
  unfold longP at hl ⊢
  simp only
  obtain ⟨u, hu⟩ : ∃ u, b.x - a.x = u := ⟨_, rfl⟩
  obtain ⟨v, hv⟩ : ∃ v, b.y - a.y = v := ⟨_, rfl⟩
  obtain ⟨p, hp⟩ : ∃ p, u * t / 65536 = p := ⟨_, rfl⟩
  obtain ⟨q, hq⟩ : ∃ q, v * t / 65536 = q := ⟨_, rfl⟩
  rw [hu, hv] at hl
  rw [hu, hp] at s1 s2
  rw [hv, hq] at s3 s4
  rw [hu, hv, hp, hq]
  rw [show a.x + p - a.x = p by omega, show a.y + q - a.y = q by omega, show b.x - (a.x + p) = u - p by omega, show b.y - (a.y + q) = v - q by omega]
  have z := hyp_spec (x := u) (y := v) (by omega) (by omega) (by omega) (by omega)
  have zA := hyp_spec (x := p) (y := q) (by omega) (by omega) (by omega) (by omega)
  have zC := hyp_spec (x := u - p) (y := v - q) (by omega) (by omega) (by omega) (by omega)
  rw [hl] at z
  generalize hyp p q = A at *
  generalize hyp (u - p) (v - q) = C at *
  have dp : u * t - 65535 ≤ 65536 * p ∧ 65536 * p ≤ u * t := by rw [← hp]; generalize u * t = k; omega
  have dq : v * t - 65535 ≤ 65536 * q ∧ 65536 * q ≤ v * t := by rw [← hq]; generalize v * t = k; omega
  have up := way_part (u := u) (v := v) (t := t) (x := p) (y := q) (A := A) (l := l) t0.1 z.1 zA.2.1 z.2.2 (by omega) (by omega) (by omega) (by omega)
  have eu : u * (65536 - t) = 65536 * u - u * t := by grind
  have ev : v * (65536 - t) = 65536 * v - v * t := by grind
  have uc := way_part (u := u) (v := v) (t := 65536 - t) (x := u - p) (y := v - q) (A := C) (l := l) (by omega) z.1 zC.2.1 z.2.2 (by rw [eu]; omega) (by rw [eu]; omega) (by rw [ev]; omega) (by rw [ev]; omega)
  have es : t * (l + 1) + (65536 - t) * (l + 1) = 65536 * (l + 1) := by grind
  have lo := way_over (p := p) (q := q) (r := u - p) (s := v - q) zA.1 zC.1 zA.2.2 zC.2.2
  rw [show p + (u - p) = u by omega, show q + (v - q) = v by omega] at lo
  have l3 := of_sq_lt (a := l) (b := A + C + 2) (by omega) (by omega)
  omega

theorem few_long {ps : List Pt} (h : ps.length < 2) : lengthL false ps = 0 := by unfold lengthL; rw [sidesN_few _ h, lenN_zero]
theorem long_snoc {X : List Pt} {z : Pt} (h0 : 0 < X.length) (h7 : X.length ≤ 700) : lengthL false (X ++ [z]) = lengthL false X + longP (plc (pt X (X.length - 1))) (plc z) := by
  obtain ⟨L, hL⟩ : ∃ L, X.length = L + 1 := ⟨X.length - 1, by omega⟩
  have e1 : lengthL false X = lenN X L := by
    unfold lengthL
    rw [hL]
    by_cases h : L = 0
    · subst h; rw [sidesN_few _ (by omega)]
    · rw [sidesN_open (by omega)]; rfl
  rw [e1]
  unfold lengthL
  rw [List.length_append, sidesN_open (by simp; omega), show X.length + [z].length - 1 = L + 1 by simp; omega, lenN_succ (by omega), sb_last hL, hL]
  have : lenN (X ++ [z]) L = lenN X L := lenN_same (by omega) fun i hi => sb_snoc (by omega)
  rw [this]
  rfl
theorem find_side {ps : List Pt} {D : Int} (h0 : 0 ≤ D) : ∀ {n : Nat}, D < lenN ps n → ∃ m, m < n ∧ lenN ps m ≤ D ∧ D < lenN ps (m + 1)
  | 0, h => by rw [lenN_zero] at h; omega
  | n + 1, h => by
    by_cases e : D < lenN ps n
    · obtain ⟨m, h1, h2⟩ := find_side h0 e
      exact ⟨m, by omega, h2⟩
    · exact ⟨n, by omega, by omega, h⟩
/-- The part up to D, as far as D reaches. -/
theorem cut_ahead {ps : List Pt} {D : Int} (hD : D ≤ 1099511627776) : ∀ {n : Nat}, n ≤ 700 → lenN ps n ≤ D → cutN ps 0 D n = corN ps 0 n
  | 0, _, _ => rfl
  | n + 1, h7, h => by
    have e1 := lenN_succ (ps := ps) (n := n) (by omega)
    have s0 := sideL_lo ps n
    have i2 := lenN_in ps n
    have ih := cut_ahead (ps := ps) hD (n := n) (by omega) (by omega)
    by_cases e : sa ps (0 + n) = sb ps (0 + n)
    · rw [corN_off e, cutN_off, ih]
      rintro ⟨hh, _⟩
      rw [Nat.zero_add] at e
      rw [side_zero.2 e] at hh
      omega
    · have hz : ¬ sideL ps n = 0 := fun hh => e (by rw [Nat.zero_add]; exact side_zero.1 hh)
      have hh : hit ps 0 D n := ⟨by omega, by omega, by omega⟩
      have ft : fromP ps D n = sb ps (0 + n) := by
        unfold fromP
        rw [onP_b (by rw [hold_in (by omega) (by omega)]; omega) (by rw [hold_in (by omega) (by omega)]; omega), Nat.zero_add]
        exact plc_plc _
      by_cases h0 : (corN ps 0 n).length = 0
      · have q := corN_none (ps := ps) (k := 0) (by omega) h0
        rw [Nat.zero_add, lenN_zero] at q
        have ff : fromP ps 0 n = sa ps (0 + n) := by
          unfold fromP
          rw [q, onP_a (by decide), Nat.zero_add]
          exact plc_plc _
        rw [corN_first e h0, cutN_first hh (by rw [ih]; exact h0), ft, ff]
      · rw [corN_more e h0, cutN_more hh (by rw [ih]; exact h0), ft, ih]
theorem cut_still {ps : List Pt} {F D : Int} {m : Nat} (h : D ≤ lenN ps m) : ∀ {j : Nat}, m + j ≤ 700 → cutN ps F D (m + j) = cutN ps F D m
  | 0, _ => rfl
  | j + 1, h7 => by
    rw [← Nat.add_assoc, cutN_off, cut_still h (by omega)]
    rintro ⟨_, _, hh⟩
    have := lenN_mono (ps := ps) (i := m) (j := m + j) (by omega) (by omega)
    omega
theorem cut_not {ps : List Pt} {D T : Int} : ∀ {n : Nat}, n ≤ 700 → lenN ps n ≤ D → cutN ps D T n = []
  | 0, _, _ => rfl
  | n + 1, h7, h => by
    have e1 := lenN_succ (ps := ps) (n := n) (by omega)
    have s0 := sideL_lo ps n
    rw [cutN_off, cut_not (by omega) (by omega)]
    rintro ⟨_, hh, _⟩
    omega
/-- How long the part up to a place on side m is. -/
theorem long_ahead {ps : List Pt} {D : Int} {m : Nat} (h7 : ps.length ≤ 700) (hm : m + 1 < ps.length) (hs : ∀ i, i < ps.length → Sm (sa ps i)) (d0 : lenN ps m < D) (d1 : D < lenN ps (m + 1)) :
    lengthL false (cutN ps 0 D (ps.length - 1)) = lenN ps m + longP (sa ps m) (onP (sa ps m) (sb ps m) (D - lenN ps m) (sideL ps m)) := by
  have e1 := lenN_succ (ps := ps) (n := m) (by omega)
  have i2 := lenN_in ps m
  have i3 := lenN_in ps (m + 1)
  have hA := hs m (by omega)
  have hB := hs (m + 1) hm
  rw [link_in hm] at hB
  obtain ⟨sq, _⟩ := on_side (a := sa ps m) (b := sb ps m) (d := D - lenN ps m) (l := sideL ps m) hA hB rfl (by omega) (by omega)
  have st := cut_still (ps := ps) (F := 0) (D := D) (m := m + 1) (by omega) (j := ps.length - 1 - (m + 1)) (by omega)
  rw [show m + 1 + (ps.length - 1 - (m + 1)) = ps.length - 1 by omega] at st
  rw [st]
  have hh : hit ps 0 D m := ⟨by omega, by omega, by omega⟩
  have ih := cut_ahead (ps := ps) (D := D) (by omega) (n := m) (by omega) (by omega)
  have hq : fromP ps D m = onP (sa ps m) (sb ps m) (D - lenN ps m) (sideL ps m) := rfl
  have hc : Chain ps 0 m := chain_in (by omega)
  rcases cor_inv (ps := ps) (k := 0) (M := m) (by omega) hc (Nat.le_refl m) with ⟨h0, _⟩ | ⟨L, h0, h1, h2, h3, h4⟩
  · have q := corN_none (ps := ps) (k := 0) (by omega) h0
    rw [Nat.zero_add, lenN_zero] at q
    have ff : fromP ps 0 m = sa ps m := by
      unfold fromP
      rw [q, onP_a (by decide)]
      exact plc_plc _
    rw [cutN_first hh (by rw [ih]; exact h0), ff, hq, long_snoc (by simp) (by simp), few_long (by simp)]
    show 0 + longP (plc (sa ps m)) _ = _
    rw [hA.plc, sq.plc, q]
  · rw [cutN_more hh (by rw [ih]; omega), hq, ih, long_snoc (by omega) (by have := corN_length ps 0 m; omega), cor_long (by omega) hc, h0, show L + 2 - 1 = L + 1 by omega, h3, Nat.zero_add, lenN_zero]
    have lk : sb ps (m - 1) = sa ps m := by
      have := link_in (ps := ps) (n := m - 1) (by omega)
      rw [show m - 1 + 1 = m by omega] at this
      exact this.symm
    rw [lk, hA.plc, sq.plc]
    omega
/-- How long the part from a place on side m on is. -/
theorem long_behind {ps : List Pt} {D : Int} {m : Nat} (h7 : ps.length ≤ 700) (hm : m + 1 < ps.length) (hs : ∀ i, i < ps.length → Sm (sa ps i)) (d0 : lenN ps m ≤ D) (d1 : D < lenN ps (m + 1)) (hq : Sm (fromP ps D m)) : ∀ {j : Nat}, m + 1 + j < ps.length →
    0 < (cutN ps D (lenN ps (ps.length - 1)) (m + 1 + j)).length ∧ (cutN ps D (lenN ps (ps.length - 1)) (m + 1 + j)).length ≤ j + 2 ∧ pt (cutN ps D (lenN ps (ps.length - 1)) (m + 1 + j)) ((cutN ps D (lenN ps (ps.length - 1)) (m + 1 + j)).length - 1) = sa ps (m + 1 + j) ∧
    lengthL false (cutN ps D (lenN ps (ps.length - 1)) (m + 1 + j)) = longP (fromP ps D m) (sb ps m) + (lenN ps (m + 1 + j) - lenN ps (m + 1))
  | 0, hj => by
    have e1 := lenN_succ (ps := ps) (n := m) (by omega)
    have i2 := lenN_in ps m
    have i3 := lenN_in ps (ps.length - 1)
    have m2 := lenN_mono (ps := ps) (i := m + 1) (j := ps.length - 1) (by omega) (by omega)
    have hh : hit ps D (lenN ps (ps.length - 1)) m := ⟨by omega, by omega, by omega⟩
    have hB := hs (m + 1) hm
    rw [link_in hm] at hB
    have ft : fromP ps (lenN ps (ps.length - 1)) m = sb ps m := by
      unfold fromP
      rw [onP_b (by rw [hold_in (by omega) (by omega)]; omega) (by rw [hold_in (by omega) (by omega)]; omega)]
      exact plc_plc _
    have ih := cut_not (ps := ps) (D := D) (T := lenN ps (ps.length - 1)) (n := m) (by omega) d0
    rw [Nat.add_zero, cutN_first hh (by rw [ih]; rfl), ft]
    refine ⟨by simp, by simp, ?_, ?_⟩
    · rw [link_in hm]; rfl
    · rw [long_snoc (by simp) (by simp), few_long (by simp)]
      show 0 + longP (plc (fromP ps D m)) _ = _
      rw [hq.plc, hB.plc]
      omega
  | j + 1, hj => by
    have e1 := lenN_succ (ps := ps) (n := m + 1 + j) (by omega)
    have s0 := sideL_lo ps (m + 1 + j)
    have i2 := lenN_in ps (m + 1 + j)
    have i3 := lenN_in ps (ps.length - 1)
    have m1 := lenN_mono (ps := ps) (i := m + 1) (j := m + 1 + j) (by omega) (by omega)
    have m2 := lenN_mono (ps := ps) (i := m + 1 + j + 1) (j := ps.length - 1) (by omega) (by omega)
    obtain ⟨h1, h2, h3, h4⟩ := long_behind h7 hm hs d0 d1 hq (j := j) (by omega)
    have lk := link_in (ps := ps) (n := m + 1 + j) (by omega)
    have hA := hs (m + 1 + j) (by omega)
    have hB := hs (m + 1 + j + 1) (by omega)
    rw [← Nat.add_assoc]
    by_cases hz : sideL ps (m + 1 + j) = 0
    · rw [cutN_off (fun hh => by have := hh.1; omega)]
      refine ⟨h1, by omega, ?_, ?_⟩
      · rw [h3, lk, ← side_zero.1 hz]
      · rw [h4]; omega
    · have hh : hit ps D (lenN ps (ps.length - 1)) (m + 1 + j) := ⟨by omega, by omega, by omega⟩
      have ft : fromP ps (lenN ps (ps.length - 1)) (m + 1 + j) = sa ps (m + 1 + j + 1) := by
        unfold fromP
        rw [onP_b (by rw [hold_in (by omega) (by omega)]; omega) (by rw [hold_in (by omega) (by omega)]; omega), lk]
        exact plc_plc _
      rw [cutN_more hh (by omega), ft]
      refine ⟨by simp, by simp; omega, ?_, ?_⟩
      · rw [List.length_append]; exact pt_last _ _
      · rw [long_snoc h1 (by omega), h3, hA.plc, hB.plc, h4]
        have : longP (sa ps (m + 1 + j)) (sa ps (m + 1 + j + 1)) = sideL ps (m + 1 + j) := by rw [lk]; rfl
        omega
/-- Both parts together. -/
theorem parts_sum {ps : List Pt} {k : Int} (h7 : ps.length ≤ 600) (hs : ∀ i, i < ps.length → Sm (sa ps i)) (hL : ¬ lengthL false ps = 0) (k0 : 0 < k) (k1 : k < 65536) :
    lengthL false ps - 8192 ≤ lengthL false (partP 0 k false ps) + lengthL false (partP k 65536 false ps) ∧ lengthL false (partP 0 k false ps) + lengthL false (partP k 65536 false ps) ≤ lengthL false ps + 8192 := by
  have iL := lenN_in ps (sidesN false ps.length)
  have h2 : ¬ ps.length < 2 := fun h => hL (few_long h)
  have eL : lengthL false ps = lenN ps (ps.length - 1) := by unfold lengthL; rw [sidesN_open h2]
  change 0 ≤ lengthL false ps ∧ lengthL false ps ≤ _ at iL
  unfold partP
  rw [mul_none, mul_whole iL.1 iL.2]
  obtain ⟨D, hD⟩ : ∃ D, mul (lengthL false ps) k = D := ⟨_, rfl⟩
  have bD : 0 ≤ D ∧ D < lengthL false ps := by
    have p0 : 0 ≤ lengthL false ps * k := Int.mul_nonneg iL.1 (by omega)
    have q0 : 0 ≤ lengthL false ps * k / 65536 := Int.ediv_nonneg p0 (by decide)
    have q1 : lengthL false ps * k / 65536 < lengthL false ps := Int.ediv_lt_of_lt_mul (by decide) (Int.mul_lt_mul_of_pos_left k1 (by omega))
    rw [← hD]
    unfold mul
    rw [hold_in (a := lengthL false ps) (by omega) (by omega), hold_in (a := k) (by omega) (by omega), hold_in (by omega) (by omega)]
    exact ⟨q0, q1⟩
  rw [hD]
  by_cases z : D = 0
  · subst z
    rw [cutL_no (f := 0) (t := 0) (Int.le_refl _), few_long (ps := []) (by simp), cut_whole (by omega) hL, whole_long (by omega)]
    omega
  · have hD0 : hold D = D := hold_in (by omega) (by omega)
    rw [cutL_yes (f := 0) (t := D) (by rw [hD0, show hold 0 = 0 by decide]; omega), cutL_yes (f := D) (t := lengthL false ps) (by rw [hD0, hold_in (by omega) (by omega)]; omega), hD0, show hold 0 = 0 by decide, hold_in (a := lengthL false ps) (by omega) (by omega), sidesN_open h2]
    rw [eL] at bD iL ⊢
    obtain ⟨m, hm, m1, m2⟩ := find_side bD.1 bD.2
    have e1 := lenN_succ (ps := ps) (n := m) (by omega)
    have hm1 : m + 1 < ps.length := by omega
    have hA := hs m (by omega)
    have hB := hs (m + 1) hm1
    rw [link_in hm1] at hB
    by_cases d0 : lenN ps m < D
    · obtain ⟨sq, q1, q2⟩ := on_side (a := sa ps m) (b := sb ps m) (d := D - lenN ps m) (l := sideL ps m) hA hB rfl (by omega) (by omega)
      have r1 := long_ahead (by omega) hm1 hs d0 m2
      obtain ⟨_, _, _, r2⟩ := long_behind (by omega) hm1 hs m1 m2 sq (j := ps.length - 1 - (m + 1)) (by omega)
      rw [show m + 1 + (ps.length - 1 - (m + 1)) = ps.length - 1 by omega] at r2
      rw [r1, r2]
      have : longP (fromP ps D m) (sb ps m) = longP (onP (sa ps m) (sb ps m) (D - lenN ps m) (sideL ps m)) (sb ps m) := rfl
      omega
    · have ed : D = lenN ps m := by omega
      have ff : fromP ps D m = sa ps m := by
        unfold fromP
        rw [ed, Int.sub_self, onP_a (by decide)]
        exact plc_plc _
      have st := cut_still (ps := ps) (F := 0) (D := D) (m := m) (by omega) (j := ps.length - 1 - m) (by omega)
      rw [show m + (ps.length - 1 - m) = ps.length - 1 by omega, cut_ahead (ps := ps) (D := D) (n := m) (by omega) (by omega) (by omega)] at st
      obtain ⟨_, _, _, r2⟩ := long_behind (by omega) hm1 hs m1 m2 (by rw [ff]; exact hA) (j := ps.length - 1 - (m + 1)) (by omega)
      rw [show m + 1 + (ps.length - 1 - (m + 1)) = ps.length - 1 by omega, ff] at r2
      rw [st, r2, cor_long (by omega) (chain_in (by omega)), Nat.zero_add, lenN_zero]
      have : longP (sa ps m) (sb ps m) = sideL ps m := rfl
      omega

end M
end Go.Proofs.Ytijahjkamdfmiaa

namespace Go.Proofs.Ytijahjkamdfmiaa
open Go Go.RowKit
open M

theorem Kp.room {w1 wr : World} {base : Nat} {L : List (Bool × List Pt)} {ao : Option Addr} {n cap : Nat} (h : Kp w1 base L (.slice ao n cap) wr) : n ≤ cap := by
  obtain ⟨zs, e, h⟩ := h
  rcases h.own.2 with ⟨hv, hn⟩ | ⟨g, cap', cur, hv, _, _, h1, _⟩
  · simp at hv; omega
  · simp at hv
    obtain ⟨_, rfl, rfl⟩ := hv
    exact h1
/-- A list of no polys, in a block of the call's own. -/
theorem Kp.bare {w : World} {g : Nat} (hg : w.heap.size = g) : Kp w g [] (.slice (some ⟨g, 0, none⟩) 0 0) (w.alloc (.cells #[] 26)) :=
  ⟨[], rfl, rfl, ⟨rfl, Or.inr ⟨g, 0, #[], rfl, Nat.le_refl _, has_new hg, by simp, by simp, by simp, by simp [yls]⟩⟩, fun j hj => by simp at hj, (Below.refl _ _).alloc (Nat.le_refl _) _, by omega⟩
theorem wpList_append_l {W w1 : World} {base : Nat} {L : List (Bool × List Pt)} {ops : Array Oper} {rest : List Oper} {op : Oper} {a : Act} {Q : Exit → Act → World → Prop} (hgd : op.guard = none) (s x : Operand)
    (hop : op.op = .call { callee := .builtin .append, args := #[s, x], argTypes := #[28, 28] }) (ao : Option Addr) (cap : Nat) (hs : a.eval s = .slice ao L.length cap) (ax : Option Addr) (n cx : Nat) (hx : a.eval x = .slice ax n cx)
    (zs : List Po) (hl : zs.length = n) (hY : Ysl W (.slice ax n cx) zs) (h1 : n ≤ 1) (hz : ∀ j, j < n → ∀ k, (po zs j).v.ownBlock = some k → k < base) (hT : Kp w1 base L (.slice ao L.length cap) W) (hf : L.length ≤ 90) (hb : base ≤ W.heap.size)
    (h : ∀ a' c' w', Kp w1 base (L ++ zs.map bareY) (.slice a' (L ++ zs.map bareY).length c') w' → wpList Try.prog ops Q rest (a.put op.dst (.slice a' (L ++ zs.map bareY).length c')) w') : wpList Try.prog ops Q (op :: rest) a W := by
  by_cases h0 : n = 0
  · subst h0
    obtain rfl : zs = [] := List.eq_nil_of_length_eq_zero hl
    obtain ⟨i0, hi0, _⟩ := info_parts Try.infoPoly
    refine wpList_append_noth hgd s x 28 hop 26 i0 Try.underlying28 hi0 ao L.length cap hT.room hs ax cx hx ?_
    simpa using h ao cap W (by simpa using hT)
  · obtain rfl : n = 1 := by omega
    match zs, hl with
    | [y], _ =>
      obtain ⟨g, o, rfl, row, _⟩ := hY.row (by omega)
      have c0 := row.c0 0 (by simp)
      have c1 := row.c1 0 (by simp)
      have sy := row.sl 0 (by simp)
      have hz0 := hz 0 (by omega)
      simp only [Nat.zero_mul, Nat.add_zero, po_zero] at c0 c1 sy hz0
      obtain ⟨zs', e, hT'⟩ := id hT
      have hln := hT'.len
      obtain ⟨ay, cy, ey, _⟩ := id sy
      refine wpList_plain hgd fun _ hK => wp_append_yr s x hop hs g o cx hx y c0 c1 (hT'.re (f' := fun j => bareY (po (zs' ++ [y]) j)) (fun j hj => by rw [po_left (by omega)])) hf (by have := po_last zs' y; rw [hln] at this; rw [this]) sy (fun k hk e2 => by have := (hT.young k hk).2; have := hz0 k e2; omega) (fun k hk => by have := hz0 k hk; omega) ⟨_, _, _, ey⟩ hb fun g' cap' w' hY' => hK _ _ ?_
      have key : Kp w1 base (L ++ [y].map bareY) (.slice (some ⟨g', 0, none⟩) (L ++ [y].map bareY).length cap') w' := by
        refine ⟨zs' ++ [y], by rw [List.map_append, e], ?_⟩
        rw [List.length_append]
        exact hY'
      have := h (some ⟨g', 0, none⟩) cap' w' key
      rw [List.length_append] at this
      exact this

/-- How long the first polys of a list are together. -/
def sumZ (zs : List Po) : Nat → Int
  | 0 => 0
  | j + 1 => sumZ zs j + lengthL false (po zs j).ps
theorem sumZ_in (zs : List Po) : ∀ j : Nat, 0 ≤ sumZ zs j ∧ sumZ zs j ≤ j * 1099511627776
  | 0 => by simp [sumZ]
  | j + 1 => by
    have ih := sumZ_in zs j
    have i := lenN_in (po zs j).ps (sidesN false (po zs j).ps.length)
    change 0 ≤ lengthL false (po zs j).ps ∧ lengthL false (po zs j).ps ≤ _ at i
    unfold sumZ
    omega
theorem sumZ_step (zs : List Po) (j : Nat) : sumZ zs j + lengthL false (po zs j).ps = sumZ zs (j + 1) := rfl
/-- Two lists of a line each, or of none where the line has less than two places: how long they are together. -/
theorem sum_two {zs : List Po} {R1 R2 : List Pt} (h : zs.map bareY = (if 2 ≤ R1.length then [(false, R1)] else []) ++ (if 2 ≤ R2.length then [(false, R2)] else [])) : zs.length ≤ 2 ∧ (∀ j, j < zs.length → (po zs j).cl = false ∧ 2 ≤ (po zs j).ps.length) ∧ sumZ zs zs.length = lengthL false R1 + lengthL false R2 := by
  have few : ∀ {R : List Pt}, ¬ 2 ≤ R.length → lengthL false R = 0 := fun {R} hR => by unfold lengthL; rw [sidesN_few _ (by omega), lenN_zero]
  by_cases h1 : 2 ≤ R1.length
  · by_cases h2 : 2 ≤ R2.length
    · rw [if_pos h1, if_pos h2] at h
      match zs, h with
      | [⟨c, l, ps⟩, ⟨c2, l2, ps2⟩], h =>
        simp [bareY] at h
        obtain ⟨⟨rfl, rfl⟩, rfl, rfl⟩ := h
        refine ⟨by simp, fun j hj => ?_, ?_⟩
        · rcases (show j = 0 ∨ j = 1 by simp at hj; omega) with rfl | rfl
          · exact ⟨rfl, h1⟩
          · exact ⟨rfl, h2⟩
        · show 0 + lengthL false ps + lengthL false ps2 = _
          omega
    · rw [if_pos h1, if_neg h2] at h
      match zs, h with
      | [⟨c, l, ps⟩], h =>
        simp [bareY] at h
        obtain ⟨rfl, rfl⟩ := h
        refine ⟨by simp, fun j hj => ?_, ?_⟩
        · obtain rfl : j = 0 := by simp at hj; omega
          exact ⟨rfl, h1⟩
        · show 0 + lengthL false ps = _
          rw [few h2]
          omega
  · by_cases h2 : 2 ≤ R2.length
    · rw [if_neg h1, if_pos h2] at h
      match zs, h with
      | [⟨c, l, ps⟩], h =>
        simp [bareY] at h
        obtain ⟨rfl, rfl⟩ := h
        refine ⟨by simp, fun j hj => ?_, ?_⟩
        · obtain rfl : j = 0 := by simp at hj; omega
          exact ⟨rfl, h2⟩
        · show 0 + lengthL false ps = _
          rw [few h1]
    · rw [if_neg h1, if_neg h2] at h
      obtain rfl : zs = [] := by simpa using h
      refine ⟨by simp, fun j hj => by simp at hj, ?_⟩
      show 0 = _
      rw [few h1, few h2]
      omega

end Go.Proofs.Ytijahjkamdfmiaa

namespace Go.Proofs.Ytijahjkamdfmiaa
open Go Go.RowKit
open M

theorem Small9.sm {ps : List Pt} (h : Small9 ps) : ∀ i, i < ps.length → Sm (sa ps i) := by
  intro i hi
  obtain ⟨h1, h2, h3, h4⟩ := h i hi
  have hs : Sm (pt ps i) := ⟨by omega, by omega, by omega, by omega⟩
  show Sm (plc (pt ps i))
  rw [hs.plc]
  exact hs
/-- The value v is a list of just these polys. -/
def LR (L : List (Bool × List Pt)) (v : Value) (w : World) : Prop := ∃ zs, Ysl w v zs ∧ zs.map bareY = L
theorem LR.stay {L : List (Bool × List Pt)} {v : Value} {w w' : World} (h : LR L v w) (hb : Below w.heap.size w w') : LR L v w' := by
  obtain ⟨zs, hy, hz⟩ := h
  exact ⟨zs, hy.below hb, hz⟩
/-- Of a list of lines that have places: where these lie. -/
theorem old_lists {w : World} {v : Value} {zs : List Po} (h : Ysl w v zs) (hp : ∀ j, j < zs.length → 0 < (po zs j).ps.length) : ∀ j, j < zs.length → ∀ k, (po zs j).v.ownBlock = some k → k < w.heap.size := by
  intro j hj k hk
  obtain ⟨ao, cap, rfl, _, hr⟩ := h
  obtain ⟨g, o, rfl, row⟩ := hr (by omega)
  obtain ⟨ao', cap', e, _, hr'⟩ := row.sl j hj
  obtain ⟨g', o', rfl, row'⟩ := hr' (hp j hj)
  rw [e] at hk
  have e' : some g' = some k := hk
  simp at e'
  subst e'
  exact row'.lt (hp j hj)
theorem one_list {R : List Pt} {zs : List Po} (h : zs.map bareY = if 2 ≤ R.length then [(false, R)] else []) : zs.length ≤ 1 ∧ ∀ j, j < zs.length → 0 < (po zs j).ps.length := by
  by_cases h1 : 2 ≤ R.length
  · rw [if_pos h1] at h
    obtain ⟨l, rfl⟩ := bares_one h
    refine ⟨by simp, fun j hj => ?_⟩
    obtain rfl : j = 0 := by simp at hj; omega
    rw [po_zero]
    show 0 < R.length
    omega
  · rw [if_neg h1] at h
    obtain rfl : zs = [] := by simpa using h
    exact ⟨by simp, fun j hj => by simp at hj⟩

set_option maxRecDepth 100000 in
set_option maxHeartbeats 8000000 in
theorem trimParts_walk {w : World} (l1 : Value) (_ : Unit) (at_ : Int) (hN1 : Nums w l1) :
    Calls Try.prog 5 #[l1, .int .i64 at_] w fun r w' => r = .returned (.bool true) ∧ Below w.heap.size w w' := by
  obtain ⟨B, hB⟩ : ∃ B, w.heap.size = B := ⟨_, rfl⟩
  obtain ⟨W, hW⟩ : ∃ W, w.alloc (.cells #[l1, .int .i64 0] 33) = W := ⟨_, rfl⟩
  have hb0 : Below w.heap.size w W := by rw [← hW]; exact (Below.refl _ _).alloc (Nat.le_refl _) _
  have T1 : Tp W B l1 := tp_start hN1 (by rw [← hW]; exact has_new hB) hb0 (by omega)
  have sz0 : W.heap.size = B + 1 := by rw [← hW]; simp [hB]
  obtain ⟨a1, n1, c1, rfl⟩ := hN1.shape
  have HB := Lib.hid hB
  have HW := Lib.hid hW
  have HB0 := Lib.hid hb0
  have SZ := Lib.hid sz0
  have PL := Lib.hid (l9_poly _ _ _ T1)
  clear hb0 T1 hW hN1 sz0
  go_enter Try.func5, Try.ntmps5
  go_wp2_with fail
  rw [HW.out]
  clear hB
  refine PL.out.mono ?_
  rintro e w1 ⟨c, pl, ps, rfl, h12, sm, ho, tp1, hg1⟩
  obtain ⟨ao, cap, hv⟩ := ho.len
  obtain ⟨N, hN⟩ : ∃ N, ps.length = N := ⟨_, rfl⟩
  rw [hN] at hv h12
  subst hv
  obtain ⟨gp, hgp⟩ : ∃ g, w1.heap.size = g := ⟨_, rfl⟩
  obtain ⟨V, hV⟩ : ∃ V, w1.alloc (.cells #[.bool false, .slice ao N cap] 26) = V := ⟨_, rfl⟩
  have KP : Has V gp #[.bool false, .slice ao N cap] 26 := by rw [← hV]; exact has_new hgp
  have SP : Psl V (.slice ao N cap) ps := by rw [← hV]; exact (ho.alloc _).sl (by omega)
  have bV : Below w.heap.size w V := by
    rw [← hV]
    have q := SZ.out
    have q2 := HB.out
    have q3 := hg1.size
    exact (below_on HB0.out hg1 (by omega) (by omega)).alloc (by omega) _
  obtain ⟨k, hk, k0, k9⟩ : ∃ x, bits .and .i64 at_ 65535 = x ∧ 0 ≤ x ∧ x ≤ 65535 := ⟨_, rfl, by rw [and_one]; omega, by rw [and_one]; omega⟩
  have OF := Lib.hid (fun (x y : Int) (v : Value) (w' : World) (h : Ysl w' v [⟨false, .slice ao N cap, ps⟩]) => t_of x y h (by simp) (few_one (by omega)))
  have OE : ∀ x y : Int, trimL x y (fun j => bareY (po [⟨false, .slice ao N cap, ps⟩] j)) [(⟨false, .slice ao N cap, ps⟩ : Po)].length = trim1 x y false ps := fun x y => trimL_one x y rfl
  simp only [OE] at OF
  have LE := Lib.hid (r9_length false SP)
  have iL := lenN_in ps (sidesN false ps.length)
  change 0 ≤ lengthL false ps ∧ lengthL false ps ≤ _ at iL
  have PS := Lib.hid (fun (hL : ¬ lengthL false ps = 0) (h1 : 0 < k) => parts_sum (k := k) (by omega) sm.sm hL h1 (by omega))
  have C1 := Lib.hid (fun (h1 : 0 < k) => (trim1_part (x := 0) (y := k) (c := false) (ps := ps) (by omega) (by omega) (by omega) (by omega)))
  have C2 := Lib.hid (fun (h1 : 0 < k) => (trim1_part (x := k) (y := 65536) (c := false) (ps := ps) (by omega) (by omega) (by omega) (by omega)))
  obtain ⟨L, hL⟩ : ∃ L, lengthL false ps = L := ⟨_, rfl⟩
  rw [hL] at LE iL PS
  obtain ⟨L0, L9⟩ := iL
  have XP := Lib.hid KP
  have XS := Lib.hid SP
  have BV := Lib.hid bV
  have HV := Lib.hid hV
  have HN := Lib.hid hN
  clear KP SP bV hV ho tp1 hg1 sm hN PL HB0 SZ HW OE hL
  go_upto_region 4 with fail
  rw [HV.out]
  clear hgp
  have p0 := XP.out.cell 0 _ rfl
  have p1 := XP.out.cell 1 _ rfl
  go_wp2_with fail
  refine LE.out.mono ?_
  rintro e w2 ⟨rfl, hb2⟩
  have B2 := Lib.hid hb2
  have P2 := Lib.hid (XP.out.below hb2 XP.out.lt)
  have S2 := Lib.hid (XS.out.below hb2 (Nat.le_refl _))
  clear hb2 p0 p1 LE
  by_cases hz : L = 0 ∨ k = 0
  · have done : Hid (∀ w', Below w2.heap.size w2 w' → Below w.heap.size w w') := Lib.hid (fun w' h => BV.out.trans ((B2.out.trans (h.mono B2.out.size)).mono BV.out.size))
    rcases hz with hz | hz
    · go_wp2_with fail
      refine (known10 _).mono ?_
      rintro e w3 ⟨rfl, hq⟩
      have D := Lib.hid (done.out _ hq)
      clear hq
      go_wp2
      go_ret
      exact ⟨rfl, D.out⟩
    · by_cases hz2 : L = 0
      · go_wp2_with fail
        refine (known10 _).mono ?_
        rintro e w3 ⟨rfl, hq⟩
        have D := Lib.hid (done.out _ hq)
        clear hq
        go_wp2
        go_ret
        exact ⟨rfl, D.out⟩
      · go_wp2_with fail
        refine (known10 _).mono ?_
        rintro e w3 ⟨rfl, hq⟩
        have D := Lib.hid (done.out _ hq)
        clear hq
        go_wp2
        go_ret
        exact ⟨rfl, D.out⟩
  · have hL0 : ¬ L = 0 := fun e => hz (Or.inl e)
    have hk0 : ¬ k = 0 := fun e => hz (Or.inr e)
    clear hz
    have PSS := Lib.hid (PS.out hL0 (by omega))
    have CC1 := Lib.hid (C1.out (by omega))
    have CC2 := Lib.hid (C2.out (by omega))
    obtain ⟨R1, hR1⟩ : ∃ R, partP 0 k false ps = R := ⟨_, rfl⟩
    obtain ⟨R2, hR2⟩ : ∃ R, partP k 65536 false ps = R := ⟨_, rfl⟩
    rw [hR1] at PSS CC1
    rw [hR2] at PSS CC2
    clear hR1 hR2 PS C1 C2
    have d1 : (L == 0) = false := beq_false_of_ne hL0
    have d2 : (k == 0) = false := beq_false_of_ne hk0
    go_upto_region 7 with fail
    refine wp_region_gen 8 [1, 3, 5, 7] [] [0, 1, 0, 1, 0, 1, 0, 1] (by kernel_rfl) (by kernel_rfl) (fun c a d v w h => by cases d <;> exact h) trivial (fun G w' => ((∀ v, G 1 = some v → Ysl w' v [⟨false, .slice ao N cap, ps⟩]) ∧ (∀ v, G 5 = some v → Ysl w' v [⟨false, .slice ao N cap, ps⟩])) ∧ (∀ v, G 3 = some v → LR (trim1 0 k false ps) v w') ∧ (∀ v, G 7 = some v → LR (trim1 k 65536 false ps) v w')) (fun G w w' h hb => ⟨⟨fun v hv => (h.1.1 v hv).below hb, fun v hv => (h.1.2 v hv).below hb⟩, fun v hv => (h.2.1 v hv).stay hb, fun v hv => (h.2.2 v hv).stay hb⟩) ⟨⟨fun v hv => (by cases hv), fun v hv => (by cases hv)⟩, fun v hv => (by cases hv), fun v hv => (by cases hv)⟩ ?_
    apply Exists.intro
    refine ⟨fun R hR hN => ?_, ?_, ?_⟩
    · have y0 := fun z => LaterR.read (R := R) P2.out 0 _ rfl z
      have y1 := fun z => LaterR.read (R := R) P2.out 1 _ rfl z
      simp only [quietL, takeA]
      repeat (go_big_quiet_step (fail))
      exact wpQuiet_nil rfl
    · intro i oo hi ho
      have hi' : i = 1 ∨ i = 3 ∨ i = 5 ∨ i = 7 := by simpa using hi
      clear hi
      rcases hi' with rfl | rfl | rfl | rfl
      · cases ho
        intro G w' hG hGn hdep hb hR
        refine ⟨rfl, gives_none (by kernel_rfl) hGn ?_⟩
        unfold gives
        simp [go_sem]
        have bA : Below w'.heap.size w' (w'.alloc (.cells #[.bool false, .slice ao N cap] 26)) := (Below.refl _ _).alloc (Nat.le_refl _) _
        refine ⟨hb.alloc hb.size _, ⟨fun v hv => ?_, fun v hv => ?_⟩, fun v hv => ?_, fun v hv => ?_⟩
        · rw [updV_eq] at hv; cases hv; exact ysl_one ((S2.out.below hb (Nat.le_refl _)).alloc _) has_new0
        · rw [updV_ne G _ (by omega)] at hv; exact (hR.1.2 v hv).below bA
        · rw [updV_ne G _ (by omega)] at hv; exact (hR.2.1 v hv).stay bA
        · rw [updV_ne G _ (by omega)] at hv; exact (hR.2.2 v hv).stay bA
      · cases ho
        intro G w' hG hGn hdep hb hR
        obtain ⟨v1, hv1⟩ := Option.ne_none_iff_exists'.1 (hdep 1 (by simp) (by kernel_rfl))
        have hy1 := hR.1.1 v1 hv1
        obtain ⟨ax, cx, rfl⟩ := hy1.slice
        refine ⟨rfl, gives_one (k := 1) (by kernel_rfl) hGn (by omega) hv1 ?_⟩
        unfold gives
        simp [go_sem, dstAt]
        refine (OF.out 0 k _ w' hy1).mono ?_
        rintro r w'' ⟨v, zs, rfl, hy, hz, hbb⟩
        refine ⟨_, rfl, hb.trans (hbb.mono hb.size), ⟨fun u hv => ?_, fun u hv => ?_⟩, fun u hv => ?_, fun u hv => ?_⟩
        · rw [updV_ne G _ (by omega)] at hv; exact (hR.1.1 u hv).below hbb
        · rw [updV_ne G _ (by omega)] at hv; exact (hR.1.2 u hv).below hbb
        · rw [updV_eq] at hv; cases hv; exact ⟨zs, hy, hz⟩
        · rw [updV_ne G _ (by omega)] at hv; exact (hR.2.2 u hv).stay hbb
      · cases ho
        intro G w' hG hGn hdep hb hR
        refine ⟨rfl, gives_none (by kernel_rfl) hGn ?_⟩
        unfold gives
        simp [go_sem]
        have bA : Below w'.heap.size w' (w'.alloc (.cells #[.bool false, .slice ao N cap] 26)) := (Below.refl _ _).alloc (Nat.le_refl _) _
        refine ⟨hb.alloc hb.size _, ⟨fun v hv => ?_, fun v hv => ?_⟩, fun v hv => ?_, fun v hv => ?_⟩
        · rw [updV_ne G _ (by omega)] at hv; exact (hR.1.1 v hv).below bA
        · rw [updV_eq] at hv; cases hv; exact ysl_one ((S2.out.below hb (Nat.le_refl _)).alloc _) has_new0
        · rw [updV_ne G _ (by omega)] at hv; exact (hR.2.1 v hv).stay bA
        · rw [updV_ne G _ (by omega)] at hv; exact (hR.2.2 v hv).stay bA
      · cases ho
        intro G w' hG hGn hdep hb hR
        obtain ⟨v1, hv1⟩ := Option.ne_none_iff_exists'.1 (hdep 5 (by simp) (by kernel_rfl))
        have hy1 := hR.1.2 v1 hv1
        obtain ⟨ax, cx, rfl⟩ := hy1.slice
        refine ⟨rfl, gives_one (k := 5) (by kernel_rfl) hGn (by omega) hv1 ?_⟩
        unfold gives
        simp [go_sem, dstAt]
        refine (OF.out k 65536 _ w' hy1).mono ?_
        rintro r w'' ⟨v, zs, rfl, hy, hz, hbb⟩
        refine ⟨_, rfl, hb.trans (hbb.mono hb.size), ⟨fun u hv => ?_, fun u hv => ?_⟩, fun u hv => ?_, fun u hv => ?_⟩
        · rw [updV_ne G _ (by omega)] at hv; exact (hR.1.1 u hv).below hbb
        · rw [updV_ne G _ (by omega)] at hv; exact (hR.1.2 u hv).below hbb
        · rw [updV_ne G _ (by omega)] at hv; exact (hR.2.1 u hv).stay hbb
        · rw [updV_eq] at hv; cases hv; exact ⟨zs, hy, hz⟩
    · intro G w3 hb hR hG hN
      obtain ⟨v1, e1⟩ := hG 1 (by simp)
      obtain ⟨v3, e3⟩ := hG 3 (by simp)
      obtain ⟨v5, e5⟩ := hG 5 (by simp)
      obtain ⟨v7, e7⟩ := hG 7 (by simp)
      obtain ⟨z3, hy3, hz3⟩ := hR.2.1 v3 e3
      obtain ⟨z7, hy7, hz7⟩ := hR.2.2 v7 e7
      obtain ⟨ax, cx, rfl⟩ := (hR.1.1 v1 e1).slice
      obtain ⟨ay, cy, rfl⟩ := (hR.1.2 v5 e5).slice
      rw [CC1.out] at hz3
      rw [CC2.out] at hz7
      have l3 := one_list hz3
      have l7 := one_list hz7
      have q3 := old_lists hy3 l3.2
      have q7 := old_lists hy7 l7.2
      obtain ⟨n3, hn3⟩ : ∃ n, z3.length = n := ⟨_, rfl⟩
      obtain ⟨n7, hn7⟩ : ∃ n, z7.length = n := ⟨_, rfl⟩
      obtain ⟨a3, c3, rfl⟩ : ∃ ao cap, v3 = .slice ao n3 cap := by obtain ⟨ao, cap, e⟩ := hy3.slice; rw [hn3] at e; exact ⟨_, _, e⟩
      obtain ⟨a7, c7, rfl⟩ : ∃ ao cap, v7 = .slice ao n7 cap := by obtain ⟨ao, cap, e⟩ := hy7.slice; rw [hn7] at e; exact ⟨_, _, e⟩
      simp only [putV, dstAt, e1, e3, e5, e7, hN 0 (by simp), hN 2 (by simp), hN 4 (by simp), hN 6 (by simp), List.drop_succ_cons, List.drop_zero, List.getElem?_cons_succ, List.getElem?_cons_zero, Option.bind_some]
      have HY3 := Lib.hid hy3
      have HY7 := Lib.hid hy7
      have HZ3 := Lib.hid hz3
      have HZ7 := Lib.hid hz7
      have Q3 : Hid (∀ j, j < n3 → ∀ k, (po z3 j).v.ownBlock = some k → k < w3.heap.size) := Lib.hid (by rw [← hn3]; exact q3)
      have Q7 : Hid (∀ j, j < n7 → ∀ k, (po z7 j).v.ownBlock = some k → k < w3.heap.size) := Lib.hid (by rw [← hn7]; exact q7)
      have M3 : Hid (n3 ≤ 1) := Lib.hid (by rw [← hn3]; exact l3.1)
      have M7 : Hid (n7 ≤ 1) := Lib.hid (by rw [← hn7]; exact l7.1)
      have HN3 := Lib.hid hn3
      have HN7 := Lib.hid hn7
      have B3 := Lib.hid (B2.out.trans (hb.mono B2.out.size))
      clear hy3 hz3 hy7 hz7 q3 q7 l3 l7 hn3 hn7 hb hR hG hN e1 e3 e5 e7
      obtain ⟨g3, hg3⟩ : ∃ g, w3.heap.size = g := ⟨_, rfl⟩
      have KB := Lib.hid (Kp.bare hg3)
      have HG3 := Lib.hid hg3
      rw [hg3] at Q3 Q7
      have YA := Lib.hid (HY3.out.below ((Below.refl w3.heap.size w3).alloc (Nat.le_refl _) (.cells #[] 26)))
      have SB : Hid (g3 ≤ (w3.alloc (.cells #[] 26)).heap.size) := Lib.hid (by simp; omega)
      go_wp2_with (at_builtin; refine wpList_append_l rfl _ _ rfl (some ⟨g3, 0, none⟩) 0 rfl a3 n3 c3 rfl z3 HN3.out YA.out M3.out Q3.out KB.out (by simp) SB.out ?_)
      intro a4 c4 w4 hK4
      have e4 : z3.length = (z3.map bareY).length := by simp
      rw [e4] at hK4 ⊢
      obtain ⟨A1, hA1⟩ : ∃ A, z3.map bareY = A := ⟨_, rfl⟩
      rw [hA1] at hK4 ⊢
      have ZA := HZ3
      rw [hA1] at ZA
      have K4 := Lib.hid hK4
      have b4 := hK4.below
      have Y4 := Lib.hid (HY7.out.below b4)
      have B4 := Lib.hid (B3.out.trans (b4.mono B3.out.size))
      have S4 : Hid (g3 ≤ w4.heap.size) := Lib.hid (by have := b4.size; have := HG3.out; omega)
      have N4 : Hid (A1.length ≤ 90) := Lib.hid (by rw [← hA1]; simp; have := M3.out; have := HN3.out; omega)
      clear hK4 e4 hA1 b4 hg3 YA KB SB HY3 HZ3
      go_wp2_with (at_builtin; refine wpList_append_l rfl _ _ rfl a4 c4 rfl a7 n7 c7 rfl z7 HN7.out Y4.out M7.out Q7.out K4.out N4.out S4.out ?_)
      intro a5 c5 w5 hK5
      obtain ⟨z5, hz5, hg5⟩ := hK5
      have e5 : A1.length + z7.length = z5.length := by
        have := congrArg List.length hz5
        simp at this
        omega
      rw [e5] at hg5 ⊢
      rw [HZ7.out, ZA.out] at hz5
      obtain ⟨m2, mc, ms⟩ := sum_two hz5
      have y5 : Ysl w5 (.slice a5 z5.length c5) z5 := hg5.sl (by simp; omega)
      have Y5 := Lib.hid y5
      have B5 := Lib.hid (B3.out.trans (hg5.below.mono B3.out.size))
      obtain ⟨Q, hQ⟩ : ∃ q, z5.length = q := ⟨_, rfl⟩
      rw [hQ] at m2 mc ms Y5 ⊢
      rw [← ms] at PSS
      have HQ := Lib.hid hQ
      have MC := Lib.hid mc
      clear hz5 hg5 e5 mc ms y5 hQ K4 Y4 S4 N4 ZA HY7 HZ7 M3 M7 Q3 Q7
      go_wp2_with fail
      go_loopw [11, 45] (fun s i wr => ∃ j : Nat, j ≤ Q ∧ s = .int .i64 (sumZ z5 j) ∧ i = .int .i64 j ∧ Below w5.heap.size w5 wr) (fun _ i _ => Q - (intOf i).toNat)
      case atStart => exact ⟨0, by omega, rfl, rfl, Below.refl _ _⟩
      case round =>
        obtain ⟨j, hj, rfl, rfl, hb6⟩ := hrel
        rename World => w6
        obtain ⟨s0, s1⟩ := sumZ_in z5 j
        by_cases hlt : j < Q
        · obtain ⟨g, o, e1, row, _⟩ := (Y5.out.below hb6).row (by omega)
          subst e1
          have x0 := row.c0 j (by have := HQ.out; omega)
          have x1 := row.c1 j (by have := HQ.out; omega)
          have sx := row.sl j (by have := HQ.out; omega)
          obtain ⟨hcl, h2l⟩ := MC.out j hlt
          have st := sumZ_step z5 j
          obtain ⟨y, hy⟩ : ∃ y, po z5 j = y := ⟨_, rfl⟩
          rw [hy] at x0 x1 sx hcl h2l st
          obtain ⟨cx, lx, px⟩ := y
          simp only at x0 x1 sx hcl h2l st
          subst hcl
          obtain ⟨R, hR⟩ : ∃ R, px.length = R := ⟨_, rfl⟩
          obtain ⟨al, cl, el⟩ : ∃ ao cap, lx = .slice ao R cap := by obtain ⟨ao, cap, e, _⟩ := sx; rw [hR] at e; exact ⟨_, _, e⟩
          subst el
          rw [hR] at h2l
          obtain ⟨gx, hgx⟩ : ∃ g, w6.heap.size = g := ⟨_, rfl⟩
          obtain ⟨X, hX⟩ : ∃ X, w6.alloc (.cells #[.bool false, .slice al R cl] 26) = X := ⟨_, rfl⟩
          have kx : Has X gx #[.bool false, .slice al R cl] 26 := by rw [← hX]; exact has_new hgx
          have LX := Lib.hid (r9_length false (show Psl X (.slice al R cl) px by rw [← hX]; exact sx.alloc _))
          have BX : Hid (Below w5.heap.size w5 X) := Lib.hid (by rw [← hX]; exact hb6.alloc hb6.size _)
          have iP := lenN_in px (sidesN false px.length)
          change 0 ≤ lengthL false px ∧ lengthL false px ≤ _ at iP
          obtain ⟨ll, hll⟩ : ∃ x, lengthL false px = x := ⟨_, rfl⟩
          rw [hll] at LX iP st
          obtain ⟨i0, i1⟩ := iP
          obtain ⟨ss, hss⟩ : ∃ x, sumZ z5 j = x := ⟨_, rfl⟩
          rw [hss] at s0 s1 st ⊢
          have ST := Lib.hid st
          have HX := Lib.hid hX
          have KX := Lib.hid kx
          have o1 : (j : Int) < Q := by omega
          have o2 : ¬ (R : Int) < 2 := by omega
          have o3 : (j : Int) ≤ 1 := by omega
          have o4 : ss ≤ 1099511627776 := by omega
          have o5 : decide ((R : Int) < 2) = false := decide_eq_false o2
          clear row sx hX hll hss kx st hb6 hy hR
          go_upto_region 12 with fail
          rw [HX.out]
          clear hgx x0 x1
          have y0 := KX.out.cell 0 _ rfl
          have y1 := KX.out.cell 1 _ rfl
          go_wp2_with fail
          refine LX.out.mono ?_
          rintro e w7 ⟨rfl, hb7⟩
          have B7 := Lib.hid (BX.out.trans (hb7.mono BX.out.size))
          clear hb7 y0 y1
          go_wp2
          go_roundw
          case rel => exact ⟨j + 1, by omega, by rw [← ST.out], by go_num, B7.out⟩
          case measure => simp [intOf]; omega
        · obtain rfl : j = Q := by omega
          have o1 : ¬ (j : Int) < j := by omega
          obtain ⟨p0, p1⟩ := PSS.out
          obtain ⟨ss, hss⟩ : ∃ x, sumZ z5 j = x := ⟨_, rfl⟩
          rw [hss] at p0 p1 s0 s1 ⊢
          have B6 := Lib.hid (B5.out.trans (hb6.mono B5.out.size))
          clear hss hb6
          go_wp2_with fail
          refine (known10 _).mono ?_
          rintro e w8 ⟨rfl, hb8⟩
          have B8 : Hid (Below w.heap.size w w8) := Lib.hid (BV.out.trans ((B6.out.trans (hb8.mono B6.out.size)).mono BV.out.size))
          clear hb8
          go_wp2
          go_ret
          exact ⟨rfl, B8.out⟩

end Go.Proofs.Ytijahjkamdfmiaa

namespace Go.Proofs.Ytijahjkamdfmiaa.trimParts
open Go.ChangeShapes Go.WideShapes Go.ChangeAt Go.RowKit

theorem post_below {H : Type} {enc : TypeId × Value → H} {P : Program} {f : Func} {s : ChangeSpec} {apart fresh handsOn : Bool} {W V : World} {args : Array Value} {v : Value} {ds gs : List (DataW H)} {before pa pv : List MemPlace}
    (hW : DataW.Whole enc P f.params.toList s.vars apart W args.toList ds gs before)
    (hres : ∀ (b : Nat) (sp : Nat → Bool) (hd : Bool), DataW.TrodAll enc P V b sp hd f.resultTypes.toList (v.resultList f.resultTypes.size) (s.fn H (ds ++ gs)).results [])
    (hargs : ∀ sp : Nat → Bool, (∀ p ∈ before, sp p.block = true) → DataW.TrodAll enc P V 0 sp true f.params.toList args.toList (s.fn H (ds ++ gs)).args pa)
    (hvars : ∀ sp : Nat → Bool, (∀ p ∈ before, sp p.block = true) → DataW.TrodVars enc P V sp s.vars (s.fn H (ds ++ gs)).vars pv)
    (hps : before = pa ++ pv) (hb : Below W.heap.size W V) : s.post enc P f apart fresh handsOn false W args v V := by
  have hl : ∀ p ∈ before, (fun b => decide (b < W.heap.size)) p.block = true := fun p hp => by simpa using hW.lt p hp
  refine ⟨ds, gs, before, [], pa, pv, hW, hres _ _ _, hargs _ hl, hvars _ hl, World.keptBut_mono (fun p hp => ⟨hp, ?_⟩) (hb.frame (· ∈ before)), fun h => by cases h⟩
  rw [hps, List.mem_append] at hp
  exact Or.inr hp

theorem own : ownKnob Try.prog.godebug = none := by kernel_rfl
theorem laid : laidOutB Try.prog = true := by kernel_rfl

set_option maxRecDepth 100000 in
theorem lifted (os : Os) (started : os.Started) (H : Type) (enc : TypeId × Value → H) :
    ReturnsInHanded {} Try.checked os 5 .any (Rows.trimPartsSpec.pre6 enc Try.prog Try.f5 Rows.trimPartsRow.domain false) (Rows.trimPartsSpec.post enc Try.prog Try.f5 false true false false) := by
  refine returnsInHanded_of_change (C := Try.checked) own started (by kernel_rfl) Try.func5
    (ChangeSpec.witness6 (enc := enc) (C := Try.checked) false ⟨#[], #[.slice none 0 0, .int .i64 0], []⟩ 8 (by kernel_rfl) (by kernel_rfl) (by kernel_rfl) (by kernel_rfl)) ?_
  intro W base args ds gs before hval0 hW hcnd _
  have hval : ∀ (j : Nat) t v, Try.f5.params[j]? = some t → args[j]? = some v → Value.okWide Try.prog W .any base t v := hval0
  have hW' := hW
  obtain ⟨p, q, hA0, hV, rfl, hfz, hnd⟩ := hW
  have hA : DataW.TrodAll enc Try.prog W 0 (fun _ => true) true Try.f5.params.toList args.toList ds p := hA0
  rw [Try.params5] at hA hval
  obtain ⟨v0, vs0, d0, ds0, p0, q0, hargs, rfl, rfl, h0, r0⟩ := trodAll_cons hA
  obtain ⟨v1, vs1, d1, ds1, p1, q1, rfl, rfl, rfl, h1, r1⟩ := trodAll_cons r0
  obtain ⟨rfl, rfl, rfl⟩ := trodAll_nil r1
  obtain rfl : args = #[v0, v1] := by cases args; simp_all
  obtain ⟨rfl, rfl⟩ := trodVars_none hV
  obtain ⟨a0, w0⟩ := open_tape (hval 0 31 v0 rfl rfl) h0
  obtain ⟨a1, rfl, rfl, rfl, w1⟩ := open_int Try.underlying2 (hval 1 2 v1 rfl rfl) h1
  clear hA0 hval0
  simp only [List.append_nil] at hW'
  refine (trimParts_walk (w := W) v0 a0 a1 w0).mono fun e W' ⟨he, hg⟩ => ?_
  subst he
  exact ⟨_, rfl, post_below (pv := []) hW' (fun _ _ _ => (trodAll_cons_mk (shut_bool Try.underlying4 _) trodAll_mk0)) (fun sp hsp => (trodAll_cons_mk (WideElems.Trod_stays laid (by kernel_rfl) (of_decide_eq_true (by kernel_rfl)) h0 (fun x hx => hg.same (by simpa using hW'.lt x (by simp [hx]))) (fun x hx => hsp x (by simp [hx]))) (trodAll_cons_mk (shut_int Try.underlying2 w1) trodAll_mk0))) (fun _ _ => rfl) (by simp) hg⟩

theorem over : Rows.trimPartsRow.holds Try.pinned (OpenSpec.ofChange Rows.trimPartsSpec) :=
  OpenClaim.holds_of_wide 5 Try.f5 rfl rfl rfl rfl rfl rfl rfl ⟨rfl, rfl, rfl, rfl, rfl⟩ rfl rfl rfl rfl rfl (by kernel_rfl) Try.func5 (by kernel_rfl)
    (of_decide_eq_true (by kernel_rfl)) (by unfold Func.isWrapper; first | (rw [if_pos (by decide +kernel)]; kernel_rfl) | (rw [if_neg (by decide +kernel)]; exact ⟨rfl, rfl⟩))
    (fun os started H enc _ => lifted os started H enc)

end Go.Proofs.Ytijahjkamdfmiaa.trimParts
namespace Go.Proofs.Ytijahjkamdfmiaa
theorem trimParts_holds : Rows.TrimPartsSaid := trimParts.over
#print axioms trimParts_holds
end Go.Proofs.Ytijahjkamdfmiaa
