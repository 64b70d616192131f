/- StrokeNumbers of the statements: whatever the numbers are, the call returns true and each argument reads as it did; no condition. -/
import Derived.Test.YtmdokohdafeilaaVar
import Derived.Test.YtmdokohdafeilaaXMath
import Derived.Test.YtmdokohdafeilaaN4
import Derived.Test.YtmdokohdafeilaaPB
import Derived.Test.YtmdokohdafeilaaYO8
import Derived.BigRegion
import Derived.Test.YtmdokohdafeilaaYG8
import Derived.Test.YtmdokohdafeilaaU4
import Derived.Test.YtmdokohdafeilaaU6
import Derived.Test.YtmdokohdafeilaaPM
import Derived.Test.YtmdokohdafeilaaY8
import Derived.Test.YtmdokohdafeilaaKN7
import Derived.Test.YtmdokohdafeilaaNMath
import Derived.Test.YtmdokohdafeilaaApp
import Derived.Test.YtmdokohdafeilaaTK5
import Derived.Test.YtmdokohdafeilaaAP8
import Derived.Test.YtmdokohdafeilaaTB7
import Derived.Test.YtmdokohdafeilaaRows
import Derived.WalkKit
import Derived.ProofKit
import Derived.OpenShut
namespace Go.Proofs.Ytmdokohdafeilaa
open Go Go.RowKit

section
variable {L : List Oper} {mk : List Nat} {o : Oper} {p : Nat} {G : Nat → Option Value} {e : Act}
/-- Operation o's guard is no made value. -/
def guardB (L : List Oper) (mk : List Nat) (o : Oper) : Bool := match o.guard with | none => true | some (g, _) => (match dstAt L g with | some d => mk.all fun j => dstAt L j != some d | none => true)
theorem wanted_put (h : guardB L mk o = true) (hGn : ∀ k, k ∉ mk → G k = none) (hw : Region.wanted o (yielded L.toArray e.tmps) = true) : Region.wanted o (yielded L.toArray (putV (dstAt L) G p e).tmps) = true := by
  unfold Region.wanted at hw ⊢
  unfold guardB at h
  cases hg : o.guard with
  | none => rfl
  | some gb =>
    obtain ⟨g, b⟩ := gb
    rw [hg] at h hw
    simp only at h hw ⊢
    have key : yielded L.toArray (putV (dstAt L) G p e).tmps g = yielded L.toArray e.tmps g := by
      unfold yielded
      have ed : (L.toArray[g]?).bind (·.dst) = dstAt L g := by unfold dstAt; simp
      rw [ed]
      cases hd : dstAt L g with
      | none => rfl
      | some d =>
        rw [hd] at h
        simp only at h
        have q : (putV (dstAt L) G p e).tmps[d]? = e.tmps[d]? := putV_at e p fun k hk hkn he => by
          have hkm : k ∈ mk := by
            apply Classical.byContradiction
            intro hn
            exact hkn (hGn k hn)
          have := List.all_eq_true.1 h k hkm
          rw [he] at this
          simp at this
        simp only [Option.bind_some, q]
    rw [key]
    exact hw
end

end Go.Proofs.Ytmdokohdafeilaa

namespace Go.Proofs.Ytmdokohdafeilaa
open Go Go.RowKit
open M

/-- A poly's part is stored into a block of the call's own. -/
theorem part_put {w V w3 : World} {r : Nat} {l : Value} {ps : List Pt} {cs : Array Value} (hb : Below w.heap.size w V) (hl : w.heap.size ≤ r) (hr : Has V r cs 24) (hs : cs.size = 2) (ho : Pown w3 V.heap.size l ps) (hb3 : Below V.heap.size V w3) :
    Gives w false ps (.returned (.agg #[.bool false, l])) ((w3.setCell ⟨r, 0, none⟩ (.bool false)).setCell ⟨r, 1, none⟩ l) ∧ Has ((w3.setCell ⟨r, 0, none⟩ (.bool false)).setCell ⟨r, 1, none⟩ l) r #[.bool false, l] 24 := by
  have k3 := hr.below hb3 hr.lt
  refine ⟨⟨l, rfl, (ho.lower hb.size).kept (grownBy_set (grownBy_set (World.grownBy.refl _ _) _ _) _ _) (fun k hk e => by simp at hk; have := (ho.base k e).1; have := hr.lt; omega), ((hb.trans (hb3.mono hb.size)).setCell hl _).setCell hl _⟩, ?_⟩
  have := has_set (has_set k3 0 (.bool false)) 1 l
  match cs, hs with
  | ⟨[x, y]⟩, _ => simpa using this

end Go.Proofs.Ytmdokohdafeilaa

namespace Go.Proofs.Ytmdokohdafeilaa
open Go Go.RowKit

section
variable {P : Program}
theorem run_append_noth (w : World) (t ty e : TypeId) (i : TypeInfo) (ht : P.underlying t = some (.slice e)) (hi : P.info? e = some i) (base : Option Addr) (sLen sCap : Nat) (hle : sLen ≤ sCap) (ao : Option Addr) (cap : Nat) :
    (Builtin.append_ #[t, t] ty #[.slice base sLen sCap, .slice ao 0 cap]).run P w = .ok (.slice base sLen sCap) w := by
  have hlo : ∀ (x : Addr), (loadCells x 0).run P w = .ok #[] w := fun x => by simpa using run_loadCells_list (P := P) w x [] (by simp)
  cases ao <;> cases base <;> simp [Builtin.append_, run_underlying ht, sizeOf, typeInfo, hi, Builtin.lenOf, Builtin.firstCells, hle, hlo, storeCells]
theorem wp_append_noth {w : World} {o : Oper} {a : Act} {K : Act → World → Prop} {Q : Exit → Act → World → Prop} (s x : Operand) (t : TypeId)
    (ho : o.op = .call { callee := .builtin .append, args := #[s, x], argTypes := #[t, t] }) (e : TypeId) (i : TypeInfo) (ht : P.underlying t = some (.slice e)) (hi : P.info? e = some i) (base : Option Addr) (sLen sCap : Nat) (hle : sLen ≤ sCap) (hs : a.eval s = .slice base sLen sCap)
    (ao : Option Addr) (cap : Nat) (hx : a.eval x = .slice ao 0 cap) (h : K (a.put o.dst (.slice base sLen sCap)) w) : o.wp P a w K Q := by
  have hrun := run_append_noth (P := P) w t o.type e i ht hi base sLen sCap hle ao cap
  unfold Oper.wp
  simp [execOp, ho, resolve, invoke, builtin, hs, hx, hrun, Result.andThen]
  exact h
theorem wpList_append_noth {w : World} {ops : Array Oper} {rest : List Oper} {o : Oper} {a : Act} {Q : Exit → Act → World → Prop} (hgd : o.guard = none) (s x : Operand) (t : TypeId)
    (ho : o.op = .call { callee := .builtin .append, args := #[s, x], argTypes := #[t, t] }) (e : TypeId) (i : TypeInfo) (ht : P.underlying t = some (.slice e)) (hi : P.info? e = some i) (base : Option Addr) (sLen sCap : Nat) (hle : sLen ≤ sCap) (hs : a.eval s = .slice base sLen sCap)
    (ao : Option Addr) (cap : Nat) (hx : a.eval x = .slice ao 0 cap) (h : wpList P ops Q rest (a.put o.dst (.slice base sLen sCap)) w) : wpList P ops Q (o :: rest) a w :=
  wpList_plain hgd fun _ hK => wp_append_noth s x t ho e i ht hi base sLen sCap hle hs ao cap hx (hK _ _ h)
end

end Go.Proofs.Ytmdokohdafeilaa

namespace Go.Proofs.Ytmdokohdafeilaa
open Go Go.RowKit
open M

/-- A list of just these polys is returned. -/
def GivesL (w : World) (L : List (Bool × List Pt)) (e : Ending) (w' : World) : Prop := ∃ v zs, e = .returned v ∧ Ysl w' v zs ∧ zs.map bareY = L ∧ Below w.heap.size w w'
theorem Ysl.slice {w : World} {v : Value} {ys : List Po} (h : Ysl w v ys) : ∃ ao cap, v = .slice ao ys.length cap := by
  obtain ⟨ao, cap, e, _⟩ := h
  exact ⟨ao, cap, e⟩
theorem GivesL.on {w w1 w2 : World} {L : List (Bool × List Pt)} {e : Ending} (h : GivesL w1 L e w2) (hb : Below w.heap.size w w1) : GivesL w L e w2 := by
  obtain ⟨v, zs, he, hy, hz, hq⟩ := h
  exact ⟨v, zs, he, hy, hz, hb.trans (hq.mono hb.size)⟩
/-- The value v is a list of just these polys. -/
def LR (L : List (Bool × List Pt)) (v : Value) (w : World) : Prop := ∃ zs, Ysl w v zs ∧ zs.map bareY = L
theorem LR.stay {L : List (Bool × List Pt)} {v : Value} {w w' : World} (h : LR L v w) (hb : Below w.heap.size w w') : LR L v w' := by
  obtain ⟨zs, hy, hz⟩ := h
  exact ⟨zs, hy.below hb, hz⟩
theorem bares_of {zs : List Po} {N : Nat} {f : Nat → Bool × List Pt} (hl : zs.length = N) (h : ∀ j, j < N → bareY (po zs j) = f j) : zs.map bareY = (List.range N).map f := by
  apply List.ext_getElem?
  intro i
  by_cases hi : i < N
  · have := h i hi
    unfold po at this
    rw [List.getD_eq_getElem?_getD, List.getElem?_eq_getElem (by omega)] at this
    simp [hi, hl]
    simpa using this
  · rw [List.getElem?_eq_none (by simp; omega), List.getElem?_eq_none (by simp; omega)]
theorem grownBy_drew {a b : World} {r : Option Nat} (h : a.grownBy b r) : a.grownBy b.drew r := ⟨h.os, h.tape, h.output, h.size, h.block⟩
theorem Yfill.copied {w1 wr V : World} {gs N n : Nat} {f : Nat → Bool × List Pt} {zs : List Po} (h : Yfill w1 gs N f n zs wr) (hn : n < N) {c : Bool} {v : Value} {ps : List Pt} (hf : f n = (c, ps)) (hv : Psl V v ps) (hne : v.ownBlock ≠ some gs)
    (hk : ∀ k, k < wr.heap.size → k ≠ gs → V.heap[k]? = wr.heap[k]?) (hh : Has V gs (((yls zs).set (n * 2) (.bool c)).set (n * 2 + 1) v).toArray 24) (hb : Below w1.heap.size w1 V) : Yfill w1 gs N f (n + 1) (zs.set n ⟨c, v, ps⟩) V := by
  refine ⟨by rw [List.length_set]; exact h.len, ?_, fun j hj => ?_, hb, h.lo⟩
  · rw [yls_set (by rw [h.len]; exact hn)]
    exact hh
  · by_cases e : n = j
    · subst e
      rw [po_set_eq (by rw [h.len]; exact hn)]
      exact ⟨hf.symm, hv, hne⟩
    · rw [po_set_ne e]
      obtain ⟨a, b, c'⟩ := h.told j (by omega)
      exact ⟨a, b.blocks (fun k hkk e => hk k hkk (fun e2 => c' (by rw [e, e2]))), c'⟩

theorem gives_append {P : Program} {o : Oper} {e : Act} {w : World} {K : Value → World → Prop} (s x : Operand) (t : TypeId) (ho : o.op = .call { callee := .builtin .append, args := #[s, x], argTypes := #[t, t] })
    {v u : Value} (hs : e.eval s = v) (hx : e.eval x = u) {v' : Value} {w' : World} (hr : (Builtin.append_ #[t, t] o.type #[v, u]).run P w = .ok v' w') (h : K v' w') : gives P o e w K := by
  unfold gives execOp
  simp only [ho, resolve, invoke, builtin, Sem.run_bind, Sem.run_pure, Result.andThen_ok, List.map_toArray, List.map_cons, List.map_nil, hs, hx, hr]
  exact h
/-- A list of no places, in a block of the call's own, still bare where c says so. -/
def NoP (base : Nat) (c : Prop) (v : Value) (w : World) : Prop := ∃ g, v = .slice (some ⟨g, 0, none⟩) 0 0 ∧ base ≤ g ∧ g < w.heap.size ∧ (c → Has w g #[] 31)
theorem NoP.stay {base : Nat} {c : Prop} {v : Value} {w w' : World} (h : NoP base c v w) (hb : Below w.heap.size w w') : NoP base c v w' := by
  obtain ⟨g, e, l, s, k⟩ := h
  exact ⟨g, e, l, Nat.lt_of_lt_of_le s hb.size, fun hc => (k hc).below hb (k hc).lt⟩
/-- All places of a list appended to a list of none: what lies where. -/
theorem append_all {w : World} {B g : Nat} {ps : List Pt} {ao : Option Addr} {M cap : Nat} (hk : Has w g #[] 31) (hg : B ≤ g) (hs : Psl w (.slice ao M cap) ps) (hM : ps.length = M) (ty : TypeId) :
    ∃ v' w', (Builtin.append_ #[22, 22] ty #[.slice (some ⟨g, 0, none⟩) 0 0, .slice ao M cap]).run Try.prog w = .ok v' w' ∧ Pown w' B v' ps ∧ w.grownBy w' (some g) := by
  obtain ⟨i0, hi, hz0, hz1, hz2⟩ := info_parts Try.infoPt
  have hlt := hk.lt
  have ho : Pown w B (.slice (some ⟨g, 0, none⟩) 0 0) [] := ⟨rfl, Or.inr ⟨g, 0, #[], rfl, hg, hk, by simp, by simp, by simp, by simp [pls]⟩⟩
  have hf := hs.few
  by_cases h0 : M = 0
  · subst h0
    obtain rfl : ps = [] := List.eq_nil_of_length_eq_zero hM
    exact ⟨_, w, run_append_noth w _ ty _ i0 Try.underlying22 hi _ 0 0 (Nat.le_refl _) ao cap, ho, World.grownBy.refl _ _⟩
  · obtain ⟨ao', cap', hv, _, hrow⟩ := hs
    obtain ⟨gs, o, rfl, row⟩ := hrow (by omega)
    simp only [Value.slice.injEq] at hv
    obtain ⟨rfl, _, _⟩ := hv
    obtain ⟨g', cap2, w', hr, h2, h3, _, _⟩ := run_append_lies (P := Try.prog) w 22 ty B 31 i0 _ 2 16 Try.underlying22 hi hz0 hz1 hz2 rfl (by decide) (.slice (some ⟨g, 0, none⟩) 0 0) 0 [] ho ⟨gs, o, none⟩ M cap (pls ps) (by rw [pls_length, hM]) (fun j u hu => by rw [Addr.add_lit]; exact row.at j u hu) (ones_pls ps) (by omega) (by unfold maxLen; omega) (by omega) (by omega) _ rfl
    refine ⟨_, w', hr, ?_, h3⟩
    unfold Pown
    rw [hM]
    simpa using h2

end Go.Proofs.Ytmdokohdafeilaa

namespace Go.Proofs.Ytmdokohdafeilaa
open Go Go.RowKit
open M

theorem Ygrow.re {w1 wr : World} {base n : Nat} {f f' : Nat → Bool × List Pt} {zs : List Po} {v : Value} (h : Ygrow w1 base f n zs v wr) (hf : ∀ j, j < n → bareY (po zs j) = f' j) : Ygrow w1 base f' n zs v wr :=
  ⟨h.len, h.own, fun j hj => ⟨hf j hj, (h.told j hj).2⟩, h.below, h.lo⟩
/-- A list of polys of the call's own: just these. -/
def Kp (w1 : World) (base : Nat) (L : List (Bool × List Pt)) (v : Value) (wr : World) : Prop := ∃ zs : List Po, zs.map bareY = L ∧ Ygrow w1 base (fun j => bareY (po zs j)) L.length zs v wr
theorem Kp.later {w1 wr w' : World} {base : Nat} {L : List (Bool × List Pt)} {v : Value} (h : Kp w1 base L v wr) (hb : Below wr.heap.size wr w') : Kp w1 base L v w' := by
  obtain ⟨zs, e, h⟩ := h
  exact ⟨zs, e, h.later hb⟩
theorem Kp.below {w1 wr : World} {base : Nat} {L : List (Bool × List Pt)} {v : Value} (h : Kp w1 base L v wr) : Below w1.heap.size w1 wr := by
  obtain ⟨zs, e, h⟩ := h
  exact h.below
theorem Kp.shape {w1 wr : World} {base : Nat} {L : List (Bool × List Pt)} {v : Value} (h : Kp w1 base L v wr) : ∃ ao cap, v = .slice ao L.length cap := by
  obtain ⟨zs, e, h⟩ := h
  exact h.shape
theorem Kp.start {w : World} {base : Nat} (hl : w.heap.size ≤ base) : Kp w base [] (.slice none 0 0) w := ⟨[], rfl, rfl, World.ownsRow_nil _ _ _ _, fun j hj => by simp at hj, Below.refl _ _, hl⟩
theorem Kp.gives {w wr : World} {base : Nat} {L : List (Bool × List Pt)} {v : Value} (h : Kp w base L v wr) (hf : L.length ≤ 100) : GivesL w L (.returned v) wr := by
  obtain ⟨zs, e, h⟩ := h
  exact ⟨v, zs, rfl, h.sl hf, e, h.below⟩
theorem Kp.young {w1 wr : World} {base : Nat} {L : List (Bool × List Pt)} {v : Value} (h : Kp w1 base L v wr) (k : Nat) (hk : v.ownBlock = some k) : k < wr.heap.size ∧ base ≤ k := by
  obtain ⟨zs, e, h⟩ := h
  have := World.ownsRow.lt h.own k hk
  exact ⟨this.2, this.1⟩
theorem wpList_append_k {W w1 : World} {base : Nat} {L : List (Bool × List Pt)} {l : Value} {ops : Array Oper} {rest : List Oper} {op : Oper} {a : Act} {Q : Exit → Act → World → Prop} (hgd : op.guard = none) (s x : Operand)
    (hop : op.op = .call { callee := .builtin .append, args := #[s, x], argTypes := #[37, 37] }) (hs : a.eval s = l) (H : Nat) (hx : a.eval x = .slice (some ⟨H, 0, none⟩) 1 1)
    (y : Po) (hn : Has W H (yl y).toArray 24) (hT : Kp w1 base L l W) (hf : L.length ≤ 90) (hy : Psl W y.v y.ps) (hyl : ∀ k, l.ownBlock = some k → y.v.ownBlock ≠ some k) (hyc : ∀ k, y.v.ownBlock = some k → k < W.heap.size) (hys : ∃ ao n cap, y.v = .slice ao n cap) (hb : base ≤ W.heap.size)
    (h : ∀ g' cap' w', Kp w1 base (L ++ [(y.cl, y.ps)]) (.slice (some ⟨g', 0, none⟩) (L.length + 1) cap') w' → wpList Try.prog ops Q rest (a.put op.dst (.slice (some ⟨g', 0, none⟩) (L.length + 1) cap')) w') : wpList Try.prog ops Q (op :: rest) a W := by
  obtain ⟨zs, e, hT⟩ := hT
  have hl := hT.len
  refine wpList_append_y hgd s x hop hs H hx y hn (hT.re (f' := fun j => bareY (po (zs ++ [y]) j)) (fun j hj => by rw [po_left (by omega)])) hf (by have := po_last zs y; rw [hl] at this; rw [this]) hy hyl hyc hys hb ?_
  intro g' cap' w' hY
  refine h g' cap' w' ⟨zs ++ [y], by rw [List.map_append, e]; rfl, ?_⟩
  rw [List.length_append]
  exact hY

end Go.Proofs.Ytmdokohdafeilaa

namespace Go.Proofs.Ytmdokohdafeilaa
open Go Go.RowKit
open M

/-- A list of just these polys, all of it in blocks from 'base' on. -/
def Kq (w1 : World) (base : Nat) (L : List (Bool × List Pt)) (v : Value) (wr : World) : Prop := ∃ zs : List Po, zs.map bareY = L ∧ Ygrow w1 base (fun j => bareY (po zs j)) L.length zs v wr ∧ ∀ j, j < L.length → ∀ k, (po zs j).v.ownBlock = some k → base ≤ k
theorem Kq.later {w1 wr w' : World} {base : Nat} {L : List (Bool × List Pt)} {v : Value} (h : Kq w1 base L v wr) (hb : Below wr.heap.size wr w') : Kq w1 base L v w' := by
  obtain ⟨zs, e, h, hk⟩ := h
  exact ⟨zs, e, h.later hb, hk⟩
theorem Kq.below {w1 wr : World} {base : Nat} {L : List (Bool × List Pt)} {v : Value} (h : Kq w1 base L v wr) : Below w1.heap.size w1 wr := by
  obtain ⟨zs, e, h, _⟩ := h
  exact h.below
theorem Kq.lo {w1 wr : World} {base : Nat} {L : List (Bool × List Pt)} {v : Value} (h : Kq w1 base L v wr) : w1.heap.size ≤ base := by
  obtain ⟨zs, e, h, _⟩ := h
  exact h.lo
theorem Kq.shape {w1 wr : World} {base : Nat} {L : List (Bool × List Pt)} {v : Value} (h : Kq w1 base L v wr) : ∃ ao cap, v = .slice ao L.length cap := by
  obtain ⟨zs, e, h, _⟩ := h
  exact h.shape
theorem Kq.start {w : World} {base : Nat} (hl : w.heap.size ≤ base) : Kq w base [] (.slice none 0 0) w := ⟨[], rfl, ⟨rfl, World.ownsRow_nil _ _ _ _, fun j hj => by simp at hj, Below.refl _ _, hl⟩, fun j hj => by simp at hj⟩
theorem Kq.gives {w wr : World} {base : Nat} {L : List (Bool × List Pt)} {v : Value} (h : Kq w base L v wr) (hf : L.length ≤ 100) : GivesL w L (.returned v) wr := by
  obtain ⟨zs, e, h, _⟩ := h
  exact ⟨v, zs, rfl, h.sl hf, e, h.below⟩
theorem Kq.young {w1 wr : World} {base : Nat} {L : List (Bool × List Pt)} {v : Value} (h : Kq w1 base L v wr) (k : Nat) (hk : v.ownBlock = some k) : k < wr.heap.size ∧ base ≤ k := by
  obtain ⟨zs, e, h, _⟩ := h
  have := World.ownsRow.lt h.own k hk
  exact ⟨this.2, this.1⟩
theorem Kq.room {w1 wr : World} {base : Nat} {L : List (Bool × List Pt)} {ao : Option Addr} {n cap : Nat} (h : Kq w1 base L (.slice ao n cap) wr) : n ≤ cap := by
  obtain ⟨zs, e, h, _⟩ := h
  rcases h.own.2 with ⟨hv, hn⟩ | ⟨g, cap', cur, hv, _, _, h1, _⟩
  · simp at hv; omega
  · simp at hv
    obtain ⟨_, rfl, rfl⟩ := hv
    exact h1
/-- The same list seen from an earlier world, or told from an earlier base on. -/
theorem Kq.on {w0 w1 wr : World} {base base' : Nat} {L : List (Bool × List Pt)} {v : Value} (h : Kq w1 base L v wr) (hb : Below w0.heap.size w0 w1) (h1 : base' ≤ base) (h2 : w0.heap.size ≤ base') : Kq w0 base' L v wr := by
  obtain ⟨zs, e, h, hk⟩ := h
  refine ⟨zs, e, ⟨h.len, ⟨h.own.1, ?_⟩, h.told, hb.trans (h.below.mono hb.size), h2⟩, fun j hj k hkk => Nat.le_trans h1 (hk j hj k hkk)⟩
  rcases h.own.2 with q | ⟨g, cap, cur, a, b, r⟩
  · exact Or.inl q
  · exact Or.inr ⟨g, cap, cur, a, by omega, r⟩
theorem po_app_left {ys zs : List Po} {i : Nat} (h : i < ys.length) : po (ys ++ zs) i = po ys i := by unfold po; simp [List.getD, List.getElem?_append_left h]
theorem po_app_right {ys zs : List Po} {i : Nat} (h : ys.length ≤ i) : po (ys ++ zs) i = po zs (i - ys.length) := by unfold po; simp [List.getD, List.getElem?_append_right h]

theorem wpList_append_q {W w1 w2 : World} {base base2 : Nat} {L M : List (Bool × List Pt)} {ops : Array Oper} {rest : List Oper} {op : Oper} {a : Act} {Q : Exit → Act → World → Prop} (hgd : op.guard = none) (s x : Operand)
    (hop : op.op = .call { callee := .builtin .append, args := #[s, x], argTypes := #[37, 37] }) (ao : Option Addr) (N cap : Nat) (hN : L.length = N) (hs : a.eval s = .slice ao N cap) (ax : Option Addr) (m cx : Nat) (hm : M.length = m) (hx : a.eval x = .slice ax m cx)
    (hT : Kq w1 base L (.slice ao N cap) W) (hX : Kq w2 base2 M (.slice ax m cx) W) (hd : ∀ k, Value.ownBlock (.slice ao N cap) = some k → k < base2) (hbb : base ≤ base2) (hf : N + m ≤ 100)
    (h : ∀ a' c' w', Kq w1 base (L ++ M) (.slice a' (N + m) c') w' → wpList Try.prog ops Q rest (a.put op.dst (.slice a' (N + m) c')) w') : wpList Try.prog ops Q (op :: rest) a W := by
  obtain ⟨i0, hi, hz0, hz1, hz2⟩ := info_parts Try.infoPoly
  by_cases h0 : m = 0
  · subst h0
    obtain rfl : M = [] := List.eq_nil_of_length_eq_zero hm
    refine wpList_append_noth hgd s x 37 hop 24 i0 Try.underlying37 hi ao N cap hT.room hs ax cx hx ?_
    simpa using h ao cap W (by simpa using hT)
  · obtain ⟨zs, e, T, kT⟩ := id hT
    obtain ⟨ys, e2, X, kX⟩ := id hX
    have lz := T.len
    have ly := X.len
    have hsl := X.sl (by omega)
    obtain ⟨g, o, rfl, row, _⟩ := hsl.row (by omega)
    have shp : ∀ i, i < ys.length → ∃ ao n cap, (po ys i).v = .slice ao n cap := fun i hi => (X.told i (by omega)).2.2.2.1
    have cells : ∀ j u, (yls ys)[j]? = some u → W.cell? ⟨g, o + j, none⟩ = some u := by
      intro j u hu
      have hj : j < ys.length * 2 := by
        have := (List.getElem?_eq_some_iff.1 hu).1
        rwa [yls_length] at this
      have e1 : j = j / 2 * 2 + j % 2 := by omega
      have hi : j / 2 < ys.length := by omega
      rw [e1, yls_at hi (by omega)] at hu
      rcases (show j % 2 = 0 ∨ j % 2 = 1 by omega) with e | e
      · rw [e] at hu e1
        simp [yl] at hu
        rw [e1, ← hu]
        exact row.c0 _ hi
      · rw [e] at hu e1
        simp [yl] at hu
        rw [e1, ← Nat.add_assoc, ← hu]
        exact row.c1 _ hi
    rw [hN] at T lz
    have hTl : ∀ k, Value.ownBlock (.slice ao N cap) = some k → k < W.heap.size ∧ base ≤ k := fun k hk => hT.young k hk
    have hb : base ≤ W.heap.size := by
      have h1 := (hX.young g rfl).1
      have h2 := (hX.young g rfl).2
      omega
    refine wpList_plain hgd fun _ hK => wp_append_lies W s x 37 hop base 24 i0 _ 2 32 Try.underlying37 hi hz0 hz1 hz2 rfl (by decide) (.slice ao N cap) N (yls zs) hs T.own ⟨g, o, none⟩ m cx (yls ys) hx (by rw [yls_length, ly, hm]) (fun j u hu => by rw [Addr.add_lit]; exact cells j u hu) (ones_yls shp) (by omega) (by unfold maxLen; omega) (by omega) hb _ rfl ?_
    intro g' cap' w' hown' hg hat hlt
    refine hK _ _ (h (some ⟨g', 0, none⟩) cap' w' ⟨zs ++ ys, by rw [List.map_append, e, e2], ⟨by simp [lz, ly, hN], ?_, fun j hj => ?_, ?_, T.lo⟩, fun j hj k hk => ?_⟩)
    · rw [yls_append, List.length_append, hN, hm]
      exact hown'
    · refine ⟨rfl, ?_⟩
      rw [List.length_append, hN, hm] at hj
      by_cases hjn : j < N
      · rw [po_app_left (by omega)]
        obtain ⟨_, a2, a3, a4, a5⟩ := T.told j hjn
        refine ⟨a2.grown hg (fun k hk e => a3 k hk e), fun k hk e2 => ?_, a4, fun k hk => Nat.lt_of_lt_of_le (a5 k hk) hg.size⟩
        have hk' : some g' = some k := hk
        simp at hk'
        subst hk'
        rcases hat with e3 | e3
        · exact a3 g' e3 e2
        · have := a5 g' e2; omega
      · rw [po_app_right (by omega), lz]
        obtain ⟨_, a2, a3, a4, a5⟩ := X.told (j - N) (by omega)
        have kj := kX (j - N) (by omega)
        refine ⟨a2.grown hg (fun k hk e => by have := hd k hk; have := kj k e; omega), fun k hk e2 => ?_, a4, fun k hk => Nat.lt_of_lt_of_le (a5 k hk) hg.size⟩
        have hk' : some g' = some k := hk
        simp at hk'
        subst hk'
        rcases hat with e3 | e3
        · have := hd g' e3; have := kj g' e2; omega
        · have := a5 g' e2; omega
    · exact T.below.grown hg T.below.size (fun k hk => by have := (hTl k hk).2; have := T.lo; omega)
    · rw [List.length_append, hN, hm] at hj
      by_cases hjn : j < N
      · rw [po_app_left (by omega)] at hk
        exact kT j (by omega) k hk
      · rw [po_app_right (by omega), lz] at hk
        have := kX (j - N) (by omega) k hk
        omega
/-- A list of one poly, just laid. -/
theorem Kq.one {w1 W : World} {base : Nat} {l : Value} {ps : List Pt} (hb : Below w1.heap.size w1 W) (h1 : w1.heap.size ≤ base) (hl : Pown W base l ps) (hf : ps.length ≤ 8796093022208) (hs : base ≤ W.heap.size) : Kq w1 base [(true, ps)] (.slice (some ⟨W.heap.size, 0, none⟩) 1 1) (W.alloc (.cells #[.bool true, l] 24)) := by
  have hsl := (hl.sl hf).alloc (.cells #[.bool true, l] 24)
  obtain ⟨al, cl, el⟩ := hl.len
  refine ⟨[⟨true, l, ps⟩], rfl, ⟨rfl, ?_, fun j hj => ?_, hb.alloc hb.size _, h1⟩, fun j hj k hk => ?_⟩
  · refine ⟨rfl, Or.inr ⟨W.heap.size, 1, #[.bool true, l], rfl, hs, has_new rfl, by simp, by unfold maxLen; omega, by simp, by simp [yls, yl]⟩⟩
  · obtain rfl : j = 0 := by simp at hj; omega
    refine ⟨rfl, hsl, fun k hk e => ?_, ⟨al, _, cl, el⟩, fun k hk => ?_⟩
    · have hk' : some W.heap.size = some k := hk
      simp at hk'
      have := (hl.base k e).2
      omega
    · have := (hl.base k hk).2
      simp; omega
  · obtain rfl : j = 0 := by simp at hj; omega
    exact (hl.base k hk).1
/-- A list of two polys, just laid. -/
theorem Kq.two {w1 W : World} {base : Nat} {l l2 : Value} {ps ps2 : List Pt} (hb : Below w1.heap.size w1 W) (h1 : w1.heap.size ≤ base) (hl : Pown W base l ps) (hf : ps.length ≤ 8796093022208) (hl2 : Pown W base l2 ps2) (hf2 : ps2.length ≤ 8796093022208) (hs : base ≤ W.heap.size) : Kq w1 base [(true, ps), (true, ps2)] (.slice (some ⟨W.heap.size, 0, none⟩) 2 2) (W.alloc (.cells #[.bool true, l, .bool true, l2] 24)) := by
  have hsl := (hl.sl hf).alloc (.cells #[.bool true, l, .bool true, l2] 24)
  have hsl2 := (hl2.sl hf2).alloc (.cells #[.bool true, l, .bool true, l2] 24)
  obtain ⟨al, cl, el⟩ := hl.len
  obtain ⟨al2, cl2, el2⟩ := hl2.len
  refine ⟨[⟨true, l, ps⟩, ⟨true, l2, ps2⟩], rfl, ⟨rfl, ?_, fun j hj => ?_, hb.alloc hb.size _, h1⟩, fun j hj k hk => ?_⟩
  · refine ⟨rfl, Or.inr ⟨W.heap.size, 2, #[.bool true, l, .bool true, l2], rfl, hs, has_new rfl, by simp, by unfold maxLen; omega, by simp, by simp [yls, yl]⟩⟩
  · rcases (show j = 0 ∨ j = 1 by simp at hj; omega) with rfl | rfl
    · refine ⟨rfl, hsl, fun k hk e => ?_, ⟨al, _, cl, el⟩, fun k hk => ?_⟩
      · have hk' : some W.heap.size = some k := hk
        simp at hk'
        have := (hl.base k e).2
        omega
      · have := (hl.base k hk).2
        simp; omega
    · refine ⟨rfl, hsl2, fun k hk e => ?_, ⟨al2, _, cl2, el2⟩, fun k hk => ?_⟩
      · have hk' : some W.heap.size = some k := hk
        simp at hk'
        have := (hl2.base k e).2
        omega
      · have := (hl2.base k hk).2
        simp; omega
  · rcases (show j = 0 ∨ j = 1 by simp at hj; omega) with rfl | rfl
    · exact (hl.base k hk).1
    · exact (hl2.base k hk).1
/-- A list of just these polys, all of it the call's own, is returned. -/
def GivesK (w : World) (L : List (Bool × List Pt)) (e : Ending) (w' : World) : Prop := ∃ v, e = .returned v ∧ Kq w w.heap.size L v w'

/-- A literal's row of places is the call's own. -/
theorem pown_lit {w : World} {B g n : Nat} {cs : Array Value} {ps : List Pt} (hk : Has w g cs 31) (hg : B ≤ g) (hcs : cs.toList = pls ps) (hn : ps.length = n) (hm : n ≤ 1000) : Pown w B (.slice (some ⟨g, 0, none⟩) n n) ps := by
  subst hn
  have hl := pls_length ps
  refine ⟨hl, Or.inr ⟨g, ps.length, cs, rfl, hg, hk, Nat.le_refl _, by unfold maxLen; omega, ?_, ?_⟩⟩
  · rw [← hl, ← hcs]; simp
  · rw [hcs, ← hl]; simp
/-- The value v is a literal of these places, in a block of the call's own; its cells are still so where c says it. -/
def LitP (base : Nat) (n : Nat) (cs : Array Value) (c : Prop) (v : Value) (w : World) : Prop := ∃ g, v = .slice (some ⟨g, 0, none⟩) n n ∧ base ≤ g ∧ g < w.heap.size ∧ (c → Has w g cs 31)
theorem LitP.stay {base n : Nat} {cs : Array Value} {c : Prop} {v : Value} {w w' : World} (h : LitP base n cs c v w) (hb : Below w.heap.size w w') : LitP base n cs c v w' := by
  obtain ⟨g, e, l, s, k⟩ := h
  exact ⟨g, e, l, Nat.lt_of_lt_of_le s hb.size, fun hc => (k hc).below hb (k hc).lt⟩
theorem LitP.grown {base n g : Nat} {cs : Array Value} {c : Prop} {v : Value} {w w' : World} (h : LitP base n cs c v w) (hg : w.grownBy w' (some g)) (hne : v.ownBlock ≠ some g) : LitP base n cs c v w' := by
  obtain ⟨k, rfl, l, s, hk⟩ := h
  exact ⟨k, rfl, l, Nat.lt_of_lt_of_le s hg.size, fun hc => has_grown (hk hc) hg (fun e => hne (by rw [e]; rfl))⟩
theorem Pown.off2 {base g : Nat} {ps : List Pt} {l : Value} {w w' : World} (h : Pown w base l ps) (hg : w.grownBy w' (some g)) (hne : l.ownBlock ≠ some g) : Pown w' base l ps := h.kept hg (fun k hk e => by simp at hk; subst hk; exact hne e)

end Go.Proofs.Ytmdokohdafeilaa

namespace Go.Proofs.Ytmdokohdafeilaa
open Go Go.RowKit
open M

/-- Two literals (numbers 9 and 20 of a region) and the polys made of them (10 and 21). -/
structure Two (base : Nat) (c1 c2 : Array Value) (P1 P2 : List Pt) (G : Nat → Option Value) (w : World) : Prop where
  lit1 : ∀ v, G 9 = some v → LitP base 3 c1 (G 10 = none) v w
  lit2 : ∀ v, G 20 = some v → LitP base 3 c2 (G 21 = none) v w
  po1 : ∀ v, G 10 = some v → ∃ l, v = .agg #[.bool true, l] ∧ Pown w base l P1
  po2 : ∀ v, G 21 = some v → ∃ l, v = .agg #[.bool true, l] ∧ Pown w base l P2
  ap : ∀ v u g, G 9 = some v → G 20 = some u → u.ownBlock = some g → v.ownBlock ≠ some g
  q1 : ∀ l u g, G 10 = some (.agg #[.bool true, l]) → G 20 = some u → u.ownBlock = some g → l.ownBlock ≠ some g
  q2 : ∀ l u g, G 21 = some (.agg #[.bool true, l]) → G 9 = some u → u.ownBlock = some g → l.ownBlock ≠ some g
section
variable {base : Nat} {c1 c2 : Array Value} {P1 P2 : List Pt} {G : Nat → Option Value} {w w' : World}
theorem Two.start : Two base c1 c2 P1 P2 (fun _ => none) w := ⟨fun _ h => (by cases h), fun _ h => (by cases h), fun _ h => (by cases h), fun _ h => (by cases h), fun _ _ _ h => (by cases h), fun _ _ _ h => (by cases h), fun _ _ _ h => (by cases h)⟩
theorem Two.stay (h : Two base c1 c2 P1 P2 G w) (hb : Below w.heap.size w w') : Two base c1 c2 P1 P2 G w' :=
  ⟨fun v hv => (h.lit1 v hv).stay hb, fun v hv => (h.lit2 v hv).stay hb, fun v hv => by obtain ⟨l, e, k⟩ := h.po1 v hv; exact ⟨l, e, k.below hb (Nat.le_refl _)⟩, fun v hv => by obtain ⟨l, e, k⟩ := h.po2 v hv; exact ⟨l, e, k.below hb (Nat.le_refl _)⟩, h.ap, h.q1, h.q2⟩
theorem Two.build1 (h : Two base c1 c2 P1 P2 G w) (hb : base ≤ w.heap.size) : Two base c1 c2 P1 P2 (updV G 9 (.slice (some ⟨w.heap.size, 0, none⟩) 3 3)) (w.alloc (.cells c1 31)) := by
  have s := h.stay (w' := w.alloc (.cells c1 31)) ((Below.refl _ _).alloc (Nat.le_refl _) _)
  have e10 := updV_ne G (.slice (some ⟨w.heap.size, 0, none⟩) 3 3) (show (10 : Nat) ≠ 9 by omega)
  have e20 := updV_ne G (.slice (some ⟨w.heap.size, 0, none⟩) 3 3) (show (20 : Nat) ≠ 9 by omega)
  have e21 := updV_ne G (.slice (some ⟨w.heap.size, 0, none⟩) 3 3) (show (21 : Nat) ≠ 9 by omega)
  refine ⟨fun v hv => ?_, fun v hv => ?_, fun v hv => ?_, fun v hv => ?_, fun v u g hv hu hg e => ?_, fun l u g hv hu hg => ?_, fun l u g hv hu hg e => ?_⟩
  · rw [updV_eq] at hv; cases hv; exact ⟨_, rfl, hb, by simp, fun _ => has_new rfl⟩
  · rw [e20] at hv; rw [e21]; exact s.lit2 v hv
  · rw [e10] at hv; exact s.po1 v hv
  · rw [e21] at hv; exact s.po2 v hv
  · rw [updV_eq] at hv; rw [e20] at hu; cases hv
    obtain ⟨k, rfl, _, hlt, _⟩ := h.lit2 u hu
    have h1 : some k = some g := hg
    have h2 : some w.heap.size = some g := e
    simp at h1 h2
    omega
  · rw [e10] at hv; rw [e20] at hu; exact h.q1 l u g hv hu hg
  · rw [e21] at hv; rw [updV_eq] at hu; cases hu
    obtain ⟨l', el, k⟩ := h.po2 _ hv
    simp at el
    subst el
    have h1 : some w.heap.size = some g := hg
    simp at h1
    have := (k.base g e).2
    omega
theorem Two.build2 (h : Two base c1 c2 P1 P2 G w) (hb : base ≤ w.heap.size) : Two base c1 c2 P1 P2 (updV G 20 (.slice (some ⟨w.heap.size, 0, none⟩) 3 3)) (w.alloc (.cells c2 31)) := by
  have s := h.stay (w' := w.alloc (.cells c2 31)) ((Below.refl _ _).alloc (Nat.le_refl _) _)
  have e9 := updV_ne G (.slice (some ⟨w.heap.size, 0, none⟩) 3 3) (show (9 : Nat) ≠ 20 by omega)
  have e10 := updV_ne G (.slice (some ⟨w.heap.size, 0, none⟩) 3 3) (show (10 : Nat) ≠ 20 by omega)
  have e21 := updV_ne G (.slice (some ⟨w.heap.size, 0, none⟩) 3 3) (show (21 : Nat) ≠ 20 by omega)
  refine ⟨fun v hv => ?_, fun v hv => ?_, fun v hv => ?_, fun v hv => ?_, fun v u g hv hu hg e => ?_, fun l u g hv hu hg e => ?_, fun l u g hv hu hg => ?_⟩
  · rw [e9] at hv; rw [e10]; exact s.lit1 v hv
  · rw [updV_eq] at hv; cases hv; exact ⟨_, rfl, hb, by simp, fun _ => has_new rfl⟩
  · rw [e10] at hv; exact s.po1 v hv
  · rw [e21] at hv; exact s.po2 v hv
  · rw [e9] at hv; rw [updV_eq] at hu; cases hu
    obtain ⟨k, rfl, _, hlt, _⟩ := h.lit1 v hv
    have h1 : some w.heap.size = some g := hg
    have h2 : some k = some g := e
    simp at h1 h2
    omega
  · rw [e10] at hv; rw [updV_eq] at hu; cases hu
    obtain ⟨l', el, k⟩ := h.po1 _ hv
    simp at el
    subst el
    have h1 : some w.heap.size = some g := hg
    simp at h1
    have := (k.base g e).2
    omega
  · rw [e21] at hv; rw [e9] at hu; exact h.q2 l u g hv hu hg
theorem Two.poly1 {g : Nat} {l : Value} (h : Two base c1 c2 P1 P2 G w) (h9 : G 9 = some (.slice (some ⟨g, 0, none⟩) 3 3)) (hl : Pown w' w.heap.size l P1) (hg : w.grownBy w' (some g)) (hb : base ≤ w.heap.size) : Two base c1 c2 P1 P2 (updV G 10 (.agg #[.bool true, l])) w' := by
  have e9 := updV_ne G (.agg #[.bool true, l]) (show (9 : Nat) ≠ 10 by omega)
  have e20 := updV_ne G (.agg #[.bool true, l]) (show (20 : Nat) ≠ 10 by omega)
  have e21 := updV_ne G (.agg #[.bool true, l]) (show (21 : Nat) ≠ 10 by omega)
  refine ⟨fun v hv => ?_, fun v hv => ?_, fun v hv => ?_, fun v hv => ?_, fun v u k hv hu hk => ?_, fun l2 u k hv hu hk e => ?_, fun l2 u k hv hu hk => ?_⟩
  · rw [e9] at hv
    obtain ⟨k, e, a, b, _⟩ := h.lit1 v hv
    exact ⟨k, e, a, Nat.lt_of_lt_of_le b hg.size, fun e => by rw [updV_eq] at e; cases e⟩
  · rw [e20] at hv; rw [e21]
    exact (h.lit2 v hv).grown hg (fun e => h.ap _ v g h9 hv e rfl)
  · rw [updV_eq] at hv; cases hv; exact ⟨l, rfl, hl.lower hb⟩
  · rw [e21] at hv
    obtain ⟨l2, rfl, k⟩ := h.po2 v hv
    exact ⟨l2, rfl, k.off2 hg (h.q2 l2 _ g hv h9 rfl)⟩
  · rw [e9] at hv; rw [e20] at hu; exact h.ap v u k hv hu hk
  · rw [updV_eq] at hv; rw [e20] at hu
    simp at hv
    subst hv
    obtain ⟨k2, rfl, _, hlt, _⟩ := h.lit2 u hu
    have h1 : some k2 = some k := hk
    simp at h1
    have := (hl.base k e).1
    omega
  · rw [e21] at hv; rw [e9] at hu; exact h.q2 l2 u k hv hu hk
theorem Two.poly2 {g : Nat} {l : Value} (h : Two base c1 c2 P1 P2 G w) (h20 : G 20 = some (.slice (some ⟨g, 0, none⟩) 3 3)) (hl : Pown w' w.heap.size l P2) (hg : w.grownBy w' (some g)) (hb : base ≤ w.heap.size) : Two base c1 c2 P1 P2 (updV G 21 (.agg #[.bool true, l])) w' := by
  have e9 := updV_ne G (.agg #[.bool true, l]) (show (9 : Nat) ≠ 21 by omega)
  have e10 := updV_ne G (.agg #[.bool true, l]) (show (10 : Nat) ≠ 21 by omega)
  have e20 := updV_ne G (.agg #[.bool true, l]) (show (20 : Nat) ≠ 21 by omega)
  refine ⟨fun v hv => ?_, fun v hv => ?_, fun v hv => ?_, fun v hv => ?_, fun v u k hv hu hk => ?_, fun l2 u k hv hu hk => ?_, fun l2 u k hv hu hk e => ?_⟩
  · rw [e9] at hv; rw [e10]
    exact (h.lit1 v hv).grown hg (fun e => h.ap v _ g hv h20 rfl e)
  · rw [e20] at hv
    obtain ⟨k, e, a, b, _⟩ := h.lit2 v hv
    exact ⟨k, e, a, Nat.lt_of_lt_of_le b hg.size, fun e => by rw [updV_eq] at e; cases e⟩
  · rw [e10] at hv
    obtain ⟨l2, rfl, k⟩ := h.po1 v hv
    exact ⟨l2, rfl, k.off2 hg (h.q1 l2 _ g hv h20 rfl)⟩
  · rw [updV_eq] at hv; cases hv; exact ⟨l, rfl, hl.lower hb⟩
  · rw [e9] at hv; rw [e20] at hu; exact h.ap v u k hv hu hk
  · rw [e10] at hv; rw [e20] at hu; exact h.q1 l2 u k hv hu hk
  · rw [updV_eq] at hv; rw [e9] at hu
    simp at hv
    subst hv
    obtain ⟨k2, rfl, _, hlt, _⟩ := h.lit1 u hu
    have h1 : some k2 = some k := hk
    simp at h1
    have := (hl.base k e).1
    omega
end
theorem pls_three (p q r : Pt) : (#[.int .i64 p.x, .int .i64 p.y, .int .i64 q.x, .int .i64 q.y, .int .i64 r.x, .int .i64 r.y] : Array Value).toList = pls [p, q, r] := rfl
abbrev pCells3 (p q r : Pt) : Array Value := #[.int .i64 p.x, .int .i64 p.y, .int .i64 q.x, .int .i64 q.y, .int .i64 r.x, .int .i64 r.y]

set_option maxRecDepth 100000 in
set_option maxHeartbeats 4000000 in
theorem s_corner (x y : Ln) (w : World) (hx : LnOk x) (hy : LnOk y) : Calls Try.prog 42 #[.agg (lCells x), .agg (lCells y)] w (GivesK w (jointL x y)) := by
  obtain ⟨B, hB⟩ : ∃ B, w.heap.size = B := ⟨_, rfl⟩
  obtain ⟨W, hW⟩ : ∃ W, ((w.alloc (.cells (lCells x) 65)).alloc (.cells (lCells y) 65)).alloc (.cells (pCells y.a) 31) = W := ⟨_, rfl⟩
  have k0 : Has W B (lCells x) 65 := by rw [← hW]; exact ((has_new hB).alloc _).alloc _
  have k1 : Has W (B + 1) (lCells y) 65 := by rw [← hW]; exact (has_new (by simp [hB])).alloc _
  have k2 : Has W (B + 1 + 1) (pCells y.a) 31 := by rw [← hW]; exact has_new (by simp [hB])
  have hbl : Below w.heap.size w W := by rw [← hW]; exact (((Below.refl _ _).alloc (by omega) _).alloc (by simp) _).alloc (by simp; omega) _
  have K0 := Lib.hid k0
  have K1 := Lib.hid k1
  have K2 := Lib.hid k2
  have HBL := Lib.hid hbl
  have HW := Lib.hid hW
  have HB := Lib.hid hB
  have wa := Wd.of hy.1
  have wx := Wd.of hx.2.2.2
  have wy := Wd.of hy.2.2.2
  have PX : Hid (Wd y.a ∧ Wd x.off ∧ Wd y.off) := Lib.hid ⟨wa, wx, wy⟩
  obtain ⟨p1, hp1⟩ : ∃ p, ad y.a x.off 1 = p := ⟨_, rfl⟩
  obtain ⟨p2, hp2⟩ : ∃ p, ad y.a y.off 1 = p := ⟨_, rfl⟩
  obtain ⟨p3, hp3⟩ : ∃ p, ad y.a x.off (-1) = p := ⟨_, rfl⟩
  obtain ⟨p4, hp4⟩ : ∃ p, ad y.a y.off (-1) = p := ⟨_, rfl⟩
  have EJ : Hid (jointL x y = [(true, shapeL [y.a, p1, p2]), (true, shapeL [y.a, p3, p4])]) := Lib.hid (by unfold jointL jointA; rw [hp1, hp2, hp3, hp4])
  have C1 := Lib.hid (fun w => hp1 ▸ s_plus y.a x.off w wa wx)
  have C2 := Lib.hid (fun w => hp2 ▸ s_plus y.a y.off w wa wy)
  have C3 := Lib.hid (fun w => hp3 ▸ s_less y.a x.off w wa wx)
  have C4 := Lib.hid (fun w => hp4 ▸ s_less y.a y.off w wa wy)
  clear k0 k1 k2 hbl hW hp1 hp2 hp3 hp4 hx hy wa wx wy
  rw [EJ.out]
  obtain ⟨ya, yb, yw, yo⟩ := y
  obtain ⟨xa, xb, xw, xo⟩ := x
  go_enter Try.func42, Try.ntmps42
  go_upto_region 2 with fail
  rw [HW.out]
  clear hB
  refine wp_region_gen 22 [9, 10, 20, 21] [] [0, 0, 0, 0, 0, 0, 0, 0, 0, 1, 1, 0, 0, 0, 0, 0, 0, 0, 0, 0, 1, 1] (by kernel_rfl) (by kernel_rfl) (fun c a d v w h => by cases d <;> exact h) trivial (fun G w' => Two W.heap.size (pCells3 ya p1 p2) (pCells3 ya p3 p4) (shapeL [ya, p1, p2]) (shapeL [ya, p3, p4]) G w') (fun G w w' h hb => h.stay hb) Two.start ?_
  apply Exists.intro
  refine ⟨fun R hR hN => ?_, ?_, ?_⟩
  · have A6 := fun z => LaterR.read (R := R) K0.out 6 _ rfl z
    have A7 := fun z => LaterR.read (R := R) K0.out 7 _ rfl z
    have B6 := fun z => LaterR.read (R := R) K1.out 6 _ rfl z
    have B7 := fun z => LaterR.read (R := R) K1.out 7 _ rfl z
    have V0 := fun z => LaterR.read (R := R) K2.out 0 _ rfl z
    have V1 := fun z => LaterR.read (R := R) K2.out 1 _ rfl z
    simp only [quietL, takeA]
    repeat (go_big_quiet_step (first | (go_at_call_of 40 xo; exact LaterR.calls hR (C1.out _)) | (go_at_call_of 40 yo; exact LaterR.calls hR (C2.out _)) | (go_at_call_of 39 xo; exact LaterR.calls hR (C3.out _)) | (go_at_call_of 39 yo; exact LaterR.calls hR (C4.out _))))
    exact wpQuiet_nil rfl
  · intro i oo hi ho
    have hi' : i = 9 ∨ i = 10 ∨ i = 20 ∨ i = 21 := by simpa using hi
    clear hi
    rcases hi' with rfl | rfl | rfl | rfl
    · cases ho
      intro G w' hG hGn hdep hb hR
      refine ⟨rfl, gives_none (by kernel_rfl) hGn ?_⟩
      unfold gives
      simp [go_sem]
      exact ⟨hb.alloc hb.size _, hR.build1 hb.size⟩
    · cases ho
      intro G w' hG hGn hdep hb hR
      obtain ⟨v9, hv9⟩ := Option.ne_none_iff_exists'.1 (hdep 9 (by simp) (by kernel_rfl))
      obtain ⟨g, rfl, hg, hlt, hk⟩ := hR.lit1 v9 hv9
      refine ⟨rfl, gives_one (k := 9) (by kernel_rfl) hGn (by omega) hv9 ?_⟩
      unfold gives
      simp [go_sem]
      refine (s_poly (N := 3) (pown_lit (n := 3) (hk hG) hg (pls_three ya p1 p2) rfl (by decide)) rfl (by decide) (by decide)).mono ?_
      rintro e w'' ⟨l, rfl, hol, hgr⟩
      exact ⟨_, rfl, hb.grown hgr hb.size (fun k hk => by simp at hk; omega), hR.poly1 hv9 hol hgr hb.size⟩
    · cases ho
      intro G w' hG hGn hdep hb hR
      refine ⟨rfl, gives_none (by kernel_rfl) hGn ?_⟩
      unfold gives
      simp [go_sem]
      exact ⟨hb.alloc hb.size _, hR.build2 hb.size⟩
    · cases ho
      intro G w' hG hGn hdep hb hR
      obtain ⟨v20, hv20⟩ := Option.ne_none_iff_exists'.1 (hdep 20 (by simp) (by kernel_rfl))
      obtain ⟨g, rfl, hg, hlt, hk⟩ := hR.lit2 v20 hv20
      refine ⟨rfl, gives_one (k := 20) (by kernel_rfl) hGn (by omega) hv20 ?_⟩
      unfold gives
      simp [go_sem]
      refine (s_poly (N := 3) (pown_lit (n := 3) (hk hG) hg (pls_three ya p3 p4) rfl (by decide)) rfl (by decide) (by decide)).mono ?_
      rintro e w'' ⟨l, rfl, hol, hgr⟩
      exact ⟨_, rfl, hb.grown hgr hb.size (fun k hk => by simp at hk; omega), hR.poly2 hv20 hol hgr hb.size⟩
  · intro G w1 hb hR hG hN
    obtain ⟨v9, e9⟩ := hG 9 (by simp)
    obtain ⟨v10, e10⟩ := hG 10 (by simp)
    obtain ⟨v20, e20⟩ := hG 20 (by simp)
    obtain ⟨v21, e21⟩ := hG 21 (by simp)
    obtain ⟨l1, rfl, o1⟩ := hR.po1 _ e10
    obtain ⟨l2, rfl, o2⟩ := hR.po2 _ e21
    have nn : ∀ j, j < 9 → G j = none := fun j hj => hN j (by simp; omega)
    have nm : ∀ j, 10 < j → j < 20 → G j = none := fun j hj hj2 => hN j (by simp; omega)
    simp only [putV, dstAt, e9, e10, e20, e21, nn 0 (by decide), nn 1 (by decide), nn 2 (by decide), nn 3 (by decide), nn 4 (by decide), nn 5 (by decide), nn 6 (by decide), nn 7 (by decide), nn 8 (by decide), nm 11 (by decide) (by decide), nm 12 (by decide) (by decide), nm 13 (by decide) (by decide), nm 14 (by decide) (by decide), nm 15 (by decide) (by decide), nm 16 (by decide) (by decide), nm 17 (by decide) (by decide), nm 18 (by decide) (by decide), nm 19 (by decide) (by decide), List.drop_succ_cons, List.drop_zero, List.getElem?_cons_succ, List.getElem?_cons_zero, Option.bind_some]
    have R := Lib.hid (Kq.two (w1 := w) (base := w.heap.size) (HBL.out.trans (hb.mono HBL.out.size)) (Nat.le_refl _) (o1.lower HBL.out.size) (by rw [shapeL_length]; simp) (o2.lower HBL.out.size) (by rw [shapeL_length]; simp) (Nat.le_trans HBL.out.size hb.size))
    clear hb hR hG hN nn nm e9 e10 e20 e21 o1 o2
    go_wp2
    go_ret
    exact ⟨_, rfl, R.out⟩

set_option maxRecDepth 100000 in
set_option maxHeartbeats 4000000 in
theorem r9_joint (x y : Ln) (w : World) (hx : LnOk x) (hy : LnOk y) : Calls Try.prog 33 #[.agg (lCells x), .agg (lCells y)] w (GivesK w (jointL x y)) := by
  obtain ⟨B, hB⟩ : ∃ B, w.heap.size = B := ⟨_, rfl⟩
  obtain ⟨W, hW⟩ : ∃ W, ((w.alloc (.cells (lCells x) 59)).alloc (.cells (lCells y) 59)).alloc (.cells (pCells y.a) 31) = W := ⟨_, rfl⟩
  have k0 : Has W B (lCells x) 59 := by rw [← hW]; exact ((has_new hB).alloc _).alloc _
  have k1 : Has W (B + 1) (lCells y) 59 := by rw [← hW]; exact (has_new (by simp [hB])).alloc _
  have k2 : Has W (B + 1 + 1) (pCells y.a) 31 := by rw [← hW]; exact has_new (by simp [hB])
  have hbl : Below w.heap.size w W := by rw [← hW]; exact (((Below.refl _ _).alloc (by omega) _).alloc (by simp) _).alloc (by simp; omega) _
  have K0 := Lib.hid k0
  have K1 := Lib.hid k1
  have K2 := Lib.hid k2
  have HBL := Lib.hid hbl
  have HW := Lib.hid hW
  have HB := Lib.hid hB
  have wa := Wd.of hy.1
  have wx := Wd.of hx.2.2.2
  have wy := Wd.of hy.2.2.2
  have PX : Hid (Wd y.a ∧ Wd x.off ∧ Wd y.off) := Lib.hid ⟨wa, wx, wy⟩
  have EJ : Hid (jointL x y = [(true, shapeL [y.a, ad y.a x.off 1, ad y.a y.off 1]), (true, shapeL [y.a, ad y.a x.off (-1), ad y.a y.off (-1)])]) := Lib.hid rfl
  have C1 := Lib.hid (fun k w hk => r9_plus y.a x.off k w wa wx hk)
  have C2 := Lib.hid (fun k w hk => r9_plus y.a y.off k w wa wy hk)
  clear k0 k1 k2 hbl hW hx hy wa wx wy
  rw [EJ.out]
  obtain ⟨ya, yb, yw, yo⟩ := y
  obtain ⟨xa, xb, xw, xo⟩ := x
  go_enter Try.func33, Try.ntmps33
  go_upto_region 2 with fail
  rw [HW.out]
  clear hB
  refine wp_region_gen 22 [9, 10, 20, 21] [] [0, 0, 0, 0, 0, 0, 0, 0, 0, 1, 1, 0, 0, 0, 0, 0, 0, 0, 0, 0, 1, 1] (by kernel_rfl) (by kernel_rfl) (fun c a d v w h => by cases d <;> exact h) trivial (fun G w' => Two W.heap.size (pCells3 ya (ad ya xo 1) (ad ya yo 1)) (pCells3 ya (ad ya xo (-1)) (ad ya yo (-1))) (shapeL [ya, (ad ya xo 1), (ad ya yo 1)]) (shapeL [ya, (ad ya xo (-1)), (ad ya yo (-1))]) G w') (fun G w w' h hb => h.stay hb) Two.start ?_
  apply Exists.intro
  refine ⟨fun R hR hN => ?_, ?_, ?_⟩
  · have A6 := fun z => LaterR.read (R := R) K0.out 6 _ rfl z
    have A7 := fun z => LaterR.read (R := R) K0.out 7 _ rfl z
    have B6 := fun z => LaterR.read (R := R) K1.out 6 _ rfl z
    have B7 := fun z => LaterR.read (R := R) K1.out 7 _ rfl z
    have V0 := fun z => LaterR.read (R := R) K2.out 0 _ rfl z
    have V1 := fun z => LaterR.read (R := R) K2.out 1 _ rfl z
    simp only [quietL, takeA]
    repeat (go_big_quiet_step (first | (go_at_call_of 31 xo; exact LaterR.calls hR (C1.out _ _ (by decide))) | (go_at_call_of 31 yo; exact LaterR.calls hR (C2.out _ _ (by decide)))))
    exact wpQuiet_nil rfl
  · intro i oo hi ho
    have hi' : i = 9 ∨ i = 10 ∨ i = 20 ∨ i = 21 := by simpa using hi
    clear hi
    rcases hi' with rfl | rfl | rfl | rfl
    · cases ho
      intro G w' hG hGn hdep hb hR
      refine ⟨rfl, gives_none (by kernel_rfl) hGn ?_⟩
      unfold gives
      simp [go_sem]
      exact ⟨hb.alloc hb.size _, hR.build1 hb.size⟩
    · cases ho
      intro G w' hG hGn hdep hb hR
      obtain ⟨v9, hv9⟩ := Option.ne_none_iff_exists'.1 (hdep 9 (by simp) (by kernel_rfl))
      obtain ⟨g, rfl, hg, hlt, hk⟩ := hR.lit1 v9 hv9
      refine ⟨rfl, gives_one (k := 9) (by kernel_rfl) hGn (by omega) hv9 ?_⟩
      unfold gives
      simp [go_sem]
      refine (r9_shape ((pown_lit (n := 3) (hk hG) hg (pls_three ya (ad ya xo 1) (ad ya yo 1)) rfl (by decide)).sl (by simp)) (by simp)).mono ?_
      rintro e w'' ⟨l, rfl, hol, hbb⟩
      exact ⟨_, rfl, hb.trans (hbb.mono hb.size), hR.poly1 hv9 hol (grown_weak (grownBy_below hbb (Nat.le_refl _))) hb.size⟩
    · cases ho
      intro G w' hG hGn hdep hb hR
      refine ⟨rfl, gives_none (by kernel_rfl) hGn ?_⟩
      unfold gives
      simp [go_sem]
      exact ⟨hb.alloc hb.size _, hR.build2 hb.size⟩
    · cases ho
      intro G w' hG hGn hdep hb hR
      obtain ⟨v20, hv20⟩ := Option.ne_none_iff_exists'.1 (hdep 20 (by simp) (by kernel_rfl))
      obtain ⟨g, rfl, hg, hlt, hk⟩ := hR.lit2 v20 hv20
      refine ⟨rfl, gives_one (k := 20) (by kernel_rfl) hGn (by omega) hv20 ?_⟩
      unfold gives
      simp [go_sem]
      refine (r9_shape ((pown_lit (n := 3) (hk hG) hg (pls_three ya (ad ya xo (-1)) (ad ya yo (-1))) rfl (by decide)).sl (by simp)) (by simp)).mono ?_
      rintro e w'' ⟨l, rfl, hol, hbb⟩
      exact ⟨_, rfl, hb.trans (hbb.mono hb.size), hR.poly2 hv20 hol (grown_weak (grownBy_below hbb (Nat.le_refl _))) hb.size⟩
  · intro G w1 hb hR hG hN
    obtain ⟨v9, e9⟩ := hG 9 (by simp)
    obtain ⟨v10, e10⟩ := hG 10 (by simp)
    obtain ⟨v20, e20⟩ := hG 20 (by simp)
    obtain ⟨v21, e21⟩ := hG 21 (by simp)
    obtain ⟨l1, rfl, o1⟩ := hR.po1 _ e10
    obtain ⟨l2, rfl, o2⟩ := hR.po2 _ e21
    have nn : ∀ j, j < 9 → G j = none := fun j hj => hN j (by simp; omega)
    have nm : ∀ j, 10 < j → j < 20 → G j = none := fun j hj hj2 => hN j (by simp; omega)
    simp only [putV, dstAt, e9, e10, e20, e21, nn 0 (by decide), nn 1 (by decide), nn 2 (by decide), nn 3 (by decide), nn 4 (by decide), nn 5 (by decide), nn 6 (by decide), nn 7 (by decide), nn 8 (by decide), nm 11 (by decide) (by decide), nm 12 (by decide) (by decide), nm 13 (by decide) (by decide), nm 14 (by decide) (by decide), nm 15 (by decide) (by decide), nm 16 (by decide) (by decide), nm 17 (by decide) (by decide), nm 18 (by decide) (by decide), nm 19 (by decide) (by decide), List.drop_succ_cons, List.drop_zero, List.getElem?_cons_succ, List.getElem?_cons_zero, Option.bind_some]
    have R := Lib.hid (Kq.two (w1 := w) (base := w.heap.size) (HBL.out.trans (hb.mono HBL.out.size)) (Nat.le_refl _) (o1.lower HBL.out.size) (by rw [shapeL_length]; simp) (o2.lower HBL.out.size) (by rw [shapeL_length]; simp) (Nat.le_trans HBL.out.size hb.size))
    clear hb hR hG hN nn nm e9 e10 e20 e21 o1 o2
    go_wp2
    go_ret
    exact ⟨_, rfl, R.out⟩

end Go.Proofs.Ytmdokohdafeilaa

namespace Go.Proofs.Ytmdokohdafeilaa
open Go Go.RowKit
open M

theorem two_set {W : World} {k : Nat} {t : TypeId} {a' b' : Value} (h : Has W k #[a', b'] t) (a b : Value) : Has ((W.setCell ⟨k, 0, none⟩ a).setCell ⟨k, 1, none⟩ b) k #[a, b] t := by
  have := has_set (has_set h 0 a) 1 b
  simpa using this
theorem two_off {W : World} {k k' : Nat} {t : TypeId} {cs : Array Value} (h : Has W k cs t) (hne : k' ≠ k) (a b : Value) : Has ((W.setCell ⟨k', 0, none⟩ a).setCell ⟨k', 1, none⟩ b) k cs t :=
  (heap_setCell_other _ ⟨k', _, none⟩ k _ (fun e => hne (by simpa using e.symm))).trans ((heap_setCell_other _ ⟨k', _, none⟩ k _ (fun e => hne (by simpa using e.symm))).trans h)
theorem below_two {W : World} {k B : Nat} (hk : B ≤ k) (a b : Value) : Below B W ((W.setCell ⟨k, 0, none⟩ a).setCell ⟨k, 1, none⟩ b) := ((Below.refl _ _).setCell hk _).setCell hk _
theorem int_zero (n : Nat) : ((n : Int) == 0) = decide (n = 0) := by by_cases h : n = 0 <;> simp [h]
theorem int_last {n N : Nat} : ((n : Int) == (N : Int) - 1) = decide (n + 1 = N) := by
  by_cases h : n + 1 = N
  · rw [decide_eq_true h]; simp; omega
  · rw [decide_eq_false h]; simp; omega
abbrev zc2 : Array Value := #[.int .i64 0, .int .i64 0]
/-- A literal of n places (number a of a region), the poly made of it (b) and the list of that poly alone (c). -/
structure Lit1 (w0 : World) (base n : Nat) (cs : Array Value) (P : List Pt) (a b c : Nat) (G : Nat → Option Value) (w : World) : Prop where
  lit : ∀ v, G a = some v → LitP base n cs (G b = none) v w
  po : ∀ v, G b = some v → ∃ l, v = .agg #[.bool true, l] ∧ Pown w base l P
  li : ∀ v, G c = some v → Kq w0 base [(true, P)] v w
  late : G b = none → G c = none
section
variable {w0 : World} {base n a b c : Nat} {cs : Array Value} {P : List Pt} {G : Nat → Option Value} {w w' : World}
theorem Lit1.start : Lit1 w0 base n cs P a b c (fun _ => none) w := ⟨fun _ h => (by cases h), fun _ h => (by cases h), fun _ h => (by cases h), fun _ => rfl⟩
theorem Lit1.stay (h : Lit1 w0 base n cs P a b c G w) (hb : Below w.heap.size w w') : Lit1 w0 base n cs P a b c G w' :=
  ⟨fun v hv => (h.lit v hv).stay hb, fun v hv => by obtain ⟨l, e, k⟩ := h.po v hv; exact ⟨l, e, k.below hb (Nat.le_refl _)⟩, fun v hv => (h.li v hv).later hb, h.late⟩
theorem Lit1.build (h : Lit1 w0 base n cs P a b c G w) (hab : a ≠ b) (hac : a ≠ c) (hb : base ≤ w.heap.size) : Lit1 w0 base n cs P a b c (updV G a (.slice (some ⟨w.heap.size, 0, none⟩) n n)) (w.alloc (.cells cs 31)) := by
  have s := h.stay (w' := w.alloc (.cells cs 31)) ((Below.refl _ _).alloc (Nat.le_refl _) _)
  have eb := updV_ne G (.slice (some ⟨w.heap.size, 0, none⟩) n n) (Ne.symm hab)
  have ec := updV_ne G (.slice (some ⟨w.heap.size, 0, none⟩) n n) (Ne.symm hac)
  refine ⟨fun v hv => ?_, fun v hv => ?_, fun v hv => ?_, fun hn => ?_⟩
  · rw [updV_eq] at hv; cases hv; exact ⟨_, rfl, hb, by simp, fun _ => has_new rfl⟩
  · rw [eb] at hv; exact s.po v hv
  · rw [ec] at hv; exact s.li v hv
  · rw [eb] at hn; rw [ec]; exact h.late hn
theorem Lit1.poly {g : Nat} {l : Value} (h : Lit1 w0 base n cs P a b c G w) (hab : a ≠ b) (hbc : b ≠ c) (hGb : G b = none) (hl : Pown w' w.heap.size l P) (hg : w.grownBy w' (some g)) (hb : base ≤ w.heap.size) : Lit1 w0 base n cs P a b c (updV G b (.agg #[.bool true, l])) w' := by
  have ea := updV_ne G (.agg #[.bool true, l]) hab
  have ec := updV_ne G (.agg #[.bool true, l]) (Ne.symm hbc)
  refine ⟨fun v hv => ?_, fun v hv => ?_, fun v hv => ?_, fun hn => ?_⟩
  · rw [ea] at hv
    obtain ⟨k, e, x, y, _⟩ := h.lit v hv
    exact ⟨k, e, x, Nat.lt_of_lt_of_le y hg.size, fun e => by rw [updV_eq] at e; cases e⟩
  · rw [updV_eq] at hv; cases hv; exact ⟨l, rfl, hl.lower hb⟩
  · rw [ec, h.late hGb] at hv; cases hv
  · rw [updV_eq] at hn; cases hn
theorem Lit1.list {l : Value} (h : Lit1 w0 base n cs P a b c G w) (hac : a ≠ c) (hbc : b ≠ c) (hb : G b = some (.agg #[.bool true, l])) (h0 : Below w0.heap.size w0 w) (h1 : w0.heap.size ≤ base) (h2 : base ≤ w.heap.size) (hP : P.length ≤ 1000) : Lit1 w0 base n cs P a b c (updV G c (.slice (some ⟨w.heap.size, 0, none⟩) 1 1)) (w.alloc (.cells #[.bool true, l] 24)) := by
  have s := h.stay (w' := w.alloc (.cells #[.bool true, l] 24)) ((Below.refl _ _).alloc (Nat.le_refl _) _)
  have ea := updV_ne G (.slice (some ⟨w.heap.size, 0, none⟩) 1 1) hac
  have eb := updV_ne G (.slice (some ⟨w.heap.size, 0, none⟩) 1 1) hbc
  refine ⟨fun v hv => ?_, fun v hv => ?_, fun v hv => ?_, fun hn => ?_⟩
  · rw [ea] at hv; rw [eb]; exact s.lit v hv
  · rw [eb] at hv; exact s.po v hv
  · rw [updV_eq] at hv; cases hv
    obtain ⟨l', e, k⟩ := h.po _ hb
    simp at e
    subst e
    exact Kq.one h0 h1 k (by omega) h2
  · rw [eb, hb] at hn; cases hn
end
theorem pls_four (p q r s : Pt) : (#[.int .i64 p.x, .int .i64 p.y, .int .i64 q.x, .int .i64 q.y, .int .i64 r.x, .int .i64 r.y, .int .i64 s.x, .int .i64 s.y] : Array Value).toList = pls [p, q, r, s] := rfl
abbrev pCells4 (p q r s : Pt) : Array Value := #[.int .i64 p.x, .int .i64 p.y, .int .i64 q.x, .int .i64 q.y, .int .i64 r.x, .int .i64 r.y, .int .i64 s.x, .int .i64 s.y]
theorem Wd.fr {l : Ln} (h : LnOk l) (e : Bool) : Wd (frP l e) := by
  unfold frP
  split
  · exact Wd.ad h.1 h.2.2.1 (by simp)
  · exact Wd.of h.1
theorem Wd.to {l : Ln} (h : LnOk l) (e : Bool) : Wd (toP l e) := by
  unfold toP
  split
  · exact Wd.ad h.2.1 h.2.2.1 (by simp)
  · exact Wd.of h.2.1
/-- What a round of the bars holds: the line's variable, both ends. -/
structure BarW (wr : World) (gv g8 g9 : Nat) (t : TypeId) (l : Ln) (p q : Pt) (U : World) : Prop where
  kl : Has U gv (lCells l) t
  k8 : Has U g8 (pCells p) 31
  k9 : Has U g9 (pCells q) 31
  below : Below wr.heap.size wr U
theorem BarW.later {wr : World} {gv g8 g9 : Nat} {t : TypeId} {l : Ln} {p q : Pt} {U U' : World} (h : BarW wr gv g8 g9 t l p q U) (hb : Below U.heap.size U U') : BarW wr gv g8 g9 t l p q U' :=
  ⟨h.kl.below hb h.kl.lt, h.k8.below hb h.k8.lt, h.k9.below hb h.k9.lt, h.below.trans (hb.mono h.below.size)⟩

set_option maxRecDepth 100000 in
set_option maxHeartbeats 4000000 in
theorem s_bars (e : Bool) {v : Value} {ls : List Ln} {w : World} (h : Lsl w v ls) (hok : ∀ i, i < ls.length → LnOk (ln ls i)) (h30 : ls.length ≤ 30) :
    Calls Try.prog 24 #[v, .bool e] w (GivesK w (barsN ls e ls.length)) := by
  obtain ⟨B, hB⟩ : ∃ B, w.heap.size = B := ⟨_, rfl⟩
  have HS := Lib.hid h
  obtain ⟨ao, cap, rfl⟩ := h.slice
  obtain ⟨N, hN⟩ : ∃ N, ls.length = N := ⟨_, rfl⟩
  rw [hN] at HS hok h30 ⊢
  have HOK := Lib.hid hok
  have HN := Lib.hid hN
  have HB := Lib.hid hB
  clear h hN hok
  go_enter Try.func24, Try.ntmps24
  go_wp2_with fail
  go_loopw [5, 12] (fun o i wr => ∃ n : Nat, n ≤ N ∧ i = .int .i64 n ∧ Kq w w.heap.size (barsN ls e n) o wr) (fun _ i _ => N - (intOf i).toNat)
  case atStart => exact ⟨0, by omega, rfl, Kq.start (Nat.le_refl _)⟩
  case round =>
    obtain ⟨n, hn, rfl, hk⟩ := hrel
    have HK := Lib.hid hk
    obtain ⟨aol, capl, el⟩ := hk.shape
    rw [barsN_length] at el
    subst el
    have BR := Lib.hid hk.below
    clear hk hB
    by_cases hlt : n < N
    · have o3 : (n : Int) < N := by omega
      obtain ⟨g, o, e1, row, -⟩ := (HS.out.below BR.out).row (by omega)
      subst e1
      obtain ⟨l, hl⟩ : ∃ l, ln ls n = l := ⟨_, rfl⟩
      have hlo := HOK.out n hlt
      have x0 := row.c0 n (by have := HN.out; omega)
      have x1 := row.c1 n (by have := HN.out; omega)
      have x2 := row.c2 n (by have := HN.out; omega)
      have x3 := row.c3 n (by have := HN.out; omega)
      have x4 := row.c4 n (by have := HN.out; omega)
      have x5 := row.c5 n (by have := HN.out; omega)
      have x6 := row.c6 n (by have := HN.out; omega)
      have x7 := row.c7 n (by have := HN.out; omega)
      rw [hl] at x0 x1 x2 x3 x4 x5 x6 x7 hlo
      have HLO := Lib.hid hlo
      have EB : Hid (barsN ls e (n + 1) = barsN ls e n ++ [barP l (e && decide (n = 0)) (e && decide (n + 1 = N))]) := Lib.hid (by rw [barsN_step, hl, HN.out])
      obtain ⟨gv, hgv⟩ : ∃ g, wr.heap.size = g := ⟨_, rfl⟩
      obtain ⟨V, hV⟩ : ∃ V, wr.alloc (.cells (lCells l) 65) = V := ⟨_, rfl⟩
      have bV : Below wr.heap.size wr V := by rw [← hV]; exact (Below.refl _ _).alloc (Nat.le_refl _) _
      have kV : Has V gv (lCells l) 65 := by rw [← hV]; exact has_new hgv
      have sV : V.heap.size = gv + 1 := by rw [← hV]; simp [hgv]
      have HV := Lib.hid hV
      have BV := Lib.hid bV
      have KV := Lib.hid kV
      have SV := Lib.hid sV
      have HGV := Lib.hid hgv
      clear row hl hlo hV bV kV sV
      go_upto_region 5 with fail
      rw [HV.out]
      clear hgv x0 x1 x2 x3 x4 x5 x6 x7
      refine wp_region_gen 7 [4, 5, 6] [] [0, 0, 0, 0, 1, 1, 1] (by kernel_rfl) (by kernel_rfl) (fun c a d v w h => by cases d <;> exact h) trivial (fun G w' => Vars V.heap.size 31 zc2 [(4, 6, pCells l.a), (5, 7, pCells l.b)] G w') (fun G w w' h hb => h.stay hb) Vars.start ?_
      apply Exists.intro
      refine ⟨fun R hR hN => ?_, ?_, ?_⟩
      · have A0 := fun z => LaterR.read (R := R) KV.out 0 _ rfl z
        have A1 := fun z => LaterR.read (R := R) KV.out 1 _ rfl z
        have A2 := fun z => LaterR.read (R := R) KV.out 2 _ rfl z
        have A3 := fun z => LaterR.read (R := R) KV.out 3 _ rfl z
        simp only [quietL, takeA]
        repeat (go_big_quiet_step (fail))
        exact wpQuiet_nil rfl
      · intro i oo hi ho
        have hi' : i = 4 ∨ i = 5 ∨ i = 6 := by simpa using hi
        clear hi
        rcases hi' with rfl | rfl | rfl
        · cases ho
          intro G w' hG hGn hdep hb hR
          refine ⟨rfl, gives_none (by kernel_rfl) hGn ?_⟩
          unfold gives
          simp [go_sem]
          exact ⟨hb.alloc hb.size _, hR.alloc (i := 4) (s := 6) (cs := pCells l.a) rfl (by simp) (by intro y hy he; simp at hy; rcases hy with rfl | rfl <;> simp at he ⊢) hG hb.size⟩
        · cases ho
          intro G w' hG hGn hdep hb hR
          refine ⟨rfl, gives_none (by kernel_rfl) hGn ?_⟩
          unfold gives
          simp [go_sem]
          exact ⟨hb.alloc hb.size _, hR.alloc (i := 5) (s := 7) (cs := pCells l.b) rfl (by simp) (by intro y hy he; simp at hy; rcases hy with rfl | rfl <;> simp at he ⊢) hG hb.size⟩
        · cases ho
          intro G w' hG hGn hdep hb hR
          obtain ⟨v, hv⟩ := Option.ne_none_iff_exists'.1 (hdep 4 (by simp) (by kernel_rfl))
          obtain ⟨gx, rfl, hgx, hhx⟩ := hR.has (4, 6, pCells l.a) (by simp) v hv
          rw [if_pos hG] at hhx
          refine ⟨rfl, gives_one (k := 4) (by kernel_rfl) hGn (by omega) hv ?_⟩
          have cx0 := hhx.cell 0 _ rfl
          have cx1 := hhx.cell 1 _ rfl
          have fx := has_fro hhx
          unfold gives
          simp [go_sem, dstAt, Act.put, cx0, cx1, fx]
          exact ⟨(hb.setCell hgx _).setCell hgx _, hR.store (i := 4) (s := 6) (za := .int .i64 0) (zb := .int .i64 0) rfl rfl (by simp) (by intro y hy he; simp at hy; rcases hy with rfl | rfl <;> simp at he ⊢) hv hG⟩
      · intro G w3 hb3 hR hG hN
        obtain ⟨v0, e0⟩ := hG 4 (by simp)
        obtain ⟨v1, e1⟩ := hG 5 (by simp)
        obtain ⟨s0, t0⟩ := hG 6 (by simp)
        obtain ⟨g0, rfl, l0, k0⟩ := hR.has (4, 6, pCells l.a) (by simp) v0 e0
        obtain ⟨g1, rfl, l1, k1⟩ := hR.has (5, 7, pCells l.b) (by simp) v1 e1
        rw [if_neg (by simp [t0])] at k0
        rw [if_pos (hN 7 (by simp))] at k1
        have n01 : g0 ≠ g1 := fun e => hR.ne (4, 6, pCells l.a) (by simp) (5, 7, pCells l.b) (by simp) (by simp) _ e0 (by rw [e1, e])
        have nn : ∀ j, j < 4 → G j = none := fun j hj => hN j (by simp; omega)
        simp only [putV, dstAt, e0, e1, t0, nn 0 (by decide), nn 1 (by decide), nn 2 (by decide), nn 3 (by decide), List.drop_succ_cons, List.drop_zero, List.getElem?_cons_succ, List.getElem?_cons_zero, Option.bind_some]
        have c30 := k1.cell 0 _ rfl
        have c31 := k1.cell 1 _ rfl
        have f3 := has_fro k1
        obtain ⟨U, hU⟩ : ∃ V, (w3.setCell ⟨g1, 0, none⟩ (.int .i64 l.b.x)).setCell ⟨g1, 1, none⟩ (.int .i64 l.b.y) = V := ⟨_, rfl⟩
        have W0 : Hid (BarW wr gv g0 g1 65 l l.a l.b U) := Lib.hid (by
          have bU : Below V.heap.size V U := by rw [← hU]; exact hb3.trans (below_two l1 _ _)
          refine ⟨KV.out.below bU KV.out.lt, ?_, ?_, BV.out.trans (bU.mono BV.out.size)⟩
          · rw [← hU]; exact two_off k0 (Ne.symm n01) _ _
          · rw [← hU]; exact two_set k1 _ _)
        have L0 : Hid (gv < g0 ∧ gv < g1 ∧ g0 ≠ g1) := Lib.hid ⟨by have := SV.out; omega, by have := SV.out; omega, n01⟩
        have HU := Lib.hid hU
        clear k0 k1 hb3 hU l0 l1 hR hG hN nn e0 e1 t0 n01
        go_upto_region 6 with fail
        rw [HU.out]
        clear c30 c31 f3
        obtain ⟨e1, he1⟩ : ∃ b, (e && decide (n = 0)) = b := ⟨_, rfl⟩
        obtain ⟨e2, he2⟩ : ∃ b, (e && decide (n + 1 = N)) = b := ⟨_, rfl⟩
        rw [he1, he2] at EB
        have E2 := Lib.hid he2
        clear he2
        go_cut [25] (fun s wx => s = .bool e1 ∧ wx = U)
        case first =>
          cases e
          case false =>
            go_wp2_with fail
            go_meet
            exact ⟨by rw [← he1]; rfl, rfl⟩
          case true =>
            have E1 := Lib.hid he1
            clear he1
            go_wp2_with fail
            go_meet
            exact ⟨by rw [← E1.out, int_zero]; simp, rfl⟩
        case rest =>
          obtain ⟨rfl, hx⟩ := hcut
          subst hx
          rename World => U
          clear he1
          have WF := HLO.out
          have CW := Lib.hid (fun w => s_less l.a l.way w (Wd.of WF.1) (Wd.of WF.2.2.1))
          have CV := Lib.hid (fun w => s_plus l.b l.way w (Wd.of WF.2.1) (Wd.of WF.2.2.1))
          clear WF
          go_upto_if 25 with fail
          go_cut [25] (fun _ wx => BarW wr gv g0 g1 65 l (frP l e1) l.b wx)
          case first =>
            cases e1
            case false =>
              go_wp2_with fail
              go_meet
              exact W0.out
            case true =>
              have a0 := W0.out.kl.cell 4 _ rfl
              have a1 := W0.out.kl.cell 5 _ rfl
              have b0 := W0.out.k8.cell 0 _ rfl
              have b1 := W0.out.k8.cell 1 _ rfl
              go_wp2_with fail
              refine (CW.out _).mono ?_
              rintro e w4 ⟨rfl, hb4⟩
              have W4 := W0.out.later hb4
              clear a0 a1 b0 b1
              have b0 := W4.k8.cell 0 _ rfl
              have b1 := W4.k8.cell 1 _ rfl
              have f0 := has_fro W4.k8
              have W5 : Hid (BarW wr gv g0 g1 65 l (frP l true) l.b ((w4.setCell ⟨g0, 0, none⟩ (.int .i64 (ad l.a l.way (-1)).x)).setCell ⟨g0, 1, none⟩ (.int .i64 (ad l.a l.way (-1)).y))) := Lib.hid (by
                have := L0.out
                refine ⟨two_off W4.kl (by omega) _ _, two_set W4.k8 _ _, two_off W4.k9 (by omega) _ _, W4.below.trans (below_two (by have := HGV.out; omega) _ _)⟩)
              clear W4 hb4
              go_wp2
              go_meet
              exact W5.out
          case rest =>
            clear W0 HU CW
            have W0 := Lib.hid hcut
            clear hcut
            rename World => U
            go_upto_region 8 with fail
            obtain ⟨f, hf⟩ : ∃ f, f = frP l e1 := ⟨_, rfl⟩
            rw [← hf] at W0
            have HF := Lib.hid hf
            clear hf
            go_cut [37] (fun s wx => s = .bool e2 ∧ wx = U)
            case first =>
              cases e
              case false =>
                go_wp2_with fail
                go_meet
                exact ⟨by rw [← E2.out]; rfl, rfl⟩
              case true =>
                go_wp2_with fail
                go_meet
                exact ⟨by rw [← E2.out, int_last]; simp, rfl⟩
            case rest =>
              obtain ⟨rfl, hx⟩ := hcut
              subst hx
              rename World => U
              go_upto_if 37 with fail
              go_cut [37] (fun _ wx => BarW wr gv g0 g1 65 l f (toP l e2) wx)
              case first =>
                cases e2
                case false =>
                  go_wp2_with fail
                  go_meet
                  exact W0.out
                case true =>
                  have a0 := W0.out.kl.cell 4 _ rfl
                  have a1 := W0.out.kl.cell 5 _ rfl
                  have b0 := W0.out.k9.cell 0 _ rfl
                  have b1 := W0.out.k9.cell 1 _ rfl
                  go_wp2_with fail
                  refine (CV.out _).mono ?_
                  rintro e w4 ⟨rfl, hb4⟩
                  have W4 := W0.out.later hb4
                  clear a0 a1 b0 b1
                  have b0 := W4.k9.cell 0 _ rfl
                  have b1 := W4.k9.cell 1 _ rfl
                  have f0 := has_fro W4.k9
                  have W5 : Hid (BarW wr gv g0 g1 65 l f (toP l true) ((w4.setCell ⟨g1, 0, none⟩ (.int .i64 (ad l.b l.way 1).x)).setCell ⟨g1, 1, none⟩ (.int .i64 (ad l.b l.way 1).y))) := Lib.hid (by
                    have := L0.out
                    refine ⟨two_off W4.kl (by omega) _ _, two_off W4.k8 (by omega) _ _, two_set W4.k9 _ _, W4.below.trans (below_two (by have := HGV.out; omega) _ _)⟩)
                  clear W4 hb4
                  go_wp2
                  go_meet
                  exact W5.out
              case rest =>
                clear W0 CV
                have W0 := Lib.hid hcut
                clear hcut
                rename World => U
                obtain ⟨t, ht⟩ : ∃ t, t = toP l e2 := ⟨_, rfl⟩
                rw [← ht] at W0
                have HT := Lib.hid ht
                clear ht
                obtain ⟨O, hO⟩ : ∃ O, O = l.off := ⟨_, rfl⟩
                have wf : Wd f := by rw [HF.out]; exact Wd.fr HLO.out _
                have wt : Wd t := by rw [HT.out]; exact Wd.to HLO.out _
                have wo : Wd O := by rw [hO]; exact Wd.of HLO.out.2.2.2
                obtain ⟨p1, hp1⟩ : ∃ p, ad f O 1 = p := ⟨_, rfl⟩
                obtain ⟨p2, hp2⟩ : ∃ p, ad t O 1 = p := ⟨_, rfl⟩
                obtain ⟨p3, hp3⟩ : ∃ p, ad t O (-1) = p := ⟨_, rfl⟩
                obtain ⟨p4, hp4⟩ : ∃ p, ad f O (-1) = p := ⟨_, rfl⟩
                have ES : Hid (barP l e1 e2 = (true, shapeL [p1, p2, p3, p4])) := Lib.hid (by unfold barP; rw [← HF.out, ← HT.out, ← hO, hp1, hp2, hp3, hp4])
                have C1 := Lib.hid (fun w => hp1 ▸ s_plus f O w wf wo)
                have C2 := Lib.hid (fun w => hp2 ▸ s_plus t O w wt wo)
                have C3 := Lib.hid (fun w => hp3 ▸ s_less t O w wt wo)
                have C4 := Lib.hid (fun w => hp4 ▸ s_less f O w wf wo)
                have kl : Has U gv #[.int .i64 l.a.x, .int .i64 l.a.y, .int .i64 l.b.x, .int .i64 l.b.y, .int .i64 l.way.x, .int .i64 l.way.y, .int .i64 O.x, .int .i64 O.y] 65 := by rw [hO]; exact W0.out.kl
                have KL := Lib.hid kl
                have SU : Hid (w.heap.size ≤ U.heap.size) := Lib.hid (by have := BR.out.size; have := W0.out.below.size; omega)
                have BU : Hid (Below w.heap.size w U) := Lib.hid (BR.out.trans (W0.out.below.mono BR.out.size))
                have KU := Lib.hid (HK.out.later W0.out.below)
                clear hO hp1 hp2 hp3 hp4 wf wt wo kl
                go_upto_region 10 with fail
                refine wp_region_gen 20 [17, 18, 19] [] [0, 0, 0, 0, 0, 0, 0, 0, 0, 0, 0, 0, 0, 0, 0, 0, 0, 1, 1, 1] (by kernel_rfl) (by kernel_rfl) (fun c a d v w h => by cases d <;> exact h) trivial (fun G w' => Lit1 U U.heap.size 4 (pCells4 p1 p2 p3 p4) (shapeL [p1, p2, p3, p4]) 17 18 19 G w') (fun G w w' h hb => h.stay hb) Lit1.start ?_
                apply Exists.intro
                refine ⟨fun R hR hN => ?_, ?_, ?_⟩
                · have A6 := fun z => LaterR.read (R := R) KL.out 6 _ rfl z
                  have A7 := fun z => LaterR.read (R := R) KL.out 7 _ rfl z
                  have B0 := fun z => LaterR.read (R := R) W0.out.k8 0 _ rfl z
                  have B1 := fun z => LaterR.read (R := R) W0.out.k8 1 _ rfl z
                  have D0 := fun z => LaterR.read (R := R) W0.out.k9 0 _ rfl z
                  have D1 := fun z => LaterR.read (R := R) W0.out.k9 1 _ rfl z
                  simp only [quietL, takeA]
                  repeat (go_big_quiet_step (first | (go_at_call_of 40 f; exact LaterR.calls hR (C1.out _)) | (go_at_call_of 40 t; exact LaterR.calls hR (C2.out _)) | (go_at_call_of 39 t; exact LaterR.calls hR (C3.out _)) | (go_at_call_of 39 f; exact LaterR.calls hR (C4.out _))))
                  exact wpQuiet_nil rfl
                · intro i oo hi ho
                  have hi' : i = 17 ∨ i = 18 ∨ i = 19 := by simpa using hi
                  clear hi
                  rcases hi' with rfl | rfl | rfl
                  · cases ho
                    intro G w' hG hGn hdep hb hR
                    refine ⟨rfl, gives_none (by kernel_rfl) hGn ?_⟩
                    unfold gives
                    simp [go_sem]
                    exact ⟨hb.alloc hb.size _, hR.build (by decide) (by decide) hb.size⟩
                  · cases ho
                    intro G w' hG hGn hdep hb hR
                    obtain ⟨v17, hv17⟩ := Option.ne_none_iff_exists'.1 (hdep 17 (by simp) (by kernel_rfl))
                    obtain ⟨g, rfl, hg, hlt, hk⟩ := hR.lit v17 hv17
                    refine ⟨rfl, gives_one (k := 17) (by kernel_rfl) hGn (by omega) hv17 ?_⟩
                    unfold gives
                    simp [go_sem]
                    refine (s_poly (N := 4) (pown_lit (n := 4) (hk hG) hg (pls_four p1 p2 p3 p4) rfl (by decide)) rfl (by decide) (by decide)).mono ?_
                    rintro e w'' ⟨l, rfl, hol, hgr⟩
                    exact ⟨_, rfl, hb.grown hgr hb.size (fun k hk => by simp at hk; omega), hR.poly (by decide) (by decide) hG hol hgr hb.size⟩
                  · cases ho
                    intro G w' hG hGn hdep hb hR
                    obtain ⟨v18, hv18⟩ := Option.ne_none_iff_exists'.1 (hdep 18 (by simp) (by kernel_rfl))
                    obtain ⟨l', rfl, _⟩ := hR.po v18 hv18
                    refine ⟨rfl, gives_one (k := 18) (by kernel_rfl) hGn (by omega) hv18 ?_⟩
                    unfold gives
                    simp [go_sem]
                    exact ⟨hb.alloc hb.size _, hR.list (by decide) (by decide) hv18 hb (Nat.le_refl _) hb.size (by rw [shapeL_length]; simp)⟩
                · intro G w1 hb hR hG hN
                  obtain ⟨v17, e17⟩ := hG 17 (by simp)
                  obtain ⟨v18, e18⟩ := hG 18 (by simp)
                  obtain ⟨v19, e19⟩ := hG 19 (by simp)
                  have hq := hR.li _ e19
                  obtain ⟨ax, cx, rfl⟩ := hq.shape
                  have nn : ∀ j, j < 17 → G j = none := fun j hj => hN j (by simp; omega)
                  simp only [putV, dstAt, e17, e18, e19, nn 0 (by decide), nn 1 (by decide), nn 2 (by decide), nn 3 (by decide), nn 4 (by decide), nn 5 (by decide), nn 6 (by decide), nn 7 (by decide), nn 8 (by decide), nn 9 (by decide), nn 10 (by decide), nn 11 (by decide), nn 12 (by decide), nn 13 (by decide), nn 14 (by decide), nn 15 (by decide), nn 16 (by decide), List.drop_succ_cons, List.drop_zero, List.getElem?_cons_succ, List.getElem?_cons_zero, Option.bind_some]
                  have Q1 := Lib.hid hq
                  have K1 := Lib.hid (KU.out.later hb)
                  have DD : Hid (∀ k, Value.ownBlock (.slice aol n capl) = some k → k < U.heap.size) := Lib.hid (fun k hk => by have := (HK.out.young k hk).1; have := W0.out.below.size; omega)
                  have L1 : Hid (n + 1 ≤ 100) := Lib.hid (by omega)
                  have NL : Hid ((barsN ls e n).length = n) := Lib.hid (barsN_length _ _ _)
                  clear hb hR hG hN nn e17 e18 e19 hq
                  go_wp2_with (at_builtin; refine wpList_append_q rfl _ _ rfl aol n capl NL.out rfl ax 1 cx rfl rfl K1.out Q1.out DD.out SU.out L1.out ?_)
                  intro a' c' w7 hk7
                  have K7 : Hid (Kq w w.heap.size (barsN ls e (n + 1)) (.slice a' (n + 1) c') w7) := Lib.hid (by rw [EB.out, ES.out]; exact hk7)
                  clear hk7
                  go_wp2
                  go_roundw
                  case rel => exact ⟨n + 1, by omega, by go_num, K7.out⟩
                  case measure => simp [intOf]; omega
    · obtain rfl : n = N := by omega
      have o3 : ¬ (n : Int) < n := by omega
      go_wp2
      go_ret
      exact ⟨_, rfl, HK.out⟩
end Go.Proofs.Ytmdokohdafeilaa

namespace Go.Proofs.Ytmdokohdafeilaa
open Go Go.RowKit
open M

theorem Lrow.laterR {w : World} {g o : Nat} {ls : List Ln} (h : Lrow w g o ls) (hn : 0 < ls.length) {R : World → Prop} (z : LaterR w R) : Lrow z.to g o ls := h.block (z.below.block g (h.lt hn))
/-- What line i's cells hold, in every later world. -/
def Lat (w : World) (g o i : Nat) (l : Ln) : Prop := ∀ (R : World → Prop) (z : LaterR w R), (z.to.cell? ⟨g, o + i * 8, none⟩ = some (.int .i64 l.a.x) ∧ z.to.cell? ⟨g, o + i * 8 + 1, none⟩ = some (.int .i64 l.a.y) ∧ z.to.cell? ⟨g, o + i * 8 + 2, none⟩ = some (.int .i64 l.b.x) ∧ z.to.cell? ⟨g, o + i * 8 + 3, none⟩ = some (.int .i64 l.b.y)) ∧ z.to.cell? ⟨g, o + i * 8 + 4, none⟩ = some (.int .i64 l.way.x) ∧ z.to.cell? ⟨g, o + i * 8 + 5, none⟩ = some (.int .i64 l.way.y) ∧ z.to.cell? ⟨g, o + i * 8 + 6, none⟩ = some (.int .i64 l.off.x) ∧ z.to.cell? ⟨g, o + i * 8 + 7, none⟩ = some (.int .i64 l.off.y)
theorem Lrow.lat {w : World} {g o i : Nat} {ls : List Ln} {l : Ln} (h : Lrow w g o ls) (hi : i < ls.length) (hl : ln ls i = l) : Lat w g o i l := by
  subst hl
  intro R z
  have r := h.laterR (by omega) z
  exact ⟨⟨r.c0 i hi, r.c1 i hi, r.c2 i hi, r.c3 i hi⟩, r.c4 i hi, r.c5 i hi, r.c6 i hi, r.c7 i hi⟩

set_option maxRecDepth 100000 in
set_option maxHeartbeats 4000000 in
theorem s_corners (c : Bool) {v : Value} {ls : List Ln} {w : World} (h : Lsl w v ls) (hok : ∀ i, i < ls.length → LnOk (ln ls i)) (h30 : ls.length ≤ 30) :
    Calls Try.prog 25 #[v, .bool c] w (GivesK w (cornL c ls)) := by
  have HS := Lib.hid h
  obtain ⟨ao, cap, rfl⟩ := h.slice
  obtain ⟨N, hN⟩ : ∃ N, ls.length = N := ⟨_, rfl⟩
  rw [hN] at HS hok h30 ⊢
  have HOK := Lib.hid hok
  have HN := Lib.hid hN
  clear h hN hok
  go_enter Try.func25, Try.ntmps25
  go_wp2_with fail
  go_loopw [5, 6] (fun o i wr => ∃ m : Nat, 1 ≤ m ∧ (m ≤ N ∨ m = 1) ∧ i = .int .i64 m ∧ Kq w w.heap.size (cornN ls (m - 1)) o wr) (fun _ i _ => N - (intOf i).toNat)
  case atStart => exact ⟨1, by omega, by omega, rfl, Kq.start (Nat.le_refl _)⟩
  case round =>
    obtain ⟨m, h1, hm, rfl, hk⟩ := hrel
    obtain ⟨n, hn⟩ : ∃ n, m - 1 = n := ⟨_, rfl⟩
    rw [hn] at hk
    have hmn : (m : Int) - 1 = n := by omega
    have HMN := Lib.hid hn
    obtain ⟨aol, capl, el⟩ := hk.shape
    obtain ⟨K, hK⟩ : ∃ K, (cornN ls n).length = K := ⟨_, rfl⟩
    have hKn : K = 2 * n := by rw [← hK, cornN_length]
    rw [hK] at el
    subst el
    have HK := Lib.hid hk
    have BR := Lib.hid hk.below
    have SR : Hid (w.heap.size ≤ wr.heap.size) := Lib.hid BR.out.size
    have HKK := Lib.hid hK
    have HKN := Lib.hid hKn
    clear hk hn hK hKn
    by_cases hlt : m < N
    · have o3 : (m : Int) < N := by omega
      have o4 : (n : Int) < N := by omega
      obtain ⟨g, o, e1, row, -⟩ := (HS.out.below BR.out).row (by omega)
      subst e1
      obtain ⟨x, hx⟩ : ∃ l, ln ls n = l := ⟨_, rfl⟩
      obtain ⟨y, hy⟩ : ∃ l, ln ls m = l := ⟨_, rfl⟩
      have hxo := HOK.out n (by omega)
      have hyo := HOK.out m (by omega)
      rw [hx] at hxo
      rw [hy] at hyo
      have PX := Lib.hid (row.lat (by have := HN.out; omega) hx)
      have PY := Lib.hid (row.lat (by have := HN.out; omega) hy)
      have EC : Hid (cornN ls (m + 1 - 1) = cornN ls n ++ jointL x y) := Lib.hid (by have := HMN.out; rw [show m + 1 - 1 = n + 1 by omega, cornN_step, hx, show n + 1 = m by omega, hy])
      have CC := Lib.hid (fun w => s_corner x y w hxo hyo)
      clear row hx hy hxo hyo
      go_upto_region 5 with fail
      refine wp_region_gen 11 [10] [] [0, 0, 0, 0, 0, 0, 0, 0, 0, 0, 1] (by kernel_rfl) (by kernel_rfl) (fun c a d v w h => by cases d <;> exact h) trivial (fun G w' => ∀ v, G 10 = some v → Kq wr wr.heap.size (jointL x y) v w') (fun G w w' h hb v hv => (h v hv).later hb) (fun v hv => by cases hv) ?_
      apply Exists.intro
      refine ⟨fun R hR hN => ?_, ?_, ?_⟩
      · have A0 := fun z => (PX.out R z).1.1
        have A1 := fun z => (PX.out R z).1.2.1
        have A2 := fun z => (PX.out R z).1.2.2.1
        have A3 := fun z => (PX.out R z).1.2.2.2
        have A4 := fun z => (PX.out R z).2.1
        have A5 := fun z => (PX.out R z).2.2.1
        have A6 := fun z => (PX.out R z).2.2.2.1
        have A7 := fun z => (PX.out R z).2.2.2.2
        have B0 := fun z => (PY.out R z).1.1
        have B1 := fun z => (PY.out R z).1.2.1
        have B2 := fun z => (PY.out R z).1.2.2.1
        have B3 := fun z => (PY.out R z).1.2.2.2
        have B4 := fun z => (PY.out R z).2.1
        have B5 := fun z => (PY.out R z).2.2.1
        have B6 := fun z => (PY.out R z).2.2.2.1
        have B7 := fun z => (PY.out R z).2.2.2.2
        simp only [quietL, takeA]
        repeat (go_big_quiet_step (fail))
        exact wpQuiet_nil rfl
      · intro i oo hi ho
        obtain rfl : i = 10 := by simpa using hi
        cases ho
        intro G w' hG hGn hdep hb hR
        refine ⟨rfl, gives_none (by kernel_rfl) hGn ?_⟩
        unfold gives
        simp [go_sem]
        refine (CC.out w').mono ?_
        rintro e w'' ⟨v, rfl, hq⟩
        exact ⟨_, rfl, hb.trans (hq.below.mono hb.size), fun v' hv => by rw [updV_eq] at hv; cases hv; exact hq.on hb hb.size (Nat.le_refl _)⟩
      · intro G w1 hb hR hG hN
        obtain ⟨v10, e10⟩ := hG 10 (by simp)
        have hq := hR _ e10
        obtain ⟨ax, cx, rfl⟩ := hq.shape
        have nn : ∀ j, j < 10 → G j = none := fun j hj => hN j (by simp; omega)
        simp only [putV, dstAt, e10, nn 0 (by decide), nn 1 (by decide), nn 2 (by decide), nn 3 (by decide), nn 4 (by decide), nn 5 (by decide), nn 6 (by decide), nn 7 (by decide), nn 8 (by decide), nn 9 (by decide), List.drop_succ_cons, List.drop_zero, List.getElem?_cons_succ, List.getElem?_cons_zero, Option.bind_some]
        have Q1 := Lib.hid hq
        have K1 := Lib.hid (HK.out.later hb)
        have DD : Hid (∀ k, Value.ownBlock (.slice aol K capl) = some k → k < wr.heap.size) := Lib.hid (fun k hk => (HK.out.young k hk).1)
        have L1 : Hid (K + 2 ≤ 100) := Lib.hid (by have := HKN.out; omega)
        clear hb hR hG hN nn e10 hq
        go_wp2_with (at_builtin; refine wpList_append_q rfl _ _ rfl aol K capl HKK.out rfl ax 2 cx rfl rfl K1.out Q1.out DD.out SR.out L1.out ?_)
        intro a' c' w7 hk7
        have K7 : Hid (Kq w w.heap.size (cornN ls (m + 1 - 1)) (.slice a' (K + 2) c') w7) := Lib.hid (by rw [EC.out]; exact hk7)
        clear hk7
        go_wp2
        go_roundw
        case rel => exact ⟨m + 1, by omega, by omega, by go_num, K7.out⟩
        case measure => simp [intOf]; omega
    · have o3 : ¬ (m : Int) < N := by omega
      have EN : Hid (cornN ls n = cornN ls (ls.length - 1)) := Lib.hid (by have := HMN.out; rw [HN.out]; congr 1; omega)
      by_cases hc : c = true ∧ 2 ≤ N
      · obtain ⟨rfl, h2⟩ := hc
        have o5 : (1 : Int) < N := by omega
        obtain ⟨M, hM⟩ : ∃ M, N - 1 = M := ⟨_, rfl⟩
        have hMN : (N : Int) - 1 = M := by omega
        have o6 : (M : Int) < N := by omega
        have o7 : (0 : Int) < N := by omega
        obtain ⟨g, o, e1, row, -⟩ := (HS.out.below BR.out).row (by omega)
        subst e1
        obtain ⟨x, hx⟩ : ∃ l, ln ls M = l := ⟨_, rfl⟩
        obtain ⟨y, hy⟩ : ∃ l, ln ls 0 = l := ⟨_, rfl⟩
        have hxo := HOK.out M (by omega)
        have hyo := HOK.out 0 (by omega)
        rw [hx] at hxo
        rw [hy] at hyo
        have PX := Lib.hid (row.lat (by have := HN.out; omega) hx)
        have py := row.lat (by have := HN.out; omega) hy
        simp only [Lat, Nat.zero_mul, Nat.add_zero] at py
        have PY := Lib.hid py
        have EC : Hid (cornL true ls = cornN ls n ++ jointL x y) := Lib.hid (by unfold cornL; rw [lastL_yes ⟨rfl, by have := HN.out; omega⟩, ← EN.out, HN.out, hM, hx, hy])
        have CC := Lib.hid (fun w => s_corner x y w hxo hyo)
        clear row hx hy hxo hyo hM py
        go_upto_region 7 with fail
        refine wp_region_gen 11 [10] [] [0, 0, 0, 0, 0, 0, 0, 0, 0, 0, 1] (by kernel_rfl) (by kernel_rfl) (fun c a d v w h => by cases d <;> exact h) trivial (fun G w' => ∀ v, G 10 = some v → Kq wr wr.heap.size (jointL x y) v w') (fun G w w' h hb v hv => (h v hv).later hb) (fun v hv => by cases hv) ?_
        apply Exists.intro
        refine ⟨fun R hR hN => ?_, ?_, ?_⟩
        · have A0 := fun z => (PX.out R z).1.1
          have A1 := fun z => (PX.out R z).1.2.1
          have A2 := fun z => (PX.out R z).1.2.2.1
          have A3 := fun z => (PX.out R z).1.2.2.2
          have A4 := fun z => (PX.out R z).2.1
          have A5 := fun z => (PX.out R z).2.2.1
          have A6 := fun z => (PX.out R z).2.2.2.1
          have A7 := fun z => (PX.out R z).2.2.2.2
          have B0 := fun z => (PY.out R z).1.1
          have B1 := fun z => (PY.out R z).1.2.1
          have B2 := fun z => (PY.out R z).1.2.2.1
          have B3 := fun z => (PY.out R z).1.2.2.2
          have B4 := fun z => (PY.out R z).2.1
          have B5 := fun z => (PY.out R z).2.2.1
          have B6 := fun z => (PY.out R z).2.2.2.1
          have B7 := fun z => (PY.out R z).2.2.2.2
          simp only [quietL, takeA]
          repeat (go_big_quiet_step (fail))
          exact wpQuiet_nil rfl
        · intro i oo hi ho
          obtain rfl : i = 10 := by simpa using hi
          cases ho
          intro G w' hG hGn hdep hb hR
          refine ⟨rfl, gives_none (by kernel_rfl) hGn ?_⟩
          unfold gives
          simp [go_sem]
          refine (CC.out w').mono ?_
          rintro e w'' ⟨v, rfl, hq⟩
          exact ⟨_, rfl, hb.trans (hq.below.mono hb.size), fun v' hv => by rw [updV_eq] at hv; cases hv; exact hq.on hb hb.size (Nat.le_refl _)⟩
        · intro G w1 hb hR hG hN
          obtain ⟨v10, e10⟩ := hG 10 (by simp)
          have hq := hR _ e10
          obtain ⟨ax, cx, rfl⟩ := hq.shape
          have nn : ∀ j, j < 10 → G j = none := fun j hj => hN j (by simp; omega)
          simp only [putV, dstAt, e10, nn 0 (by decide), nn 1 (by decide), nn 2 (by decide), nn 3 (by decide), nn 4 (by decide), nn 5 (by decide), nn 6 (by decide), nn 7 (by decide), nn 8 (by decide), nn 9 (by decide), List.drop_succ_cons, List.drop_zero, List.getElem?_cons_succ, List.getElem?_cons_zero, Option.bind_some]
          have Q1 := Lib.hid hq
          have K1 := Lib.hid (HK.out.later hb)
          have DD : Hid (∀ k, Value.ownBlock (.slice aol K capl) = some k → k < wr.heap.size) := Lib.hid (fun k hk => (HK.out.young k hk).1)
          have L1 : Hid (K + 2 ≤ 100) := Lib.hid (by have := HKN.out; omega)
          clear hb hR hG hN nn e10 hq
          go_wp2_with (at_builtin; refine wpList_append_q rfl _ _ rfl aol K capl HKK.out rfl ax 2 cx rfl rfl K1.out Q1.out DD.out SR.out L1.out ?_)
          intro a' c' w7 hk7
          have K7 : Hid (Kq w w.heap.size (cornL true ls) (.slice a' (K + 2) c') w7) := Lib.hid (by rw [EC.out]; exact hk7)
          clear hk7
          go_wp2
          go_ret
          exact ⟨_, rfl, K7.out⟩
      · have EC : Hid (cornL c ls = cornN ls n) := Lib.hid (by unfold cornL; rw [lastL_no (by rw [HN.out]; exact hc), List.append_nil, EN.out])
        cases c
        case false =>
          go_wp2
          go_ret
          exact ⟨_, rfl, EC.out ▸ HK.out⟩
        case true =>
          have h2 : ¬ 2 ≤ N := fun h => hc ⟨rfl, h⟩
          have o5 : ¬ (1 : Int) < N := by omega
          clear hc
          go_wp2
          go_ret
          exact ⟨_, rfl, EC.out ▸ HK.out⟩
end Go.Proofs.Ytmdokohdafeilaa

namespace Go.Proofs.Ytmdokohdafeilaa
open Go Go.RowKit
open M

/-- Two lists of polys (numbers a and b of a region), the second made behind the first. -/
structure Both (w1 : World) (L M : List (Bool × List Pt)) (a b : Nat) (G : Nat → Option Value) (w : World) : Prop where
  fst : ∀ v, G a = some v → Kq w1 w1.heap.size L v w
  snd : ∀ v, G b = some v → ∃ w2 b2, Kq w2 b2 M v w ∧ w1.heap.size ≤ b2 ∧ ∀ u k, G a = some u → u.ownBlock = some k → k < b2
  late : G a = none → G b = none
section
variable {w1 : World} {L M : List (Bool × List Pt)} {a b : Nat} {G : Nat → Option Value} {w w' : World} {v : Value}
theorem Both.start : Both w1 L M a b (fun _ => none) w := ⟨fun _ h => (by cases h), fun _ h => (by cases h), fun _ => rfl⟩
theorem Both.stay (h : Both w1 L M a b G w) (hb : Below w.heap.size w w') : Both w1 L M a b G w' :=
  ⟨fun v hv => (h.fst v hv).later hb, fun v hv => by obtain ⟨w2, b2, k, l, d⟩ := h.snd v hv; exact ⟨w2, b2, k.later hb, l, d⟩, h.late⟩
theorem Both.one (h : Both w1 L M a b G w) (hab : a ≠ b) (hG : G a = none) (hb : Below w1.heap.size w1 w) (hq : Kq w w.heap.size L v w') : Both w1 L M a b (updV G a v) w' := by
  refine ⟨fun u hu => ?_, fun u hu => ?_, fun hn => ?_⟩
  · rw [updV_eq] at hu; cases hu; exact hq.on hb hb.size (Nat.le_refl _)
  · rw [updV_ne G _ (Ne.symm hab), h.late hG] at hu; cases hu
  · rw [updV_eq] at hn; cases hn
theorem Both.two (h : Both w1 L M a b G w) (hab : a ≠ b) (hG : G a ≠ none) (hb : Below w1.heap.size w1 w) (hq : Kq w w.heap.size M v w') : Both w1 L M a b (updV G b v) w' := by
  have ea := updV_ne G v hab
  have s := h.stay hq.below
  refine ⟨fun u hu => ?_, fun u hu => ?_, fun hn => ?_⟩
  · rw [ea] at hu; exact s.fst u hu
  · rw [updV_eq] at hu; cases hu
    exact ⟨w, w.heap.size, hq, hb.size, fun u k hu hk => by rw [ea] at hu; exact ((h.fst u hu).young k hk).1⟩
  · rw [ea] at hn; exact absurd hn hG
end

set_option maxRecDepth 100000 in
set_option maxHeartbeats 4000000 in
theorem s_of (c : Bool) {v : Value} {ps : List Pt} {w : World} (wd cp : Int) (hp : Psl w v ps) (h30 : ps.length ≤ 30) :
    Calls Try.prog 11 #[.agg #[.bool c, v], .int .i64 wd, .int .i64 cp] w (GivesK w (strokeL c ps wd cp)) := by
  obtain ⟨B, hB⟩ : ∃ B, w.heap.size = B := ⟨_, rfl⟩
  obtain ⟨W, hW⟩ : ∃ W, w.alloc (.cells #[.bool c, v] 24) = W := ⟨_, rfl⟩
  have ha : Has W B #[.bool c, v] 24 := by rw [← hW]; exact has_new hB
  have hbl : Below w.heap.size w W := by rw [← hW]; exact (Below.refl _ _).alloc (Nat.le_refl _) _
  have hs := hp.below hbl (Nat.le_refl _)
  obtain ⟨h, hh⟩ : ∃ h, half wd = h := ⟨_, rfl⟩
  have CL := Lib.hid (fun w => q_clamp (wd / 2) 0 67108864 w)
  rw [show clamp (wd / 2) 0 67108864 = h from hh] at CL
  have HH := Lib.hid hh
  have HA := Lib.hid ha
  have HBL := Lib.hid hbl
  have HS := Lib.hid hs
  have HW := Lib.hid hW
  clear hp hh ha hbl hs hW
  go_enter Try.func11, Try.ntmps11
  go_upto_region 1 with fail
  rw [HW.out]
  clear hB
  go_wp2_with fail
  refine (CL.out _).mono ?_
  rintro e w' ⟨rfl, rfl⟩
  by_cases h0 : h = 0
  · have ES : Hid (strokeL c ps wd cp = []) := Lib.hid (strokeL_none (HH.out.trans h0))
    go_wp2
    go_ret
    exact ⟨_, rfl, ES.out ▸ (Kq.start (Nat.le_refl _)).later HBL.out⟩
  · obtain ⟨ends, he⟩ : ∃ b, (decide (cp = 1) && !c) = b := ⟨_, rfl⟩
    obtain ⟨ls, hl⟩ : ∃ ls, linesL c ps h = ls := ⟨_, rfl⟩
    have ES : Hid (strokeL c ps wd cp = barsN ls ends ls.length ++ cornL c ls) := Lib.hid (by rw [strokeL_some (by rw [HH.out]; exact h0), HH.out, he, hl]; rfl)
    have SD := Lib.hid (s_sides c h HS.out (by omega))
    rw [hl] at SD
    have OK : Hid (∀ i, i < ls.length → LnOk (ln ls i)) := Lib.hid (by intro i hi; subst hl; exact linesL_ok c ps h hi)
    have L30 : Hid (ls.length ≤ 30) := Lib.hid (by rw [← hl]; have := linesN_length ps h (sidesN c ps.length); have := sidesN_le c ps.length; unfold linesL; omega)
    have HE := Lib.hid he
    have a0 := HA.out.cell 0 _ rfl
    have a1 := HA.out.cell 1 _ rfl
    clear hl he
    go_wp2_with fail
    refine SD.out.mono ?_
    rintro e w1 ⟨u, rfl, ho, hb⟩
    have LS := Lib.hid ho.sl
    have B1 := Lib.hid (HBL.out.trans (hb.mono HBL.out.size))
    have HA1 := Lib.hid (HA.out.below hb HA.out.lt)
    obtain ⟨au, cu, hu⟩ := ho.len
    obtain ⟨N, hN⟩ : ∃ N, ls.length = N := ⟨_, rfl⟩
    rw [hN] at hu ES L30 OK
    subst hu
    have HN := Lib.hid hN
    clear ho hb a0 a1 hN
    have EB := Lib.hid (fun w' (hb : Below w1.heap.size w1 w') => s_bars ends (LS.out.below hb) (fun i hi => OK.out i (by have := HN.out; omega)) (by have := HN.out; have := L30.out; omega))
    have EC := Lib.hid (fun w' (hb : Below w1.heap.size w1 w') => s_corners c (LS.out.below hb) (fun i hi => OK.out i (by have := HN.out; omega)) (by have := HN.out; have := L30.out; omega))
    rw [HN.out] at EB
    have BL : Hid ((barsN ls ends N).length = N) := Lib.hid (barsN_length _ _ _)
    obtain ⟨Lb, hLb⟩ : ∃ L, barsN ls ends N = L := ⟨_, rfl⟩
    obtain ⟨Lc, hLc⟩ : ∃ L, cornL c ls = L := ⟨_, rfl⟩
    have CL2 : Hid (Lc.length ≤ 60) := Lib.hid (by
      rw [← hLc]
      unfold cornL
      rw [List.length_append, cornN_length, lastL_length]
      have := HN.out; have := L30.out
      split <;> omega)
    rw [hLb] at EB ES BL
    rw [hLc] at EC ES
    clear hLb hLc
    go_upto_region 5 with fail
    obtain ⟨b1, hb1⟩ : ∃ b, (cp == 1) = b := ⟨_, rfl⟩
    have hb2 : decide (cp = 1) = b1 := by rw [← hb1]; rfl
    have he : ends = (b1 && !c) := by rw [← HE.out, hb2]
    cases b1 <;> cases c
    all_goals
      simp at he
      subst he
      refine wp_region_gen 13 [8, 12] [] [0, 0, 0, 0, 0, 0, 0, 0, 1, 0, 0, 0, 1] (by kernel_rfl) (by kernel_rfl) (fun c a d v w h => by cases d <;> exact h) trivial (fun G w' => Both w1 Lb Lc 8 12 G w') (fun G w w' h hb => h.stay hb) Both.start ?_
      apply Exists.intro
      refine ⟨fun R hR hN => ?_, ?_, ?_⟩
      · have A0 := fun z => LaterR.read (R := R) HA1.out 0 _ rfl z
        simp only [quietL, takeA]
        repeat (go_big_quiet_step (fail))
        exact wpQuiet_nil rfl
      · intro i oo hi ho
        have hi' : i = 8 ∨ i = 12 := by simpa using hi
        clear hi
        rcases hi' with rfl | rfl
        · cases ho
          intro G w' hG hGn hdep hb hR
          refine ⟨rfl, gives_none (by kernel_rfl) hGn ?_⟩
          unfold gives
          simp [go_sem]
          refine (EB.out w' hb).mono ?_
          rintro e w'' ⟨v, rfl, hq⟩
          exact ⟨_, rfl, hb.trans (hq.below.mono hb.size), hR.one (by decide) hG hb hq⟩
        · cases ho
          intro G w' hG hGn hdep hb hR
          refine ⟨rfl, gives_none (by kernel_rfl) hGn ?_⟩
          unfold gives
          simp [go_sem]
          refine (EC.out w' hb).mono ?_
          rintro e w'' ⟨v, rfl, hq⟩
          exact ⟨_, rfl, hb.trans (hq.below.mono hb.size), hR.two (by decide) (hdep 8 (by simp) (by kernel_rfl)) hb hq⟩
      · intro G w2 hb hR hG hN
        obtain ⟨v8, e8⟩ := hG 8 (by simp)
        obtain ⟨v12, e12⟩ := hG 12 (by simp)
        have hq := hR.fst _ e8
        obtain ⟨w3, b3, hq2, hl3, hd⟩ := hR.snd _ e12
        have hd2 := fun k hk => hd _ k e8 hk
        obtain ⟨a8, c8, rfl⟩ := hq.shape
        obtain ⟨a12, c12, rfl⟩ := hq2.shape
        have nn : ∀ j, j < 8 → G j = none := fun j hj => hN j (by simp; omega)
        simp only [putV, dstAt, e8, e12, nn 0 (by decide), nn 1 (by decide), nn 2 (by decide), nn 3 (by decide), nn 4 (by decide), nn 5 (by decide), nn 6 (by decide), nn 7 (by decide), hN 9 (by simp), hN 10 (by simp), hN 11 (by simp), List.drop_succ_cons, List.drop_zero, List.getElem?_cons_succ, List.getElem?_cons_zero, Option.bind_some]
        obtain ⟨M, hM⟩ : ∃ M, Lc.length = M := ⟨_, rfl⟩
        rw [BL.out] at hq hd2 ⊢
        rw [hM] at hq2 ⊢
        have HM := Lib.hid hM
        have Q1 := Lib.hid hq
        have Q2 := Lib.hid hq2
        have DD := Lib.hid hd2
        have SL := Lib.hid hl3
        have L1 : Hid (N + M ≤ 100) := Lib.hid (by have := L30.out; have := CL2.out; omega)
        have BB := Lib.hid (B1.out)
        clear hb hR hG hN nn e8 e12 hq hq2 hd hd2 hl3 hM hb1 hb2
        go_wp2_with (at_builtin; refine wpList_append_q rfl _ _ rfl a8 N c8 BL.out rfl a12 M c12 HM.out rfl Q1.out Q2.out DD.out SL.out L1.out ?_)
        intro a' c' w7 hk7
        have K7 := Lib.hid (hk7.on B1.out B1.out.size (Nat.le_refl _))
        rw [← ES.out] at K7
        clear hk7
        go_wp2
        go_ret
        exact ⟨_, rfl, K7.out⟩
end Go.Proofs.Ytmdokohdafeilaa

namespace Go.Proofs.Ytmdokohdafeilaa
open Go Go.RowKit
open M

set_option maxRecDepth 100000 in
set_option maxHeartbeats 4000000 in
theorem r9_lines (c : Bool) {v : Value} {ps : List Pt} {w : World} (h : Int) (hp : Psl w v ps) (h900 : ps.length ≤ 900) :
    Calls Try.prog 30 #[.agg #[.bool c, v], .int .i64 h] w (GivesLn 59 w (linesL c ps h)) := by
  obtain ⟨B, hB⟩ : ∃ B, w.heap.size = B := ⟨_, rfl⟩
  obtain ⟨W, hW⟩ : ∃ W, w.alloc (.cells #[.bool c, v] 24) = W := ⟨_, rfl⟩
  have ha : Has W B #[.bool c, v] 24 := by rw [← hW]; exact has_new hB
  have hbl : Below w.heap.size w W := by rw [← hW]; exact (Below.refl _ _).alloc (Nat.le_refl _) _
  have sW : W.heap.size = B + 1 := by rw [← hW]; simp [hB]
  have hs := hp.below hbl (Nat.le_refl _)
  obtain ⟨ao, cap, rfl, hf, _⟩ := hp
  obtain ⟨N, hN⟩ : ∃ N, ps.length = N := ⟨_, rfl⟩
  obtain ⟨M, hM⟩ : ∃ M, sidesN c N = M := ⟨_, rfl⟩
  have hMN : M ≤ N := hM ▸ sidesN_le c N
  rw [hN] at hf hs ha hW h900 ⊢
  have EL : Hid (linesL c ps h = linesN ps h M) := Lib.hid (by unfold linesL; rw [hN, hM])
  have SD : Hid (∀ w : World, Calls Try.prog 15 #[.agg #[.bool c, .slice ao N cap]] w fun r w' => r = .returned (.int .i64 (M : Int)) ∧ Below w.heap.size w w') := Lib.hid (fun w => by have := r9_sides c ao N cap hf w; rw [hM] at this; exact this)
  have HA := Lib.hid ha
  have HBL := Lib.hid hbl
  have HS := Lib.hid hs
  have HW := Lib.hid hW
  have HN := Lib.hid hN
  have HB := Lib.hid hB
  have SW := Lib.hid sW
  clear ha hbl hs hW hN hM sW
  go_enter Try.func30, Try.ntmps30
  go_upto_region 1 with fail
  rw [HW.out]
  clear hB
  go_wp2_with fail
  go_loopw [5, 6] (fun o i wr => ∃ n : Nat, n ≤ M ∧ i = .int .i64 n ∧ Lown 59 wr (B + 1) o (linesN ps h n) ∧ Below W.heap.size W wr) (fun _ i _ => M - (intOf i).toNat)
  case atStart => exact ⟨0, by omega, rfl, Lown.nil _ _ _, Below.refl _ _⟩
  case round =>
    obtain ⟨n, hn, rfl, ho, hb⟩ := hrel
    have HO := Lib.hid ho
    have BR := Lib.hid hb
    obtain ⟨K, hK⟩ : ∃ K, (linesN ps h n).length = K := ⟨_, rfl⟩
    have hKn : K ≤ n := by rw [← hK]; exact linesN_length ps h n
    obtain ⟨al, cl, el⟩ := ho.len
    rw [hK] at el
    subst el
    have HK := Lib.hid hK
    have ka := HA.out.below hb HA.out.lt
    have c0 := ka.cell 0 _ rfl
    have c1 := ka.cell 1 _ rfl
    clear ho hb hK ka
    by_cases hlt : n < M
    · have o3 : (n : Int) < M := by omega
      have o5 : (n : Int) ≤ 8796093022208 := by omega
      go_wp2_with fail
      refine (SD.out _).mono ?_
      rintro e w1 ⟨rfl, hq1⟩
      have BX := Lib.hid (BR.out.trans (hq1.mono BR.out.size))
      have OX := Lib.hid (HO.out.below hq1 (Nat.le_refl _))
      have ka := HA.out.below BX.out HA.out.lt
      clear c0 c1
      have c0 := ka.cell 0 _ rfl
      have c1 := ka.cell 1 _ rfl
      clear hq1 ka
      go_wp2_with fail
      refine (r9_side c (HS.out.below BX.out (Nat.le_refl _)) HN.out (by omega)).mono ?_
      rintro e w2 ⟨rfl, hq2⟩
      obtain ⟨len, hlen⟩ : ∃ l, sideL ps n = l := ⟨_, rfl⟩
      have AL := Lib.hid (fun w => r9_far (sa ps n) (sb ps n) w (pld_plc _) (pld_plc _))
      rw [show longP (sa ps n) (sb ps n) = len from hlen] at AL
      have l0 := sideL_lo ps n
      have l9 := sideL_hi ps n
      rw [hlen] at l0 l9
      have HLEN := Lib.hid hlen
      obtain ⟨a1, a2, a3, a4⟩ := pld_plc (pt ps n)
      obtain ⟨b1, b2, b3, b4⟩ := pld_plc (pt ps (nxt ps.length n))
      obtain ⟨pa, ha⟩ : ∃ p, sa ps n = p := ⟨_, rfl⟩
      obtain ⟨pb, hb⟩ : ∃ p, sb ps n = p := ⟨_, rfl⟩
      rw [show plc (pt ps n) = pa from ha] at a1 a2 a3 a4
      rw [show plc (pt ps (nxt ps.length n)) = pb from hb] at b1 b2 b3 b4
      rw [ha, hb] at AL ⊢
      have ESA := Lib.hid ha
      have ESB := Lib.hid hb
      obtain ⟨G, hG⟩ : ∃ G, w2.heap.size = G := ⟨_, rfl⟩
      obtain ⟨V, hV⟩ : ∃ V, (w2.alloc (.cells (pCells pa) 31)).alloc (.cells (pCells pb) 31) = V := ⟨_, rfl⟩
      have kA : Has V G (pCells pa) 31 := by rw [← hV]; exact (has_new hG).alloc _
      have kB : Has V (G + 1) (pCells pb) 31 := by rw [← hV]; exact has_new (by simp [hG])
      have bV : Below w1.heap.size w1 V := by rw [← hV]; exact (hq2.alloc hq2.size _).alloc (by have := hq2.size; simp; omega) _
      have HV := Lib.hid hV
      have KA := Lib.hid kA
      have KB := Lib.hid kB
      have OV := Lib.hid (OX.out.below bV (Nat.le_refl _))
      have BV := Lib.hid (BX.out.trans (bV.mono BX.out.size))
      obtain ⟨ax, ay⟩ := pa
      obtain ⟨bx, bY⟩ := pb
      simp only at a1 a2 a3 a4 b1 b2 b3 b4
      clear hq2 hlen ha hb c0 c1 hV kA kB bV
      go_upto_region 6 with fail
      rw [HV.out]
      clear hG
      have x0 := KA.out.cell 0 _ rfl
      have x1 := KA.out.cell 1 _ rfl
      have y0 := KB.out.cell 0 _ rfl
      have y1 := KB.out.cell 1 _ rfl
      go_wp2_with fail
      refine (AL.out _).mono ?_
      rintro e w3 ⟨rfl, hq3⟩
      have X0 := Lib.hid (KA.out.below hq3 KA.out.lt)
      have X1 := Lib.hid (KB.out.below hq3 KB.out.lt)
      have O3 := Lib.hid (OV.out.below hq3 (Nat.le_refl _))
      have B3 := Lib.hid (BV.out.trans (hq3.mono BV.out.size))
      clear hq3 x0 x1 y0 y1
      by_cases hz : len = 0
      · have hz' : ¬ 0 < len := by omega
        have E1 : Hid (linesN ps h (n + 1) = linesN ps h n) := Lib.hid (linesN_no (by rw [HLEN.out]; omega))
        go_wp2
        go_roundw
        case rel => exact ⟨n + 1, by omega, by go_num, by rw [E1.out]; exact O3.out, B3.out⟩
        case measure => simp [intOf]; omega
      · have hz' : 0 < len := by omega
        obtain ⟨du, hdu⟩ : ∃ d, dv (bx - ax) len = d := ⟨_, rfl⟩
        obtain ⟨dw, hdw⟩ : ∃ d, dv (bY - ay) len = d := ⟨_, rfl⟩
        have D1 := Lib.hid (fun w => drawnB (r_div (bx - ax) len w))
        have D2 := Lib.hid (fun w => drawnB (r_div (bY - ay) len w))
        obtain ⟨w1', w2'⟩ := dv_in (bY - ay) len
        rw [hdw] at w1' w2'
        have HDU := Lib.hid hdu
        have HDW := Lib.hid hdw
        have EY : Hid (linesN ps h (n + 1) = linesN ps h n ++ [⟨⟨ax, ay⟩, ⟨bx, bY⟩, ⟨mul du h, mul dw h⟩, ⟨mul (-dw) h, mul du h⟩⟩]) := Lib.hid (by
          rw [linesN_yes (by rw [HLEN.out]; omega)]
          unfold lnOf
          rw [HLEN.out, ESA.out, ESB.out]
          simp only
          rw [hdu, hdw])
        clear hdu hdw
        go_upto_region 8 with fail
        refine wp_region_make0 14 (by kernel_rfl) (by kernel_rfl) (by kernel_rfl) ?_
        apply Exists.intro
        refine ⟨fun R hR hN => ?_, ?_⟩
        · have A0 := fun z => LaterR.read (R := R) X0.out 0 _ rfl z
          have A1 := fun z => LaterR.read (R := R) X0.out 1 _ rfl z
          have B0 := fun z => LaterR.read (R := R) X1.out 0 _ rfl z
          have B1 := fun z => LaterR.read (R := R) X1.out 1 _ rfl z
          simp only [List.take_succ_cons, List.take_zero]
          repeat (go_big_quiet_step (first | (go_at_call 46; exact LaterR.calls hR (drawnB (r_div _ _ _)))))
          exact wpQuiet_nil rfl
        · intro w6 hb6
          simp only [List.drop_succ_cons, List.drop_zero]
          rw [HDU.out, HDW.out]
          have K3 := Lib.hid (X0.out.below hb6 X0.out.lt)
          have K4 := Lib.hid (X1.out.below hb6 X1.out.lt)
          have O6 := Lib.hid (O3.out.below hb6 (Nat.le_refl _))
          have B6 := Lib.hid (B3.out.trans (hb6.mono B3.out.size))
          clear hb6
          go_upto_region 9 with fail
          refine wp_region_gen 20 [19] [] [0, 0, 0, 0, 0, 0, 0, 0, 0, 0, 0, 0, 0, 0, 0, 0, 0, 0, 0, 1] (by kernel_rfl) (by kernel_rfl) (fun c a d v w h => by cases d <;> exact h) trivial (fun Gm w' => ∀ v, Gm 19 = some v → OneL 59 w6.heap.size ⟨⟨ax, ay⟩, ⟨bx, bY⟩, ⟨mul du h, mul dw h⟩, ⟨mul (-dw) h, mul du h⟩⟩ v w') (fun Gm w w' h hb v hv => (h v hv).stay hb) (fun v hv => by cases hv) ?_
          apply Exists.intro
          refine ⟨fun R hR hN => ?_, ?_, ?_⟩
          · have A0 := fun z => LaterR.read (R := R) K3.out 0 _ rfl z
            have A1 := fun z => LaterR.read (R := R) K3.out 1 _ rfl z
            have B0 := fun z => LaterR.read (R := R) K4.out 0 _ rfl z
            have B1 := fun z => LaterR.read (R := R) K4.out 1 _ rfl z
            simp only [quietL, takeA]
            repeat (go_big_quiet_step (first | (go_at_call 47; exact LaterR.calls hR (drawnB (r_mul _ _ _)))))
            exact wpQuiet_nil rfl
          · intro i oo hi ho
            obtain rfl : i = 19 := by simpa using hi
            cases ho
            intro Gm w' hG hGn hdep hb hR
            refine ⟨rfl, gives_none (by kernel_rfl) hGn ?_⟩
            unfold gives
            simp [go_sem]
            refine ⟨hb.alloc hb.size _, fun v hv => ?_⟩
            rw [updV_eq] at hv
            cases hv
            exact ⟨_, rfl, hb.size, has_new0⟩
          · intro Gm w' hb hR hG hN
            obtain ⟨v9, e9⟩ := hG 19 (by simp)
            obtain ⟨gp, rfl, lp, kp⟩ := hR v9 e9
            have nn : ∀ j, j < 19 → Gm j = none := fun j hj => hN j (by simp; omega)
            simp only [putV, dstAt, e9, nn 0 (by decide), nn 1 (by decide), nn 2 (by decide), nn 3 (by decide), nn 4 (by decide), nn 5 (by decide), nn 6 (by decide), nn 7 (by decide), nn 8 (by decide), nn 9 (by decide), nn 10 (by decide), nn 11 (by decide), nn 12 (by decide), nn 13 (by decide), nn 14 (by decide), nn 15 (by decide), nn 16 (by decide), nn 17 (by decide), nn 18 (by decide), List.drop_succ_cons, List.drop_zero, List.getElem?_cons_succ, List.getElem?_cons_zero, Option.bind_some]
            have OZ := Lib.hid (O6.out.below hb (Nat.le_refl _))
            have BB := Lib.hid (B6.out.trans (hb.mono B6.out.size))
            have KP := Lib.hid kp
            have SB : Hid (B + 1 ≤ w'.heap.size) := Lib.hid (by have := BB.out.size; have := SW.out; omega)
            have L1 : Hid (K ≤ 1000000) := Lib.hid (by omega)
            clear hb hR hG hN nn e9 kp
            go_wp2_with (at_builtin; refine wpList_append_ln infoLine rfl _ _ rfl K HK.out rfl gp rfl ⟨⟨ax, ay⟩, ⟨bx, bY⟩, ⟨mul du h, mul dw h⟩, ⟨mul (-dw) h, mul du h⟩⟩ _ KP.out rfl OZ.out L1.out SB.out ?_)
            intro g' cap' w7 ho7 hg7
            have O7 : Hid (Lown 59 w7 (B + 1) (.slice (some ⟨g', 0, none⟩) (K + 1) cap') (linesN ps h (n + 1))) := Lib.hid (by rw [EY.out]; exact ho7)
            have B7 : Hid (Below W.heap.size W w7) := Lib.hid (BB.out.grown hg7 BB.out.size (fun k hk => by have := (OZ.out.base k hk).1; have := SW.out; omega))
            clear ho7 hg7
            go_wp2
            go_roundw
            case rel => exact ⟨n + 1, by omega, by go_num, O7.out, B7.out⟩
            case measure => simp [intOf]; omega
    · obtain rfl : n = M := by omega
      have o3 : ¬ (n : Int) < n := by omega
      go_wp2_with fail
      refine (SD.out _).mono ?_
      rintro e w1 ⟨rfl, hq1⟩
      have BX := Lib.hid (BR.out.trans (hq1.mono BR.out.size))
      have R : Hid (GivesLn 59 w (linesL c ps h) (.returned (.slice al K cl)) w1) := Lib.hid ⟨_, rfl, by rw [EL.out]; exact (HO.out.below hq1 (Nat.le_refl _)).lower (by have := HB.out; omega), HBL.out.trans (BX.out.mono HBL.out.size)⟩
      clear hq1
      go_wp2
      go_ret
      exact R.out

end Go.Proofs.Ytmdokohdafeilaa

namespace Go.Proofs.Ytmdokohdafeilaa
open Go Go.RowKit
open M

theorem Lat.later {w w' : World} {g o i : Nat} {l : Ln} (h : Lat w g o i l) (hb : Below w.heap.size w w') : Lat w' g o i l := fun R z => h R ⟨z.to, hb.trans (z.below.mono hb.size), z.reg⟩
/-- What a round of the reference's bars holds: both ends. -/
structure BarV (wr : World) (g8 g9 : Nat) (p q : Pt) (U : World) : Prop where
  k8 : Has U g8 (pCells p) 31
  k9 : Has U g9 (pCells q) 31
  below : Below wr.heap.size wr U
theorem BarV.later {wr : World} {g8 g9 : Nat} {p q : Pt} {U U' : World} (h : BarV wr g8 g9 p q U) (hb : Below U.heap.size U U') : BarV wr g8 g9 p q U' :=
  ⟨h.k8.below hb h.k8.lt, h.k9.below hb h.k9.lt, h.below.trans (hb.mono h.below.size)⟩

set_option maxRecDepth 100000 in
set_option maxHeartbeats 8000000 in
theorem r9_stroke (c : Bool) {v : Value} {ps : List Pt} {w : World} (wd cp : Int) (hp : Psl w v ps) (h30 : ps.length ≤ 30) :
    Calls Try.prog 19 #[.agg #[.bool c, v], .int .i64 wd, .int .i64 cp] w (GivesK w (strokeL c ps wd cp)) := by
  obtain ⟨B, hB⟩ : ∃ B, w.heap.size = B := ⟨_, rfl⟩
  obtain ⟨W, hW⟩ : ∃ W, w.alloc (.cells #[.bool c, v] 24) = W := ⟨_, rfl⟩
  have ha : Has W B #[.bool c, v] 24 := by rw [← hW]; exact has_new hB
  have hbl : Below w.heap.size w W := by rw [← hW]; exact (Below.refl _ _).alloc (Nat.le_refl _) _
  have hs := hp.below hbl (Nat.le_refl _)
  obtain ⟨h, hh⟩ : ∃ h, half wd = h := ⟨_, rfl⟩
  have CL := Lib.hid (fun w => r_clamp (wd / 2) 0 67108864 w)
  rw [show clamp (wd / 2) 0 67108864 = h from hh] at CL
  have HH := Lib.hid hh
  have HA := Lib.hid ha
  have HBL := Lib.hid hbl
  have HS := Lib.hid hs
  have HW := Lib.hid hW
  clear hp hh ha hbl hs hW
  go_enter Try.func19, Try.ntmps19
  go_upto_region 1 with fail
  rw [HW.out]
  clear hB
  go_wp2_with fail
  refine (CL.out _).mono ?_
  rintro e w' ⟨rfl, rfl⟩
  by_cases h0 : h = 0
  · have ES : Hid (strokeL c ps wd cp = []) := Lib.hid (strokeL_none (HH.out.trans h0))
    go_wp2
    go_ret
    exact ⟨_, rfl, ES.out ▸ (Kq.start (Nat.le_refl _)).later HBL.out⟩
  · obtain ⟨ends, he⟩ : ∃ b, (decide (cp = 1) && !c) = b := ⟨_, rfl⟩
    obtain ⟨ls, hl⟩ : ∃ ls, linesL c ps h = ls := ⟨_, rfl⟩
    have ES : Hid (strokeL c ps wd cp = barsN ls ends ls.length ++ cornL c ls) := Lib.hid (by rw [strokeL_some (by rw [HH.out]; exact h0), HH.out, he, hl]; rfl)
    have SD := Lib.hid (r9_lines c h HS.out (by omega))
    rw [hl] at SD
    have OK : Hid (∀ i, i < ls.length → LnOk (ln ls i)) := Lib.hid (by intro i hi; subst hl; exact linesL_ok c ps h hi)
    have L30 : Hid (ls.length ≤ 30) := Lib.hid (by rw [← hl]; have := linesN_length ps h (sidesN c ps.length); have := sidesN_le c ps.length; unfold linesL; omega)
    have HE := Lib.hid he
    have a0 := HA.out.cell 0 _ rfl
    have a1 := HA.out.cell 1 _ rfl
    clear hl he
    go_wp2_with fail
    refine SD.out.mono ?_
    rintro e w1 ⟨u, rfl, ho, hb⟩
    have LS := Lib.hid ho.sl
    have B1 := Lib.hid (HBL.out.trans (hb.mono HBL.out.size))
    have HA1 := Lib.hid (HA.out.below hb HA.out.lt)
    obtain ⟨au, cu, hu⟩ := ho.len
    obtain ⟨N, hN⟩ : ∃ N, ls.length = N := ⟨_, rfl⟩
    rw [hN] at hu ES L30 OK
    subst hu
    have HN := Lib.hid hN
    clear ho hb a0 a1 hN
    go_wp2_with fail
    go_loopw [9, 10] (fun o i wr => ∃ n : Nat, n ≤ N ∧ i = .int .i64 n ∧ Kq w1 w1.heap.size (barsN ls ends n) o wr) (fun _ i _ => N - (intOf i).toNat)
    case atStart => exact ⟨0, by omega, rfl, Kq.start (Nat.le_refl _)⟩
    case round =>
      obtain ⟨n, hn, rfl, hk⟩ := hrel
      have HK := Lib.hid hk
      obtain ⟨aol, capl, el⟩ := hk.shape
      rw [barsN_length] at el
      subst el
      have BR := Lib.hid hk.below
      clear hk
      by_cases hlt : n < N
      · have o3 : (n : Int) < N := by omega
        have oN : (N : Int) ≤ 30 := by have := L30.out; omega
        obtain ⟨g, o, e1, row, -⟩ := (LS.out.below BR.out).row (by omega)
        subst e1
        obtain ⟨l, hl⟩ : ∃ l, ln ls n = l := ⟨_, rfl⟩
        have hlo := OK.out n hlt
        rw [hl] at hlo
        have HLO := Lib.hid hlo
        have LA := Lib.hid (row.lat (by have := HN.out; omega) hl)
        have EB : Hid (barsN ls ends (n + 1) = barsN ls ends n ++ [barP l (ends && decide (n = 0)) (ends && decide (n + 1 = N))]) := Lib.hid (by rw [barsN_step, hl, HN.out])
        have HAR := Lib.hid (HA1.out.below BR.out HA1.out.lt)
        clear row hl hlo
        go_upto_region 9 with fail
        refine wp_region_gen 13 [10, 11, 12] [] [0, 0, 0, 0, 0, 0, 0, 0, 0, 0, 1, 1, 1] (by kernel_rfl) (by kernel_rfl) (fun c a d v w h => by cases d <;> exact h) trivial (fun G w' => Vars wr.heap.size 31 zc2 [(10, 12, pCells l.a), (11, 13, pCells l.b)] G w') (fun G w w' h hb => h.stay hb) Vars.start ?_
        apply Exists.intro
        refine ⟨fun R hR hN => ?_, ?_, ?_⟩
        · have A0 := fun z => (LA.out R z).1.1
          have A1 := fun z => (LA.out R z).1.2.1
          have A2 := fun z => (LA.out R z).1.2.2.1
          have A3 := fun z => (LA.out R z).1.2.2.2
          simp only [quietL, takeA]
          repeat (go_big_quiet_step (fail))
          exact wpQuiet_nil rfl
        · intro i oo hi ho
          have hi' : i = 10 ∨ i = 11 ∨ i = 12 := by simpa using hi
          clear hi
          rcases hi' with rfl | rfl | rfl
          · cases ho
            intro G w' hG hGn hdep hb hR
            refine ⟨rfl, gives_none (by kernel_rfl) hGn ?_⟩
            unfold gives
            simp [go_sem]
            exact ⟨hb.alloc hb.size _, hR.alloc (i := 10) (s := 12) (cs := pCells l.a) rfl (by simp) (by intro y hy he; simp at hy; rcases hy with rfl | rfl <;> simp at he ⊢) hG hb.size⟩
          · cases ho
            intro G w' hG hGn hdep hb hR
            refine ⟨rfl, gives_none (by kernel_rfl) hGn ?_⟩
            unfold gives
            simp [go_sem]
            exact ⟨hb.alloc hb.size _, hR.alloc (i := 11) (s := 13) (cs := pCells l.b) rfl (by simp) (by intro y hy he; simp at hy; rcases hy with rfl | rfl <;> simp at he ⊢) hG hb.size⟩
          · cases ho
            intro G w' hG hGn hdep hb hR
            obtain ⟨v, hv⟩ := Option.ne_none_iff_exists'.1 (hdep 10 (by simp) (by kernel_rfl))
            obtain ⟨gx, rfl, hgx, hhx⟩ := hR.has (10, 12, pCells l.a) (by simp) v hv
            rw [if_pos hG] at hhx
            refine ⟨rfl, gives_one (k := 10) (by kernel_rfl) hGn (by omega) hv ?_⟩
            have cx0 := hhx.cell 0 _ rfl
            have cx1 := hhx.cell 1 _ rfl
            have fx := has_fro hhx
            unfold gives
            simp [go_sem, dstAt, Act.put, cx0, cx1, fx]
            exact ⟨(hb.setCell hgx _).setCell hgx _, hR.store (i := 10) (s := 12) (za := .int .i64 0) (zb := .int .i64 0) rfl rfl (by simp) (by intro y hy he; simp at hy; rcases hy with rfl | rfl <;> simp at he ⊢) hv hG⟩
        · intro G w3 hb3 hR hG hN
          obtain ⟨v0, e0⟩ := hG 10 (by simp)
          obtain ⟨v1, e1⟩ := hG 11 (by simp)
          obtain ⟨s0, t0⟩ := hG 12 (by simp)
          obtain ⟨g0, rfl, l0, k0⟩ := hR.has (10, 12, pCells l.a) (by simp) v0 e0
          obtain ⟨g1, rfl, l1, k1⟩ := hR.has (11, 13, pCells l.b) (by simp) v1 e1
          rw [if_neg (by simp [t0])] at k0
          rw [if_pos (hN 13 (by simp))] at k1
          have n01 : g0 ≠ g1 := fun e => hR.ne (10, 12, pCells l.a) (by simp) (11, 13, pCells l.b) (by simp) (by simp) _ e0 (by rw [e1, e])
          have nn : ∀ j, j < 10 → G j = none := fun j hj => hN j (by simp; omega)
          simp only [putV, dstAt, e0, e1, t0, nn 0 (by decide), nn 1 (by decide), nn 2 (by decide), nn 3 (by decide), nn 4 (by decide), nn 5 (by decide), nn 6 (by decide), nn 7 (by decide), nn 8 (by decide), nn 9 (by decide), List.drop_succ_cons, List.drop_zero, List.getElem?_cons_succ, List.getElem?_cons_zero, Option.bind_some]
          have c30 := k1.cell 0 _ rfl
          have c31 := k1.cell 1 _ rfl
          have f3 := has_fro k1
          obtain ⟨U, hU⟩ : ∃ V, (w3.setCell ⟨g1, 0, none⟩ (.int .i64 l.b.x)).setCell ⟨g1, 1, none⟩ (.int .i64 l.b.y) = V := ⟨_, rfl⟩
          have W0 : Hid (BarV wr g0 g1 l.a l.b U) := Lib.hid (by
            have bU : Below wr.heap.size wr U := by rw [← hU]; exact hb3.trans (below_two l1 _ _)
            refine ⟨?_, ?_, bU⟩
            · rw [← hU]; exact two_off k0 (Ne.symm n01) _ _
            · rw [← hU]; exact two_set k1 _ _)
          have L0 : Hid (wr.heap.size ≤ g0 ∧ wr.heap.size ≤ g1 ∧ g0 ≠ g1) := Lib.hid ⟨l0, l1, n01⟩
          have HU := Lib.hid hU
          clear k0 k1 hb3 hU l0 l1 hR hG hN nn e0 e1 t0 n01
          go_upto_region 10 with fail
          rw [HU.out]
          clear c30 c31 f3
          obtain ⟨e1, he1⟩ : ∃ b, (ends && decide (n = 0)) = b := ⟨_, rfl⟩
          obtain ⟨e2, he2⟩ : ∃ b, (ends && decide (n + 1 = N)) = b := ⟨_, rfl⟩
          rw [he1, he2] at EB
          have E2 := Lib.hid he2
          have E1 := Lib.hid he1
          clear he2 he1
          go_cut [48] (fun s wx => s = .bool e1 ∧ wx = U)
          case first =>
            have ka := HAR.out.below W0.out.below HAR.out.lt
            have a0 := ka.cell 0 _ rfl
            clear ka
            by_cases hcp : cp = 1
            · have EE : Hid (e1 = (!c && decide (n = 0))) := Lib.hid (by rw [← E1.out, ← HE.out, decide_eq_true hcp]; rfl)
              cases c
              case false =>
                go_wp2_with fail
                go_meet
                exact ⟨by rw [EE.out, int_zero]; simp, rfl⟩
              case true =>
                go_wp2_with fail
                go_meet
                exact ⟨by rw [EE.out]; rfl, rfl⟩
            · have EE : Hid (e1 = false) := Lib.hid (by rw [← E1.out, ← HE.out, decide_eq_false hcp]; rfl)
              have hcb : (cp == 1) = false := decide_eq_false hcp
              go_wp2_with fail
              go_meet
              exact ⟨by rw [EE.out], rfl⟩
          case rest =>
            obtain ⟨rfl, hx⟩ := hcut
            subst hx
            rename World => U
            have WF := HLO.out
            have CW := Lib.hid (fun w => r9_plus l.a l.way (-1) w (Wd.of WF.1) (Wd.of WF.2.2.1) (by decide))
            have CV := Lib.hid (fun w => r9_plus l.b l.way 1 w (Wd.of WF.2.1) (Wd.of WF.2.2.1) (by decide))
            clear WF HU
            go_upto_if 48 with fail
            go_cut [48] (fun _ wx => BarV wr g0 g1 (frP l e1) l.b wx)
            case first =>
              cases e1
              case false =>
                go_wp2_with fail
                go_meet
                exact W0.out
              case true =>
                go_upto_region 11 with fail
                refine wp_region_make0 6 (by kernel_rfl) (by kernel_rfl) (by kernel_rfl) ?_
                apply Exists.intro
                refine ⟨fun R hR hN => ?_, ?_⟩
                · have A0 := fun z => ((LA.out.later W0.out.below) R z).2.1
                  have A1 := fun z => ((LA.out.later W0.out.below) R z).2.2.1
                  have B0 := fun z => LaterR.read (R := R) W0.out.k8 0 _ rfl z
                  have B1 := fun z => LaterR.read (R := R) W0.out.k8 1 _ rfl z
                  simp only [List.take_succ_cons, List.take_zero]
                  repeat (go_big_quiet_step (fail))
                  exact wpQuiet_nil rfl
                · intro w4 hb4
                  simp only [List.drop_succ_cons, List.drop_zero]
                  go_wp2_with fail
                  refine (CW.out _).mono ?_
                  rintro e w5 ⟨rfl, hb5⟩
                  have W4 := (W0.out.later hb4).later hb5
                  have b0 := W4.k8.cell 0 _ rfl
                  have b1 := W4.k8.cell 1 _ rfl
                  have f0 := has_fro W4.k8
                  have W5 : Hid (BarV wr g0 g1 (frP l true) l.b ((w5.setCell ⟨g0, 0, none⟩ (.int .i64 (ad l.a l.way (-1)).x)).setCell ⟨g0, 1, none⟩ (.int .i64 (ad l.a l.way (-1)).y))) := Lib.hid (by
                    have := L0.out
                    refine ⟨two_set W4.k8 _ _, two_off W4.k9 (by omega) _ _, W4.below.trans (below_two (by omega) _ _)⟩)
                  clear W4 hb4 hb5
                  go_wp2
                  go_meet
                  exact W5.out
            case rest =>
              clear W0 CW
              have W0 := Lib.hid hcut
              clear hcut
              rename World => U
              go_upto_region 12 with fail
              obtain ⟨f, hf⟩ : ∃ f, f = frP l e1 := ⟨_, rfl⟩
              rw [← hf] at W0
              have HF := Lib.hid hf
              clear hf
              go_cut [69] (fun s wx => s = .bool e2 ∧ wx = U)
              case first =>
                have ka := HAR.out.below W0.out.below HAR.out.lt
                have a0 := ka.cell 0 _ rfl
                clear ka
                by_cases hcp : cp = 1
                · have EE : Hid (e2 = (!c && decide (n + 1 = N))) := Lib.hid (by rw [← E2.out, ← HE.out, decide_eq_true hcp]; rfl)
                  cases c
                  case false =>
                    go_wp2_with fail
                    go_meet
                    exact ⟨by rw [EE.out, int_last]; simp, rfl⟩
                  case true =>
                    go_wp2_with fail
                    go_meet
                    exact ⟨by rw [EE.out]; rfl, rfl⟩
                · have EE : Hid (e2 = false) := Lib.hid (by rw [← E2.out, ← HE.out, decide_eq_false hcp]; rfl)
                  have hcb : (cp == 1) = false := decide_eq_false hcp
                  go_wp2_with fail
                  go_meet
                  exact ⟨by rw [EE.out], rfl⟩
              case rest =>
                obtain ⟨rfl, hx⟩ := hcut
                subst hx
                rename World => U
                go_upto_if 69 with fail
                go_cut [69] (fun _ wx => BarV wr g0 g1 f (toP l e2) wx)
                case first =>
                  cases e2
                  case false =>
                    go_wp2_with fail
                    go_meet
                    exact W0.out
                  case true =>
                    go_upto_region 13 with fail
                    refine wp_region_make0 6 (by kernel_rfl) (by kernel_rfl) (by kernel_rfl) ?_
                    apply Exists.intro
                    refine ⟨fun R hR hN => ?_, ?_⟩
                    · have A0 := fun z => ((LA.out.later W0.out.below) R z).2.1
                      have A1 := fun z => ((LA.out.later W0.out.below) R z).2.2.1
                      have B0 := fun z => LaterR.read (R := R) W0.out.k9 0 _ rfl z
                      have B1 := fun z => LaterR.read (R := R) W0.out.k9 1 _ rfl z
                      simp only [List.take_succ_cons, List.take_zero]
                      repeat (go_big_quiet_step (fail))
                      exact wpQuiet_nil rfl
                    · intro w4 hb4
                      simp only [List.drop_succ_cons, List.drop_zero]
                      go_wp2_with fail
                      refine (CV.out _).mono ?_
                      rintro e w5 ⟨rfl, hb5⟩
                      have W4 := (W0.out.later hb4).later hb5
                      have b0 := W4.k9.cell 0 _ rfl
                      have b1 := W4.k9.cell 1 _ rfl
                      have f0 := has_fro W4.k9
                      have W5 : Hid (BarV wr g0 g1 f (toP l true) ((w5.setCell ⟨g1, 0, none⟩ (.int .i64 (ad l.b l.way 1).x)).setCell ⟨g1, 1, none⟩ (.int .i64 (ad l.b l.way 1).y))) := Lib.hid (by
                        have := L0.out
                        refine ⟨two_off W4.k8 (by omega) _ _, two_set W4.k9 _ _, W4.below.trans (below_two (by omega) _ _)⟩)
                      clear W4 hb4 hb5
                      go_wp2
                      go_meet
                      exact W5.out
                case rest =>
                  clear W0 CV
                  have W0 := Lib.hid hcut
                  clear hcut
                  rename World => U
                  obtain ⟨t, ht⟩ : ∃ t, t = toP l e2 := ⟨_, rfl⟩
                  rw [← ht] at W0
                  have HT := Lib.hid ht
                  clear ht
                  obtain ⟨O, hO⟩ : ∃ O, O = l.off := ⟨_, rfl⟩
                  have wf : Wd f := by rw [HF.out]; exact Wd.fr HLO.out _
                  have wt : Wd t := by rw [HT.out]; exact Wd.to HLO.out _
                  have wo : Wd O := by rw [hO]; exact Wd.of HLO.out.2.2.2
                  have ES' : Hid (barP l e1 e2 = (true, shapeL [ad f O 1, ad t O 1, ad t O (-1), ad f O (-1)])) := Lib.hid (by unfold barP; rw [← HF.out, ← HT.out, ← hO])
                  have C1 := Lib.hid (fun k w hk => r9_plus f O k w wf wo hk)
                  have C2 := Lib.hid (fun k w hk => r9_plus t O k w wt wo hk)
                  have LO : Hid (∀ (R : World → Prop) (z : LaterR U R), z.to.cell? ⟨g, o + n * 8 + 6, none⟩ = some (.int .i64 O.x) ∧ z.to.cell? ⟨g, o + n * 8 + 7, none⟩ = some (.int .i64 O.y)) := Lib.hid (fun R z => by rw [hO]; exact ((LA.out.later W0.out.below) R z).2.2.2)
                  have SU : Hid (w1.heap.size ≤ U.heap.size) := Lib.hid (by have := BR.out.size; have := W0.out.below.size; omega)
                  have BU : Hid (Below w1.heap.size w1 U) := Lib.hid (BR.out.trans (W0.out.below.mono BR.out.size))
                  have KU := Lib.hid (HK.out.later W0.out.below)
                  clear hO wf wt wo
                  go_upto_region 14 with fail
                  refine wp_region_gen 32 [29, 30, 31] [] [0, 0, 0, 0, 0, 0, 0, 0, 0, 0, 0, 0, 0, 0, 0, 0, 0, 0, 0, 0, 0, 0, 0, 0, 0, 0, 0, 0, 0, 1, 1, 1] (by kernel_rfl) (by kernel_rfl) (fun c a d v w h => by cases d <;> exact h) trivial (fun G w' => Lit1 U U.heap.size 4 (pCells4 (ad f O 1) (ad t O 1) (ad t O (-1)) (ad f O (-1))) (shapeL [ad f O 1, ad t O 1, ad t O (-1), ad f O (-1)]) 29 30 31 G w') (fun G w w' h hb => h.stay hb) Lit1.start ?_
                  apply Exists.intro
                  refine ⟨fun R hR hN => ?_, ?_, ?_⟩
                  · have A6 := fun z => (LO.out R z).1
                    have A7 := fun z => (LO.out R z).2
                    have B0 := fun z => LaterR.read (R := R) W0.out.k8 0 _ rfl z
                    have B1 := fun z => LaterR.read (R := R) W0.out.k8 1 _ rfl z
                    have D0 := fun z => LaterR.read (R := R) W0.out.k9 0 _ rfl z
                    have D1 := fun z => LaterR.read (R := R) W0.out.k9 1 _ rfl z
                    simp only [quietL, takeA]
                    repeat (go_big_quiet_step (first | (go_at_call_of 31 f; exact LaterR.calls hR (C1.out _ _ (by decide))) | (go_at_call_of 31 t; exact LaterR.calls hR (C2.out _ _ (by decide)))))
                    exact wpQuiet_nil rfl
                  · intro i oo hi ho
                    have hi' : i = 29 ∨ i = 30 ∨ i = 31 := by simpa using hi
                    clear hi
                    rcases hi' with rfl | rfl | rfl
                    · cases ho
                      intro G w' hG hGn hdep hb hR
                      refine ⟨rfl, gives_none (by kernel_rfl) hGn ?_⟩
                      unfold gives
                      simp [go_sem]
                      exact ⟨hb.alloc hb.size _, hR.build (by decide) (by decide) hb.size⟩
                    · cases ho
                      intro G w' hG hGn hdep hb hR
                      obtain ⟨v17, hv17⟩ := Option.ne_none_iff_exists'.1 (hdep 29 (by simp) (by kernel_rfl))
                      obtain ⟨g, rfl, hg, hlt, hk⟩ := hR.lit v17 hv17
                      refine ⟨rfl, gives_one (k := 29) (by kernel_rfl) hGn (by omega) hv17 ?_⟩
                      unfold gives
                      simp [go_sem]
                      refine (r9_shape ((pown_lit (n := 4) (hk hG) hg (pls_four (ad f O 1) (ad t O 1) (ad t O (-1)) (ad f O (-1))) rfl (by decide)).sl (by simp)) (by simp)).mono ?_
                      rintro e w'' ⟨l, rfl, hol, hbb⟩
                      exact ⟨_, rfl, hb.trans (hbb.mono hb.size), hR.poly (by decide) (by decide) hG hol (grown_weak (r := some g) (grownBy_below hbb (Nat.le_refl _))) hb.size⟩
                    · cases ho
                      intro G w' hG hGn hdep hb hR
                      obtain ⟨v18, hv18⟩ := Option.ne_none_iff_exists'.1 (hdep 30 (by simp) (by kernel_rfl))
                      obtain ⟨l', rfl, _⟩ := hR.po v18 hv18
                      refine ⟨rfl, gives_one (k := 30) (by kernel_rfl) hGn (by omega) hv18 ?_⟩
                      unfold gives
                      simp [go_sem]
                      exact ⟨hb.alloc hb.size _, hR.list (by decide) (by decide) hv18 hb (Nat.le_refl _) hb.size (by rw [shapeL_length]; simp)⟩
                  · intro G w2 hb hR hG hN
                    obtain ⟨v17, e17⟩ := hG 29 (by simp)
                    obtain ⟨v18, e18⟩ := hG 30 (by simp)
                    obtain ⟨v19, e19⟩ := hG 31 (by simp)
                    have hq := hR.li _ e19
                    obtain ⟨ax, cx, rfl⟩ := hq.shape
                    have nn : ∀ j, j < 29 → G j = none := fun j hj => hN j (by simp; omega)
                    simp only [putV, dstAt, e17, e18, e19, nn 0 (by decide), nn 1 (by decide), nn 2 (by decide), nn 3 (by decide), nn 4 (by decide), nn 5 (by decide), nn 6 (by decide), nn 7 (by decide), nn 8 (by decide), nn 9 (by decide), nn 10 (by decide), nn 11 (by decide), nn 12 (by decide), nn 13 (by decide), nn 14 (by decide), nn 15 (by decide), nn 16 (by decide), nn 17 (by decide), nn 18 (by decide), nn 19 (by decide), nn 20 (by decide), nn 21 (by decide), nn 22 (by decide), nn 23 (by decide), nn 24 (by decide), nn 25 (by decide), nn 26 (by decide), nn 27 (by decide), nn 28 (by decide), List.drop_succ_cons, List.drop_zero, List.getElem?_cons_succ, List.getElem?_cons_zero, Option.bind_some]
                    have Q1 := Lib.hid hq
                    have K1 := Lib.hid (KU.out.later hb)
                    have DD : Hid (∀ k, Value.ownBlock (.slice aol n capl) = some k → k < U.heap.size) := Lib.hid (fun k hk => by have := (HK.out.young k hk).1; have := W0.out.below.size; omega)
                    have L1 : Hid (n + 1 ≤ 100) := Lib.hid (by have := L30.out; omega)
                    have NL : Hid ((barsN ls ends n).length = n) := Lib.hid (barsN_length _ _ _)
                    clear hb hR hG hN nn e17 e18 e19 hq
                    go_wp2_with (at_builtin; refine wpList_append_q rfl _ _ rfl aol n capl NL.out rfl ax 1 cx rfl rfl K1.out Q1.out DD.out SU.out L1.out ?_)
                    intro a' c' w7 hk7
                    have K7 : Hid (Kq w1 w1.heap.size (barsN ls ends (n + 1)) (.slice a' (n + 1) c') w7) := Lib.hid (by rw [EB.out, ES'.out]; exact hk7)
                    clear hk7
                    go_wp2
                    go_roundw
                    case rel => exact ⟨n + 1, by omega, by go_num, K7.out⟩
                    case measure => simp [intOf]; omega
      · obtain rfl : n = N := by omega
        have o3 : ¬ (n : Int) < n := by omega
        obtain ⟨Lb, hLb⟩ : ∃ L, barsN ls ends n = L := ⟨_, rfl⟩
        have BL : Hid (Lb.length = n) := Lib.hid (by rw [← hLb]; exact barsN_length _ _ _)
        rw [hLb] at HK
        rw [hLb] at ES
        clear hLb
        go_wp2_with fail
        have K0 : Hid (Kq w1 w1.heap.size (Lb ++ cornN ls (1 - 1)) (.slice aol n capl) wr) := Lib.hid (by rw [show Lb ++ cornN ls (1 - 1) = Lb from List.append_nil Lb]; exact HK.out)
        have oN : (n : Int) ≤ 30 := by have := L30.out; omega
        go_loopw [9, 13] (fun o i wr => ∃ m : Nat, 1 ≤ m ∧ (m ≤ n ∨ m = 1) ∧ i = .int .i64 m ∧ Kq w1 w1.heap.size (Lb ++ cornN ls (m - 1)) o wr) (fun _ i _ => n - (intOf i).toNat)
        case atStart => exact ⟨1, by omega, by omega, rfl, K0.out⟩
        case round =>
          clear K0
          obtain ⟨m, h1, hm, rfl, hk⟩ := hrel
          rename World => vr
          obtain ⟨q, hq⟩ : ∃ q, m - 1 = q := ⟨_, rfl⟩
          rw [hq] at hk
          have hmq : (m : Int) - 1 = q := by omega
          have HMN := Lib.hid hq
          obtain ⟨aol, capl, el⟩ := hk.shape
          obtain ⟨K, hK⟩ : ∃ K, (Lb ++ cornN ls q).length = K := ⟨_, rfl⟩
          have hKn : K = n + 2 * q := by rw [← hK, List.length_append, cornN_length, BL.out]
          rw [hK] at el
          subst el
          have HK2 := Lib.hid hk
          have BR2 := Lib.hid hk.below
          have SR : Hid (w1.heap.size ≤ vr.heap.size) := Lib.hid BR2.out.size
          have HKK := Lib.hid hK
          have HKN := Lib.hid hKn
          have HAV := Lib.hid (HA1.out.below BR2.out HA1.out.lt)
          clear hk hq hK hKn
          by_cases hlt : m < n
          · have o4 : (m : Int) < n := by omega
            have o5 : (q : Int) < n := by omega
            obtain ⟨g, o, e1, row, -⟩ := (LS.out.below BR2.out).row (by omega)
            subst e1
            obtain ⟨x, hx⟩ : ∃ l, ln ls q = l := ⟨_, rfl⟩
            obtain ⟨y, hy⟩ : ∃ l, ln ls m = l := ⟨_, rfl⟩
            have hxo := OK.out q (by omega)
            have hyo := OK.out m (by omega)
            rw [hx] at hxo
            rw [hy] at hyo
            have PX := Lib.hid (row.lat (by have := HN.out; omega) hx)
            have PY := Lib.hid (row.lat (by have := HN.out; omega) hy)
            have EC : Hid (Lb ++ cornN ls (m + 1 - 1) = Lb ++ cornN ls q ++ jointL x y) := Lib.hid (by have := HMN.out; rw [show m + 1 - 1 = q + 1 by omega, cornN_step, hx, show q + 1 = m by omega, hy, List.append_assoc])
            have CC := Lib.hid (fun w => r9_joint x y w hxo hyo)
            clear row hx hy hxo hyo
            go_upto_region 18 with fail
            refine wp_region_gen 11 [10] [] [0, 0, 0, 0, 0, 0, 0, 0, 0, 0, 1] (by kernel_rfl) (by kernel_rfl) (fun c a d v w h => by cases d <;> exact h) trivial (fun G w' => ∀ v, G 10 = some v → Kq vr vr.heap.size (jointL x y) v w') (fun G w w' h hb v hv => (h v hv).later hb) (fun v hv => by cases hv) ?_
            apply Exists.intro
            refine ⟨fun R hR hN => ?_, ?_, ?_⟩
            · have A0 := fun z => (PX.out R z).1.1
              have A1 := fun z => (PX.out R z).1.2.1
              have A2 := fun z => (PX.out R z).1.2.2.1
              have A3 := fun z => (PX.out R z).1.2.2.2
              have A4 := fun z => (PX.out R z).2.1
              have A5 := fun z => (PX.out R z).2.2.1
              have A6 := fun z => (PX.out R z).2.2.2.1
              have A7 := fun z => (PX.out R z).2.2.2.2
              have B0 := fun z => (PY.out R z).1.1
              have B1 := fun z => (PY.out R z).1.2.1
              have B2 := fun z => (PY.out R z).1.2.2.1
              have B3 := fun z => (PY.out R z).1.2.2.2
              have B4 := fun z => (PY.out R z).2.1
              have B5 := fun z => (PY.out R z).2.2.1
              have B6 := fun z => (PY.out R z).2.2.2.1
              have B7 := fun z => (PY.out R z).2.2.2.2
              simp only [quietL, takeA]
              repeat (go_big_quiet_step (fail))
              exact wpQuiet_nil rfl
            · intro i oo hi ho
              obtain rfl : i = 10 := by simpa using hi
              cases ho
              intro G w' hG hGn hdep hb hR
              refine ⟨rfl, gives_none (by kernel_rfl) hGn ?_⟩
              unfold gives
              simp [go_sem]
              refine (CC.out w').mono ?_
              rintro e w'' ⟨v, rfl, hq⟩
              exact ⟨_, rfl, hb.trans (hq.below.mono hb.size), fun v' hv => by rw [updV_eq] at hv; cases hv; exact hq.on hb hb.size (Nat.le_refl _)⟩
            · intro G w2 hb hR hG hN
              obtain ⟨v10, e10⟩ := hG 10 (by simp)
              have hq := hR _ e10
              obtain ⟨ax, cx, rfl⟩ := hq.shape
              have nn : ∀ j, j < 10 → G j = none := fun j hj => hN j (by simp; omega)
              simp only [putV, dstAt, e10, nn 0 (by decide), nn 1 (by decide), nn 2 (by decide), nn 3 (by decide), nn 4 (by decide), nn 5 (by decide), nn 6 (by decide), nn 7 (by decide), nn 8 (by decide), nn 9 (by decide), List.drop_succ_cons, List.drop_zero, List.getElem?_cons_succ, List.getElem?_cons_zero, Option.bind_some]
              have Q1 := Lib.hid hq
              have K1 := Lib.hid (HK2.out.later hb)
              have DD : Hid (∀ k, Value.ownBlock (.slice aol K capl) = some k → k < vr.heap.size) := Lib.hid (fun k hk => (HK2.out.young k hk).1)
              have L1 : Hid (K + 2 ≤ 100) := Lib.hid (by have := HKN.out; have := HMN.out; omega)
              clear hb hR hG hN nn e10 hq
              go_wp2_with (at_builtin; refine wpList_append_q rfl _ _ rfl aol K capl HKK.out rfl ax 2 cx rfl rfl K1.out Q1.out DD.out SR.out L1.out ?_)
              intro a' c' w7 hk7
              have K7 : Hid (Kq w1 w1.heap.size (Lb ++ cornN ls (m + 1 - 1)) (.slice a' (K + 2) c') w7) := Lib.hid (by rw [EC.out]; first | exact hk7 | (rw [List.append_assoc]; exact hk7))
              clear hk7
              go_wp2
              go_roundw
              case rel => exact ⟨m + 1, by omega, by omega, by go_num, K7.out⟩
              case measure => simp [intOf]; omega
          · have o4 : ¬ (m : Int) < n := by omega
            have EN : Hid (cornN ls q = cornN ls (ls.length - 1)) := Lib.hid (by have := HMN.out; rw [HN.out]; congr 1; omega)
            have a0 := HAV.out.cell 0 _ rfl
            by_cases hc : c = true ∧ 2 ≤ n
            · obtain ⟨rfl, h2⟩ := hc
              have o5 : (2 : Int) ≤ n := by omega
              have o5' : ¬ (n : Int) < 2 := by omega
              obtain ⟨M, hM⟩ : ∃ M, n - 1 = M := ⟨_, rfl⟩
              have hMN : (n : Int) - 1 = M := by omega
              have o6 : (M : Int) < n := by omega
              have o7 : (0 : Int) < n := by omega
              obtain ⟨g, o, e1, row, -⟩ := (LS.out.below BR2.out).row (by omega)
              subst e1
              obtain ⟨x, hx⟩ : ∃ l, ln ls M = l := ⟨_, rfl⟩
              obtain ⟨y, hy⟩ : ∃ l, ln ls 0 = l := ⟨_, rfl⟩
              have hxo := OK.out M (by omega)
              have hyo := OK.out 0 (by omega)
              rw [hx] at hxo
              rw [hy] at hyo
              have PX := Lib.hid (row.lat (by have := HN.out; omega) hx)
              have py := row.lat (by have := HN.out; omega) hy
              simp only [Lat, Nat.zero_mul, Nat.add_zero] at py
              have PY := Lib.hid py
              have EC : Hid (cornL true ls = cornN ls q ++ jointL x y) := Lib.hid (by unfold cornL; rw [lastL_yes ⟨rfl, by have := HN.out; omega⟩, ← EN.out, HN.out, hM, hx, hy])
              have CC := Lib.hid (fun w => r9_joint x y w hxo hyo)
              clear row hx hy hxo hyo hM py
              go_upto_region 20 with fail
              clear a0
              refine wp_region_gen 11 [10] [] [0, 0, 0, 0, 0, 0, 0, 0, 0, 0, 1] (by kernel_rfl) (by kernel_rfl) (fun c a d v w h => by cases d <;> exact h) trivial (fun G w' => ∀ v, G 10 = some v → Kq vr vr.heap.size (jointL x y) v w') (fun G w w' h hb v hv => (h v hv).later hb) (fun v hv => by cases hv) ?_
              apply Exists.intro
              refine ⟨fun R hR hN => ?_, ?_, ?_⟩
              · have A0 := fun z => (PX.out R z).1.1
                have A1 := fun z => (PX.out R z).1.2.1
                have A2 := fun z => (PX.out R z).1.2.2.1
                have A3 := fun z => (PX.out R z).1.2.2.2
                have A4 := fun z => (PX.out R z).2.1
                have A5 := fun z => (PX.out R z).2.2.1
                have A6 := fun z => (PX.out R z).2.2.2.1
                have A7 := fun z => (PX.out R z).2.2.2.2
                have B0 := fun z => (PY.out R z).1.1
                have B1 := fun z => (PY.out R z).1.2.1
                have B2 := fun z => (PY.out R z).1.2.2.1
                have B3 := fun z => (PY.out R z).1.2.2.2
                have B4 := fun z => (PY.out R z).2.1
                have B5 := fun z => (PY.out R z).2.2.1
                have B6 := fun z => (PY.out R z).2.2.2.1
                have B7 := fun z => (PY.out R z).2.2.2.2
                simp only [quietL, takeA]
                repeat (go_big_quiet_step (fail))
                exact wpQuiet_nil rfl
              · intro i oo hi ho
                obtain rfl : i = 10 := by simpa using hi
                cases ho
                intro G w' hG hGn hdep hb hR
                refine ⟨rfl, gives_none (by kernel_rfl) hGn ?_⟩
                unfold gives
                simp [go_sem]
                refine (CC.out w').mono ?_
                rintro e w'' ⟨v, rfl, hq⟩
                exact ⟨_, rfl, hb.trans (hq.below.mono hb.size), fun v' hv => by rw [updV_eq] at hv; cases hv; exact hq.on hb hb.size (Nat.le_refl _)⟩
              · intro G w2 hb hR hG hN
                obtain ⟨v10, e10⟩ := hG 10 (by simp)
                have hq := hR _ e10
                obtain ⟨ax, cx, rfl⟩ := hq.shape
                have nn : ∀ j, j < 10 → G j = none := fun j hj => hN j (by simp; omega)
                simp only [putV, dstAt, e10, nn 0 (by decide), nn 1 (by decide), nn 2 (by decide), nn 3 (by decide), nn 4 (by decide), nn 5 (by decide), nn 6 (by decide), nn 7 (by decide), nn 8 (by decide), nn 9 (by decide), List.drop_succ_cons, List.drop_zero, List.getElem?_cons_succ, List.getElem?_cons_zero, Option.bind_some]
                have Q1 := Lib.hid hq
                have K1 := Lib.hid (HK2.out.later hb)
                have DD : Hid (∀ k, Value.ownBlock (.slice aol K capl) = some k → k < vr.heap.size) := Lib.hid (fun k hk => (HK2.out.young k hk).1)
                have L1 : Hid (K + 2 ≤ 100) := Lib.hid (by have := HKN.out; have := HMN.out; omega)
                clear hb hR hG hN nn e10 hq
                go_wp2_with (at_builtin; refine wpList_append_q rfl _ _ rfl aol K capl HKK.out rfl ax 2 cx rfl rfl K1.out Q1.out DD.out SR.out L1.out ?_)
                intro a' c' w7 hk7
                have K7 : Hid (Kq w w.heap.size (strokeL true ps wd cp) (.slice a' (K + 2) c') w7) := Lib.hid (by
                  rw [ES.out, EC.out]
                  exact hk7.on B1.out B1.out.size (Nat.le_refl _))
                clear hk7
                go_wp2
                go_ret
                exact ⟨_, rfl, K7.out⟩
            · have EC : Hid (cornL c ls = cornN ls q) := Lib.hid (by unfold cornL; rw [lastL_no (by rw [HN.out]; exact hc), List.append_nil, EN.out])
              have R : Hid (GivesK w (strokeL c ps wd cp) (.returned (.slice aol K capl)) vr) := Lib.hid ⟨_, rfl, by
                rw [ES.out, EC.out]
                exact HK2.out.on B1.out B1.out.size (Nat.le_refl _)⟩
              cases c
              case false =>
                go_wp2
                go_ret
                exact R.out
              case true =>
                have h2 : ¬ 2 ≤ n := fun h => hc ⟨rfl, h⟩
                have o5 : ¬ (2 : Int) ≤ n := by omega
                clear hc
                go_wp2
                go_ret
                exact R.out
end Go.Proofs.Ytmdokohdafeilaa

namespace Go.Proofs.Ytmdokohdafeilaa
open Go.RowKit
open M

set_option maxHeartbeats 1000000 in
theorem r8_points {v u : Value} {ps qs : List Pt} {w : World} (h : Psl w v ps) (h2 : Psl w u qs) :
    Calls Try.prog 14 #[v, u] w fun e w' => e = .returned (.bool (decide (ps = qs))) ∧ Below w.heap.size w w' := by
  obtain ⟨ao, cap, rfl, hf, hr⟩ := h
  obtain ⟨ao2, cap2, rfl, hf2, hr2⟩ := h2
  by_cases hl : ps.length = qs.length
  · obtain ⟨N, hN⟩ : ∃ N, ps.length = N := ⟨_, rfl⟩
    rw [← hl, hN]
    rw [hN] at hf hr hl
    rw [← hl] at hr2
    have HR := Lib.hid hr
    have HR2 := Lib.hid hr2
    have HL := Lib.hid hl
    have HN := Lib.hid hN
    clear hl hN hr hr2 hf2
    go_enter Try.func14, Try.ntmps14
    go_wp2
    go_loopw [5] (fun i wr => ∃ n : Nat, n ≤ N ∧ i = .int .i64 n ∧ (∀ j, j < n → pt ps j = pt qs j) ∧ Drew w wr) (fun i _ => N - (intOf i).toNat)
    case atStart => exact ⟨0, by omega, rfl, fun j hj => by omega, Drew.refl _⟩
    case round =>
      obtain ⟨n, hn, rfl, hst, hd⟩ := hrel
      have HST := Lib.hid hst
      have HD := Lib.hid hd
      clear hst hd
      by_cases hlt : n < N
      · obtain ⟨g, o, rfl, hr⟩ := HR.out (by omega)
        obtain ⟨g2, o2, rfl, hr2⟩ := HR2.out (by omega)
        have hr := hr.block (HD.out.block _)
        have hr2 := hr2.block (HD.out.block _)
        have c0 := hr.c0 n (by have := HN.out; omega)
        have c1 := hr.c1 n (by have := HN.out; omega)
        have d0 := hr2.c0 n (by have := HL.out; omega)
        have d1 := hr2.c1 n (by have := HL.out; omega)
        obtain ⟨p, hp⟩ : ∃ p, pt ps n = p := ⟨_, rfl⟩
        obtain ⟨q, hq⟩ : ∃ q, pt qs n = q := ⟨_, rfl⟩
        rw [hp] at c0 c1
        rw [hq] at d0 d1
        have o1 : (n : Int) < N := by omega
        have HP := Lib.hid hp
        have HQ := Lib.hid hq
        clear hr hr2 hp hq
        obtain ⟨x, y⟩ := p
        obtain ⟨x2, y2⟩ := q
        simp only at c0 c1 d0 d1
        by_cases ex : x = x2
        · by_cases ey : y = y2
          · subst ex ey
            go_wp2
            go_quiet (fail)
            go_wp2
            go_roundw
            case rel => exact ⟨n + 1, by omega, by go_num, fun j hj => by by_cases e : j = n; (subst e; rw [HP.out, HQ.out]); exact HST.out j (by omega), HD.out.on _⟩
            case measure => simp [intOf]; omega
          · have E := Lib.hid (decide_eq_false (pts_ne (n := n) (ps := ps) (qs := qs) (by rw [HP.out, HQ.out]; simp [ey])))
            subst ex
            go_wp2
            go_quiet (fail)
            go_wp2
            go_ret
            exact ⟨by rw [E.out]; rfl, (HD.out.on _).below _⟩
        · have E := Lib.hid (decide_eq_false (pts_ne (n := n) (ps := ps) (qs := qs) (by rw [HP.out, HQ.out]; simp [ex])))
          go_wp2
          go_quiet (fail)
          go_wp2
          go_ret
          exact ⟨by rw [E.out]; rfl, (HD.out.on _).below _⟩
      · obtain rfl : n = N := by omega
        have o1 : (n : Int) ≤ n := by omega
        go_wp2
        go_ret
        exact ⟨by rw [decide_eq_true (pts_ext (by rw [HN.out]; exact HL.out) (by rw [HN.out]; exact HST.out))]; rfl, HD.out.below _⟩
  · rw [decide_eq_false (fun e : ps = qs => hl (by rw [e]))]
    have o1 : ¬ (ps.length : Int) = qs.length := by omega
    clear hr hr2
    go_enter Try.func14, Try.ntmps14
    go_wp2
    go_ret
    exact ⟨rfl, Below.refl _ _⟩

theorem okLen_cases (N : Nat) : (¬ 4 ≤ N ∧ okLen N = false) ∨ (4 ≤ N ∧ ¬ N ≤ 97 ∧ okLen N = false) ∨ (4 ≤ N ∧ N ≤ 97 ∧ ¬ N % 3 = 1 ∧ okLen N = false) ∨ (4 ≤ N ∧ N ≤ 97 ∧ N % 3 = 1 ∧ okLen N = true) := by
  by_cases h0 : 4 ≤ N
  · by_cases h1 : N ≤ 97
    · by_cases h2 : N % 3 = 1
      · exact Or.inr (Or.inr (Or.inr ⟨h0, h1, h2, by simp [okLen, h0, h1, h2]⟩))
      · exact Or.inr (Or.inr (Or.inl ⟨h0, h1, h2, by simp [okLen, h2]⟩))
    · exact Or.inr (Or.inl ⟨h0, h1, by simp [okLen, h1]⟩)
  · exact Or.inl ⟨h0, by simp [okLen, h0]⟩
end Go.Proofs.Ytmdokohdafeilaa

namespace Go.Proofs.Ytmdokohdafeilaa
open Go Go.RowKit
open M

set_option maxRecDepth 100000 in
set_option maxHeartbeats 2000000 in
theorem r8_polys {v u : Value} {ys zs : List Po} {w : World} (h : Ysl w v ys) (h2 : Ysl w u zs) (hl : ys.length = zs.length) (he : ∀ j, j < ys.length → bareY (po ys j) = bareY (po zs j)) :
    Calls Try.prog 18 #[v, u] w fun e w' => e = .returned (.bool true) ∧ Below w.heap.size w w' := by
  have hs := h
  have hs2 := h2
  obtain ⟨ao, cap, rfl, hf, _⟩ := h
  obtain ⟨ao2, cap2, rfl, hf2, _⟩ := h2
  obtain ⟨N, hN⟩ : ∃ N, ys.length = N := ⟨_, rfl⟩
  rw [hN] at hl he hf hs
  rw [← hl] at hs2 hf2 ⊢
  rw [hN]
  have HS := Lib.hid hs
  have HS2 := Lib.hid hs2
  have HE := Lib.hid he
  have HN := Lib.hid hN
  have HL := Lib.hid hl
  clear hs hs2 he hN hl hf2
  go_enter Try.func18, Try.ntmps18
  go_wp2
  go_loopw [5] (fun i wr => ∃ n : Nat, n ≤ N ∧ i = .int .i64 n ∧ Below w.heap.size w wr) (fun i _ => N - (intOf i).toNat)
  case atStart => exact ⟨0, by omega, rfl, Below.refl _ _⟩
  case round =>
    obtain ⟨n, hn, rfl, hb⟩ := hrel
    by_cases hlt : n < N
    · obtain ⟨g, o, e1, r, l1⟩ := (HS.out.below hb).row (by omega)
      obtain ⟨g2, o2, e2, r2, l2⟩ := (HS2.out.below hb).row (by omega)
      subst e1 e2
      have b0 := HE.out n hlt
      have sa := r.sl n (by omega)
      have sb := r2.sl n (by omega)
      have c0 := r.c0 n (by omega)
      have c1 := r.c1 n (by omega)
      have d0 := r2.c0 n (by omega)
      have d1 := r2.c1 n (by omega)
      obtain ⟨y, hy⟩ : ∃ y, po ys n = y := ⟨_, rfl⟩
      obtain ⟨z, hz⟩ : ∃ y, po zs n = y := ⟨_, rfl⟩
      rw [hy] at b0 sa c0 c1
      rw [hz] at b0 sb d0 d1
      obtain ⟨c, vy, ps⟩ := y
      obtain ⟨c', vz, qs⟩ := z
      simp only [bareY, Prod.mk.injEq] at b0
      obtain ⟨rfl, rfl⟩ := b0
      simp only at sa sb c0 c1 d0 d1
      have y0 := fun z : Later wr => (z.below.cell (p := ⟨g, _, _⟩) (World.block_lt_of_cell? wr _ c0)).trans c0
      have y1 := fun z : Later wr => (z.below.cell (p := ⟨g, _, _⟩) (World.block_lt_of_cell? wr _ c1)).trans c1
      have z0 := fun z : Later wr => (z.below.cell (p := ⟨g2, _, _⟩) (World.block_lt_of_cell? wr _ d0)).trans d0
      have z1 := fun z : Later wr => (z.below.cell (p := ⟨g2, _, _⟩) (World.block_lt_of_cell? wr _ d1)).trans d1
      have PT : Hid (∀ z : Later wr, Calls Try.prog 14 #[vy, vz] z.to fun e w' => e = .returned (.bool true) ∧ Below z.to.heap.size z.to w') := Lib.hid (fun z => by have := r8_points (sa.later z) (sb.later z); rw [decide_eq_true rfl] at this; exact this)
      obtain ⟨aoy, ny, capy, evy⟩ : ∃ ao n cap, vy = .slice ao n cap := by obtain ⟨ao, cap, hv, _⟩ := sa; exact ⟨_, _, _, hv⟩
      obtain ⟨aoz, nz, capz, evz⟩ : ∃ ao n cap, vz = .slice ao n cap := by obtain ⟨ao, cap, hv, _⟩ := sb; exact ⟨_, _, _, hv⟩
      subst evy evz
      have HBB := Lib.hid hb
      have o3 : (n : Int) < N := by omega
      have o4 : n < N := hlt
      clear r r2 l1 l2 hy hz hb sa sb c0 c1 d0 d1
      go_upto_region 6 with fail
      refine wp_region_class (C := fun w' => ∃ z : Later wr, w' = z.to) (by kernel_rfl) (by kernel_rfl) ⟨⟨_, below_drew (Below.refl _ _)⟩, rfl⟩ ?_
      repeat (go_big_quiet_step (first | (go_at_call 14; exact Later.calls (PT.out _))))
      refine wpQuiet_nil ?_
      rintro _ ⟨z, rfl⟩
      have BZ := Lib.hid (HBB.out.trans (z.below.mono HBB.out.size))
      clear y0 y1 z0 z1
      go_wp2
      go_roundw
      case rel => exact ⟨n + 1, by omega, by go_num, BZ.out⟩
      case measure => simp [intOf]; omega
    · obtain rfl : n = N := by omega
      have o3 : ¬ (n : Int) < n := by omega
      have HBB := Lib.hid hb
      clear hb
      go_wp2
      go_ret
      exact ⟨rfl, HBB.out⟩

end Go.Proofs.Ytmdokohdafeilaa

namespace Go.Proofs.Ytmdokohdafeilaa
open Go Go.RowKit
open M

theorem bares_len {ys zs : List Po} (h : ys.map bareY = zs.map bareY) : ys.length = zs.length := by simpa using congrArg List.length h
theorem bares_at {ys zs : List Po} (h : ys.map bareY = zs.map bareY) : ∀ j, j < ys.length → bareY (po ys j) = bareY (po zs j) := by
  intro j hj
  have hl := bares_len h
  have := congrArg (fun l => l[j]?) h
  simp [hj, show j < zs.length by omega] at this
  unfold po
  rw [List.getD_eq_getElem?_getD, List.getD_eq_getElem?_getD, List.getElem?_eq_getElem hj, List.getElem?_eq_getElem (by omega)]
  exact this
theorem bares_one {zs : List Po} {c : Bool} {ps : List Pt} (h : zs.map bareY = [(c, ps)]) : ∃ l, zs = [⟨c, l, ps⟩] := by
  match zs, h with
  | [⟨c', l, ps'⟩], h =>
    simp [bareY] at h
    obtain ⟨rfl, rfl⟩ := h
    exact ⟨l, rfl⟩

def kn10 : List Pt := [⟨0, 0⟩, ⟨655360, 0⟩]
theorem kn10_sa : sa kn10 0 = ⟨0, 0⟩ := by decide +kernel
theorem kn10_sb : sb kn10 0 = ⟨655360, 0⟩ := by decide +kernel
theorem kn10_side : sideL kn10 0 = 655360 := by
  unfold sideL longP
  rw [kn10_sa, kn10_sb]
  unfold hyp
  rw [show (wide ((655360 : Int) - 0) * wide (655360 - 0) + wide (0 - 0) * wide (0 - 0)).toNat = 429496729600 by decide +kernel, isq_eq (r := 655360) (by decide) (by decide)]
  rfl
theorem kn10_len : lengthL false kn10 = 655360 := by
  show add (lenN kn10 0) (sideL kn10 0) = 655360
  rw [kn10_side, lenN_zero]
  decide +kernel
theorem kn10_half : partP 0 32768 false kn10 = [⟨0, 0⟩, ⟨327680, 0⟩] := by
  unfold partP
  rw [kn10_len, show mul 655360 0 = 0 by decide +kernel, show mul 655360 32768 = 327680 by decide +kernel, cutL_yes (by decide +kernel), show hold 0 = 0 by decide +kernel, show hold 327680 = 327680 by decide +kernel]
  show cutN kn10 0 327680 (0 + 1) = _
  rw [cutN_first (by unfold hit; rw [kn10_side, lenN_zero]; decide) rfl]
  unfold fromP
  rw [kn10_side, lenN_zero, kn10_sa, kn10_sb]
  decide +kernel
theorem kn10_h : trim1 32768 0 false kn10 = [(false, [⟨0, 0⟩, ⟨327680, 0⟩])] := by
  unfold trim1
  rw [show spA 32768 0 = 0 by decide +kernel, show spB 32768 0 = 32768 by decide +kernel, if_neg (by decide), kn10_half]
  rfl
theorem kn10_a : trim1 0 65536 false kn10 = [(false, kn10)] := by
  unfold trim1
  rw [if_pos (by decide +kernel)]
theorem kn10_n : trim1 5 5 false kn10 = [] := by
  unfold trim1
  rw [show spA 5 5 = 5 by decide +kernel, show spB 5 5 = 5 by decide +kernel, if_neg (by decide)]
  unfold partP
  rw [cutL_no (Int.le_refl _)]
  rfl
theorem kn10_s : spA 9 (-1) = 0 ∧ spB 9 (-1) = 9 := by decide +kernel

end Go.Proofs.Ytmdokohdafeilaa

namespace Go.Proofs.Ytmdokohdafeilaa
open Go Go.RowKit
open M

theorem Ht.one {W w' : World} {g : Nat} {c v : Value} {t : TypeId} (h : Ht W w') (H0 : Has W g #[c, v] t) : Ht W w' ∧ w'.cell? ⟨g, 0, none⟩ = some c ∧ w'.cell? ⟨g, 1, none⟩ = some v := by
  have K0 := H0.below h.below H0.lt
  exact ⟨h, K0.cell 0 _ rfl, K0.cell 1 _ rfl⟩
theorem strokeL_few (c : Bool) (ps : List Pt) (wd cp : Int) (h30 : ps.length ≤ 30) : (strokeL c ps wd cp).length ≤ 100 := by
  by_cases h : half wd = 0
  · rw [strokeL_none h]; simp
  · rw [strokeL_some h, outL_length]
    have h1 := linesN_length ps (half wd) (sidesN c ps.length)
    have h2 := sidesN_le c ps.length
    unfold linesL
    split <;> omega
theorem Kq.lr {w1 wr : World} {base : Nat} {L : List (Bool × List Pt)} {v : Value} (h : Kq w1 base L v wr) (hf : L.length ≤ 100) : LR L v wr := by
  obtain ⟨v', zs, e, hy, hz, _⟩ := h.gives hf
  cases e
  exact ⟨zs, hy, hz⟩
theorem polys_lr {L : List (Bool × List Pt)} {v u : Value} {w : World} (h : LR L v w) (h2 : LR L u w) : Calls Try.prog 18 #[v, u] w fun e w' => e = .returned (.bool true) ∧ Below w.heap.size w w' := by
  obtain ⟨ys, hy, ey⟩ := h
  obtain ⟨zs, hz, ez⟩ := h2
  exact r8_polys hy hz (bares_len (ey.trans ez.symm)) (bares_at (ey.trans ez.symm))
theorem points_eq {v u : Value} {ps : List Pt} {w : World} (h : Psl w v ps) (h2 : Psl w u ps) : Calls Try.prog 14 #[v, u] w fun e w' => e = .returned (.bool true) ∧ Below w.heap.size w w' := by
  have := r8_points h h2
  rwa [decide_eq_true rfl] at this

set_option maxRecDepth 100000 in
set_option maxHeartbeats 4000000 in
theorem l12_same (c : Bool) {v : Value} {ps : List Pt} {w : World} (wd cp : Int) (h : Psl w v ps) (h30 : ps.length ≤ 30) :
    Calls Try.prog 9 #[.agg #[.bool c, v], .int .i64 wd, .int .i64 cp] w fun e w' => e = .returned (.bool true) ∧ Below w.heap.size w w' := by
  obtain ⟨B, hB⟩ : ∃ B, w.heap.size = B := ⟨_, rfl⟩
  obtain ⟨W, hW⟩ : ∃ W, w.alloc (.cells #[.bool c, v] 24) = W := ⟨_, rfl⟩
  have hp : Has W B #[.bool c, v] 24 := by rw [← hW]; exact has_new hB
  have hbl : Below w.heap.size w W := by rw [← hW]; exact (Below.refl _ _).alloc (Nat.le_refl _) _
  have hs := h.below hbl (Nat.le_refl _)
  have HP := Lib.hid hp
  have HBL := Lib.hid hbl
  have HW := Lib.hid hW
  have HS := Lib.hid hs
  clear hp hbl hW hs
  go_enter Try.func9, Try.ntmps9
  go_upto_region 1 with fail
  try rw [HW.out]
  clear hB
  have LF : Hid ((strokeL c ps wd cp).length ≤ 100) := Lib.hid (strokeL_few c ps wd cp h30)
  obtain ⟨L, hL⟩ : ∃ L, strokeL c ps wd cp = L := ⟨_, rfl⟩
  obtain ⟨ar, har⟩ : ∃ a, areaL ps = a := ⟨_, rfl⟩
  obtain ⟨ts, hts⟩ : ∃ t, turnL ps = t := ⟨_, rfl⟩
  have LT : Hid (ts.length ≤ 8796093022208) := Lib.hid (by rw [← hts, turnL_length]; omega)
  rw [hL] at LF
  have OF := Lib.hid (fun w' (hh : Ht W w') => hL ▸ s_of c wd cp (HS.out.ht hh) h30)
  have RF := Lib.hid (fun w' (hh : Ht W w') => hL ▸ r9_stroke c wd cp (HS.out.ht hh) h30)
  have AR := Lib.hid (fun w' (hh : Ht W w') => har ▸ s_area (HS.out.ht hh))
  have RA := Lib.hid (fun w' (hh : Ht W w') => har ▸ r9_area (HS.out.ht hh))
  have TU := Lib.hid (fun w' (hh : Ht W w') => hts ▸ s_turned (HS.out.ht hh))
  have RT := Lib.hid (fun w' (hh : Ht W w') => hts ▸ r9_turned (HS.out.ht hh) (by omega))
  have H0 : Hid (Ht W W) := Lib.hid (Ht.refl W)
  obtain ⟨ao, cap, rfl, -⟩ := h
  clear hL har hts
  go_region_held3 (fun w' => Ht W w' ∧ w'.cell? ⟨B, 0, none⟩ = some (.bool c) ∧ w'.cell? ⟨B, 1, none⟩ = some (.slice ao ps.length cap))
    ((go_split_ands; first | exact Ht.one H0.out.drew HP.out | exact Ht.one (by assumption) HP.out))
    (first
      | (go_at_call 14; refine (points_eq sl6 sl7).mono ?_; rintro e wA8 ⟨rfl, hq8⟩; have hA8 := Ht.call hA7 hq8)
      | (go_at_call 21; refine (RT.out _ hA6).mono ?_; rintro e wA7 ⟨v7, rfl, ho7, hq7⟩; have hA7 := Ht.call hA6 hq7; have sl7 := ho7.sl LT.out; have sl6 := sl5.below hq7 (Nat.le_refl _))
      | (go_at_call 13; refine (TU.out _ hA5).mono ?_; rintro e wA6 ⟨v6, rfl, ho6, hq6⟩; have hA6 := Ht.call hA5 hq6; have sl5 := ho6.sl LT.out)
      | (go_at_call 20; refine (RA.out _ hA4).mono ?_; rintro e wA5 ⟨rfl, hq5⟩; have hA5 := Ht.call hA4 hq5)
      | (go_at_call 12; refine (AR.out _ hA3).mono ?_; rintro e wA4 ⟨rfl, hq4⟩; have hA4 := Ht.call hA3 hq4)
      | (go_at_call 18; refine (polys_lr lr1 lr2).mono ?_; rintro e wA3 ⟨rfl, hq3⟩; have hA3 := Ht.call hA2 hq3)
      | (go_at_call 19; refine (RF.out _ hA1).mono ?_; rintro e wA2 ⟨v2, rfl, hk2⟩; have hA2 := Ht.call hA1 hk2.below; have lr2 := hk2.lr LF.out; have lr1 := lr0.stay hk2.below)
      | (go_at_call 11; refine (OF.out _ H0.out.drew).mono ?_; rintro e wA1 ⟨v1, rfl, hk1⟩; have hA1 := Ht.call H0.out.drew hk1.below; have lr0 := hk1.lr LF.out))
  all_goals
    go_wp2
    go_ret
    exact ⟨rfl, HBL.out.trans ((show Ht W _ by assumption).below.mono HBL.out.size)⟩

end Go.Proofs.Ytmdokohdafeilaa

namespace Go.Proofs.Ytmdokohdafeilaa
open Go Go.RowKit
open M

def kn12 : List Pt := [⟨0, 0⟩, ⟨262144, 0⟩]
def kq12 : List Pt := [⟨0, -65536⟩, ⟨262144, -65536⟩, ⟨262144, 65536⟩, ⟨0, 65536⟩]
theorem kn12_sa : sa kn12 0 = ⟨0, 0⟩ := by decide +kernel
theorem kn12_sb : sb kn12 0 = ⟨262144, 0⟩ := by decide +kernel
theorem kn12_side : sideL kn12 0 = 262144 := by
  unfold sideL longP
  rw [kn12_sa, kn12_sb]
  unfold hyp
  rw [show (wide ((262144 : Int) - 0) * wide (262144 - 0) + wide (0 - 0) * wide (0 - 0)).toNat = 68719476736 by decide +kernel, isq_eq (r := 262144) (by decide) (by decide)]
  rfl
theorem kn12_ln : lnOf kn12 65536 0 = ⟨⟨0, 0⟩, ⟨262144, 0⟩, ⟨65536, 0⟩, ⟨0, 65536⟩⟩ := by
  unfold lnOf
  rw [kn12_side, kn12_sa, kn12_sb]
  have e1 : mul (dv ((262144 : Int) - 0) 262144) 65536 = 65536 := by decide +kernel
  have e2 : mul (dv ((0 : Int) - 0) 262144) 65536 = 0 := by decide +kernel
  have e3 : mul (-dv ((0 : Int) - 0) 262144) 65536 = 0 := by decide +kernel
  simp only [e1, e2, e3]
theorem kn12_all : strokeL false kn12 131072 0 = [(true, kq12)] := by
  have h : half 131072 = 65536 := by decide +kernel
  have hl : linesL false kn12 65536 = [⟨⟨0, 0⟩, ⟨262144, 0⟩, ⟨65536, 0⟩, ⟨0, 65536⟩⟩] := by
    show linesN kn12 65536 (0 + 1) = _
    rw [linesN_yes (by rw [kn12_side]; decide), kn12_ln]
    rfl
  rw [strokeL_some (by rw [h]; decide), h, hl]
  decide +kernel
theorem kn12_area : areaL kq12 = 68719476736 := by decide +kernel
theorem kn12_none : strokeL false [] 65536 0 = [] := by decide +kernel

set_option maxRecDepth 100000 in
set_option maxHeartbeats 2000000 in
theorem known12 (w : World) : Calls Try.prog 10 #[] w fun r w' => r = .returned (.bool true) ∧ Below w.heap.size w w' := by
  obtain ⟨B, hB⟩ : ∃ B, w.heap.size = B := ⟨_, rfl⟩
  obtain ⟨W, hW⟩ : ∃ W, w.alloc (.cells #[.int .i64 0, .int .i64 0, .int .i64 262144, .int .i64 0] 31) = W := ⟨_, rfl⟩
  have k0 : Has W B #[.int .i64 0, .int .i64 0, .int .i64 262144, .int .i64 0] 31 := by rw [← hW]; exact has_new hB
  have hs : Psl W (.slice (some ⟨B, 0, none⟩) 2 2) kn12 := psl_lit (ps := kn12) 2 2 rfl (by decide) k0 rfl
  have bW : Below w.heap.size w W := by rw [← hW]; exact (Below.refl _ _).alloc (by omega) _
  have OF := Lib.hid (kn12_all ▸ s_of false 131072 0 hs (by decide))
  have ON := Lib.hid (fun w => kn12_none ▸ s_of false 65536 0 (psl_nil w none 0) (by decide))
  have BW := Lib.hid bW
  have HW := Lib.hid hW
  clear hs bW hW k0
  go_enter Try.func10, Try.ntmps10
  go_wp2_with fail
  rw [HW.out]
  clear hB
  refine OF.out.mono ?_
  rintro e w1 ⟨v1, rfl, hk⟩
  obtain ⟨v1', z1, e1, hy1, hz1, hb1⟩ := hk.gives (by decide)
  cases e1
  have h1 : z1.length = 1 := by simpa using congrArg List.length hz1
  have p0 : bareY (po z1 0) = (true, kq12) := by
    match z1, hz1 with
    | [z], h => simpa [po] using h
  obtain ⟨ao1, cap1, rfl⟩ := hy1.slice
  rw [h1] at hy1 ⊢
  obtain ⟨g, o, e1, row, _⟩ := hy1.row (by decide)
  subst e1
  have c0 := row.c0 0 (by omega)
  have c1 := row.c1 0 (by omega)
  have s1 := row.sl 0 (by omega)
  rw [show (po z1 0).ps = kq12 from congrArg Prod.snd p0] at s1
  rw [show (po z1 0).cl = true from congrArg Prod.fst p0] at c0
  simp only [Nat.zero_mul, Nat.add_zero] at c0 c1
  have AR := Lib.hid (fun w' (hb : Below w1.heap.size w1 w') => kn12_area ▸ s_area (s1.below hb (Nat.le_refl _)))
  obtain ⟨a4, c4, ev, -⟩ := s1
  rw [ev] at c1 AR
  rw [show kq12.length = 4 from rfl] at c1 AR
  have B1 := Lib.hid (BW.out.trans (hk.below.mono BW.out.size))
  clear hk hy1 hz1 hb1 row p0 ev h1
  go_wp2_with fail
  refine (AR.out _ (Below.refl _ _)).mono ?_
  rintro e w2 ⟨rfl, hq2⟩
  have B2 := Lib.hid (B1.out.trans (hq2.mono B1.out.size))
  clear hq2 AR c0 c1
  go_wp2_with fail
  refine (ON.out _).mono ?_
  rintro e w3 ⟨v3, rfl, hk3⟩
  obtain ⟨a3, c3, rfl⟩ := hk3.shape
  have B3 := Lib.hid (B2.out.trans (hk3.below.mono B2.out.size))
  rw [show ([] : List (Bool × List Pt)).length = 0 from rfl]
  clear hk3
  go_wp2
  go_ret
  exact ⟨rfl, B3.out⟩
end Go.Proofs.Ytmdokohdafeilaa

namespace Go.Proofs.Ytmdokohdafeilaa
namespace M

/-- Number i of a list. -/
def nm (ds : List Int) (i : Nat) : Int := ds.getD i 0
theorem nm_cons (d : Int) (ds : List Int) (i : Nat) : nm (d :: ds) (i + 1) = nm ds i := by simp [nm]
theorem nm_zero (d : Int) (ds : List Int) : nm (d :: ds) 0 = d := by simp [nm]
theorem nm_left {ds : List Int} {d : Int} {i : Nat} (h : i < ds.length) : nm (ds ++ [d]) i = nm ds i := by unfold nm; simp [List.getD, List.getElem?_append_left h]
theorem nm_last (ds : List Int) (d : Int) : nm (ds ++ [d]) ds.length = d := by unfold nm; simp [List.getD]
/-- Whether a dash, or a gap, may be so long. -/
def okN (d : Int) : Prop := 65536 ≤ d ∧ d ≤ 67108864
instance (d : Int) : Decidable (okN d) := by unfold okN; infer_instance
def okA (ds : List Int) : Prop := ∀ i, i < ds.length → okN (nm ds i)
instance (ds : List Int) : Decidable (okA ds) := by unfold okA; infer_instance
/-- Right. -/
def okD (ds : List Int) : Bool := decide (ds.length ≤ 8 ∧ okA ds)
theorem okD_many {ds : List Int} (h : 8 < ds.length) : okD ds = false := by unfold okD; rw [decide_eq_false]; omega
theorem okD_bad {ds : List Int} {i : Nat} (hi : i < ds.length) (h : ¬ okN (nm ds i)) : okD ds = false := by
  unfold okD
  rw [decide_eq_false]
  exact fun e => h (e.2 i hi)
theorem okD_yes {ds : List Int} (h8 : ds.length ≤ 8) (h : ∀ i, i < ds.length → okN (nm ds i)) : okD ds = true := by
  unfold okD
  rw [decide_eq_true]
  exact ⟨h8, h⟩
theorem okD_all {ds : List Int} (h : ∀ i, i < ds.length → okN (nm ds i)) : okD ds = decide ((ds.length : Int) ≤ 8) := by
  by_cases h8 : ds.length ≤ 8
  · rw [okD_yes h8 h, decide_eq_true]; omega
  · rw [okD_many (by omega), decide_eq_false]; omega
theorem okD_few {ds : List Int} (h : okD ds = true) : ds.length ≤ 8 ∧ okA ds := by
  unfold okD at h
  simpa using h

/-- Number i, gone through round and round. -/
def tn (ds : List Int) (i : Nat) : Int := nm ds (i % ds.length)
/-- Where dash or gap k begins. -/
def mk (ds : List Int) : Nat → Int
  | 0 => 0
  | k + 1 => mk ds k + tn ds k
theorem mk_zero (ds : List Int) : mk ds 0 = 0 := rfl
theorem mk_step (ds : List Int) (k : Nat) : mk ds (k + 1) = mk ds k + tn ds k := rfl
theorem tn_in {ds : List Int} (h : okD ds = true) (h0 : 0 < ds.length) (i : Nat) : 65536 ≤ tn ds i ∧ tn ds i ≤ 67108864 := (okD_few h).2 _ (Nat.mod_lt _ h0)
theorem mk_in {ds : List Int} (h : okD ds = true) (h0 : 0 < ds.length) : ∀ k : Nat, 0 ≤ mk ds k ∧ mk ds k ≤ k * 67108864
  | 0 => by simp [mk]
  | k + 1 => by
    have ih := mk_in h h0 k
    have t := tn_in h h0 k
    rw [mk_step]
    omega
theorem mk_up {ds : List Int} (h : okD ds = true) (h0 : 0 < ds.length) {i : Nat} : ∀ {j : Nat}, i ≤ j → mk ds i ≤ mk ds j
  | 0, hij => by
    obtain rfl : i = 0 := by omega
    exact Int.le_refl _
  | j + 1, hij => by
    by_cases e : i = j + 1
    · rw [e]; exact Int.le_refl _
    · have ih := mk_up h h0 (i := i) (j := j) (by omega)
      have t := tn_in h h0 j
      rw [mk_step]
      omega
theorem add_mk {ds : List Int} (h : okD ds = true) (h0 : 0 < ds.length) {k : Nat} (hk : k ≤ 200) : add (mk ds k) (tn ds k) = mk ds (k + 1) := by
  have a := mk_in h h0 k
  have t := tn_in h h0 k
  unfold add
  rw [hold_in (a := mk ds k) (by omega) (by omega), hold_in (a := tn ds k) (by omega) (by omega), hold_in (by omega) (by omega), mk_step]
theorem tn_mod {ds : List Int} (i : Nat) : Int.tmod (i : Int) (ds.length : Int) = ((i % ds.length : Nat) : Int) := by
  rw [Int.tmod_eq_emod_of_nonneg (by omega)]
  simp
/-- Dash n. -/
def dashP (c : Bool) (ps : List Pt) (ds : List Int) (n : Nat) : List Pt := cutL c ps (mk ds (2 * n)) (mk ds (2 * n + 1))
theorem dashP_length (c : Bool) (ps : List Pt) (ds : List Int) (n : Nat) : (dashP c ps ds n).length ≤ ps.length + 1 := cutL_length _ _ _ _
/-- The first n dashes. -/
def dashN (c : Bool) (ps : List Pt) (ds : List Int) : Nat → List (Bool × List Pt)
  | 0 => []
  | n + 1 => if mk ds (2 * n) < lengthL c ps ∧ 2 ≤ (dashP c ps ds n).length then dashN c ps ds n ++ [(false, dashP c ps ds n)] else dashN c ps ds n
theorem dashN_zero (c : Bool) (ps : List Pt) (ds : List Int) : dashN c ps ds 0 = [] := rfl
theorem dashN_yes {c : Bool} {ps : List Pt} {ds : List Int} {n : Nat} (h : mk ds (2 * n) < lengthL c ps) (h2 : 2 ≤ (dashP c ps ds n).length) : dashN c ps ds (n + 1) = dashN c ps ds n ++ [(false, dashP c ps ds n)] := if_pos ⟨h, h2⟩
theorem dashN_no {c : Bool} {ps : List Pt} {ds : List Int} {n : Nat} (h2 : ¬ 2 ≤ (dashP c ps ds n).length) : dashN c ps ds (n + 1) = dashN c ps ds n := if_neg fun h => h2 h.2
theorem dashN_off {c : Bool} {ps : List Pt} {ds : List Int} {n : Nat} (h : ¬ mk ds (2 * n) < lengthL c ps) : dashN c ps ds (n + 1) = dashN c ps ds n := if_neg fun e => h e.1
theorem dashN_length (c : Bool) (ps : List Pt) (ds : List Int) : ∀ n, (dashN c ps ds n).length ≤ n
  | 0 => by simp [dashN]
  | n + 1 => by
    have ih := dashN_length c ps ds n
    rw [dashN]
    split
    · simp; omega
    · omega
/-- From the first dash on that would begin at the line's end or behind it nothing comes. -/
theorem dashN_end {c : Bool} {ps : List Pt} {ds : List Int} (h : okD ds = true) (h0 : 0 < ds.length) {n : Nat} (hn : lengthL c ps ≤ mk ds (2 * n)) : ∀ {m : Nat}, n ≤ m → dashN c ps ds m = dashN c ps ds n
  | 0, hm => by
    obtain rfl : n = 0 := by omega
    rfl
  | m + 1, hm => by
    by_cases e : n = m + 1
    · rw [e]
    · have ih := dashN_end h h0 hn (m := m) (by omega)
      have u := mk_up h h0 (i := 2 * n) (j := 2 * m) (by omega)
      rw [dashN_off (by omega), ih]
/-- Of. -/
def dashL (c : Bool) (ps : List Pt) (ds : List Int) : List (Bool × List Pt) := if ds.length = 0 ∨ okD ds = false then [(c, ps)] else dashN c ps ds 64
theorem dashL_none {c : Bool} {ps : List Pt} {ds : List Int} (h : ds.length = 0) : dashL c ps ds = [(c, ps)] := if_pos (Or.inl h)
theorem dashL_bad {c : Bool} {ps : List Pt} {ds : List Int} (h : okD ds = false) : dashL c ps ds = [(c, ps)] := if_pos (Or.inr h)
theorem dashL_some {c : Bool} {ps : List Pt} {ds : List Int} (h0 : 0 < ds.length) (h : okD ds = true) : dashL c ps ds = dashN c ps ds 64 := if_neg fun e => by rcases e with e | e; omega; rw [h] at e; cases e
theorem dashL_length (c : Bool) (ps : List Pt) (ds : List Int) : (dashL c ps ds).length ≤ 64 := by
  unfold dashL
  split
  · simp
  · exact dashN_length _ _ _ _

end M
end Go.Proofs.Ytmdokohdafeilaa

namespace Go.Proofs.Ytmdokohdafeilaa
open Go Go.RowKit
open M

theorem and_quad (c : Int) : bits .and .i64 c 262143 = c % 262144 := by
  show IntKind.i64.wrap ((BitVec.ofInt 64 c &&& BitVec.ofInt 64 (262143 : Int)).toNat : Int) = _
  have e0 : (BitVec.ofInt 64 (262143 : Int)).toNat = 262143 := by decide
  have e1 : (BitVec.ofInt 64 c).toNat = (c % 18446744073709551616).toNat := by rw [BitVec.toNat_ofInt]; rfl
  have e2 : ∀ n : Nat, n &&& 262143 = n % 262144 := fun n => Nat.and_two_pow_sub_one_eq_mod n 18
  rw [BitVec.toNat_and, e0, e1, e2, IntKind.wrap_i64]
  omega
/-- The slice's value v holds just these numbers. -/
def Isl (w : World) (v : Value) (ds : List Int) : Prop := ∃ ao cap, v = .slice ao ds.length cap ∧ ds.length ≤ 1000 ∧ (0 < ds.length → ∃ g o, ao = some ⟨g, o, none⟩ ∧ ∀ i, i < ds.length → w.cell? ⟨g, o + i, none⟩ = some (.int .i64 (nm ds i)))
theorem Isl.few {w : World} {v : Value} {ds : List Int} (h : Isl w v ds) : ds.length ≤ 1000 := by
  obtain ⟨_, _, _, h, _⟩ := h
  exact h
theorem Isl.slice {w : World} {v : Value} {ds : List Int} (h : Isl w v ds) : ∃ ao cap, v = .slice ao ds.length cap := by
  obtain ⟨ao, cap, h, _⟩ := h
  exact ⟨ao, cap, h⟩
theorem Isl.blocks {w w' : World} {v : Value} {ds : List Int} (h : Isl w v ds) (hb : ∀ k, k < w.heap.size → v.ownBlock = some k → w'.heap[k]? = w.heap[k]?) : Isl w' v ds := by
  obtain ⟨ao, cap, rfl, hf, hr⟩ := h
  refine ⟨ao, cap, rfl, hf, fun h0 => ?_⟩
  obtain ⟨g, o, rfl, hr'⟩ := hr h0
  exact ⟨g, o, rfl, fun i hi => (World.cell?_of_block (a := ⟨g, _, _⟩) (hb g (World.block_lt_of_cell? w _ (hr' 0 h0)) rfl)).trans (hr' i hi)⟩
theorem Isl.below {w w' : World} {v : Value} {ds : List Int} (h : Isl w v ds) (hb : Below w.heap.size w w') : Isl w' v ds := h.blocks fun k hk _ => hb.block k hk
theorem Isl.alloc {w : World} {v : Value} {ds : List Int} (h : Isl w v ds) (o : Obj) : Isl (w.alloc o) v ds := h.blocks fun k hk _ => (MapKept.heap_alloc w o).2 k hk
theorem Isl.at {w : World} {ao : Option Addr} {N cap : Nat} {ds : List Int} (h : Isl w (.slice ao N cap) ds) (h0 : 0 < N) : ds.length = N ∧ ∃ g o, ao = some ⟨g, o, none⟩ ∧ ∀ i, i < N → w.cell? ⟨g, o + i, none⟩ = some (.int .i64 (nm ds i)) := by
  obtain ⟨ao', cap', e, hf, hr⟩ := h
  simp only [Value.slice.injEq] at e
  obtain ⟨rfl, rfl, rfl⟩ := e
  exact ⟨rfl, hr h0⟩
theorem isl_nil (w : World) (ao : Option Addr) (cap : Nat) : Isl w (.slice ao 0 cap) [] := ⟨ao, cap, rfl, by simp, fun h => by simp at h⟩
theorem isl_lit {w : World} {g n c : Nat} {ds : List Int} {cs : Array Value} {t : TypeId} (hn : ds.length = n) (hf : n ≤ 1000) (h : Has w g cs t) (hc : cs.toList = ds.map (Value.int .i64)) : Isl w (.slice (some ⟨g, 0, none⟩) n c) ds := by
  subst hn
  refine ⟨_, c, rfl, hf, fun _ => ⟨g, 0, rfl, fun i hi => ?_⟩⟩
  rw [Nat.zero_add]
  refine h.cell i _ ?_
  have : cs.toList[i]? = some (.int .i64 (nm ds i)) := by rw [hc]; simp [nm, List.getD, hi]
  simpa using this

end Go.Proofs.Ytmdokohdafeilaa

namespace Go.Proofs.Ytmdokohdafeilaa
open Go Go.RowKit
open M

/-- Numbers of the call's own. -/
def Jown (w : World) (base : Nat) (v : Value) (xs : List Int) : Prop := w.ownsRow base 2 1 v xs.length (xs.map (Value.int .i64))
theorem Jown.sl {w : World} {B : Nat} {v : Value} {xs : List Int} (h : Jown w B v xs) (hf : xs.length ≤ 1000) : Isl w v xs := by
  rcases h.2 with ⟨rfl, hn⟩ | ⟨g, cap, cur, rfl, _, hg, _, _, _, ht⟩
  · exact ⟨none, 0, by rw [hn], hf, fun h0 => by omega⟩
  · refine ⟨_, cap, rfl, hf, fun _ => ⟨g, 0, rfl, fun i hi => ?_⟩⟩
    have hu : (xs.map (Value.int .i64))[i]? = some (.int .i64 (nm xs i)) := by simp [nm, List.getD, hi]
    rw [Nat.zero_add, cell_of_row w g i cur _ _ hg]
    rw [← ht, List.getElem?_take] at hu
    split at hu
    · simpa using hu
    · cases hu
theorem Jown.nil (w : World) (base : Nat) : Jown w base (.slice none 0 0) [] := World.ownsRow_nil _ _ _ _
theorem Jown.alloc {w : World} {B : Nat} {v : Value} {xs : List Int} (h : Jown w B v xs) (o : Obj) : Jown (w.alloc o) B v xs := World.ownsRow.alloc h o
theorem Jown.base {w : World} {B : Nat} {v : Value} {xs : List Int} (h : Jown w B v xs) (k : Nat) (hk : v.ownBlock = some k) : B ≤ k ∧ k < w.heap.size := World.ownsRow.lt h k hk
theorem Jown.below {w w' : World} {B : Nat} {v : Value} {xs : List Int} (h : Jown w B v xs) (hb : Below w.heap.size w w') : Jown w' B v xs := by
  refine World.ownsRow.kept h (grownBy_below hb (Nat.le_refl _)) ?_
  by_cases e : v.ownBlock = none
  · exact Or.inl e
  · exact Or.inr e
theorem Jown.len {w : World} {B : Nat} {v : Value} {xs : List Int} (h : Jown w B v xs) : ∃ ao cap, v = .slice ao xs.length cap := by
  rcases h.2 with ⟨rfl, hn⟩ | ⟨g, cap, cur, rfl, _⟩
  · exact ⟨none, 0, by rw [hn]⟩
  · exact ⟨_, cap, rfl⟩
theorem Try.infoI64 : (Try.prog.info? 2).map (fun i => (i.zero, i.size, i.bytes)) = some (some (.int .i64 0), 1, 8) := by kernel_rfl
/-- One number more. -/
theorem wpList_append_j {W : World} {B : Nat} {l : Value} {xs : List Int} {ops : Array Oper} {rest : List Oper} {op : Oper} {a : Act} {Q : Exit → Act → World → Prop} (hgd : op.guard = none) (s x : Operand)
    (hop : op.op = .call { callee := .builtin .append, args := #[s, x], argTypes := #[28, 28] }) (hs : a.eval s = l) (H : Nat) (hx : a.eval x = .slice (some ⟨H, 0, none⟩) 1 1) (y : Int) (hn : Has W H #[.int .i64 y] 2)
    (ho : Jown W B l xs) (hf : xs.length ≤ 900) (hb : B ≤ W.heap.size)
    (h : ∀ t' w', Jown w' B t' (xs ++ [y]) → W.grownBy w' l.ownBlock → wpList Try.prog ops Q rest (a.put op.dst t') w') : wpList Try.prog ops Q (op :: rest) a W := by
  obtain ⟨j0, hj, hy0, hy1, hy2⟩ := info_parts Try.infoI64
  refine wpList_append_near _ hgd s x 28 hop B 2 j0 (.int .i64 0) 1 8 Try.underlying28 hj hy0 hy1 hy2 rfl (by decide) l xs.length (xs.map (Value.int .i64)) hs ho ⟨H, 0, none⟩ 1 1 [.int .i64 y] hx rfl ?_ ?_ ?_ ?_ hb ?_
  · intro j u hu
    rw [Addr.add_lit, Nat.zero_add]
    exact hn.cell j u (by simpa using hu)
  · intro u hu
    simp at hu
    subst hu
    rfl
  · unfold maxLen; omega
  · omega
  · intro t' w' ho' hg _
    exact h t' w' (by unfold Jown; simpa using ho') hg

end Go.Proofs.Ytmdokohdafeilaa

namespace Go.Proofs.Ytmdokohdafeilaa
open Go Go.RowKit
open M

/-- Numbers of the call's own. -/
def Iown (w : World) (base : Nat) (v : Value) (xs : List Int) : Prop := w.ownsRow base 3 1 v xs.length (xs.map (Value.int .i64))
theorem Iown.nums {w : World} {B : Nat} {v : Value} {xs : List Int} (h : Iown w B v xs) (hf : xs.length ≤ 1000) : Nums w v := by
  rcases h.2 with ⟨rfl, hn⟩ | ⟨g, cap, cur, rfl, _, hg, _, _, _, ht⟩
  · exact Or.inl ⟨_, _, rfl⟩
  · by_cases h0 : xs.length = 0
    · rw [h0]; exact Or.inl ⟨_, _, rfl⟩
    · refine Or.inr ⟨g, 0, _, cap, rfl, by omega, by omega, fun i hi => ?_⟩
      have hu : (xs.map (Value.int .i64))[i]? = some (.int .i64 (xs.getD i 0)) := by simp [List.getD, hi]
      refine ⟨xs.getD i 0, ?_⟩
      rw [Nat.zero_add, cell_of_row w g i cur _ _ hg]
      rw [← ht, List.getElem?_take] at hu
      split at hu
      · simpa using hu
      · cases hu
theorem Try.infoInt : (Try.prog.info? 3).map (fun i => (i.zero, i.size, i.bytes)) = some (some (.int .i64 0), 1, 8) := by kernel_rfl

theorem Nums.on {w w' : World} {v : Value} (h : Nums w v) (hb : Below w.heap.size w w') : Nums w' v := by
  rcases h with h | ⟨b, o, n, cap, hv, h0, h1, hc⟩
  · exact Or.inl h
  · refine Or.inr ⟨b, o, n, cap, hv, h0, h1, fun i hi => ?_⟩
    obtain ⟨x, hx⟩ := hc i hi
    exact ⟨x, (hb.cell (p := ⟨b, _, _⟩) (World.block_lt_of_cell? w _ hx)).trans hx⟩
theorem new_one {w : World} {x : Value} {t : TypeId} {g : Nat} (hg : w.heap.size = g) : ∀ j u, [x][j]? = some u → (w.alloc (.cells #[x] t)).cell? ((⟨g, 0, none⟩ : Addr).add j) = some u := by
  intro j u hu
  rw [Addr.add_lit, Nat.zero_add]
  exact (has_new hg).cell j u (by simpa using hu)
theorem Iown.alloc {w : World} {B : Nat} {v : Value} {xs : List Int} (h : Iown w B v xs) (o : Obj) : Iown (w.alloc o) B v xs := World.ownsRow.alloc h o
theorem Iown.base {w : World} {B : Nat} {v : Value} {xs : List Int} (h : Iown w B v xs) (k : Nat) (hk : v.ownBlock = some k) : B ≤ k ∧ k < w.heap.size := World.ownsRow.lt h k hk
theorem ones_one (x : Int) : ∀ u ∈ [Value.int .i64 x], u.oneCell' = true := by
  intro u hu
  simp at hu
  subst hu
  rfl

end Go.Proofs.Ytmdokohdafeilaa

namespace Go.Proofs.Ytmdokohdafeilaa
open Go Go.RowKit
open M

/-- Places as a tape of layer 9 gives them. -/
def Small9 (ps : List Pt) : Prop := ∀ i, i < ps.length → -327680 ≤ (pt ps i).x ∧ (pt ps i).x ≤ 1376255 ∧ -327680 ≤ (pt ps i).y ∧ (pt ps i).y ≤ 1376255
theorem Small9.nil : Small9 [] := fun i hi => by simp at hi
theorem Small9.snoc {ps : List Pt} {p : Pt} (h : Small9 ps) (h1 : -327680 ≤ p.x) (h2 : p.x ≤ 1376255) (h3 : -327680 ≤ p.y) (h4 : p.y ≤ 1376255) : Small9 (ps ++ [p]) := by
  intro i hi
  by_cases e : i = ps.length
  · subst e; rw [pt_last]; exact ⟨h1, h2, h3, h4⟩
  · rw [pt_left (by simp at hi; omega)]; exact h i (by simp at hi; omega)
/-- A poly that a tape fills: it lies in block go, its list l in blocks behind it, the result's block is B. -/
structure Tpp (w : World) (g : Nat) (v : Value) (B go : Nat) (c : Bool) (ps : List Pt) (l : Value) (wr : World) : Prop where
  own : Pown wr (go + 1) l ps
  out : Has wr go #[.bool c, l] 24
  res : Has wr B #[.bool false, .slice none 0 0] 24
  tp : Tp wr g v
  grown : w.grownBy wr (some g)
  small : Small9 ps
  lo : B < go
  lg : g < B
  hB : w.heap.size = B
section
variable {w wr W w' w2 : World} {g B go : Nat} {v l l' : Value} {c : Bool} {ps qs : List Pt}
theorem Tpp.alloc (h : Tpp w g v B go c ps l wr) (o : Obj) : Tpp w g v B go c ps l (wr.alloc o) :=
  ⟨h.own.alloc o, h.out.alloc o, h.res.alloc o, tp_alloc h.tp o, grownBy_own h.grown (World.grownBy_alloc wr o none) (fun k hk => by cases hk), h.small, h.lo, h.lg, h.hB⟩
theorem Tpp.call (h : Tpp w g v B go c ps l wr) (ht : Tp w2 g v) (hg : wr.grownBy w2 (some g)) : Tpp w g v B go c ps l w2 :=
  ⟨h.own.young hg (by have := h.lg; have := h.lo; omega), has_grown h.out hg (by have := h.lg; have := h.lo; omega), has_grown h.res hg (by have := h.lg; omega), ht, grownBy_trans h.grown hg, h.small, h.lo, h.lg, h.hB⟩
theorem Tpp.away (h : Tpp w g v B go c ps l W) : l.ownBlock ≠ some go ∧ l.ownBlock ≠ some B := ⟨fun e => by have := (h.own.base go e).1; omega, fun e => by have := (h.own.base B e).1; have := h.lo; omega⟩
/-- The list has grown, and is stored. -/
theorem Tpp.put (ht0 : Tp w g v) (h : Tpp w g v B go c ps l W) (ho : Pown w' (go + 1) l' qs) (hg : W.grownBy w' l.ownBlock) (hs : Small9 qs) : Tpp w g v B go c qs l' (w'.setCell ⟨go, 1, none⟩ l') := by
  have b0 := h.hB
  have b1 := h.lo
  have b2 := h.lg
  have hset : w'.grownBy (w'.setCell ⟨go, 1, none⟩ l') (some go) := grownBy_set (World.grownBy.refl _ _) _ _
  have hl : ∀ k, l.ownBlock = some k → w.heap.size ≤ k := fun k hk => by have := (h.own.base k hk).1; omega
  have t1 : Tp w' g v := ht0.young h.tp hg hl
  have g1 : w.grownBy w' (some g) := grownBy_own h.grown hg hl
  have hk : Has w' go #[.bool c, l] 24 := (hg.block go h.out.lt (fun e => h.away.1 e.symm)).trans h.out
  have hr : Has w' B #[.bool false, .slice none 0 0] 24 := (hg.block B h.res.lt (fun e => h.away.2 e.symm)).trans h.res
  refine ⟨ho.kept hset (fun k hk e => by simp at hk; have := (ho.base k e).1; omega), ?_, has_grown hr hset (by omega), ht0.young t1 hset (fun k hk => by simp at hk; omega), grownBy_own g1 hset (fun k hk => by simp at hk; omega), hs, h.lo, h.lg, h.hB⟩
  have := has_set hk 1 l'
  simpa using this
theorem Tpp.fine (h : Tpp w g v B go c ps l W) (hg : W.grownBy w' l.ownBlock) : w'.cell? ⟨go, 1, none⟩ = some l ∧ w'.frozen? ⟨go, 1, none⟩ = false := by
  have hk : Has w' go #[.bool c, l] 24 := (hg.block go h.out.lt (fun e => h.away.1 e.symm)).trans h.out
  exact ⟨hk.cell 1 _ rfl, has_fro hk 1⟩
/-- A block that is neither the list's nor the poly's stays where the list grows. -/
theorem keep_put {k : Nat} {cs : Array Value} {t : TypeId} (hg : W.grownBy w' l.ownBlock) (hk : Has W k cs t) (hne : l.ownBlock ≠ some k) (hgo : k ≠ go) (l' : Value) : Has (w'.setCell ⟨go, 1, none⟩ l') k cs t :=
  has_grown ((hg.block k hk.lt (fun e => hne e.symm)).trans hk) (grownBy_set (World.grownBy.refl _ _) _ _) hgo
end

def Polyss (w : World) (g : Nat) (v : Value) (e : Ending) (w' : World) : Prop := ∃ (c : Bool) (l : Value) (ps : List Pt), e = .returned (.agg #[.bool c, l]) ∧ ps.length ≤ 12 ∧ Small9 ps ∧ Pown w' w.heap.size l ps ∧ Tp w' g v ∧ w.grownBy w' (some g)

set_option maxRecDepth 100000 in
set_option maxHeartbeats 4000000 in
theorem l9_poly (g : Nat) (v : Value) (w : World) (h : Tp w g v) : Calls Try.prog 7 #[.pointer (some ⟨g, 0, none⟩)] w (Polyss w g v) := by
  obtain ⟨B, hB⟩ : ∃ B, w.heap.size = B := ⟨_, rfl⟩
  have hgB : g < B := by rw [← hB]; exact h.lt
  have h0 : Tp (w.alloc (.cells #[.bool false, .slice none 0 0] 24)) g v := tp_alloc h _
  have g0 : w.grownBy (w.alloc (.cells #[.bool false, .slice none 0 0] 24)) (some g) := World.grownBy_alloc _ _ _
  have k0 : Has (w.alloc (.cells #[.bool false, .slice none 0 0] 24)) B #[.bool false, .slice none 0 0] 24 := has_new hB
  have HT := Lib.hid h
  have H0 := Lib.hid h0
  have G0 := Lib.hid g0
  have K0 := Lib.hid k0
  have HW := Lib.hid hB
  clear h h0 g0 k0
  go_enter Try.func7, Try.ntmps7
  go_wp2_with fail
  refine (t_next g v 2 _ (by omega) (by omega) H0.out).mono ?_
  rintro e w1 ⟨z, rfl, z0, z1, ht, hg⟩
  obtain ⟨c, hc⟩ : ∃ c : Bool, (z == 0) = c := ⟨_, rfl⟩
  have s1 : B < w1.heap.size := by have := hg.size; simp at this; omega
  obtain ⟨go, hgo⟩ : ∃ k, w1.heap.size = k := ⟨_, rfl⟩
  obtain ⟨W, hW⟩ : ∃ W, w1.alloc (.cells #[.bool c, .slice none 0 0] 24) = W := ⟨_, rfl⟩
  have T0 : Tpp w g v B go c [] (.slice none 0 0) W := by
    rw [← hW]
    exact ⟨Pown.nil _ _, has_new hgo, (has_grown K0.out hg (by omega)).alloc _, tp_alloc ht _, grownBy_own (grownBy_trans G0.out hg) (World.grownBy_alloc _ _ none) (fun k hk => by cases hk), Small9.nil, by omega, hgB, HW.out⟩
  have T := Lib.hid T0
  have HWW := Lib.hid hW
  have HC := Lib.hid hc
  clear T0 hW ht hg H0 G0 K0 s1 hB
  go_upto_region 2 with fail
  rw [HWW.out]
  clear hgo hc z0 z1
  go_wp2_with fail
  refine (t_next g v 7 _ (by omega) (by omega) T.out.tp).mono ?_
  rintro e w2 ⟨x, rfl, x0, x1, ht, hg⟩
  have T2 := Lib.hid (T.out.call ht hg)
  obtain ⟨n0, rfl⟩ : ∃ n : Nat, x = n := ⟨x.toNat, by omega⟩
  clear ht hg T HWW
  go_wp2_with fail
  go_loopw [4] (fun i wr => ∃ (m : Nat) (l : Value) (ps : List Pt), i = .int .i64 m ∧ m ≤ 6 ∧ ps.length + 2 * m ≤ 12 ∧ Tpp w g v B go c ps l wr) (fun i _ => (intOf i).toNat)
  case atStart => exact ⟨n0, _, _, rfl, by omega, by simp; omega, T2.out⟩
  case round =>
    obtain ⟨m, l, ps, rfl, hm, hl, hT⟩ := hrel
    clear T2
    by_cases hm0 : m = 0
    · subst hm0
      have c0 := hT.out.cell 0 _ rfl
      have c1 := hT.out.cell 1 _ rfl
      have v0 := hT.res.cell 0 _ rfl
      have v1 := hT.res.cell 1 _ rfl
      have fz := has_fro hT.res
      obtain ⟨aol, capl, hv⟩ := hT.own.len
      obtain ⟨ln, hln⟩ : ∃ k, ps.length = k := ⟨_, rfl⟩
      rw [hln] at hv
      subst hv
      have RR : Polyss w g v (.returned (.agg #[.bool c, .slice aol ln capl])) ((wr.setCell ⟨B, 0, none⟩ (.bool c)).setCell ⟨B, 1, none⟩ (.slice aol ln capl)) := by
        have hset : wr.grownBy ((wr.setCell ⟨B, 0, none⟩ (.bool c)).setCell ⟨B, 1, none⟩ (.slice aol ln capl)) (some B) := grownBy_set (grownBy_set (World.grownBy.refl _ _) _ _) _ _
        have q1 := hT.hB
        have q2 := hT.lo
        refine ⟨c, _, ps, rfl, by omega, hT.small, ?_, HT.out.young hT.tp hset (fun k hk => by simp at hk; omega), grownBy_own hT.grown hset (fun k hk => by simp at hk; omega)⟩
        exact (hT.own.lower (by omega)).kept hset (fun k hk e => hT.away.2 (by rw [e]; exact hk.symm))
      have RRH := Lib.hid RR
      clear RR hT hln
      go_wp2
      refine bodyPost_ret (v := .agg #[.bool c, .slice aol ln capl]) (by simp [results, Try.results7, go_sem, v0, v1]) rfl ?_
      exact RRH.out
    · obtain ⟨m', rfl⟩ : ∃ k, m = k + 1 := ⟨m - 1, by omega⟩
      have om : (m' : Int) ≤ 5 := by omega
      have T3 := Lib.hid hT
      clear hT
      go_wp2_with fail
      refine (t_number g v (-5) 20 _ (by omega) (by omega) (by omega) T3.out.tp).mono ?_
      rintro e w3 ⟨x, rfl, x0, x1, ht, hg⟩
      have T4 := Lib.hid (T3.out.call ht hg)
      clear ht hg T3
      go_wp2_with fail
      refine (t_number g v (-5) 20 _ (by omega) (by omega) (by omega) T4.out.tp).mono ?_
      rintro e w4 ⟨y, rfl, y0, y1, ht, hg⟩
      have T5 := T4.out.call ht hg
      clear ht hg T4
      obtain ⟨gx, hgx⟩ : ∃ k, w4.heap.size = k := ⟨_, rfl⟩
      obtain ⟨V, hV⟩ : ∃ V, w4.alloc (.cells (pCells ⟨x, y⟩) 31) = V := ⟨_, rfl⟩
      have T6 : Tpp w g v B go c ps l V := by rw [← hV]; exact T5.alloc _
      have kx : Has V gx (pCells ⟨x, y⟩) 31 := by rw [← hV]; exact has_new hgx
      have nx : l.ownBlock ≠ some gx := fun e => by have := (T5.own.base gx e).2; omega
      have ngo : go < gx := by have := T5.out.lt; omega
      obtain ⟨N, hN⟩ : ∃ k, ps.length = k := ⟨_, rfl⟩
      obtain ⟨aol, capl, hv⟩ := T6.own.len
      rw [hN] at hv hl
      subst hv
      have HN := Lib.hid hN
      have HV := Lib.hid hV
      have K6 := Lib.hid kx
      have T6H := Lib.hid T6
      have NX := Lib.hid nx
      have c1 := T6.out.cell 1 _ rfl
      have p0 := kx.cell 0 _ rfl
      have p1 := kx.cell 1 _ rfl
      have SM : Hid (Small9 (ps ++ [⟨x, y⟩])) := Lib.hid (T6.small.snoc (by show -327680 ≤ x; omega) (by show x ≤ 1376255; omega) (by show -327680 ≤ y; omega) (by show y ≤ 1376255; omega))
      have TA := Lib.hid (T6.alloc (.cells (pCells ⟨x, y⟩) 31))
      have KXA := Lib.hid (kx.alloc (.cells (pCells ⟨x, y⟩) 31))
      have SB : Hid (go + 1 ≤ (V.alloc (.cells (pCells ⟨x, y⟩) 31)).heap.size) := Lib.hid (by have := T6.out.lt; simp; omega)
      have N1 : Hid (N + 1 ≤ 8796093022208) := Lib.hid (by omega)
      have SM2 : Hid (Small9 (ps ++ [⟨x, y⟩, ⟨x, y⟩])) := Lib.hid (by have q := (SM.out.snoc (p := ⟨x, y⟩) (by show -327680 ≤ x; omega) (by show x ≤ 1376255; omega) (by show -327680 ≤ y; omega) (by show y ≤ 1376255; omega)); simpa using q)
      clear hV T5 T6 kx nx hN x0 x1 y0 y1
      go_upto_region 6 with fail
      rw [HV.out]
      clear hgx
      go_wp2_with (at_builtin; refine wpList_append_pl rfl _ _ rfl N HN.out rfl V.heap.size 0 1 1 rfl [⟨x, y⟩] rfl (by decide) N1.out (prow_one ⟨x, y⟩ _) TA.out.own SB.out ?_)
      intro g' cap' w5 ho hg hat
      have f0 := (TA.out.fine hg).1
      have f1 := (TA.out.fine hg).2
      obtain ⟨w6, hw6⟩ : ∃ w6, w5.setCell ⟨go, 1, none⟩ (.slice (some ⟨g', 0, none⟩) (N + 1) cap') = w6 := ⟨_, rfl⟩
      have T7 := Tpp.put HT.out TA.out ho hg SM.out
      have KX7 := keep_put (go := go) hg KXA.out NX.out (by omega) (.slice (some ⟨g', 0, none⟩) (N + 1) cap')
      rw [hw6] at T7 KX7
      have T7H := Lib.hid T7
      have K7 := Lib.hid KX7
      have HW6 := Lib.hid hw6
      clear ho hg hat hw6 T7 KX7 TA KXA SB p0 p1 c1
      go_upto_region 7 with fail
      rw [HW6.out]
      clear f0 f1
      go_wp2_with fail
      refine (t_next g v 6 _ (by omega) (by omega) T7H.out.tp).mono ?_
      rintro e w7 ⟨z, rfl, z0, z1, ht, hg⟩
      have T8 := Lib.hid (T7H.out.call ht hg)
      have K8 := Lib.hid (has_grown K7.out hg (by have := T7H.out.lg; have := T7H.out.lo; omega))
      clear ht hg T7H K7
      by_cases hz : z = 0
      · subst hz
        have c1 := T8.out.out.cell 1 _ rfl
        have p0 := K8.out.cell 0 _ rfl
        have p1 := K8.out.cell 1 _ rfl
        have TA := Lib.hid (T8.out.alloc (.cells (pCells ⟨x, y⟩) 31))
        have SB : Hid (go + 1 ≤ (w7.alloc (.cells (pCells ⟨x, y⟩) 31)).heap.size) := Lib.hid (by have := T8.out.out.lt; simp; omega)
        have N2 : Hid (N + 1 + 1 ≤ 8796093022208) := Lib.hid (by omega)
        have HN2 : Hid ((ps ++ [(⟨x, y⟩ : Pt)]).length = N + 1) := Lib.hid (by rw [List.length_append, HN.out]; rfl)
        clear z0 z1
        go_wp2_with (at_builtin; refine wpList_append_pl rfl _ _ rfl (N + 1) HN2.out rfl w7.heap.size 0 1 1 rfl [⟨x, y⟩] rfl (by decide) N2.out (prow_one ⟨x, y⟩ _) TA.out.own SB.out ?_)
        intro g2 cap2 w8 ho hg hat
        have f0 := (TA.out.fine hg).1
        have f1 := (TA.out.fine hg).2
        have T9 := Lib.hid (Tpp.put HT.out TA.out ho hg SM2.out)
        have LL : Hid ((ps ++ [(⟨x, y⟩ : Pt), ⟨x, y⟩]).length + 2 * m' ≤ 12) := Lib.hid (by simp [HN.out]; omega)
        clear ho hg hat TA SB c1 p0 p1
        go_wp2
        go_roundw
        case rel => exact ⟨m', _, _, by go_num, by omega, LL.out, T9.out⟩
        case measure => simp [intOf]
      · have LL : Hid ((ps ++ [(⟨x, y⟩ : Pt)]).length + 2 * m' ≤ 12) := Lib.hid (by simp [HN.out]; omega)
        clear z0 z1
        go_wp2
        go_roundw
        case rel => exact ⟨m', _, _, by go_num, by omega, LL.out, T8.out⟩
        case measure => simp [intOf]

end Go.Proofs.Ytmdokohdafeilaa

namespace Go.Proofs.Ytmdokohdafeilaa
open Go Go.RowKit
open M

def Tapess (w : World) (e : Ending) (w' : World) : Prop := ∃ (g : Nat) (v : Value), e = .returned (.pointer (some ⟨g, 0, none⟩)) ∧ Tp w' g v ∧ w.heap.size ≤ g ∧ Below w.heap.size w w'

set_option maxRecDepth 100000 in
set_option maxHeartbeats 2000000 in
theorem l9_tapes (k : Nat) (hk : k ≤ 40) (w : World) : Calls Try.prog 8 #[.int .i64 (k : Int)] w (Tapess w) := by
  obtain ⟨j0, hj, hy0, hy1, hy2⟩ := info_parts Try.infoInt
  obtain ⟨B, hB⟩ : ∃ B, w.heap.size = B := ⟨_, rfl⟩
  have HB := Lib.hid hB
  clear hB
  have ok : (k : Int) ≤ 40 := by omega
  go_enter Try.func8, Try.ntmps8
  go_wp2_with fail
  go_loopw [3, 4] (fun t i wr => ∃ (q : Nat) (xs : List Int), q ≤ 60 ∧ i = .int .i64 q ∧ xs.length = q ∧ Iown wr B t xs ∧ Below B w wr ∧ B ≤ wr.heap.size) (fun _ i _ => 60 - (intOf i).toNat)
  case atStart => exact ⟨0, [], by omega, rfl, rfl, World.ownsRow_nil _ _ _ _, Below.refl _ _, by have := HB.out; omega⟩
  case round =>
    obtain ⟨q, xs, hq, rfl, hl, ho, hb, hs⟩ := hrel
    by_cases hlt : q < 60
    · have o2 : (q : Int) < 60 := by omega
      have HO := Lib.hid ho
      have HL := Lib.hid hl
      have B5 := Lib.hid hb
      have s5 := Lib.hid hs
      clear ho hl hb hs
      go_wp2_with (at_builtin; refine wpList_append_near _ rfl _ _ 33 rfl B 3 j0 (.int .i64 0) 1 8 Try.underlying33 hj hy0 hy1 hy2 rfl (by decide) _ xs.length (xs.map (Value.int .i64)) rfl (HO.out.alloc _) ⟨wr.heap.size, 0, none⟩ 1 1 [.int .i64 _] rfl rfl (new_one rfl) (ones_one _) ?c3 ?c4 ?c5 ?_)
      case c3 => have := HL.out; unfold maxLen; omega
      case c4 => have := HL.out; omega
      case c5 => have := s5.out; simp; omega
      intro t' w6 hown' hg' hnear
      have R : Hid (∃ ys : List Int, ys.length = q + 1 ∧ Iown w6 B t' ys) := Lib.hid ⟨xs ++ [_], by simp [HL.out], by unfold Iown; simpa using hown'⟩
      have B6 : Hid (Below B w w6 ∧ B ≤ w6.heap.size) := Lib.hid ⟨(B5.out.alloc s5.out _).grown hg' (by have := s5.out; simp; omega) (fun k hk => (HO.out.base k hk).1), by have := hg'.size; have := s5.out; simp at *; omega⟩
      clear hown' hg' hnear HO B5 s5
      go_wp2
      go_roundw
      case rel => obtain ⟨ys, y1, y2⟩ := R.out; exact ⟨q + 1, ys, by omega, by go_num, y1, y2, B6.out.1, B6.out.2⟩
      case measure => simp [intOf]; omega
    · have oq : ¬ (q : Int) < 60 := by omega
      have NU := ho.nums (by omega)
      obtain ⟨at_, nt, ct, ev⟩ := NU.shape
      subst ev
      have RR : Tapess w (.returned (.pointer (some ⟨wr.heap.size, 0, none⟩))) (wr.alloc (.cells #[.slice at_ nt ct, .int .i64 0] 35)) := by
        refine ⟨wr.heap.size, _, rfl, tp_start NU (has_new rfl) ((Below.refl _ _).alloc (Nat.le_refl _) _) (Nat.le_refl _), by have := HB.out; omega, ?_⟩
        rw [HB.out]
        exact hb.alloc hs _
      have RRH := Lib.hid RR
      clear RR NU ho hl hb hs
      go_wp2
      go_ret
      exact RRH.out

end Go.Proofs.Ytmdokohdafeilaa

namespace Go.Proofs.Ytmdokohdafeilaa
open Go Go.RowKit
open M

def wds12 : List Int := [-9223372036854775808, -1, 0, 1, 2, 3, 65536, 196608, 67108864, 9223372036854775807]
def big12 : List Pt := [⟨9223372036854775807, -9223372036854775808⟩, ⟨-9223372036854775808, 0⟩, ⟨536870912, 536870912⟩, ⟨-536870912, 1152921504606846976⟩]

set_option maxRecDepth 100000 in
set_option maxHeartbeats 4000000 in
theorem strokeNumbers_walk (w : World) :
    Calls Try.prog 3 #[] w fun r w' => r = .returned (.bool true) ∧ Below w.heap.size w w' := by
  obtain ⟨B, hB⟩ : ∃ B, w.heap.size = B := ⟨_, rfl⟩
  have HB := Lib.hid hB
  clear hB
  go_enter Try.func3, Try.ntmps3
  go_wp2_with fail
  go_loopw [1] (fun i wr => ∃ k : Nat, k ≤ 40 ∧ i = .int .i64 k ∧ Below B w wr ∧ B ≤ wr.heap.size) (fun i _ => 40 - (intOf i).toNat)
  case atStart => exact ⟨0, by omega, rfl, Below.refl _ _, by have := HB.out; omega⟩
  case round =>
    obtain ⟨k, hk, rfl, hb, hs⟩ := hrel
    rename World => v4
    have B4 := Lib.hid hb
    have s4 := Lib.hid hs
    clear hb hs
    by_cases hk40 : k < 40
    · have o1 : (k : Int) < 40 := by omega
      go_wp2_with fail
      refine (l9_tapes k (by omega) v4).mono ?_
      rintro e w1 ⟨g, v, rfl, tp1, lg1, hb1⟩
      have P1 := Lib.hid (l9_poly g v w1 tp1)
      have B1 : Hid (Below B w w1 ∧ B ≤ g ∧ B ≤ w1.heap.size) := Lib.hid ⟨B4.out.trans (hb1.mono s4.out), by have := s4.out; omega, by have := hb1.size; have := s4.out; omega⟩
      have LG : Hid (g < w1.heap.size) := Lib.hid tp1.lt
      clear tp1 lg1 hb1 B4 s4
      go_wp2_with fail
      refine P1.out.mono ?_
      rintro e w2 ⟨c, l, ps, rfl, h12, _, ho, tp2, hg2⟩
      obtain ⟨ao, cap, hv⟩ := ho.len
      obtain ⟨N, hN⟩ : ∃ N, ps.length = N := ⟨_, rfl⟩
      rw [hN] at hv
      subst hv
      obtain ⟨gp, hgp⟩ : ∃ g, w2.heap.size = g := ⟨_, rfl⟩
      obtain ⟨W, hW⟩ : ∃ W, (w2.alloc (.cells #[.bool c, .slice ao N cap] 24)).alloc (.cells #[.int .i64 (-9223372036854775808), .int .i64 (-1), .int .i64 0, .int .i64 1, .int .i64 2, .int .i64 3, .int .i64 65536, .int .i64 196608, .int .i64 67108864, .int .i64 9223372036854775807] 2) = W := ⟨_, rfl⟩
      have kp : Has W gp #[.bool c, .slice ao N cap] 24 := by rw [← hW]; exact (has_new hgp).alloc _
      have kl : Has W (gp + 1) #[.int .i64 (-9223372036854775808), .int .i64 (-1), .int .i64 0, .int .i64 1, .int .i64 2, .int .i64 3, .int .i64 65536, .int .i64 196608, .int .i64 67108864, .int .i64 9223372036854775807] 2 := by rw [← hW]; exact has_new (by simp [hgp])
      have il : Isl W (.slice (some ⟨gp + 1, 0, none⟩) 10 10) wds12 := isl_lit (ds := wds12) rfl (by decide) kl rfl
      have sp : Psl W (.slice ao N cap) ps := by rw [← hW]; exact ((ho.sl (by omega)).alloc _).alloc _
      have bW : Below B w W ∧ B ≤ W.heap.size := by
        have q := hg2.size
        have q2 := B1.out.2.2
        rw [← hW]
        exact ⟨((below_on B1.out.1 hg2 B1.out.2.1 B1.out.2.2).alloc (by omega) _).alloc (by simp; omega) _, by simp; omega⟩
      have KP := Lib.hid kp
      have IL := Lib.hid il
      have SP := Lib.hid sp
      have BW := Lib.hid bW
      have HW := Lib.hid hW
      have L12 : Hid (ps.length ≤ 30) := Lib.hid (by omega)
      clear kp kl il sp bW hW ho tp2 hg2 h12 hN P1 B1 LG
      go_wp2_with fail
      rw [HW.out]
      clear hgp
      go_loopw [16] (fun i wr => ∃ j : Nat, j ≤ 10 ∧ i = .int .i64 j ∧ Below W.heap.size W wr) (fun i _ => 10 - (intOf i).toNat)
      case atStart => exact ⟨0, by omega, rfl, Below.refl _ _⟩
      case round =>
        obtain ⟨j, hj, rfl, hb⟩ := hrel
        rename World => v5
        have B5 := Lib.hid hb
        clear hb
        by_cases hj10 : j < 10
        · obtain ⟨_, gi, oi, ei, hci⟩ := (IL.out.below B5.out).at (by decide)
          simp only [Option.some.injEq, Addr.mk.injEq, and_true] at ei
          obtain ⟨rfl, rfl⟩ := ei
          have c0 := hci j hj10
          rw [Nat.zero_add] at c0
          obtain ⟨x, hx⟩ : ∃ x, nm wds12 j = x := ⟨_, rfl⟩
          rw [hx] at c0
          have o2 : (j : Int) < 10 := by omega
          clear hci hx
          go_wp2_with fail
          go_loopw [5] (fun i wr => ∃ q : Nat, q ≤ 4 ∧ i = .int .i64 ((q : Int) - 1) ∧ Below W.heap.size W wr) (fun i _ => 4 - (intOf i + 1).toNat)
          case atStart => exact ⟨0, by omega, rfl, B5.out⟩
          case round =>
            obtain ⟨q, hq, rfl, hb⟩ := hrel
            rename World => v6
            have B6 := Lib.hid hb
            clear hb
            by_cases hq4 : q < 4
            · have o3 : (q : Int) - 1 < 3 := by omega
              have SM := Lib.hid (fun y => l12_same c x y (SP.out.below B6.out (Nat.le_refl _)) L12.out)
              have kp6 := KP.out.below B6.out KP.out.lt
              have p0 := kp6.cell 0 _ rfl
              have p1 := kp6.cell 1 _ rfl
              clear kp6
              go_wp2_with fail
              refine (SM.out _).mono ?_
              rintro e w7 ⟨rfl, hq7⟩
              have B7 := Lib.hid (B6.out.trans (hq7.mono B6.out.size))
              clear hq7 p0 p1 SM
              go_wp2
              go_roundw
              case rel => exact ⟨q + 1, by omega, by go_num, B7.out⟩
              case measure => simp [intOf]; omega
            · have o3 : ¬ (q : Int) - 1 < 3 := by omega
              go_wp2
              go_roundw
              case rel => exact ⟨j + 1, by omega, by go_num, B6.out⟩
              case measure => simp [intOf]; omega
        · have oj : ¬ (j : Int) < 10 := by omega
          have E : Hid (Below B w v5 ∧ B ≤ v5.heap.size) := Lib.hid ⟨BW.out.1.trans (B5.out.mono BW.out.2), by have := B5.out.size; have := BW.out.2; omega⟩
          go_wp2
          go_roundw
          case rel => exact ⟨k + 1, by omega, by go_num, E.out.1, E.out.2⟩
          case measure => simp [intOf]; omega
    · have ok : ¬ (k : Int) < 40 := by omega
      obtain ⟨G, hG⟩ : ∃ G, v4.heap.size = G := ⟨_, rfl⟩
      obtain ⟨W, hW⟩ : ∃ W, (v4.alloc (.cells #[.int .i64 9223372036854775807, .int .i64 (-9223372036854775808), .int .i64 (-9223372036854775808), .int .i64 0, .int .i64 536870912, .int .i64 536870912, .int .i64 (-536870912), .int .i64 1152921504606846976] 31)).alloc (.cells #[.bool true, .slice (some ⟨G, 0, none⟩) 4 4] 24) = W := ⟨_, rfl⟩
      have k0 : Has W G #[.int .i64 9223372036854775807, .int .i64 (-9223372036854775808), .int .i64 (-9223372036854775808), .int .i64 0, .int .i64 536870912, .int .i64 536870912, .int .i64 (-536870912), .int .i64 1152921504606846976] 31 := by rw [← hW]; exact (has_new hG).alloc _
      have sp : Psl W (.slice (some ⟨G, 0, none⟩) 4 4) big12 := psl_lit (ps := big12) 4 4 rfl (by decide) k0 rfl
      have bW : Below B w W := by
        have := s4.out
        rw [← hW]
        exact (B4.out.alloc (by omega) _).alloc (by simp; omega) _
      have SM := Lib.hid (l12_same true 67108864 1 sp (by decide))
      have BW := Lib.hid bW
      have HW := Lib.hid hW
      have SW : Hid (B ≤ W.heap.size) := Lib.hid (by have := s4.out; rw [← hW]; simp; omega)
      clear k0 sp bW hW B4 s4
      go_wp2_with fail
      rw [HW.out]
      clear hG
      refine SM.out.mono ?_
      rintro e w5 ⟨rfl, hq5⟩
      have B5 := Lib.hid (BW.out.trans (hq5.mono SW.out))
      have S5 : Hid (B ≤ w5.heap.size) := Lib.hid (by have := SW.out; have := hq5.size; omega)
      clear hq5
      go_wp2_with fail
      refine (known12 _).mono ?_
      rintro e w6 ⟨rfl, hq6⟩
      have B6 : Hid (Below B w w6) := Lib.hid (B5.out.trans (hq6.mono S5.out))
      clear hq6
      go_wp2
      go_ret
      exact ⟨rfl, by rw [HB.out]; exact B6.out⟩
end Go.Proofs.Ytmdokohdafeilaa

namespace Go.Proofs.Ytmdokohdafeilaa.strokeNumbers
open Go.ChangeShapes Go.WideShapes Go.ChangeAt Go.RowKit

theorem post_below {H : Type} {enc : TypeId × Value → H} {P : Program} {f : Func} {s : ChangeSpec} {apart fresh handsOn : Bool} {W V : World} {args : Array Value} {v : Value} {ds gs : List (DataW H)} {before pa pv : List MemPlace}
    (hW : DataW.Whole enc P f.params.toList s.vars apart W args.toList ds gs before)
    (hres : ∀ (b : Nat) (sp : Nat → Bool) (hd : Bool), DataW.TrodAll enc P V b sp hd f.resultTypes.toList (v.resultList f.resultTypes.size) (s.fn H (ds ++ gs)).results [])
    (hargs : ∀ sp : Nat → Bool, (∀ p ∈ before, sp p.block = true) → DataW.TrodAll enc P V 0 sp true f.params.toList args.toList (s.fn H (ds ++ gs)).args pa)
    (hvars : ∀ sp : Nat → Bool, (∀ p ∈ before, sp p.block = true) → DataW.TrodVars enc P V sp s.vars (s.fn H (ds ++ gs)).vars pv)
    (hps : before = pa ++ pv) (hb : Below W.heap.size W V) : s.post enc P f apart fresh handsOn false W args v V := by
  have hl : ∀ p ∈ before, (fun b => decide (b < W.heap.size)) p.block = true := fun p hp => by simpa using hW.lt p hp
  refine ⟨ds, gs, before, [], pa, pv, hW, hres _ _ _, hargs _ hl, hvars _ hl, World.keptBut_mono (fun p hp => ⟨hp, ?_⟩) (hb.frame (· ∈ before)), fun h => by cases h⟩
  rw [hps, List.mem_append] at hp
  exact Or.inr hp

theorem own : ownKnob Try.prog.godebug = none := by kernel_rfl

set_option maxRecDepth 100000 in
theorem lifted (os : Os) (started : os.Started) (H : Type) (enc : TypeId × Value → H) :
    ReturnsInHanded {} Try.checked os 3 .any (Rows.strokeNumbersSpec.pre6 enc Try.prog Try.f3 Rows.strokeNumbersRow.domain false) (Rows.strokeNumbersSpec.post enc Try.prog Try.f3 false true false false) := by
  refine returnsInHanded_of_change (C := Try.checked) own started (by kernel_rfl) Try.func3
    (ChangeSpec.witness6 (enc := enc) (C := Try.checked) false ⟨#[], #[], []⟩ 8 (by kernel_rfl) (by kernel_rfl) (by kernel_rfl) (by kernel_rfl)) ?_
  intro W base args ds gs before hval0 hW hcnd _
  have hval : ∀ (j : Nat) t v, Try.f3.params[j]? = some t → args[j]? = some v → Value.okWide Try.prog W .any base t v := hval0
  have hW' := hW
  obtain ⟨p, q, hA0, hV, rfl, hfz, hnd⟩ := hW
  have hA : DataW.TrodAll enc Try.prog W 0 (fun _ => true) true Try.f3.params.toList args.toList ds p := hA0
  rw [Try.params3] at hA hval
  obtain ⟨rfl, rfl, rfl⟩ := trodAll_none hA
  obtain ⟨rfl, rfl⟩ := trodVars_none hV
  clear hA0 hval0
  simp only [List.append_nil] at hW'
  refine (strokeNumbers_walk W).mono fun e W' ⟨he, hg⟩ => ?_
  subst he
  exact ⟨_, rfl, post_below (pa := []) (pv := []) hW' (fun _ _ _ => (trodAll_cons_mk (shut_bool Try.underlying4 _) trodAll_mk0)) (fun sp _ => rfl) (fun _ _ => rfl) rfl hg⟩

theorem over : Rows.strokeNumbersRow.holds Try.pinned (OpenSpec.ofChange Rows.strokeNumbersSpec) :=
  OpenClaim.holds_of_wide 3 Try.f3 rfl rfl rfl rfl rfl rfl rfl ⟨rfl, rfl, rfl, rfl, rfl⟩ rfl rfl rfl rfl rfl (by kernel_rfl) Try.func3 (by kernel_rfl)
    (of_decide_eq_true (by kernel_rfl)) (by unfold Func.isWrapper; first | (rw [if_pos (by decide +kernel)]; kernel_rfl) | (rw [if_neg (by decide +kernel)]; exact ⟨rfl, rfl⟩))
    (fun os started H enc _ => lifted os started H enc)

end Go.Proofs.Ytmdokohdafeilaa.strokeNumbers
namespace Go.Proofs.Ytmdokohdafeilaa
theorem strokeNumbers_holds : Rows.StrokeNumbersSaid := strokeNumbers.over
#print axioms strokeNumbers_holds
end Go.Proofs.Ytmdokohdafeilaa
