/- Contract of mutoscopelaw14.polysOf: for every tape a list of polys of the call's own, few, whose numbers are small; the tape alone turns. -/
import Derived.Test.YtopepgifhnfbiaaVar
import Derived.Test.YtopepgifhnfbiaaXMath
import Derived.Test.YtopepgifhnfbiaaN4
import Derived.Test.YtopepgifhnfbiaaY8
import Derived.Test.YtopepgifhnfbiaaPB
import Derived.BigRegion
import Derived.Test.YtopepgifhnfbiaaYG8
import Derived.Test.YtopepgifhnfbiaaU4
import Derived.Test.YtopepgifhnfbiaaTail
import Derived.Laws.Tables
import Derived.Laws.Rows
import Derived.Deep.RegionHeld3
import Derived.Great.Frames
import Derived.Test.YtopepgifhnfbiaaPMath
import Derived.Laws.BitsAllLaws
import Derived.Test.YtopepgifhnfbiaaUMath
import Derived.Test.YtopepgifhnfbiaaNMath
import Derived.Test.YtopepgifhnfbiaaMidM
import Derived.Test.YtopepgifhnfbiaaGen
import Derived.Test.YtopepgifhnfbiaaTwoP
import Derived.Test.YtopepgifhnfbiaaPM
import Derived.Test.YtopepgifhnfbiaaMake
import Derived.Test.YtopepgifhnfbiaaAP8
import Derived.Test.YtopepgifhnfbiaaKN7
import Derived.Test.YtopepgifhnfbiaaC
import Derived.Test.YtopepgifhnfbiaaQt
import Derived.Test.YtopepgifhnfbiaaMath
import Derived.Test.YtopepgifhnfbiaaD
import Derived.Test.YtopepgifhnfbiaaJ
import Derived.Test.YtopepgifhnfbiaaE4
import Derived.Test.YtopepgifhnfbiaaTK5
import Derived.Deep.RegionLaw
import Derived.Deep.DeepCutAuto
import Derived.Test.YtopepgifhnfbiaaTP
namespace Go.Proofs.Ytopepgifhnfbiaa
open Go Go.RowKit

section
variable {L : List Oper} {mk : List Nat} {o : Oper} {p : Nat} {G : Nat → Option Value} {e : Act}
/-- Operation o's guard is no made value. -/
def guardB (L : List Oper) (mk : List Nat) (o : Oper) : Bool := match o.guard with | none => true | some (g, _) => (match dstAt L g with | some d => mk.all fun j => dstAt L j != some d | none => true)
theorem wanted_put (h : guardB L mk o = true) (hGn : ∀ k, k ∉ mk → G k = none) (hw : Region.wanted o (yielded L.toArray e.tmps) = true) : Region.wanted o (yielded L.toArray (putV (dstAt L) G p e).tmps) = true := by
  unfold Region.wanted at hw ⊢
  unfold guardB at h
  cases hg : o.guard with
  | none => rfl
  | some gb =>
    obtain ⟨g, b⟩ := gb
    rw [hg] at h hw
    simp only at h hw ⊢
    have key : yielded L.toArray (putV (dstAt L) G p e).tmps g = yielded L.toArray e.tmps g := by
      unfold yielded
      have ed : (L.toArray[g]?).bind (·.dst) = dstAt L g := by unfold dstAt; simp
      rw [ed]
      cases hd : dstAt L g with
      | none => rfl
      | some d =>
        rw [hd] at h
        simp only at h
        have q : (putV (dstAt L) G p e).tmps[d]? = e.tmps[d]? := putV_at e p fun k hk hkn he => by
          have hkm : k ∈ mk := by
            apply Classical.byContradiction
            intro hn
            exact hkn (hGn k hn)
          have := List.all_eq_true.1 h k hkm
          rw [he] at this
          simp at this
        simp only [Option.bind_some, q]
    rw [key]
    exact hw
end

end Go.Proofs.Ytopepgifhnfbiaa

namespace Go.Proofs.Ytopepgifhnfbiaa
open Go Go.RowKit
open M

/-- A poly's part is stored into a block of the call's own. -/
theorem part_put {w V w3 : World} {r : Nat} {l : Value} {ps : List Pt} {cs : Array Value} (hb : Below w.heap.size w V) (hl : w.heap.size ≤ r) (hr : Has V r cs 31) (hs : cs.size = 2) (ho : Pown w3 V.heap.size l ps) (hb3 : Below V.heap.size V w3) :
    Gives w false ps (.returned (.agg #[.bool false, l])) ((w3.setCell ⟨r, 0, none⟩ (.bool false)).setCell ⟨r, 1, none⟩ l) ∧ Has ((w3.setCell ⟨r, 0, none⟩ (.bool false)).setCell ⟨r, 1, none⟩ l) r #[.bool false, l] 31 := by
  have k3 := hr.below hb3 hr.lt
  refine ⟨⟨l, rfl, (ho.lower hb.size).kept (grownBy_set (grownBy_set (World.grownBy.refl _ _) _ _) _ _) (fun k hk e => by simp at hk; have := (ho.base k e).1; have := hr.lt; omega), ((hb.trans (hb3.mono hb.size)).setCell hl _).setCell hl _⟩, ?_⟩
  have := has_set (has_set k3 0 (.bool false)) 1 l
  match cs, hs with
  | ⟨[x, y]⟩, _ => simpa using this

end Go.Proofs.Ytopepgifhnfbiaa

namespace Go.Proofs.Ytopepgifhnfbiaa
open Go Go.RowKit
open M

/-- The value v is a poly whose list is of the call's own. -/
def PolyO (base : Nat) (c : Bool) (ps : List Pt) (v : Value) (w : World) : Prop := ∃ l, v = .agg #[.bool c, l] ∧ Pown w base l ps
theorem PolyO.stay {base : Nat} {c : Bool} {ps : List Pt} {v : Value} {w w' : World} (h : PolyO base c ps v w) (hb : Below w.heap.size w w') : PolyO base c ps v w' := by
  obtain ⟨l, e, hp⟩ := h
  exact ⟨l, e, hp.below hb (Nat.le_refl _)⟩
theorem Pown.ne_has {w : World} {B g : Nat} {l : Value} {ps : List Pt} {cs : Array Value} (h : Pown w B l ps) (hg : Has w g cs 31) : l.ownBlock ≠ some g := by
  intro e
  rcases h.2 with ⟨rfl, _⟩ | ⟨g', cap, cur, rfl, _, hh, _⟩
  · cases e
  · have e' : some g' = some g := e
    simp at e'
    subst e'
    unfold Has at hg
    rw [hh] at hg
    simp at hg
theorem ysl_lit {w : World} {g n cp : Nat} {ys : List Po} {cs : Array Value} {t : TypeId} (hn : ys.length = n) (hf : n ≤ 1000) (hs : ∀ i, i < ys.length → Psl w (po ys i).v (po ys i).ps) (h : Has w g cs t) (hc : cs = (yls ys).toArray) : Ysl w (.slice (some ⟨g, 0, none⟩) n cp) ys := ysl_has hn hf hs (hc ▸ h)
theorem ysl_one {w : World} {g : Nat} {c : Bool} {l : Value} {fs : List Pt} {t : TypeId} (hs : Psl w l fs) (h : Has w g #[.bool c, l] t) : Ysl w (.slice (some ⟨g, 0, none⟩) 1 1) [⟨c, l, fs⟩] := by
  refine ysl_lit (ys := [⟨c, l, fs⟩]) rfl (by decide) (fun i hi => ?_) h rfl
  obtain rfl : i = 0 := by simp at hi; omega
  exact hs
theorem ysl_two {w : World} {g : Nat} {c c2 : Bool} {l l2 : Value} {fs fs2 : List Pt} {t : TypeId} (hs : Psl w l fs) (hs2 : Psl w l2 fs2) (h : Has w g #[.bool c, l, .bool c2, l2] t) : Ysl w (.slice (some ⟨g, 0, none⟩) 2 2) [⟨c, l, fs⟩, ⟨c2, l2, fs2⟩] :=
  ysl_lit (ys := [⟨c, l, fs⟩, ⟨c2, l2, fs2⟩]) rfl (by decide) (fun i hi => by
    rcases (show i = 0 ∨ i = 1 by simp at hi; omega) with rfl | rfl
    · exact hs
    · exact hs2) h rfl
theorem one_alike {c : Bool} {l l2 : Value} {fs : List Pt} : ∀ j, j < [(⟨c, l, fs⟩ : Po)].length → bareY (po [(⟨c, l, fs⟩ : Po)] j) = bareY (po [(⟨c, l2, fs⟩ : Po)] j) := fun j hj => by
  obtain rfl : j = 0 := by simp at hj; omega
  rfl
theorem ysl_shape {w : World} {v : Value} {ys : List Po} {n : Nat} (h : Ysl w v ys) (hn : ys.length = n) : ∃ ao cap, v = .slice ao n cap := by
  obtain ⟨ao, cap, e, _⟩ := h
  exact ⟨ao, cap, by rw [e, hn]⟩

end Go.Proofs.Ytopepgifhnfbiaa

namespace Go.Proofs.Ytopepgifhnfbiaa
open Go Go.RowKit

section
variable {P : Program}
theorem run_append_noth (w : World) (t ty e : TypeId) (i : TypeInfo) (ht : P.underlying t = some (.slice e)) (hi : P.info? e = some i) (base : Option Addr) (sLen sCap : Nat) (hle : sLen ≤ sCap) (ao : Option Addr) (cap : Nat) :
    (Builtin.append_ #[t, t] ty #[.slice base sLen sCap, .slice ao 0 cap]).run P w = .ok (.slice base sLen sCap) w := by
  have hlo : ∀ (x : Addr), (loadCells x 0).run P w = .ok #[] w := fun x => by simpa using run_loadCells_list (P := P) w x [] (by simp)
  cases ao <;> cases base <;> simp [Builtin.append_, run_underlying ht, sizeOf, typeInfo, hi, Builtin.lenOf, Builtin.firstCells, hle, hlo, storeCells]
theorem wp_append_noth {w : World} {o : Oper} {a : Act} {K : Act → World → Prop} {Q : Exit → Act → World → Prop} (s x : Operand) (t : TypeId)
    (ho : o.op = .call { callee := .builtin .append, args := #[s, x], argTypes := #[t, t] }) (e : TypeId) (i : TypeInfo) (ht : P.underlying t = some (.slice e)) (hi : P.info? e = some i) (base : Option Addr) (sLen sCap : Nat) (hle : sLen ≤ sCap) (hs : a.eval s = .slice base sLen sCap)
    (ao : Option Addr) (cap : Nat) (hx : a.eval x = .slice ao 0 cap) (h : K (a.put o.dst (.slice base sLen sCap)) w) : o.wp P a w K Q := by
  have hrun := run_append_noth (P := P) w t o.type e i ht hi base sLen sCap hle ao cap
  unfold Oper.wp
  simp [execOp, ho, resolve, invoke, builtin, hs, hx, hrun, Result.andThen]
  exact h
theorem wpList_append_noth {w : World} {ops : Array Oper} {rest : List Oper} {o : Oper} {a : Act} {Q : Exit → Act → World → Prop} (hgd : o.guard = none) (s x : Operand) (t : TypeId)
    (ho : o.op = .call { callee := .builtin .append, args := #[s, x], argTypes := #[t, t] }) (e : TypeId) (i : TypeInfo) (ht : P.underlying t = some (.slice e)) (hi : P.info? e = some i) (base : Option Addr) (sLen sCap : Nat) (hle : sLen ≤ sCap) (hs : a.eval s = .slice base sLen sCap)
    (ao : Option Addr) (cap : Nat) (hx : a.eval x = .slice ao 0 cap) (h : wpList P ops Q rest (a.put o.dst (.slice base sLen sCap)) w) : wpList P ops Q (o :: rest) a w :=
  wpList_plain hgd fun _ hK => wp_append_noth s x t ho e i ht hi base sLen sCap hle hs ao cap hx (hK _ _ h)
end

end Go.Proofs.Ytopepgifhnfbiaa

namespace Go.Proofs.Ytopepgifhnfbiaa
open Go Go.RowKit
open M

/-- A list of just these polys is returned. -/
def GivesL (w : World) (L : List (Bool × List Pt)) (e : Ending) (w' : World) : Prop := ∃ v zs, e = .returned v ∧ Ysl w' v zs ∧ zs.map bareY = L ∧ Below w.heap.size w w'
theorem Ysl.slice {w : World} {v : Value} {ys : List Po} (h : Ysl w v ys) : ∃ ao cap, v = .slice ao ys.length cap := by
  obtain ⟨ao, cap, e, _⟩ := h
  exact ⟨ao, cap, e⟩
theorem GivesL.on {w w1 w2 : World} {L : List (Bool × List Pt)} {e : Ending} (h : GivesL w1 L e w2) (hb : Below w.heap.size w w1) : GivesL w L e w2 := by
  obtain ⟨v, zs, he, hy, hz, hq⟩ := h
  exact ⟨v, zs, he, hy, hz, hb.trans (hq.mono hb.size)⟩
/-- The value v is a list of just these polys. -/
def LR (L : List (Bool × List Pt)) (v : Value) (w : World) : Prop := ∃ zs, Ysl w v zs ∧ zs.map bareY = L
theorem LR.stay {L : List (Bool × List Pt)} {v : Value} {w w' : World} (h : LR L v w) (hb : Below w.heap.size w w') : LR L v w' := by
  obtain ⟨zs, hy, hz⟩ := h
  exact ⟨zs, hy.below hb, hz⟩
theorem bares_of {zs : List Po} {N : Nat} {f : Nat → Bool × List Pt} (hl : zs.length = N) (h : ∀ j, j < N → bareY (po zs j) = f j) : zs.map bareY = (List.range N).map f := by
  apply List.ext_getElem?
  intro i
  by_cases hi : i < N
  · have := h i hi
    unfold po at this
    rw [List.getD_eq_getElem?_getD, List.getElem?_eq_getElem (by omega)] at this
    simp [hi, hl]
    simpa using this
  · rw [List.getElem?_eq_none (by simp; omega), List.getElem?_eq_none (by simp; omega)]
theorem grownBy_drew {a b : World} {r : Option Nat} (h : a.grownBy b r) : a.grownBy b.drew r := ⟨h.os, h.tape, h.output, h.size, h.block⟩
theorem Yfill.copied {w1 wr V : World} {gs N n : Nat} {f : Nat → Bool × List Pt} {zs : List Po} (h : Yfill w1 gs N f n zs wr) (hn : n < N) {c : Bool} {v : Value} {ps : List Pt} (hf : f n = (c, ps)) (hv : Psl V v ps) (hne : v.ownBlock ≠ some gs)
    (hk : ∀ k, k < wr.heap.size → k ≠ gs → V.heap[k]? = wr.heap[k]?) (hh : Has V gs (((yls zs).set (n * 2) (.bool c)).set (n * 2 + 1) v).toArray 31) (hb : Below w1.heap.size w1 V) : Yfill w1 gs N f (n + 1) (zs.set n ⟨c, v, ps⟩) V := by
  refine ⟨by rw [List.length_set]; exact h.len, ?_, fun j hj => ?_, hb, h.lo⟩
  · rw [yls_set (by rw [h.len]; exact hn)]
    exact hh
  · by_cases e : n = j
    · subst e
      rw [po_set_eq (by rw [h.len]; exact hn)]
      exact ⟨hf.symm, hv, hne⟩
    · rw [po_set_ne e]
      obtain ⟨a, b, c'⟩ := h.told j (by omega)
      exact ⟨a, b.blocks (fun k hkk e => hk k hkk (fun e2 => c' (by rw [e, e2]))), c'⟩

theorem gives_append {P : Program} {o : Oper} {e : Act} {w : World} {K : Value → World → Prop} (s x : Operand) (t : TypeId) (ho : o.op = .call { callee := .builtin .append, args := #[s, x], argTypes := #[t, t] })
    {v u : Value} (hs : e.eval s = v) (hx : e.eval x = u) {v' : Value} {w' : World} (hr : (Builtin.append_ #[t, t] o.type #[v, u]).run P w = .ok v' w') (h : K v' w') : gives P o e w K := by
  unfold gives execOp
  simp only [ho, resolve, invoke, builtin, Sem.run_bind, Sem.run_pure, Result.andThen_ok, List.map_toArray, List.map_cons, List.map_nil, hs, hx, hr]
  exact h
/-- A list of no places, in a block of the call's own, still bare where c says so. -/
def NoP (base : Nat) (c : Prop) (v : Value) (w : World) : Prop := ∃ g, v = .slice (some ⟨g, 0, none⟩) 0 0 ∧ base ≤ g ∧ g < w.heap.size ∧ (c → Has w g #[] 28)
theorem NoP.stay {base : Nat} {c : Prop} {v : Value} {w w' : World} (h : NoP base c v w) (hb : Below w.heap.size w w') : NoP base c v w' := by
  obtain ⟨g, e, l, s, k⟩ := h
  exact ⟨g, e, l, Nat.lt_of_lt_of_le s hb.size, fun hc => (k hc).below hb (k hc).lt⟩
/-- All places of a list appended to a list of none: what lies where. -/
theorem append_all {w : World} {B g : Nat} {ps : List Pt} {ao : Option Addr} {M cap : Nat} (hk : Has w g #[] 28) (hg : B ≤ g) (hs : Psl w (.slice ao M cap) ps) (hM : ps.length = M) (ty : TypeId) :
    ∃ v' w', (Builtin.append_ #[29, 29] ty #[.slice (some ⟨g, 0, none⟩) 0 0, .slice ao M cap]).run Try.prog w = .ok v' w' ∧ Pown w' B v' ps ∧ w.grownBy w' (some g) := by
  obtain ⟨i0, hi, hz0, hz1, hz2⟩ := info_parts Try.infoPt
  have hlt := hk.lt
  have ho : Pown w B (.slice (some ⟨g, 0, none⟩) 0 0) [] := ⟨rfl, Or.inr ⟨g, 0, #[], rfl, hg, hk, by simp, by simp, by simp, by simp [pls]⟩⟩
  have hf := hs.few
  by_cases h0 : M = 0
  · subst h0
    obtain rfl : ps = [] := List.eq_nil_of_length_eq_zero hM
    exact ⟨_, w, run_append_noth w _ ty _ i0 Try.underlying29 hi _ 0 0 (Nat.le_refl _) ao cap, ho, World.grownBy.refl _ _⟩
  · obtain ⟨ao', cap', hv, _, hrow⟩ := hs
    obtain ⟨gs, o, rfl, row⟩ := hrow (by omega)
    simp only [Value.slice.injEq] at hv
    obtain ⟨rfl, _, _⟩ := hv
    obtain ⟨g', cap2, w', hr, h2, h3, _, _⟩ := run_append_lies (P := Try.prog) w 29 ty B 28 i0 _ 2 16 Try.underlying29 hi hz0 hz1 hz2 rfl (by decide) (.slice (some ⟨g, 0, none⟩) 0 0) 0 [] ho ⟨gs, o, none⟩ M cap (pls ps) (by rw [pls_length, hM]) (fun j u hu => by rw [Addr.add_lit]; exact row.at j u hu) (ones_pls ps) (by omega) (by unfold maxLen; omega) (by omega) (by omega) _ rfl
    refine ⟨_, w', hr, ?_, h3⟩
    unfold Pown
    rw [hM]
    simpa using h2

end Go.Proofs.Ytopepgifhnfbiaa

namespace Go.Proofs.Ytopepgifhnfbiaa
open Go Go.RowKit
open M

theorem Ygrow.re {w1 wr : World} {base n : Nat} {f f' : Nat → Bool × List Pt} {zs : List Po} {v : Value} (h : Ygrow w1 base f n zs v wr) (hf : ∀ j, j < n → bareY (po zs j) = f' j) : Ygrow w1 base f' n zs v wr :=
  ⟨h.len, h.own, fun j hj => ⟨hf j hj, (h.told j hj).2⟩, h.below, h.lo⟩
/-- A list of polys of the call's own: just these. -/
def Kp (w1 : World) (base : Nat) (L : List (Bool × List Pt)) (v : Value) (wr : World) : Prop := ∃ zs : List Po, zs.map bareY = L ∧ Ygrow w1 base (fun j => bareY (po zs j)) L.length zs v wr
theorem Kp.later {w1 wr w' : World} {base : Nat} {L : List (Bool × List Pt)} {v : Value} (h : Kp w1 base L v wr) (hb : Below wr.heap.size wr w') : Kp w1 base L v w' := by
  obtain ⟨zs, e, h⟩ := h
  exact ⟨zs, e, h.later hb⟩
theorem Kp.below {w1 wr : World} {base : Nat} {L : List (Bool × List Pt)} {v : Value} (h : Kp w1 base L v wr) : Below w1.heap.size w1 wr := by
  obtain ⟨zs, e, h⟩ := h
  exact h.below
theorem Kp.shape {w1 wr : World} {base : Nat} {L : List (Bool × List Pt)} {v : Value} (h : Kp w1 base L v wr) : ∃ ao cap, v = .slice ao L.length cap := by
  obtain ⟨zs, e, h⟩ := h
  exact h.shape
theorem Kp.start {w : World} {base : Nat} (hl : w.heap.size ≤ base) : Kp w base [] (.slice none 0 0) w := ⟨[], rfl, rfl, World.ownsRow_nil _ _ _ _, fun j hj => by simp at hj, Below.refl _ _, hl⟩
theorem Kp.gives {w wr : World} {base : Nat} {L : List (Bool × List Pt)} {v : Value} (h : Kp w base L v wr) (hf : L.length ≤ 1000) : GivesL w L (.returned v) wr := by
  obtain ⟨zs, e, h⟩ := h
  exact ⟨v, zs, rfl, h.sl hf, e, h.below⟩
theorem Kp.young {w1 wr : World} {base : Nat} {L : List (Bool × List Pt)} {v : Value} (h : Kp w1 base L v wr) (k : Nat) (hk : v.ownBlock = some k) : k < wr.heap.size ∧ base ≤ k := by
  obtain ⟨zs, e, h⟩ := h
  have := World.ownsRow.lt h.own k hk
  exact ⟨this.2, this.1⟩
theorem wpList_append_k {W w1 : World} {base : Nat} {L : List (Bool × List Pt)} {l : Value} {ops : Array Oper} {rest : List Oper} {op : Oper} {a : Act} {Q : Exit → Act → World → Prop} (hgd : op.guard = none) (s x : Operand)
    (hop : op.op = .call { callee := .builtin .append, args := #[s, x], argTypes := #[22, 22] }) (hs : a.eval s = l) (H : Nat) (hx : a.eval x = .slice (some ⟨H, 0, none⟩) 1 1)
    (y : Po) (hn : Has W H (yl y).toArray 31) (hT : Kp w1 base L l W) (hf : L.length ≤ 990) (hy : Psl W y.v y.ps) (hyl : ∀ k, l.ownBlock = some k → y.v.ownBlock ≠ some k) (hyc : ∀ k, y.v.ownBlock = some k → k < W.heap.size) (hys : ∃ ao n cap, y.v = .slice ao n cap) (hb : base ≤ W.heap.size)
    (h : ∀ g' cap' w', Kp w1 base (L ++ [(y.cl, y.ps)]) (.slice (some ⟨g', 0, none⟩) (L.length + 1) cap') w' → wpList Try.prog ops Q rest (a.put op.dst (.slice (some ⟨g', 0, none⟩) (L.length + 1) cap')) w') : wpList Try.prog ops Q (op :: rest) a W := by
  obtain ⟨zs, e, hT⟩ := hT
  have hl := hT.len
  refine wpList_append_y hgd s x hop hs H hx y hn (hT.re (f' := fun j => bareY (po (zs ++ [y]) j)) (fun j hj => by rw [po_left (by omega)])) hf (by have := po_last zs y; rw [hl] at this; rw [this]) hy hyl hyc hys hb ?_
  intro g' cap' w' hY
  refine h g' cap' w' ⟨zs ++ [y], by rw [List.map_append, e]; rfl, ?_⟩
  rw [List.length_append]
  exact hY

end Go.Proofs.Ytopepgifhnfbiaa

namespace Go.Proofs.Ytopepgifhnfbiaa
open Go Go.RowKit
open M

/-- A list of just these polys, all of it in blocks from 'base' on. -/
def Kq (w1 : World) (base : Nat) (L : List (Bool × List Pt)) (v : Value) (wr : World) : Prop := ∃ zs : List Po, zs.map bareY = L ∧ Ygrow w1 base (fun j => bareY (po zs j)) L.length zs v wr ∧ ∀ j, j < L.length → ∀ k, (po zs j).v.ownBlock = some k → base ≤ k
theorem Kq.later {w1 wr w' : World} {base : Nat} {L : List (Bool × List Pt)} {v : Value} (h : Kq w1 base L v wr) (hb : Below wr.heap.size wr w') : Kq w1 base L v w' := by
  obtain ⟨zs, e, h, hk⟩ := h
  exact ⟨zs, e, h.later hb, hk⟩
theorem Kq.below {w1 wr : World} {base : Nat} {L : List (Bool × List Pt)} {v : Value} (h : Kq w1 base L v wr) : Below w1.heap.size w1 wr := by
  obtain ⟨zs, e, h, _⟩ := h
  exact h.below
theorem Kq.lo {w1 wr : World} {base : Nat} {L : List (Bool × List Pt)} {v : Value} (h : Kq w1 base L v wr) : w1.heap.size ≤ base := by
  obtain ⟨zs, e, h, _⟩ := h
  exact h.lo
theorem Kq.shape {w1 wr : World} {base : Nat} {L : List (Bool × List Pt)} {v : Value} (h : Kq w1 base L v wr) : ∃ ao cap, v = .slice ao L.length cap := by
  obtain ⟨zs, e, h, _⟩ := h
  exact h.shape
theorem Kq.start {w : World} {base : Nat} (hl : w.heap.size ≤ base) : Kq w base [] (.slice none 0 0) w := ⟨[], rfl, ⟨rfl, World.ownsRow_nil _ _ _ _, fun j hj => by simp at hj, Below.refl _ _, hl⟩, fun j hj => by simp at hj⟩
theorem Kq.gives {w wr : World} {base : Nat} {L : List (Bool × List Pt)} {v : Value} (h : Kq w base L v wr) (hf : L.length ≤ 1000) : GivesL w L (.returned v) wr := by
  obtain ⟨zs, e, h, _⟩ := h
  exact ⟨v, zs, rfl, h.sl hf, e, h.below⟩
theorem Kq.young {w1 wr : World} {base : Nat} {L : List (Bool × List Pt)} {v : Value} (h : Kq w1 base L v wr) (k : Nat) (hk : v.ownBlock = some k) : k < wr.heap.size ∧ base ≤ k := by
  obtain ⟨zs, e, h, _⟩ := h
  have := World.ownsRow.lt h.own k hk
  exact ⟨this.2, this.1⟩
theorem Kq.room {w1 wr : World} {base : Nat} {L : List (Bool × List Pt)} {ao : Option Addr} {n cap : Nat} (h : Kq w1 base L (.slice ao n cap) wr) : n ≤ cap := by
  obtain ⟨zs, e, h, _⟩ := h
  rcases h.own.2 with ⟨hv, hn⟩ | ⟨g, cap', cur, hv, _, _, h1, _⟩
  · simp at hv; omega
  · simp at hv
    obtain ⟨_, rfl, rfl⟩ := hv
    exact h1
/-- The same list seen from an earlier world, or told from an earlier base on. -/
theorem Kq.on {w0 w1 wr : World} {base base' : Nat} {L : List (Bool × List Pt)} {v : Value} (h : Kq w1 base L v wr) (hb : Below w0.heap.size w0 w1) (h1 : base' ≤ base) (h2 : w0.heap.size ≤ base') : Kq w0 base' L v wr := by
  obtain ⟨zs, e, h, hk⟩ := h
  refine ⟨zs, e, ⟨h.len, ⟨h.own.1, ?_⟩, h.told, hb.trans (h.below.mono hb.size), h2⟩, fun j hj k hkk => Nat.le_trans h1 (hk j hj k hkk)⟩
  rcases h.own.2 with q | ⟨g, cap, cur, a, b, r⟩
  · exact Or.inl q
  · exact Or.inr ⟨g, cap, cur, a, by omega, r⟩
theorem po_app_left {ys zs : List Po} {i : Nat} (h : i < ys.length) : po (ys ++ zs) i = po ys i := by unfold po; simp [List.getD, List.getElem?_append_left h]
theorem po_app_right {ys zs : List Po} {i : Nat} (h : ys.length ≤ i) : po (ys ++ zs) i = po zs (i - ys.length) := by unfold po; simp [List.getD, List.getElem?_append_right h]

theorem wpList_append_q {W w1 w2 : World} {base base2 : Nat} {L M : List (Bool × List Pt)} {ops : Array Oper} {rest : List Oper} {op : Oper} {a : Act} {Q : Exit → Act → World → Prop} (hgd : op.guard = none) (s x : Operand)
    (hop : op.op = .call { callee := .builtin .append, args := #[s, x], argTypes := #[22, 22] }) (ao : Option Addr) (N cap : Nat) (hN : L.length = N) (hs : a.eval s = .slice ao N cap) (ax : Option Addr) (m cx : Nat) (hm : M.length = m) (hx : a.eval x = .slice ax m cx)
    (hT : Kq w1 base L (.slice ao N cap) W) (hX : Kq w2 base2 M (.slice ax m cx) W) (hd : ∀ k, Value.ownBlock (.slice ao N cap) = some k → k < base2) (hbb : base ≤ base2) (hf : N + m ≤ 1000)
    (h : ∀ a' c' w', Kq w1 base (L ++ M) (.slice a' (N + m) c') w' → wpList Try.prog ops Q rest (a.put op.dst (.slice a' (N + m) c')) w') : wpList Try.prog ops Q (op :: rest) a W := by
  obtain ⟨i0, hi, hz0, hz1, hz2⟩ := info_parts Try.infoPoly
  by_cases h0 : m = 0
  · subst h0
    obtain rfl : M = [] := List.eq_nil_of_length_eq_zero hm
    refine wpList_append_noth hgd s x 22 hop 31 i0 Try.underlying22 hi ao N cap hT.room hs ax cx hx ?_
    simpa using h ao cap W (by simpa using hT)
  · obtain ⟨zs, e, T, kT⟩ := id hT
    obtain ⟨ys, e2, X, kX⟩ := id hX
    have lz := T.len
    have ly := X.len
    have hsl := X.sl (by omega)
    obtain ⟨g, o, rfl, row, _⟩ := hsl.row (by omega)
    have shp : ∀ i, i < ys.length → ∃ ao n cap, (po ys i).v = .slice ao n cap := fun i hi => (X.told i (by omega)).2.2.2.1
    have cells : ∀ j u, (yls ys)[j]? = some u → W.cell? ⟨g, o + j, none⟩ = some u := by
      intro j u hu
      have hj : j < ys.length * 2 := by
        have := (List.getElem?_eq_some_iff.1 hu).1
        rwa [yls_length] at this
      have e1 : j = j / 2 * 2 + j % 2 := by omega
      have hi : j / 2 < ys.length := by omega
      rw [e1, yls_at hi (by omega)] at hu
      rcases (show j % 2 = 0 ∨ j % 2 = 1 by omega) with e | e
      · rw [e] at hu e1
        simp [yl] at hu
        rw [e1, ← hu]
        exact row.c0 _ hi
      · rw [e] at hu e1
        simp [yl] at hu
        rw [e1, ← Nat.add_assoc, ← hu]
        exact row.c1 _ hi
    rw [hN] at T lz
    have hTl : ∀ k, Value.ownBlock (.slice ao N cap) = some k → k < W.heap.size ∧ base ≤ k := fun k hk => hT.young k hk
    have hb : base ≤ W.heap.size := by
      have h1 := (hX.young g rfl).1
      have h2 := (hX.young g rfl).2
      omega
    refine wpList_plain hgd fun _ hK => wp_append_lies W s x 22 hop base 31 i0 _ 2 32 Try.underlying22 hi hz0 hz1 hz2 rfl (by decide) (.slice ao N cap) N (yls zs) hs T.own ⟨g, o, none⟩ m cx (yls ys) hx (by rw [yls_length, ly, hm]) (fun j u hu => by rw [Addr.add_lit]; exact cells j u hu) (ones_yls shp) (by omega) (by unfold maxLen; omega) (by omega) hb _ rfl ?_
    intro g' cap' w' hown' hg hat hlt
    refine hK _ _ (h (some ⟨g', 0, none⟩) cap' w' ⟨zs ++ ys, by rw [List.map_append, e, e2], ⟨by simp [lz, ly, hN], ?_, fun j hj => ?_, ?_, T.lo⟩, fun j hj k hk => ?_⟩)
    · rw [yls_append, List.length_append, hN, hm]
      exact hown'
    · refine ⟨rfl, ?_⟩
      rw [List.length_append, hN, hm] at hj
      by_cases hjn : j < N
      · rw [po_app_left (by omega)]
        obtain ⟨_, a2, a3, a4, a5⟩ := T.told j hjn
        refine ⟨a2.grown hg (fun k hk e => a3 k hk e), fun k hk e2 => ?_, a4, fun k hk => Nat.lt_of_lt_of_le (a5 k hk) hg.size⟩
        have hk' : some g' = some k := hk
        simp at hk'
        subst hk'
        rcases hat with e3 | e3
        · exact a3 g' e3 e2
        · have := a5 g' e2; omega
      · rw [po_app_right (by omega), lz]
        obtain ⟨_, a2, a3, a4, a5⟩ := X.told (j - N) (by omega)
        have kj := kX (j - N) (by omega)
        refine ⟨a2.grown hg (fun k hk e => by have := hd k hk; have := kj k e; omega), fun k hk e2 => ?_, a4, fun k hk => Nat.lt_of_lt_of_le (a5 k hk) hg.size⟩
        have hk' : some g' = some k := hk
        simp at hk'
        subst hk'
        rcases hat with e3 | e3
        · have := hd g' e3; have := kj g' e2; omega
        · have := a5 g' e2; omega
    · exact T.below.grown hg T.below.size (fun k hk => by have := (hTl k hk).2; have := T.lo; omega)
    · rw [List.length_append, hN, hm] at hj
      by_cases hjn : j < N
      · rw [po_app_left (by omega)] at hk
        exact kT j (by omega) k hk
      · rw [po_app_right (by omega), lz] at hk
        have := kX (j - N) (by omega) k hk
        omega
/-- A list of one poly, just laid. -/
theorem Kq.one {w1 W : World} {base : Nat} {l : Value} {ps : List Pt} (hb : Below w1.heap.size w1 W) (h1 : w1.heap.size ≤ base) (hl : Pown W base l ps) (hf : ps.length ≤ 8796093022208) (hs : base ≤ W.heap.size) : Kq w1 base [(true, ps)] (.slice (some ⟨W.heap.size, 0, none⟩) 1 1) (W.alloc (.cells #[.bool true, l] 31)) := by
  have hsl := (hl.sl hf).alloc (.cells #[.bool true, l] 31)
  obtain ⟨al, cl, el⟩ := hl.len
  refine ⟨[⟨true, l, ps⟩], rfl, ⟨rfl, ?_, fun j hj => ?_, hb.alloc hb.size _, h1⟩, fun j hj k hk => ?_⟩
  · refine ⟨rfl, Or.inr ⟨W.heap.size, 1, #[.bool true, l], rfl, hs, has_new rfl, by simp, by unfold maxLen; omega, by simp, by simp [yls, yl]⟩⟩
  · obtain rfl : j = 0 := by simp at hj; omega
    refine ⟨rfl, hsl, fun k hk e => ?_, ⟨al, _, cl, el⟩, fun k hk => ?_⟩
    · have hk' : some W.heap.size = some k := hk
      simp at hk'
      have := (hl.base k e).2
      omega
    · have := (hl.base k hk).2
      simp; omega
  · obtain rfl : j = 0 := by simp at hj; omega
    exact (hl.base k hk).1
/-- A list of two polys, just laid. -/
theorem Kq.two {w1 W : World} {base : Nat} {l l2 : Value} {ps ps2 : List Pt} (hb : Below w1.heap.size w1 W) (h1 : w1.heap.size ≤ base) (hl : Pown W base l ps) (hf : ps.length ≤ 8796093022208) (hl2 : Pown W base l2 ps2) (hf2 : ps2.length ≤ 8796093022208) (hs : base ≤ W.heap.size) : Kq w1 base [(true, ps), (true, ps2)] (.slice (some ⟨W.heap.size, 0, none⟩) 2 2) (W.alloc (.cells #[.bool true, l, .bool true, l2] 31)) := by
  have hsl := (hl.sl hf).alloc (.cells #[.bool true, l, .bool true, l2] 31)
  have hsl2 := (hl2.sl hf2).alloc (.cells #[.bool true, l, .bool true, l2] 31)
  obtain ⟨al, cl, el⟩ := hl.len
  obtain ⟨al2, cl2, el2⟩ := hl2.len
  refine ⟨[⟨true, l, ps⟩, ⟨true, l2, ps2⟩], rfl, ⟨rfl, ?_, fun j hj => ?_, hb.alloc hb.size _, h1⟩, fun j hj k hk => ?_⟩
  · refine ⟨rfl, Or.inr ⟨W.heap.size, 2, #[.bool true, l, .bool true, l2], rfl, hs, has_new rfl, by simp, by unfold maxLen; omega, by simp, by simp [yls, yl]⟩⟩
  · rcases (show j = 0 ∨ j = 1 by simp at hj; omega) with rfl | rfl
    · refine ⟨rfl, hsl, fun k hk e => ?_, ⟨al, _, cl, el⟩, fun k hk => ?_⟩
      · have hk' : some W.heap.size = some k := hk
        simp at hk'
        have := (hl.base k e).2
        omega
      · have := (hl.base k hk).2
        simp; omega
    · refine ⟨rfl, hsl2, fun k hk e => ?_, ⟨al2, _, cl2, el2⟩, fun k hk => ?_⟩
      · have hk' : some W.heap.size = some k := hk
        simp at hk'
        have := (hl2.base k e).2
        omega
      · have := (hl2.base k hk).2
        simp; omega
  · rcases (show j = 0 ∨ j = 1 by simp at hj; omega) with rfl | rfl
    · exact (hl.base k hk).1
    · exact (hl2.base k hk).1
/-- A list of just these polys, all of it the call's own, is returned. -/
def GivesK (w : World) (L : List (Bool × List Pt)) (e : Ending) (w' : World) : Prop := ∃ v, e = .returned v ∧ Kq w w.heap.size L v w'

/-- A literal's row of places is the call's own. -/
theorem pown_lit {w : World} {B g n : Nat} {cs : Array Value} {ps : List Pt} (hk : Has w g cs 28) (hg : B ≤ g) (hcs : cs.toList = pls ps) (hn : ps.length = n) (hm : n ≤ 1000) : Pown w B (.slice (some ⟨g, 0, none⟩) n n) ps := by
  subst hn
  have hl := pls_length ps
  refine ⟨hl, Or.inr ⟨g, ps.length, cs, rfl, hg, hk, Nat.le_refl _, by unfold maxLen; omega, ?_, ?_⟩⟩
  · rw [← hl, ← hcs]; simp
  · rw [hcs, ← hl]; simp
/-- The value v is a literal of these places, in a block of the call's own; its cells are still so where c says it. -/
def LitP (base : Nat) (n : Nat) (cs : Array Value) (c : Prop) (v : Value) (w : World) : Prop := ∃ g, v = .slice (some ⟨g, 0, none⟩) n n ∧ base ≤ g ∧ g < w.heap.size ∧ (c → Has w g cs 28)
theorem LitP.stay {base n : Nat} {cs : Array Value} {c : Prop} {v : Value} {w w' : World} (h : LitP base n cs c v w) (hb : Below w.heap.size w w') : LitP base n cs c v w' := by
  obtain ⟨g, e, l, s, k⟩ := h
  exact ⟨g, e, l, Nat.lt_of_lt_of_le s hb.size, fun hc => (k hc).below hb (k hc).lt⟩
theorem LitP.grown {base n g : Nat} {cs : Array Value} {c : Prop} {v : Value} {w w' : World} (h : LitP base n cs c v w) (hg : w.grownBy w' (some g)) (hne : v.ownBlock ≠ some g) : LitP base n cs c v w' := by
  obtain ⟨k, rfl, l, s, hk⟩ := h
  exact ⟨k, rfl, l, Nat.lt_of_lt_of_le s hg.size, fun hc => has_grown (hk hc) hg (fun e => hne (by rw [e]; rfl))⟩
theorem Pown.off2 {base g : Nat} {ps : List Pt} {l : Value} {w w' : World} (h : Pown w base l ps) (hg : w.grownBy w' (some g)) (hne : l.ownBlock ≠ some g) : Pown w' base l ps := h.kept hg (fun k hk e => by simp at hk; subst hk; exact hne e)

end Go.Proofs.Ytopepgifhnfbiaa

namespace Go.Proofs.Ytopepgifhnfbiaa
open Go Go.RowKit

theorem has_setRow {w : World} {g : Nat} {old cs : Array Value} {t : TypeId} (h : Has w g old t) : Has (w.setRow g cs) g cs t := setRow_heap w g old cs t (0, 0) h
theorem has_setRow_ne {w : World} {g k : Nat} {cs ds : Array Value} {t : TypeId} (h : Has w k ds t) (hne : k ≠ g) : Has (w.setRow g cs) k ds t := (setRow_other w g k cs hne).trans h
theorem below_setRow {w v : World} {g B : Nat} {cs : Array Value} (h : Below B w v) (hg : B ≤ g) : Below B w (v.setRow g cs) := by
  refine h.trans ⟨rfl, rfl, rfl, by simp [World.setRow], fun k hk => setRow_other v g k cs (by omega)⟩

end Go.Proofs.Ytopepgifhnfbiaa

namespace Go.Proofs.Ytopepgifhnfbiaa
open Go Go.RowKit

section
variable {P : Program} {ρ : Operand → Value} {o : Oper}
theorem run1_move {x : Operand} {v : Value} (ho : o.op = .move x) (hx : ρ x = v) (w : World) : (execOp ρ o).run P w = .ok (.value v) w := by
  simp [execOp, ho, hx, go_sem]
theorem run1_assign {x : Operand} {v : Value} (ho : o.op = .assign x) (hx : ρ x = v) (w : World) : (execOp ρ o).run P w = .ok (.value v) w := by
  simp [execOp, ho, hx, go_sem]
theorem run1_pick {x y z : Operand} {b : Bool} {u v : Value} (ho : o.op = .pick x y z) (hx : ρ x = .bool b) (hy : ρ y = u) (hz : ρ z = v) (w : World) : (execOp ρ o).run P w = .ok (.value (if b then u else v)) w := by
  cases b <;> simp [execOp, ho, hx, hy, hz, go_sem]
theorem run1_load_row {x : Operand} {ty t : TypeId} {g : Nat} {cs : Array Value} {d : TypeDesc} {w : World} (ho : o.op = .load ty x) (hx : ρ x = .pointer (some ⟨g, 0, none⟩)) (h : Has w g cs t)
    (hu : P.underlying ty = some d) (hd : (match d with | .struct _ | .array _ _ => true | _ => false) = true) (hi : (P.info? ty).map (·.size) = some cs.size) : (execOp ρ o).run P w = .ok (.value (.agg cs)) w := by
  unfold execOp
  simp only [ho, hx, Instr.loadAt, Instr.sureAddr, Sem.run_bind, Sem.run_pure, Result.andThen_ok, run_loadVar_row w g t ty cs (0, 0) d h hu hd hi]
theorem run1_call0 {f : FuncId} {ts : Array TypeId} (ho : o.op = .call { callee := .value (.func f), args := #[], argTypes := ts }) (hf : ρ (.func f) = .func (.func f) #[] #[]) (w : World) (hc : (callFunc f #[]).run P w = .ok (.enter f #[]) w) : (execOp ρ o).run P w = .ok (.enter f #[]) w := by
  simp [execOp, ho, hf, hc, go_sem]
theorem run1_call2 {f : FuncId} {ts : Array TypeId} {x y : Operand} {u v : Value} (ho : o.op = .call { callee := .value (.func f), args := #[x, y], argTypes := ts }) (hf : ρ (.func f) = .func (.func f) #[] #[]) (hx : ρ x = u) (hy : ρ y = v) (w : World) (hc : (callFunc f #[u, v]).run P w = .ok (.enter f #[u, v]) w) : (execOp ρ o).run P w = .ok (.enter f #[u, v]) w := by
  simp [execOp, ho, hf, hx, hy, hc, go_sem]
end

section
variable {P : Program} {ops : Array Oper} {Q : Exit → Act → World → Prop} {S : World → Prop} {md : Region.Mode} {i fuel : Nat} {listed : Array Bool} {a : Act} {w : World} {dst : Option Tmp} {ty : TypeId} {pos : String} {after : Array Edge} {gd : Option (Nat × Bool)}
theorem takeH_run {o : Oper} {v : Value} (hi : ops[i]? = some o) (hs : Region.noSelect ops = true) (hf : Region.free md ops listed i = true) (hr : (Region.ready md ops listed).contains i = true) (hQ : ∀ c a w, Q (.panic c) (a.put o.dst v) w → Q (.panic c) a w)
    (hw : Region.wanted o (yielded ops a.tmps) = true) (hx : ∀ w, S w → (execOp a.eval o).run P w = .ok (.value v) w) (hS : S w) (h : wpAnyH P md ops Q S fuel (listed.setIfInBounds i true) (a.put o.dst v) w) : wpAnyH P md ops Q S (fuel + 1) listed a w :=
  wpAnyH_take hi hs hf hr hQ (Or.inl ⟨hw, hx⟩) hS h
theorem takeH_move (x : Operand) (v : Value) (hi : ops[i]? = some { dst := dst, op := .move x, type := ty, pos := pos, after := after, guard := gd }) (hs : Region.noSelect ops = true) (hf : Region.free md ops listed i = true) (hr : (Region.ready md ops listed).contains i = true) (hQ : ∀ c (a : Act) (d : Option Tmp) v w, Q (.panic c) (a.put d v) w → Q (.panic c) a w)
    (hw : Region.wanted { dst := dst, op := .move x, type := ty, pos := pos, after := after, guard := gd } (yielded ops a.tmps) = true) (hx : a.eval x = v) (hS : S w) (h : wpAnyH P md ops Q S fuel (listed.setIfInBounds i true) (a.put dst v) w) : wpAnyH P md ops Q S (fuel + 1) listed a w :=
  takeH_run hi hs hf hr (fun c a w => hQ c a _ _ w) hw (fun w _ => run1_move rfl hx w) hS h
theorem takeH_assign (x : Operand) (v : Value) (hi : ops[i]? = some { dst := dst, op := .assign x, type := ty, pos := pos, after := after, guard := gd }) (hs : Region.noSelect ops = true) (hf : Region.free md ops listed i = true) (hr : (Region.ready md ops listed).contains i = true) (hQ : ∀ c (a : Act) (d : Option Tmp) v w, Q (.panic c) (a.put d v) w → Q (.panic c) a w)
    (hw : Region.wanted { dst := dst, op := .assign x, type := ty, pos := pos, after := after, guard := gd } (yielded ops a.tmps) = true) (hx : a.eval x = v) (hS : S w) (h : wpAnyH P md ops Q S fuel (listed.setIfInBounds i true) (a.put dst v) w) : wpAnyH P md ops Q S (fuel + 1) listed a w :=
  takeH_run hi hs hf hr (fun c a w => hQ c a _ _ w) hw (fun w _ => run1_assign rfl hx w) hS h
theorem takeH_pick (x y z : Operand) (u v : Value) (hi : ops[i]? = some { dst := dst, op := .pick x y z, type := ty, pos := pos, after := after, guard := gd }) (hs : Region.noSelect ops = true) (hf : Region.free md ops listed i = true) (hr : (Region.ready md ops listed).contains i = true) (hQ : ∀ c (a : Act) (d : Option Tmp) v w, Q (.panic c) (a.put d v) w → Q (.panic c) a w)
    (hw : Region.wanted { dst := dst, op := .pick x y z, type := ty, pos := pos, after := after, guard := gd } (yielded ops a.tmps) = true) (hx : a.eval x = .bool true) (hy : a.eval y = u) (hz : a.eval z = v) (hS : S w) (h : wpAnyH P md ops Q S fuel (listed.setIfInBounds i true) (a.put dst u) w) : wpAnyH P md ops Q S (fuel + 1) listed a w :=
  takeH_run hi hs hf hr (fun c a w => hQ c a _ _ w) hw (fun w _ => run1_pick (b := true) rfl hx hy hz w) hS h
theorem takeH_load {t tl : TypeId} {cs : Array Value} {d : TypeDesc} (x : Operand) (g : Nat) (hi : ops[i]? = some { dst := dst, op := .load tl x, type := ty, pos := pos, after := after, guard := gd }) (hs : Region.noSelect ops = true) (hf : Region.free md ops listed i = true) (hr : (Region.ready md ops listed).contains i = true) (hQ : ∀ c (a : Act) (d : Option Tmp) v w, Q (.panic c) (a.put d v) w → Q (.panic c) a w)
    (hw : Region.wanted { dst := dst, op := .load tl x, type := ty, pos := pos, after := after, guard := gd } (yielded ops a.tmps) = true) (hx : a.eval x = .pointer (some ⟨g, 0, none⟩)) (hh : ∀ w, S w → Has w g cs t) (hu : P.underlying tl = some d) (hd : (match d with | .struct _ | .array _ _ => true | _ => false) = true) (hz : (P.info? tl).map (·.size) = some cs.size)
    (hS : S w) (h : wpAnyH P md ops Q S fuel (listed.setIfInBounds i true) (a.put dst (.agg cs)) w) : wpAnyH P md ops Q S (fuel + 1) listed a w :=
  takeH_run hi hs hf hr (fun c a w => hQ c a _ _ w) hw (fun w hw => run1_load_row rfl hx (hh w hw) hu hd hz) hS h
/-- A call of two arguments, the only one that may come up. -/
theorem stepH_call2 {f : FuncId} {ts : Array TypeId} (x y : Operand) (u v : Value) (hi : ops[i]? = some { dst := dst, op := .call { callee := .value (.func f), args := #[x, y], argTypes := ts }, type := ty, pos := pos, after := after, guard := gd }) (hr : Region.ready md ops listed = [i])
    (hw : Region.wanted { dst := dst, op := .call { callee := .value (.func f), args := #[x, y], argTypes := ts }, type := ty, pos := pos, after := after, guard := gd } (yielded ops a.tmps) = true) (hx : a.eval x = u) (hy : a.eval y = v) (hc : (callFunc f #[u, v]).run P w = .ok (.enter f #[u, v]) w)
    (h : Calls P f #[u, v] w fun e w' => ∃ r, e = .returned r ∧ S w' ∧ (S w' → wpAnyH P md ops Q S fuel (listed.setIfInBounds i true) (a.put dst r) w')) : wpAnyH P md ops Q S (fuel + 1) listed a w := by
  refine wpAnyH_ready hr (by simp) ?_
  refine AllReadyH.cons hi (fun K hK => ?_) AllReadyH.nil
  rw [if_pos hw]
  unfold Oper.wp
  rw [run1_call2 rfl rfl hx hy _ hc]
  refine Calls.mono h ?_
  rintro e w' ⟨r, rfl, s', h'⟩
  exact hK.out _ _ s' h'
theorem stepH_call0 {f : FuncId} {ts : Array TypeId} (hi : ops[i]? = some { dst := dst, op := .call { callee := .value (.func f), args := #[], argTypes := ts }, type := ty, pos := pos, after := after, guard := gd }) (hr : Region.ready md ops listed = [i])
    (hw : Region.wanted { dst := dst, op := .call { callee := .value (.func f), args := #[], argTypes := ts }, type := ty, pos := pos, after := after, guard := gd } (yielded ops a.tmps) = true) (hc : (callFunc f #[]).run P w = .ok (.enter f #[]) w)
    (h : Calls P f #[] w fun e w' => ∃ r, e = .returned r ∧ S w' ∧ (S w' → wpAnyH P md ops Q S fuel (listed.setIfInBounds i true) (a.put dst r) w')) : wpAnyH P md ops Q S (fuel + 1) listed a w := by
  refine wpAnyH_ready hr (by simp) ?_
  refine AllReadyH.cons hi (fun K hK => ?_) AllReadyH.nil
  rw [if_pos hw]
  unfold Oper.wp
  rw [run1_call0 rfl rfl _ hc]
  refine Calls.mono h ?_
  rintro e w' ⟨r, rfl, s', h'⟩
  exact hK.out _ _ s' h'
end

end Go.Proofs.Ytopepgifhnfbiaa

namespace Go.Proofs.Ytopepgifhnfbiaa
open Go Go.RowKit
open M

/-- A world of no memory. -/
def emp (w : World) : World := { w with heap := #[] }
theorem emp_below {w w' : World} (h1 : w'.os = w.os) (h2 : w'.tape = w.tape) (h3 : w'.output = w.output) : Below (emp w).heap.size (emp w) w' := ⟨h1, h2, h3, by simp [emp], fun k hk => by simp [emp] at hk⟩
theorem emp_grown {w w' : World} {r : Option Nat} (h : w.grownBy w' r) : Below (emp w).heap.size (emp w) w' := emp_below h.os h.tape h.output
/-- A list of just these polys, all of it in blocks from 'base' on; what else was there may turn. -/
def Kz (w : World) (base : Nat) (L : List (Bool × List Pt)) (v : Value) (wr : World) : Prop := Kq (emp w) base L v wr
theorem Kz.start {w w' : World} {base : Nat} {r : Option Nat} (h : w.grownBy w' r) : Kz w base [] (.slice none 0 0) w' :=
  ⟨[], rfl, ⟨rfl, World.ownsRow_nil _ _ _ _, fun j hj => by simp at hj, emp_grown h, by simp [emp]⟩, fun j hj => by simp at hj⟩
theorem Kz.of {w w1 wr : World} {base : Nat} {L : List (Bool × List Pt)} {v : Value} {r : Option Nat} (h : Kq w1 base L v wr) (hg : w.grownBy wr r) : Kz w base L v wr := by
  obtain ⟨zs, e, h, hk⟩ := h
  exact ⟨zs, e, ⟨h.len, h.own, h.told, emp_grown hg, by simp [emp]⟩, hk⟩
/-- Behind what turns one block alone, and that not the list's. -/
theorem Kz.grown {w wr w' : World} {base g : Nat} {L : List (Bool × List Pt)} {v : Value} (h : Kz w base L v wr) (hg : wr.grownBy w' (some g)) (hlt : g < base) : Kz w base L v w' := by
  obtain ⟨zs, e, h, hk⟩ := h
  have hne : ∀ j, j < L.length → (po zs j).v.ownBlock ≠ some g := fun j hj e => by have := hk j hj g e; omega
  have hnv : v.ownBlock ≠ some g := fun e => by have := (World.ownsRow.lt h.own g e).1; omega
  refine ⟨zs, e, ⟨h.len, World.ownsRow.kept h.own hg (Or.inr hnv), fun j hj => ?_, h.below.grown hg (by simp [emp]) (fun k hk => by simp [emp]), h.lo⟩, hk⟩
  obtain ⟨a1, a2, a3, a4, a5⟩ := h.told j hj
  exact ⟨a1, a2.grown hg (fun k hk e => by simp at hk; subst hk; exact hne j hj e), a3, a4, fun k hk => Nat.lt_of_lt_of_le (a5 k hk) hg.size⟩
theorem Kz.later {w wr w' : World} {base : Nat} {L : List (Bool × List Pt)} {v : Value} (h : Kz w base L v wr) (hb : Below wr.heap.size wr w') : Kz w base L v w' := Kq.later h hb
/-- A list of one poly, just laid. -/
theorem Kz.one {w W : World} {base : Nat} {l : Value} {ps : List Pt} {r : Option Nat} (c : Bool) (hg : w.grownBy W r) (hl : Pown W base l ps) (hf : ps.length ≤ 8796093022208) (hs : base ≤ W.heap.size) : Kz w base [(c, ps)] (.slice (some ⟨W.heap.size, 0, none⟩) 1 1) (W.alloc (.cells #[.bool c, l] 31)) := by
  have hsl := (hl.sl hf).alloc (.cells #[.bool c, l] 31)
  obtain ⟨al, cl, el⟩ := hl.len
  refine ⟨[⟨c, l, ps⟩], rfl, ⟨rfl, ?_, fun j hj => ?_, (emp_grown hg).alloc (by simp [emp]) _, by simp [emp]⟩, fun j hj k hk => ?_⟩
  · refine ⟨rfl, Or.inr ⟨W.heap.size, 1, #[.bool c, l], rfl, hs, has_new rfl, by simp, by unfold maxLen; omega, by simp, by simp [yls, yl]⟩⟩
  · obtain rfl : j = 0 := by simp at hj; omega
    refine ⟨rfl, hsl, fun k hk e => ?_, ⟨al, _, cl, el⟩, fun k hk => ?_⟩
    · have hk' : some W.heap.size = some k := hk
      simp at hk'
      have := (hl.base k e).2
      omega
    · have := (hl.base k hk).2
      simp; omega
  · obtain rfl : j = 0 := by simp at hj; omega
    exact (hl.base k hk).1

theorem wp_append_z {W w1 w2 : World} {base base2 : Nat} {L M : List (Bool × List Pt)} {op : Oper} {a : Act} {K : Act → World → Prop} {Q : Exit → Act → World → Prop} (s x : Operand)
    (hop : op.op = .call { callee := .builtin .append, args := #[s, x], argTypes := #[22, 22] }) (ao : Option Addr) (N cap : Nat) (hN : L.length = N) (hs : a.eval s = .slice ao N cap) (ax : Option Addr) (m cx : Nat) (hm : M.length = m) (hx : a.eval x = .slice ax m cx)
    (hT : Kq w1 base L (.slice ao N cap) W) (hX : Kq w2 base2 M (.slice ax m cx) W) (hd : ∀ k, Value.ownBlock (.slice ao N cap) = some k → k < base2) (hbb : base ≤ base2) (hf : N + m ≤ 1000)
    (h : ∀ a' c' w', Kq w1 base (L ++ M) (.slice a' (N + m) c') w' → W.grownBy w' (Value.ownBlock (.slice ao N cap)) → K (a.put op.dst (.slice a' (N + m) c')) w') : op.wp Try.prog a W K Q := by
  obtain ⟨i0, hi, hz0, hz1, hz2⟩ := info_parts Try.infoPoly
  by_cases h0 : m = 0
  · subst h0
    obtain rfl : M = [] := List.eq_nil_of_length_eq_zero hm
    refine wp_append_noth s x 22 hop 31 i0 Try.underlying22 hi ao N cap hT.room hs ax cx hx ?_
    simpa using h ao cap W (by simpa using hT) (World.grownBy.refl _ _)
  · obtain ⟨zs, e, T, kT⟩ := id hT
    obtain ⟨ys, e2, X, kX⟩ := id hX
    have lz := T.len
    have ly := X.len
    have hsl := X.sl (by omega)
    obtain ⟨g, o, rfl, row, _⟩ := hsl.row (by omega)
    have shp : ∀ i, i < ys.length → ∃ ao n cap, (po ys i).v = .slice ao n cap := fun i hi => (X.told i (by omega)).2.2.2.1
    have cells : ∀ j u, (yls ys)[j]? = some u → W.cell? ⟨g, o + j, none⟩ = some u := by
      intro j u hu
      have hj : j < ys.length * 2 := by
        have := (List.getElem?_eq_some_iff.1 hu).1
        rwa [yls_length] at this
      have e1 : j = j / 2 * 2 + j % 2 := by omega
      have hi : j / 2 < ys.length := by omega
      rw [e1, yls_at hi (by omega)] at hu
      rcases (show j % 2 = 0 ∨ j % 2 = 1 by omega) with e | e
      · rw [e] at hu e1
        simp [yl] at hu
        rw [e1, ← hu]
        exact row.c0 _ hi
      · rw [e] at hu e1
        simp [yl] at hu
        rw [e1, ← Nat.add_assoc, ← hu]
        exact row.c1 _ hi
    rw [hN] at T lz
    have hTl : ∀ k, Value.ownBlock (.slice ao N cap) = some k → k < W.heap.size ∧ base ≤ k := fun k hk => hT.young k hk
    have hb : base ≤ W.heap.size := by
      have h1 := (hX.young g rfl).1
      have h2 := (hX.young g rfl).2
      omega
    refine wp_append_lies W s x 22 hop base 31 i0 _ 2 32 Try.underlying22 hi hz0 hz1 hz2 rfl (by decide) (.slice ao N cap) N (yls zs) hs T.own ⟨g, o, none⟩ m cx (yls ys) hx (by rw [yls_length, ly, hm]) (fun j u hu => by rw [Addr.add_lit]; exact cells j u hu) (ones_yls shp) (by omega) (by unfold maxLen; omega) (by omega) hb _ rfl ?_
    intro g' cap' w' hown' hg hat hlt
    refine h (some ⟨g', 0, none⟩) cap' w' ⟨zs ++ ys, by rw [List.map_append, e, e2], ⟨by simp [lz, ly, hN], ?_, fun j hj => ?_, ?_, T.lo⟩, fun j hj k hk => ?_⟩ hg
    · rw [yls_append, List.length_append, hN, hm]
      exact hown'
    · refine ⟨rfl, ?_⟩
      rw [List.length_append, hN, hm] at hj
      by_cases hjn : j < N
      · rw [po_app_left (by omega)]
        obtain ⟨_, a2, a3, a4, a5⟩ := T.told j hjn
        refine ⟨a2.grown hg (fun k hk e => a3 k hk e), fun k hk e2 => ?_, a4, fun k hk => Nat.lt_of_lt_of_le (a5 k hk) hg.size⟩
        have hk' : some g' = some k := hk
        simp at hk'
        subst hk'
        rcases hat with e3 | e3
        · exact a3 g' e3 e2
        · have := a5 g' e2; omega
      · rw [po_app_right (by omega), lz]
        obtain ⟨_, a2, a3, a4, a5⟩ := X.told (j - N) (by omega)
        have kj := kX (j - N) (by omega)
        refine ⟨a2.grown hg (fun k hk e => by have := hd k hk; have := kj k e; omega), fun k hk e2 => ?_, a4, fun k hk => Nat.lt_of_lt_of_le (a5 k hk) hg.size⟩
        have hk' : some g' = some k := hk
        simp at hk'
        subst hk'
        rcases hat with e3 | e3
        · have := hd g' e3; have := kj g' e2; omega
        · have := a5 g' e2; omega
    · exact T.below.grown hg T.below.size (fun k hk => by have := (hTl k hk).2; have := T.lo; omega)
    · rw [List.length_append, hN, hm] at hj
      by_cases hjn : j < N
      · rw [po_app_left (by omega)] at hk
        exact kT j (by omega) k hk
      · rw [po_app_right (by omega), lz] at hk
        have := kX (j - N) (by omega) k hk
        omega

theorem wpList_append_z {W w1 w2 : World} {base base2 : Nat} {L M : List (Bool × List Pt)} {ops : Array Oper} {rest : List Oper} {op : Oper} {a : Act} {Q : Exit → Act → World → Prop} (hgd : op.guard = none) (s x : Operand)
    (hop : op.op = .call { callee := .builtin .append, args := #[s, x], argTypes := #[22, 22] }) (ao : Option Addr) (N cap : Nat) (hN : L.length = N) (hs : a.eval s = .slice ao N cap) (ax : Option Addr) (m cx : Nat) (hm : M.length = m) (hx : a.eval x = .slice ax m cx)
    (hT : Kq w1 base L (.slice ao N cap) W) (hX : Kq w2 base2 M (.slice ax m cx) W) (hd : ∀ k, Value.ownBlock (.slice ao N cap) = some k → k < base2) (hbb : base ≤ base2) (hf : N + m ≤ 1000)
    (h : ∀ a' c' w', Kq w1 base (L ++ M) (.slice a' (N + m) c') w' → W.grownBy w' (Value.ownBlock (.slice ao N cap)) → wpList Try.prog ops Q rest (a.put op.dst (.slice a' (N + m) c')) w') : wpList Try.prog ops Q (op :: rest) a W :=
  wpList_plain hgd fun _ hK => wp_append_z s x hop ao N cap hN hs ax m cx hm hx hT hX hd hbb hf fun a' c' w' h1 h2 => hK _ _ (h a' c' w' h1 h2)

end Go.Proofs.Ytopepgifhnfbiaa

namespace Go.Proofs.Ytopepgifhnfbiaa
namespace M

/-- Half the sums, rounded down. -/
def hvP (p q : Pt) : Pt := ⟨(p.x + q.x) / 2, (p.y + q.y) / 2⟩
/-- Numbers of 64 bits. -/
def In64 (x : Int) : Prop := -9223372036854775808 ≤ x ∧ x ≤ 9223372036854775807
def Rg (p : Pt) : Prop := In64 p.x ∧ In64 p.y
theorem Rg.hv {p q : Pt} (h : Rg p) (h2 : Rg q) : Rg (hvP p q) := by
  unfold Rg In64 at *
  simp only [hvP]
  omega
theorem Rg.small {ps : List Pt} {i : Nat} (h : Small ps) (hi : i < ps.length) : Rg (pt ps i) := by
  have := h i hi
  unfold Rg In64
  omega
theorem Rg.near {p : Pt} (h : nearP p = true) : Rg p := by
  simp [nearP, nearN] at h
  unfold Rg In64
  omega

/-- A part that is parted n times: the ends behind a. -/
def bendL : Nat → Pt → Pt → Pt → Pt → List Pt
  | 0, _, _, _, d => [d]
  | n + 1, a, b, c, d =>
    bendL n a (hvP a b) (hvP (hvP a b) (hvP b c)) (hvP (hvP (hvP a b) (hvP b c)) (hvP (hvP b c) (hvP c d))) ++
    bendL n (hvP (hvP (hvP a b) (hvP b c)) (hvP (hvP b c) (hvP c d))) (hvP (hvP b c) (hvP c d)) (hvP c d) d
theorem bendL_length : ∀ (n : Nat) (a b c d : Pt), (bendL n a b c d).length = 2 ^ n
  | 0, _, _, _, _ => rfl
  | n + 1, a, b, c, d => by unfold bendL; rw [List.length_append, bendL_length n, bendL_length n, Nat.pow_succ]; omega
theorem pt_right {ps qs : List Pt} {i : Nat} (h : ps.length ≤ i) : pt (ps ++ qs) i = pt qs (i - ps.length) := by
  unfold pt; simp [List.getD, List.getElem?_append_right h]
theorem pt_lefts {ps qs : List Pt} {i : Nat} (h : i < ps.length) : pt (ps ++ qs) i = pt ps i := by
  unfold pt; simp [List.getD, List.getElem?_append_left h]
theorem bendL_last : ∀ (n : Nat) (a b c d : Pt), pt (bendL n a b c d) (2 ^ n - 1) = d
  | 0, _, _, _, _ => rfl
  | n + 1, a, b, c, d => by
    have h0 : 0 < 2 ^ n := Nat.pow_pos (by omega)
    unfold bendL
    rw [pt_right (by rw [bendL_length, Nat.pow_succ]; omega), bendL_length]
    have e : 2 ^ (n + 1) - 1 - 2 ^ n = 2 ^ n - 1 := by rw [Nat.pow_succ]; omega
    rw [e]
    exact bendL_last n _ _ _ d
/-- Within a box. -/
def Bx (x0 x1 y0 y1 : Int) (p : Pt) : Prop := x0 ≤ p.x ∧ p.x ≤ x1 ∧ y0 ≤ p.y ∧ p.y ≤ y1
theorem Bx.hv {x0 x1 y0 y1 : Int} {p q : Pt} (h : Bx x0 x1 y0 y1 p) (h2 : Bx x0 x1 y0 y1 q) : Bx x0 x1 y0 y1 (hvP p q) := by
  unfold Bx at *
  simp only [hvP]
  omega
theorem bendL_box {x0 x1 y0 y1 : Int} : ∀ (n : Nat) (a b c d : Pt), Bx x0 x1 y0 y1 a → Bx x0 x1 y0 y1 b → Bx x0 x1 y0 y1 c → Bx x0 x1 y0 y1 d → ∀ i, i < 2 ^ n → Bx x0 x1 y0 y1 (pt (bendL n a b c d) i)
  | 0, _, _, _, _, _, _, _, h, i, hi => by
    obtain rfl : i = 0 := by simp at hi; omega
    exact h
  | n + 1, a, b, c, d, ha, hb, hc, hd, i, hi => by
    unfold bendL
    by_cases hl : i < 2 ^ n
    · rw [pt_lefts (by rw [bendL_length]; exact hl)]
      exact bendL_box n _ _ _ _ ha (ha.hv hb) ((ha.hv hb).hv (hb.hv hc)) (((ha.hv hb).hv (hb.hv hc)).hv ((hb.hv hc).hv (hc.hv hd))) i hl
    · rw [pt_right (by rw [bendL_length]; omega), bendL_length]
      exact bendL_box n _ _ _ _ (((ha.hv hb).hv (hb.hv hc)).hv ((hb.hv hc).hv (hc.hv hd))) ((hb.hv hc).hv (hc.hv hd)) (hc.hv hd) hd _ (by rw [Nat.pow_succ] at hi; omega)

/-- A part's ends: the last one alone if it is straight. -/
def partL (a b c d : Pt) : List Pt := if b = a ∧ c = d then [d] else bendL 3 a b c d
theorem partL_pos (a b c d : Pt) : 0 < (partL a b c d).length ∧ (partL a b c d).length ≤ 8 := by
  unfold partL
  split
  · simp
  · rw [bendL_length]; omega
theorem partL_last (a b c d : Pt) : pt (partL a b c d) ((partL a b c d).length - 1) = d := by
  unfold partL
  split
  · rfl
  · rw [bendL_length]; exact bendL_last 3 a b c d
/-- The first k parts of a path in straight lines. -/
def polyN (ps : List Pt) : Nat → List Pt
  | 0 => [pt ps 0]
  | k + 1 => polyN ps k ++ partL (pt ps (3 * k)) (pt ps (3 * k + 1)) (pt ps (3 * k + 2)) (pt ps (3 * k + 3))
theorem polyN_length (ps : List Pt) : ∀ k, k + 1 ≤ (polyN ps k).length ∧ (polyN ps k).length ≤ 8 * k + 1
  | 0 => by simp [polyN]
  | k + 1 => by
    have h := polyN_length ps k
    have h2 := partL_pos (pt ps (3 * k)) (pt ps (3 * k + 1)) (pt ps (3 * k + 2)) (pt ps (3 * k + 3))
    unfold polyN
    rw [List.length_append]
    omega
/-- A path in straight lines. -/
def flatL (c : Bool) (ps : List Pt) : List Pt := if ps.length = 0 ∨ okP c ps = false then [] else polyN ps ((ps.length - 1) / 3)
theorem polyN_last (ps : List Pt) : ∀ k, pt (polyN ps k) ((polyN ps k).length - 1) = pt ps (3 * k)
  | 0 => rfl
  | k + 1 => by
    have h2 := partL_pos (pt ps (3 * k)) (pt ps (3 * k + 1)) (pt ps (3 * k + 2)) (pt ps (3 * k + 3))
    unfold polyN
    rw [List.length_append, pt_right (by omega)]
    have e : (polyN ps k).length + (partL (pt ps (3 * k)) (pt ps (3 * k + 1)) (pt ps (3 * k + 2)) (pt ps (3 * k + 3))).length - 1 - (polyN ps k).length = (partL (pt ps (3 * k)) (pt ps (3 * k + 1)) (pt ps (3 * k + 2)) (pt ps (3 * k + 3))).length - 1 := by omega
    rw [e, partL_last]
    congr 1
theorem polyN_le (ps : List Pt) {k : Nat} (j : Nat) (h : k ≤ j) : (polyN ps k).length ≤ (polyN ps j).length := by
  induction j with
  | zero => obtain rfl : k = 0 := by omega
            exact Nat.le_refl _
  | succ j ih =>
    by_cases e : k = j + 1
    · subst e; exact Nat.le_refl _
    · have := ih (by omega)
      have h3 : (polyN ps (j + 1)).length = (polyN ps j).length + (partL (pt ps (3 * j)) (pt ps (3 * j + 1)) (pt ps (3 * j + 2)) (pt ps (3 * j + 3))).length := by
        show (polyN ps j ++ _).length = _
        rw [List.length_append]
      omega
theorem polyN_pre (ps : List Pt) {k : Nat} (n : Nat) (h : k ≤ n) (i : Nat) (hi : i < (polyN ps k).length) : pt (polyN ps n) i = pt (polyN ps k) i := by
  induction n with
  | zero => obtain rfl : k = 0 := by omega
            rfl
  | succ n ih =>
    by_cases e : k = n + 1
    · subst e; rfl
    · rw [← ih (by omega)]
      have hm := polyN_le ps n (show k ≤ n by omega)
      show pt (polyN ps n ++ _) i = _
      exact pt_lefts (by omega)
theorem polyN_grow (ps : List Pt) (k : Nat) : (polyN ps (k + 1)).length = (polyN ps k).length + (partL (pt ps (3 * k)) (pt ps (3 * k + 1)) (pt ps (3 * k + 2)) (pt ps (3 * k + 3))).length := by
  show (polyN ps k ++ _).length = _
  rw [List.length_append]

/- Bits: what both have, twice, and what one has. -/
theorem and_xor (a b : Nat) : a + b = 2 * (a &&& b) + (a ^^^ b) := by
  induction a using Nat.strongRecOn generalizing b with
  | _ a ih =>
    by_cases h : a = 0
    · subst h; simp
    · have := ih (a / 2) (by omega) (b / 2)
      have e1 : (a &&& b) / 2 = a / 2 &&& b / 2 := Nat.and_div_two
      have e2 : (a ^^^ b) / 2 = a / 2 ^^^ b / 2 := Nat.xor_div_two
      have e3 : (a &&& b) % 2 = 1 ↔ a % 2 = 1 ∧ b % 2 = 1 := Nat.and_mod_two_eq_one
      have e4 : (a ^^^ b) % 2 = 1 ↔ ¬ (a % 2 = 1 ↔ b % 2 = 1) := Nat.xor_mod_two_eq_one
      omega
end M
open Go Go.RowKit M
theorem bits_facts (x y : Int) (hx : In64 x) (hy : In64 y) : ∃ A X : Int, bits .and .i64 x y = A ∧ bits .xor .i64 x y = X ∧ x + y = 2 * A + X ∧ In64 A ∧ In64 X ∧ (A % 2 = 1 ↔ x % 2 = 1 ∧ y % 2 = 1) := by
  obtain ⟨n, hn⟩ : ∃ n, (BitVec.ofInt 64 x).toNat = n := ⟨_, rfl⟩
  obtain ⟨m, hm⟩ : ∃ n, (BitVec.ofInt 64 y).toNat = n := ⟨_, rfl⟩
  have e1 : n = (x % 18446744073709551616).toNat := by rw [← hn, BitVec.toNat_ofInt]; rfl
  have e2 : m = (y % 18446744073709551616).toNat := by rw [← hm, BitVec.toNat_ofInt]; rfl
  have a1 : bits .and .i64 x y = IntKind.i64.wrap ((n &&& m : Nat) : Int) := by
    show IntKind.i64.wrap ((BitVec.ofInt 64 x &&& BitVec.ofInt 64 y).toNat : Int) = _
    rw [BitVec.toNat_and, hn, hm]
  have a2 : bits .xor .i64 x y = IntKind.i64.wrap ((n ^^^ m : Nat) : Int) := by
    show IntKind.i64.wrap ((BitVec.ofInt 64 x ^^^ BitVec.ofInt 64 y).toNat : Int) = _
    rw [BitVec.toNat_xor, hn, hm]
  have b1 := BitVec.msb_eq_decide (BitVec.ofInt 64 x)
  have b2 := BitVec.msb_eq_decide (BitVec.ofInt 64 y)
  have b3 := BitVec.msb_eq_decide (BitVec.ofInt 64 x &&& BitVec.ofInt 64 y)
  have b4 := BitVec.msb_eq_decide (BitVec.ofInt 64 x ^^^ BitVec.ofInt 64 y)
  have l3 := (BitVec.ofInt 64 x &&& BitVec.ofInt 64 y).isLt
  have l4 := (BitVec.ofInt 64 x ^^^ BitVec.ofInt 64 y).isLt
  rw [BitVec.msb_and, b1, b2, BitVec.toNat_and, hn, hm] at b3
  rw [BitVec.msb_xor, b1, b2, BitVec.toNat_xor, hn, hm] at b4
  rw [BitVec.toNat_and, hn, hm] at l3
  rw [BitVec.toNat_xor, hn, hm] at l4
  have s := and_xor n m
  have e3 : (n &&& m) % 2 = 1 ↔ n % 2 = 1 ∧ m % 2 = 1 := Nat.and_mod_two_eq_one
  rw [IntKind.wrap_i64] at a1 a2
  generalize n &&& m = A at *
  generalize n ^^^ m = X at *
  clear hn hm b1 b2
  unfold In64 at *
  have c3 : 9223372036854775808 ≤ A ↔ 9223372036854775808 ≤ n ∧ 9223372036854775808 ≤ m := by
    clear a1 a2 e1 e2 s e3 hx hy b4
    simp at b3
    by_cases h1 : 9223372036854775808 ≤ n <;> by_cases h2 : 9223372036854775808 ≤ m <;> simp [h1, h2] at b3 ⊢ <;> omega
  have c4 : 9223372036854775808 ≤ X ↔ ¬ (9223372036854775808 ≤ n ↔ 9223372036854775808 ≤ m) := by
    clear a1 a2 e1 e2 s e3 hx hy b3 c3
    simp at b4
    by_cases h1 : 9223372036854775808 ≤ n <;> by_cases h2 : 9223372036854775808 ≤ m <;> simp [h1, h2] at b4 ⊢ <;> omega
  clear b3 b4
  have sg : ∀ k : Nat, k < 2 ^ 64 → ∃ z : Int, (((k : Int) + 9223372036854775808) % 18446744073709551616 - 9223372036854775808) = z ∧ (9223372036854775808 ≤ k → z = k - 18446744073709551616) ∧ (¬ 9223372036854775808 ≤ k → z = k) ∧ -9223372036854775808 ≤ z ∧ z ≤ 9223372036854775807 := by
    intro k hk
    refine ⟨_, rfl, fun h => ?_, fun h => ?_, ?_, ?_⟩ <;> omega
  obtain ⟨zA, hA, A1, A2, A3, A4⟩ := sg A l3
  obtain ⟨zX, hX, X1, X2, X3, X4⟩ := sg X l4
  have ex : (9223372036854775808 ≤ n → x = n - 18446744073709551616) ∧ (¬ 9223372036854775808 ≤ n → x = n) := by
    clear a1 a2 e2 s e3 hy c3 c4 sg hA hX A1 A2 X1 X2
    constructor <;> intro <;> omega
  have ey : (9223372036854775808 ≤ m → y = m - 18446744073709551616) ∧ (¬ 9223372036854775808 ≤ m → y = m) := by
    clear a1 a2 e1 s e3 hx c3 c4 sg hA hX A1 A2 X1 X2 ex
    constructor <;> intro <;> omega
  rw [hA] at a1
  rw [hX] at a2
  refine ⟨zA, zX, a1, a2, ?_, ⟨A3, A4⟩, ⟨X3, X4⟩, ?_⟩
  · clear a1 a2 e1 e2 sg hA hX e3 l3 l4 A3 A4 X3 X4 hx hy
    by_cases h1 : 9223372036854775808 ≤ n <;> by_cases h2 : 9223372036854775808 ≤ m
    · have := A1 (c3.2 ⟨h1, h2⟩); have := X2 (fun h => c4.1 h ⟨fun _ => h2, fun _ => h1⟩); have := ex.1 h1; have := ey.1 h2; omega
    · have := A2 (fun h => h2 (c3.1 h).2); have := X1 (c4.2 (fun h => h2 (h.1 h1))); have := ex.1 h1; have := ey.2 h2; omega
    · have := A2 (fun h => h1 (c3.1 h).1); have := X1 (c4.2 (fun h => h1 (h.2 h2))); have := ex.2 h1; have := ey.1 h2; omega
    · have := A2 (fun h => h1 (c3.1 h).1); have := X2 (fun h => c4.1 h ⟨fun h => absurd h h1, fun h => absurd h h2⟩); have := ex.2 h1; have := ey.2 h2; omega
  · have pA : zA % 2 = (A : Int) % 2 := by
      clear a1 a2 e1 e2 sg hA hX e3 l3 l4 A3 A4 X3 X4 hx hy c3 c4 ex ey s X1 X2
      by_cases h : 9223372036854775808 ≤ A
      · have := A1 h; omega
      · have := A2 h; omega
    have px : x % 2 = (n : Int) % 2 := by
      clear a1 a2 e1 e2 sg hA hX e3 l3 l4 A3 A4 X3 X4 hx hy c3 c4 ey s X1 X2 A1 A2 pA
      by_cases h : 9223372036854775808 ≤ n
      · have := ex.1 h; omega
      · have := ex.2 h; omega
    have py : y % 2 = (m : Int) % 2 := by
      clear a1 a2 e1 e2 sg hA hX e3 l3 l4 A3 A4 X3 X4 hx hy c3 c4 ex s X1 X2 A1 A2 pA px
      by_cases h : 9223372036854775808 ≤ m
      · have := ey.1 h; omega
      · have := ey.2 h; omega
    rw [pA, px, py]
    clear a1 a2 e1 e2 sg hA hX l3 l4 A3 A4 X3 X4 hx hy c3 c4 ex ey s X1 X2 A1 A2 pA px py
    omega
theorem and_one1 (c : Int) : bits .and .i64 c 1 = c % 2 := by
  show IntKind.i64.wrap ((BitVec.ofInt 64 c &&& BitVec.ofInt 64 (1 : Int)).toNat : Int) = _
  have e0 : (BitVec.ofInt 64 (1 : Int)).toNat = 1 := by decide
  have e1 : (BitVec.ofInt 64 c).toNat = (c % 18446744073709551616).toNat := by rw [BitVec.toNat_ofInt]; rfl
  have e2 : ∀ n : Nat, n &&& 1 = n % 2 := fun n => Nat.and_two_pow_sub_one_eq_mod n 1
  rw [BitVec.toNat_and, e0, e1, e2, IntKind.wrap_i64]
  omega
theorem half_bits {x y : Int} (hx : In64 x) (hy : In64 y) : wrap64 (bits .and .i64 x y + bits .xor .i64 x y / 2) = (x + y) / 2 := by
  obtain ⟨A, X, h1, h2, h3, h4, h5, _⟩ := bits_facts x y hx hy
  rw [h1, h2]
  have e : A + X / 2 = (x + y) / 2 := by rw [h3]; omega
  rw [e]
  unfold In64 at *
  exact IntWalk.wrap64_in _ ⟨by omega, by omega⟩
theorem half_ref {x y : Int} (hx : In64 x) (hy : In64 y) : wrap64 (wrap64 (x / 2 + y / 2) + bits .and .i64 (bits .and .i64 x y) 1) = (x + y) / 2 := by
  obtain ⟨A, X, h1, h2, h3, h4, h5, h6⟩ := bits_facts x y hx hy
  rw [h1, and_one1]
  unfold In64 at *
  rw [show wrap64 (x / 2 + y / 2) = x / 2 + y / 2 from IntWalk.wrap64_in _ ⟨by omega, by omega⟩]
  have e : x / 2 + y / 2 + A % 2 = (x + y) / 2 := by omega
  rw [e]
  exact IntWalk.wrap64_in _ ⟨by omega, by omega⟩
end Go.Proofs.Ytopepgifhnfbiaa

namespace Go.Proofs.Ytopepgifhnfbiaa
namespace M

/-- Places whose numbers are of 64 bits. -/
def PJ (ps : List Pt) : Prop := ∀ p ∈ ps, In64 p.x ∧ In64 p.y
theorem pi_map (ps : List Pt) : PJ (ps.map plc) := by
  intro p hp
  obtain ⟨q, _, rfl⟩ := List.mem_map.1 hp
  have h1 := place_lo q.x
  have h2 := place_hi q.x
  have h3 := place_lo q.y
  have h4 := place_hi q.y
  refine ⟨⟨?_, ?_⟩, ⟨?_, ?_⟩⟩
  · show _ ≤ place q.x; omega
  · show place q.x ≤ _; omega
  · show _ ≤ place q.y; omega
  · show place q.y ≤ _; omega
theorem pi_shape (ps : List Pt) : PJ (shapeL ps) := by
  unfold shapeL turnL
  split
  · intro p hp
    exact pi_map ps p (List.mem_reverse.1 hp)
  · exact pi_map ps
theorem pi_bars (ls : List Ln) (ends : Bool) : ∀ n, ∀ y ∈ barsN ls ends n, PJ y.2
  | 0, y, hy => by simp [barsN] at hy
  | n + 1, y, hy => by
    rw [barsN_step] at hy
    rcases List.mem_append.1 hy with h1 | h1
    · exact pi_bars ls ends n y h1
    · rw [List.mem_singleton.1 h1]; exact pi_shape _
theorem pi_joint (a b : Ln) : ∀ y ∈ jointL a b, PJ y.2 := by
  intro y hy
  simp [jointL] at hy
  rcases hy with rfl | rfl <;> exact pi_shape _
theorem pi_corn (ls : List Ln) : ∀ n, ∀ y ∈ cornN ls n, PJ y.2
  | 0, y, hy => by simp [cornN] at hy
  | n + 1, y, hy => by
    rw [cornN_step] at hy
    rcases List.mem_append.1 hy with h1 | h1
    · exact pi_corn ls n y h1
    · exact pi_joint _ _ y h1
theorem pi_stroke (c : Bool) (ps : List Pt) (w cap : Int) : ∀ y ∈ strokeL c ps w cap, PJ y.2 := by
  intro y hy
  unfold strokeL at hy
  split at hy
  · simp at hy
  · unfold outL cornL lastL at hy
    rcases List.mem_append.1 hy with h1 | h1
    · exact pi_bars _ _ _ y h1
    · rcases List.mem_append.1 h1 with h2 | h2
      · exact pi_corn _ _ y h2
      · split at h2
        · exact pi_joint _ _ y h2
        · simp at h2
theorem stroke_few (c : Bool) (ps : List Pt) (w cap : Int) (h : ps.length ≤ 30) : (strokeL c ps w cap).length ≤ 90 := by
  unfold strokeL
  split
  · simp
  · rw [outL_length]
    have h1 := linesN_length ps (half w) (sidesN c ps.length)
    have h2 := sidesN_le c ps.length
    unfold linesL
    split <;> omega
theorem flat_few {c : Bool} {ps : List Pt} {n : Nat} (h : ps.length = 3 * n + 1) : (flatL c ps).length ≤ 8 * n + 1 := by
  unfold flatL
  split
  · simp
  · have := (polyN_length ps ((ps.length - 1) / 3)).2
    rw [h] at this ⊢
    have e : (3 * n + 1 - 1) / 3 = n := by omega
    rw [e] at this ⊢
    exact this
theorem pi_pt {ps : List Pt} (h : ∀ i, i < ps.length → In64 (pt ps i).x ∧ In64 (pt ps i).y) : PJ ps := by
  intro p hp
  obtain ⟨i, hi, e⟩ := List.getElem_of_mem hp
  have := h i hi
  unfold pt at this
  rw [List.getD_eq_getElem?_getD, List.getElem?_eq_getElem hi] at this
  simp only [Option.getD_some] at this
  rw [e] at this
  exact this
theorem pi_flat {c : Bool} {ps : List Pt} {n : Nat} (hn : ps.length = 3 * n + 1) (hs : Small ps) : PJ (flatL c ps) := by
  unfold flatL
  split
  · intro p hp; cases hp
  · have hb : ∀ i, i < ps.length → Bx (-131072) 983039 (-131072) 983039 (pt ps i) := fun i hi => hs i hi
    have key : ∀ k, k ≤ n → ∀ i, i < (polyN ps k).length → Bx (-131072) 983039 (-131072) 983039 (pt (polyN ps k) i) := by
      intro k
      induction k with
      | zero =>
        intro _ i hi
        have : i = 0 := by simp [polyN] at hi; omega
        subst this
        exact hb 0 (by omega)
      | succ k ih =>
        intro hk i hi
        unfold polyN at hi ⊢
        rw [List.length_append] at hi
        by_cases hl : i < (polyN ps k).length
        · rw [pt_lefts hl]; exact ih (by omega) i hl
        · rw [pt_right (by omega)]
          obtain ⟨j, hj⟩ : ∃ j, i - (polyN ps k).length = j := ⟨_, rfl⟩
          rw [hj]
          have hj2 : j < (partL (pt ps (3 * k)) (pt ps (3 * k + 1)) (pt ps (3 * k + 2)) (pt ps (3 * k + 3))).length := by omega
          unfold partL at hj2 ⊢
          split
          · rename_i he
            rw [if_pos he] at hj2
            have : j = 0 := by simp at hj2; omega
            subst this
            exact hb (3 * k + 3) (by omega)
          · rename_i he
            rw [if_neg he, bendL_length] at hj2
            exact bendL_box 3 _ _ _ _ (hb _ (by omega)) (hb _ (by omega)) (hb _ (by omega)) (hb _ (by omega)) j hj2
    refine pi_pt fun i hi => ?_
    have := key ((ps.length - 1) / 3) (by omega) i hi
    unfold Bx at this
    unfold In64
    omega

end M
end Go.Proofs.Ytopepgifhnfbiaa

namespace Go.Proofs.Ytopepgifhnfbiaa
namespace M

/-- Lengths of at most 700 sides are plain sums. -/
theorem lenN_plain (ps : List Pt) : ∀ n, n ≤ 700 → lenN ps n ≤ n * 1518500249 ∧ lenN ps (n + 1) = lenN ps n + sideL ps n
  | 0, _ => by
    have h0 := sideL_lo ps 0
    have h1 := sideL_hi ps 0
    refine ⟨by simp [lenN], ?_⟩
    rw [← lenN_step, add_near (by simp [lenN]) (by simp [lenN]) h0 h1, hold_in (by simp [lenN]; omega) (by simp [lenN]; omega)]
  | n + 1, h => by
    have ih := lenN_plain ps n (by omega)
    have i0 := lenN_in ps n
    have i1 := lenN_in ps (n + 1)
    have a0 := sideL_lo ps n
    have a1 := sideL_hi ps n
    have h0 := sideL_lo ps (n + 1)
    have h1 := sideL_hi ps (n + 1)
    have hb : lenN ps (n + 1) ≤ (n + 1 : Nat) * 1518500249 := by rw [ih.2]; have := ih.1; omega
    refine ⟨hb, ?_⟩
    rw [← lenN_step ps (n + 1), add_near i1.1 i1.2 h0 h1, hold_in (by omega) (by omega)]
theorem lenN_succ {ps : List Pt} {n : Nat} (h : n ≤ 700) : lenN ps (n + 1) = lenN ps n + sideL ps n := (lenN_plain ps n h).2
theorem lenN_mono {ps : List Pt} {i : Nat} : ∀ {j : Nat}, i ≤ j → j ≤ 700 → lenN ps i ≤ lenN ps j
  | 0, h, _ => by
    obtain rfl : i = 0 := by omega
    exact Int.le_refl _
  | j + 1, h, hj => by
    by_cases e : i = j + 1
    · rw [e]; omega
    · have := lenN_mono (ps := ps) (i := i) (j := j) (by omega) (by omega)
      have := sideL_lo ps j
      rw [lenN_succ (ps := ps) (n := j) (by omega)]
      omega
theorem lenN_join {ps qs : List Pt} {k : Nat} : ∀ {j : Nat}, k + j ≤ 700 → (∀ i, i < j → sideL ps (k + i) = sideL qs i) → lenN ps (k + j) = lenN ps k + lenN qs j
  | 0, _, _ => by simp [lenN]
  | j + 1, hj, h => by
    have ih := lenN_join (ps := ps) (qs := qs) (k := k) (j := j) (by omega) (fun i hi => h i (by omega))
    rw [← Nat.add_assoc, lenN_succ (ps := ps) (n := k + j) (by omega), lenN_succ (ps := qs) (n := j) (by omega), ih, h j (by omega)]
    omega
theorem lenN_same {ps qs : List Pt} {j : Nat} (hj : j ≤ 700) (h : ∀ i, i < j → sideL ps i = sideL qs i) : lenN ps j = lenN qs j := by
  have := lenN_join (ps := ps) (qs := qs) (k := 0) (j := j) (by omega) (fun i hi => by rw [Nat.zero_add]; exact h i hi)
  rw [Nat.zero_add, lenN_zero] at this
  omega
theorem isq_zero : isq 0 = 0 := by
  have := (isq_spec 0).1
  cases h : isq 0 with
  | zero => rfl
  | succ n => rw [h] at this; simp at this
theorem longP_self (a : Pt) : longP a a = 0 := by
  unfold longP hyp
  rw [Int.sub_self, Int.sub_self]
  have e : wide 0 = 0 := by decide
  rw [e]
  simp [isq_zero]
theorem longP_zero {a b : Pt} (h : longP (plc a) (plc b) = 0) : plc a = plc b := by
  obtain ⟨x, y⟩ := a
  obtain ⟨x2, y2⟩ := b
  unfold longP hyp at h
  simp only [plc] at h ⊢
  have l1 := place_lo x; have l2 := place_hi x; have l3 := place_lo y; have l4 := place_hi y
  have m1 := place_lo x2; have m2 := place_hi x2; have m3 := place_lo y2; have m4 := place_hi y2
  rw [wide_in (a := place x2 - place x) (by omega) (by omega), wide_in (a := place y2 - place y) (by omega) (by omega)] at h
  obtain ⟨d, hd⟩ : ∃ d, place x2 - place x = d := ⟨_, rfl⟩
  obtain ⟨e, he⟩ : ∃ e, place y2 - place y = e := ⟨_, rfl⟩
  rw [hd, he] at h
  have s1 : 0 ≤ d * d := by rcases Int.le_total 0 d with g | g; exact Int.mul_nonneg g g; exact Int.mul_nonneg_of_nonpos_of_nonpos g g
  have s2 : 0 ≤ e * e := by rcases Int.le_total 0 e with g | g; exact Int.mul_nonneg g g; exact Int.mul_nonneg_of_nonpos_of_nonpos g g
  have hz : isq (d * d + e * e).toNat = 0 := by omega
  have hs := (isq_spec (d * d + e * e).toNat).2
  rw [hz] at hs
  have z : d * d + e * e = 0 := by omega
  have zd : d * d = 0 := by omega
  have ze : e * e = 0 := by omega
  have d0 : d = 0 := by rcases Int.mul_eq_zero.1 zd with h | h <;> exact h
  have e0 : e = 0 := by rcases Int.mul_eq_zero.1 ze with h | h <;> exact h
  simp only [Pt.mk.injEq]
  omega
theorem side_zero {ps : List Pt} {i : Nat} : sideL ps i = 0 ↔ sa ps i = sb ps i := by
  refine ⟨fun h => longP_zero h, fun h => ?_⟩
  unfold sideL
  rw [h, longP_self]
/-- The corners of the sides k, k + 1, .. k + m - 1. -/
def corN (ps : List Pt) (k : Nat) : Nat → List Pt
  | 0 => []
  | m + 1 => if sa ps (k + m) = sb ps (k + m) then corN ps k m else (if (corN ps k m).length = 0 then [sa ps (k + m)] else corN ps k m) ++ [sb ps (k + m)]
theorem corN_zero (ps : List Pt) (k : Nat) : corN ps k 0 = [] := rfl
theorem corN_off {ps : List Pt} {k m : Nat} (h : sa ps (k + m) = sb ps (k + m)) : corN ps k (m + 1) = corN ps k m := by rw [corN, if_pos h]
theorem corN_first {ps : List Pt} {k m : Nat} (h : ¬ sa ps (k + m) = sb ps (k + m)) (h0 : (corN ps k m).length = 0) : corN ps k (m + 1) = [sa ps (k + m)] ++ [sb ps (k + m)] := by rw [corN, if_neg h, if_pos h0]
theorem corN_more {ps : List Pt} {k m : Nat} (h : ¬ sa ps (k + m) = sb ps (k + m)) (h0 : ¬ (corN ps k m).length = 0) : corN ps k (m + 1) = corN ps k m ++ [sb ps (k + m)] := by rw [corN, if_neg h, if_neg h0]
theorem corN_length (ps : List Pt) (k : Nat) : ∀ m, (corN ps k m).length ≤ m + 1
  | 0 => by simp [corN]
  | m + 1 => by
    have ih := corN_length ps k m
    by_cases h : sa ps (k + m) = sb ps (k + m)
    · rw [corN_off h]; omega
    · by_cases h0 : (corN ps k m).length = 0
      · rw [corN_first h h0]; simp
      · rw [corN_more h h0]; simp; omega
/-- No corner yet: nothing of the way is done. -/
theorem corN_none {ps : List Pt} {k : Nat} : ∀ {m : Nat}, k + m ≤ 700 → (corN ps k m).length = 0 → lenN ps (k + m) = lenN ps k
  | 0, _, _ => rfl
  | m + 1, hm, h => by
    by_cases e : sa ps (k + m) = sb ps (k + m)
    · rw [corN_off e] at h
      rw [← Nat.add_assoc, lenN_succ (by omega), side_zero.2 e, corN_none (by omega) h]
      omega
    · by_cases h0 : (corN ps k m).length = 0
      · rw [corN_first e h0] at h; simp at h
      · rw [corN_more e h0] at h; simp at h
theorem hold_len (ps : List Pt) (n : Nat) : hold (lenN ps n) = lenN ps n := hold_in (by have := (lenN_in ps n).1; omega) (lenN_in ps n).2
/-- The part from corner k on to the end of side k + M. -/
theorem cut_none {ps : List Pt} {k : Nat} {t : Int} (hk : k ≤ 700) : ∀ {i : Nat}, i ≤ k → cutN ps (lenN ps k) t i = []
  | 0, _ => rfl
  | i + 1, hi => by
    rw [cutN_off]
    · exact cut_none hk (by omega)
    · rintro ⟨_, h, _⟩
      have := lenN_mono (ps := ps) hi hk
      rw [lenN_succ (ps := ps) (n := i) (by omega)] at this
      omega
theorem cut_cor {ps : List Pt} {k M : Nat} (hM : k + M ≤ 700) : ∀ {m : Nat}, m ≤ M → cutN ps (lenN ps k) (lenN ps (k + M)) (k + m) = corN ps k m
  | 0, _ => cut_none (by omega) (Nat.le_refl _)
  | m + 1, hm => by
    have ih := cut_cor (ps := ps) hM (m := m) (by omega)
    have e1 := lenN_succ (ps := ps) (n := k + m) (by omega)
    have m1 := lenN_mono (ps := ps) (i := k) (j := k + m) (by omega) (by omega)
    have m2 := lenN_mono (ps := ps) (i := k + m + 1) (j := k + M) (by omega) (by omega)
    have s0 := sideL_lo ps (k + m)
    have i1 := lenN_in ps (k + M)
    have i2 := lenN_in ps (k + m)
    rw [← Nat.add_assoc]
    by_cases e : sa ps (k + m) = sb ps (k + m)
    · rw [corN_off e, cutN_off, ih]
      rintro ⟨h, _⟩
      rw [side_zero.2 e] at h
      omega
    · have hz : ¬ sideL ps (k + m) = 0 := fun h => e (side_zero.1 h)
      have hh : hit ps (lenN ps k) (lenN ps (k + M)) (k + m) := ⟨by omega, by omega, by omega⟩
      have ft : fromP ps (lenN ps (k + M)) (k + m) = sb ps (k + m) := by
        unfold fromP
        rw [onP_b (by rw [hold_in (by omega) (by omega)]; omega) (by rw [hold_in (by omega) (by omega)]; omega)]
        exact plc_plc _
      by_cases h0 : (corN ps k m).length = 0
      · rw [corN_first e h0, cutN_first hh (by rw [ih]; exact h0), ft]
        have q := corN_none (by omega) h0
        have ff : fromP ps (lenN ps k) (k + m) = sa ps (k + m) := by
          unfold fromP
          rw [q, onP_a (by rw [Int.sub_self]; decide)]
          exact plc_plc _
        rw [ff]
      · rw [corN_more e h0, cutN_more hh (by rw [ih]; exact h0), ft, ih]
/-- Each side begins where the one ahead of it ended. -/
def Chain (ps : List Pt) (k M : Nat) : Prop := ∀ i, i + 1 < M → sa ps (k + i + 1) = sb ps (k + i)
theorem chain_in {ps : List Pt} {k M : Nat} (h : k + M ≤ ps.length) : Chain ps k M := fun i hi => by
  unfold sa sb
  rw [nxt_in (by omega)]
theorem sb_snoc {C : List Pt} {q : Pt} {i : Nat} (hi : i + 1 < C.length) : sideL (C ++ [q]) i = sideL C i := by
  unfold sideL sa sb
  rw [List.length_append, nxt_in (n := C.length + [q].length) (i := i) (by simp; omega), nxt_in (n := C.length) (i := i) (by omega), pt_left (by omega), pt_left (by omega)]
theorem sb_last {C : List Pt} {q : Pt} {L : Nat} (hL : C.length = L + 1) : sideL (C ++ [q]) L = longP (plc (pt C L)) (plc q) := by
  unfold sideL sa sb
  rw [List.length_append, nxt_in (n := C.length + [q].length) (i := L) (by simp; omega), pt_left (by omega), ← hL, pt_last]
/-- What the corners are: where they begin and end, and how long the way over them is. -/
theorem cor_inv {ps : List Pt} {k M : Nat} (hM : k + M ≤ 700) (hc : Chain ps k M) : ∀ {m : Nat}, m ≤ M →
    ((corN ps k m).length = 0 ∧ (0 < m → sb ps (k + m - 1) = sa ps k)) ∨
    ∃ L, (corN ps k m).length = L + 2 ∧ 0 < m ∧ pt (corN ps k m) 0 = sa ps k ∧ pt (corN ps k m) (L + 1) = sb ps (k + m - 1) ∧ lenN (corN ps k m) (L + 1) = lenN ps (k + m) - lenN ps k
  | 0, _ => Or.inl ⟨rfl, fun h => by omega⟩
  | m + 1, hm => by
    have ih := cor_inv hM hc (m := m) (by omega)
    have e1 := lenN_succ (ps := ps) (n := k + m) (by omega)
    have em : k + (m + 1) - 1 = k + m := by omega
    have link : 0 < m → sa ps (k + m) = sb ps (k + m - 1) := fun h => by
      have := hc (m - 1) (by omega)
      rw [show k + (m - 1) + 1 = k + m by omega, show k + (m - 1) = k + m - 1 by omega] at this
      exact this
    rw [em, ← Nat.add_assoc]
    by_cases e : sa ps (k + m) = sb ps (k + m)
    · rw [corN_off e]
      rcases ih with ⟨h0, h1⟩ | ⟨L, h0, h1, h2, h3, h4⟩
      · refine Or.inl ⟨h0, fun _ => ?_⟩
        by_cases hm0 : m = 0
        · subst hm0; exact e.symm
        · rw [← e, link (by omega), h1 (by omega)]
      · refine Or.inr ⟨L, h0, by omega, h2, ?_, ?_⟩
        · rw [h3, ← e, link h1]
        · rw [h4, e1, side_zero.2 e]; omega
    · rcases ih with ⟨h0, h1⟩ | ⟨L, h0, h1, h2, h3, h4⟩
      · have q := corN_none (by omega) h0
        have es : sa ps (k + m) = sa ps k := by
          by_cases hm0 : m = 0
          · subst hm0; rfl
          · rw [link (by omega), h1 (by omega)]
        rw [corN_first e h0]
        refine Or.inr ⟨0, rfl, by omega, ?_, rfl, ?_⟩
        · exact es
        · rw [lenN_succ (by omega), lenN_zero, e1, q]
          have : sideL ([sa ps (k + m)] ++ [sb ps (k + m)]) 0 = sideL ps (k + m) := by
            rw [sb_last (L := 0) rfl]
            show longP (plc (sa ps (k + m))) (plc (sb ps (k + m))) = _
            unfold sideL
            rw [show plc (sa ps (k + m)) = sa ps (k + m) from plc_plc _, show plc (sb ps (k + m)) = sb ps (k + m) from plc_plc _]
          rw [this]
          omega
      · rw [corN_more e (by omega)]
        refine Or.inr ⟨L + 1, by simp [h0], by omega, ?_, ?_, ?_⟩
        · rw [pt_left (by omega)]; exact h2
        · have := pt_last (corN ps k m) (sb ps (k + m))
          rw [h0] at this
          exact this
        · have b := corN_length ps k m
          rw [lenN_succ (by omega), sb_last (L := L + 1) h0, h3, ← link h1, e1]
          have s1 : lenN (corN ps k m ++ [sb ps (k + m)]) (L + 1) = lenN (corN ps k m) (L + 1) := lenN_same (by omega) fun i hi => sb_snoc (by omega)
          rw [s1, h4]
          have : longP (plc (sa ps (k + m))) (plc (sb ps (k + m))) = sideL ps (k + m) := by
            unfold sideL
            rw [show plc (sa ps (k + m)) = sa ps (k + m) from plc_plc _, show plc (sb ps (k + m)) = sb ps (k + m) from plc_plc _]
          rw [this]
          omega
/-- How long the corners are as an open line. -/
theorem cor_long {ps : List Pt} {k M : Nat} (hM : k + M ≤ 700) (hc : Chain ps k M) : lengthL false (corN ps k M) = lenN ps (k + M) - lenN ps k := by
  rcases cor_inv hM hc (Nat.le_refl M) with ⟨h0, _⟩ | ⟨L, h0, _, _, _, h4⟩
  · rw [corN_none hM h0]
    unfold lengthL
    rw [h0, sidesN_few _ (by omega), lenN_zero]
    omega
  · unfold lengthL
    rw [h0, sidesN_open (by omega)]
    exact h4
/-- The whole part: of n 0 nothing, else the corners. -/
theorem cut_whole {c : Bool} {ps : List Pt} (h : ps.length ≤ 700) (hn : ¬ lengthL c ps = 0) : cutL c ps 0 (lengthL c ps) = corN ps 0 (sidesN c ps.length) := by
  have i := lenN_in ps (sidesN c ps.length)
  have hs := sidesN_le c ps.length
  unfold lengthL at hn ⊢
  rw [cutL_yes (by rw [hold_len, show hold 0 = 0 by decide]; omega), hold_len, show hold 0 = 0 by decide]
  have := cut_cor (ps := ps) (k := 0) (M := sidesN c ps.length) (by omega) (Nat.le_refl _)
  rw [Nat.zero_add, lenN_zero] at this
  exact this
theorem cut_nothing {c : Bool} {ps : List Pt} (hn : lengthL c ps = 0) : cutL c ps 0 (lengthL c ps) = [] := by
  rw [hn]; exact cutL_no (by decide)
theorem whole_chain {c : Bool} {ps : List Pt} : Chain ps 0 (sidesN c ps.length) := chain_in (by have := sidesN_le c ps.length; omega)
theorem whole_long {c : Bool} {ps : List Pt} (h : ps.length ≤ 700) : lengthL false (corN ps 0 (sidesN c ps.length)) = lengthL c ps := by
  have hs := sidesN_le c ps.length
  rw [cor_long (by omega) whole_chain, lenN_zero, Nat.zero_add]
  unfold lengthL
  omega
theorem whole_two {c : Bool} {ps : List Pt} (h : ps.length ≤ 700) (hn : ¬ lengthL c ps = 0) : 2 ≤ (corN ps 0 (sidesN c ps.length)).length := by
  have hs := sidesN_le c ps.length
  rcases cor_inv (ps := ps) (k := 0) (M := sidesN c ps.length) (by omega) whole_chain (Nat.le_refl _) with ⟨h0, _⟩ | ⟨L, h0, _⟩
  · exact absurd (by have := corN_none (ps := ps) (k := 0) (by omega) h0; rw [Nat.zero_add, lenN_zero] at this; exact this) hn
  · omega

end M
end Go.Proofs.Ytopepgifhnfbiaa

namespace Go.Proofs.Ytopepgifhnfbiaa
namespace M

theorem hyp_spec {x y : Int} (x1 : -1073741824 ≤ x) (x2 : x ≤ 1073741824) (y1 : -1073741824 ≤ y) (y2 : y ≤ 1073741824) : 0 ≤ hyp x y ∧ hyp x y * hyp x y ≤ x * x + y * y ∧ x * x + y * y < (hyp x y + 1) * (hyp x y + 1) := by
  have ex : wide x = x := by unfold wide clamp; rw [if_neg (by omega), if_neg (by omega)]
  have ey : wide y = y := by unfold wide clamp; rw [if_neg (by omega), if_neg (by omega)]
  have sx := (wide_sq x).1
  have sy := (wide_sq y).1
  rw [ex] at sx
  rw [ey] at sy
  unfold hyp
  rw [ex, ey]
  obtain ⟨h1, h2⟩ := isq_spec (x * x + y * y).toNat
  have e : (((x * x + y * y).toNat : Nat) : Int) = x * x + y * y := Int.toNat_of_nonneg (by omega)
  generalize (x * x + y * y).toNat = n at *
  rw [← e]
  refine ⟨Int.natCast_nonneg _, ?_, ?_⟩
  · exact_mod_cast h1
  · exact_mod_cast h2
theorem sq_le {a b : Int} (h0 : 0 ≤ a) (h : a ≤ b) : a * a ≤ b * b := Int.mul_le_mul h h h0 (by omega)
theorem of_sq_lt {a b : Int} (hb : 0 ≤ b) (h : a * a < b * b) : a < b := by
  by_cases e : a < b
  · exact e
  · have := sq_le hb (show b ≤ a by omega); omega
theorem sq_nonneg (a : Int) : 0 ≤ a * a := by
  by_cases h : 0 ≤ a
  · exact Int.mul_nonneg h h
  · have := Int.mul_nonneg (show 0 ≤ -a by omega) (show 0 ≤ -a by omega)
    rwa [Int.neg_mul_neg] at this
/-- The way over a third place is not shorter, but for what rounding takes. -/
theorem way_over {p q r s A C : Int} (hA : 0 ≤ A) (hC : 0 ≤ C) (h1 : p * p + q * q < (A + 1) * (A + 1)) (h2 : r * r + s * s < (C + 1) * (C + 1)) : (p + r) * (p + r) + (q + s) * (q + s) < (A + C + 2) * (A + C + 2) := by
  have hx : p * r + q * s < (A + 1) * (C + 1) := by
    refine of_sq_lt (Int.mul_nonneg (by omega) (by omega)) ?_
    have id1 : (p * r + q * s) * (p * r + q * s) + (p * s - q * r) * (p * s - q * r) = (p * p + q * q) * (r * r + s * s) := by grind
    have n1 := sq_nonneg (p * s - q * r)
    have np : 0 ≤ p * p + q * q := by have := sq_nonneg p; have := sq_nonneg q; omega
    have nr : 0 ≤ r * r + s * s := by have := sq_nonneg r; have := sq_nonneg s; omega
    have m1 : (p * p + q * q) * (r * r + s * s) ≤ (A + 1) * (A + 1) * (r * r + s * s) := Int.mul_le_mul_of_nonneg_right (by omega) nr
    have pa : 0 < (A + 1) * (A + 1) := Int.mul_pos (by omega) (by omega)
    have m2 : (A + 1) * (A + 1) * (r * r + s * s) < (A + 1) * (A + 1) * ((C + 1) * (C + 1)) := Int.mul_lt_mul_of_pos_left h2 pa
    have id2 : (A + 1) * (C + 1) * ((A + 1) * (C + 1)) = (A + 1) * (A + 1) * ((C + 1) * (C + 1)) := by grind
    omega
  have id3 : (p + r) * (p + r) + (q + s) * (q + s) = (p * p + q * q) + (r * r + s * s) + 2 * (p * r + q * s) := by grind
  have id4 : (A + C + 2) * (A + C + 2) = (A + 1) * (A + 1) + (C + 1) * (C + 1) + 2 * ((A + 1) * (C + 1)) := by grind
  omega
/-- A share of a way is not longer than the share of its length, but for what rounding takes. -/
theorem way_part {u v t x y A l : Int} (t0 : 0 ≤ t) (hl : 0 ≤ l) (hA : A * A ≤ x * x + y * y) (h : u * u + v * v < (l + 1) * (l + 1))
    (x1 : u * t - 65536 ≤ 65536 * x) (x2 : 65536 * x ≤ u * t + 65536) (y1 : v * t - 65536 ≤ 65536 * y) (y2 : 65536 * y ≤ v * t + 65536) : 65536 * A ≤ t * (l + 1) + 131072 := by
  have big : ∀ {a : Int}, a * a < (l + 1) * (l + 1) → -(l + 1) < a ∧ a < l + 1 := fun {a} ha => ⟨by
    have := of_sq_lt (a := -a) (b := l + 1) (by omega) (by rw [Int.neg_mul_neg]; exact ha)
    omega, of_sq_lt (by omega) ha⟩
  have su := sq_nonneg u
  have sv := sq_nonneg v
  obtain ⟨u1, u2⟩ := big (a := u) (by omega)
  obtain ⟨v1, v2⟩ := big (a := v) (by omega)
  have ut1 : u * t ≤ (l + 1) * t := Int.mul_le_mul_of_nonneg_right (by omega) t0
  have ut2 : -(l + 1) * t ≤ u * t := Int.mul_le_mul_of_nonneg_right (by omega) t0
  have vt1 : v * t ≤ (l + 1) * t := Int.mul_le_mul_of_nonneg_right (by omega) t0
  have vt2 : -(l + 1) * t ≤ v * t := Int.mul_le_mul_of_nonneg_right (by omega) t0
  rw [Int.neg_mul] at ut2 vt2
  have pos : 0 ≤ (l + 1) * t := Int.mul_nonneg (by omega) t0
  by_cases e : 65536 * A ≤ t * (l + 1) + 131072
  · exact e
  · exfalso
    have ec : t * (l + 1) = (l + 1) * t := Int.mul_comm _ _
    have sq1 := sq_le (a := (l + 1) * t + 131072) (b := 65536 * A) (by omega) (by omega)
    have sx : ∀ {k m z : Int}, m - 65536 ≤ k → k ≤ m + 65536 → -z ≤ m → m ≤ z → k * k ≤ m * m + 131072 * z + 4294967296 := by
      intro k m z h1 h2 h3 h4
      obtain ⟨d, rfl⟩ : ∃ d, k = m + d := ⟨k - m, by omega⟩
      have id1 : (m + d) * (m + d) = m * m + 2 * (m * d) + d * d := by grind
      have d2 : d * d ≤ 4294967296 := by
        by_cases hd : 0 ≤ d
        · have := sq_le hd (show d ≤ 65536 by omega); omega
        · have := sq_le (a := -d) (by omega) (show -d ≤ 65536 by omega); rw [Int.neg_mul_neg] at this; omega
      have md : m * d ≤ z * 65536 := by
        by_cases hm : 0 ≤ m
        · have a1 : m * d ≤ m * 65536 := Int.mul_le_mul_of_nonneg_left (by omega) hm
          omega
        · have a1 : -m * -d ≤ -m * 65536 := Int.mul_le_mul_of_nonneg_left (by omega) (by omega)
          rw [Int.neg_mul_neg, Int.neg_mul] at a1
          omega
      omega
    have s1 := sx (k := 65536 * x) (m := u * t) (z := (l + 1) * t) x1 x2 ut2 ut1
    have s2 := sx (k := 65536 * y) (m := v * t) (z := (l + 1) * t) y1 y2 vt2 vt1
    have id2 : 65536 * x * (65536 * x) + 65536 * y * (65536 * y) = 4294967296 * (x * x + y * y) := by grind
    have id3 : 65536 * A * (65536 * A) = 4294967296 * (A * A) := by grind
    have id4 : u * t * (u * t) + v * t * (v * t) = (u * u + v * v) * (t * t) := by grind
    have tt := sq_nonneg t
    have m1 : (u * u + v * v) * (t * t) ≤ (l + 1) * (l + 1) * (t * t) := Int.mul_le_mul_of_nonneg_right (by omega) tt
    have id5 : (l + 1) * (l + 1) * (t * t) = (l + 1) * t * ((l + 1) * t) := by grind
    have id6 : ((l + 1) * t + 131072) * ((l + 1) * t + 131072) = (l + 1) * t * ((l + 1) * t) + 262144 * ((l + 1) * t) + 17179869184 := by grind
    omega

end M
end Go.Proofs.Ytopepgifhnfbiaa

namespace Go.Proofs.Ytopepgifhnfbiaa
namespace M

/-- A place whose numbers are B at most. -/
def Ab (B : Int) (p : Pt) : Prop := -B ≤ p.x ∧ p.x ≤ B ∧ -B ≤ p.y ∧ p.y ≤ B
def PQ (B : Int) (ps : List Pt) : Prop := ∀ p ∈ ps, Ab B p
/-- Small polys, of few places. -/
def PS (ps : List Pt) : Prop := PQ 2000000 ps ∧ ps.length ≤ 40
theorem PQ.ps {ps : List Pt} (h : PQ 983039 ps) (hl : ps.length ≤ 40) : PS ps := ⟨fun p hp => by
  obtain ⟨a, b, c, d⟩ := h p hp
  exact ⟨by omega, by omega, by omega, by omega⟩, hl⟩
theorem PS.pj {ps : List Pt} (h : PS ps) : PJ ps := fun p hp => by
  obtain ⟨a, b, c, d⟩ := h.1 p hp
  exact ⟨⟨by omega, by omega⟩, ⟨by omega, by omega⟩⟩
theorem pq_pt {B : Int} {ps : List Pt} (h : ∀ i, i < ps.length → Ab B (pt ps i)) : PQ B ps := by
  intro p hp
  obtain ⟨i, hi, e⟩ := List.getElem_of_mem hp
  have := h i hi
  unfold pt at this
  rw [List.getD_eq_getElem?_getD, List.getElem?_eq_getElem hi] at this
  simp only [Option.getD_some] at this
  rw [e] at this
  exact this
theorem pq_at {B : Int} (hB : 0 ≤ B) {ps : List Pt} (h : PQ B ps) (i : Nat) : Ab B (pt ps i) := by
  unfold pt
  rw [List.getD_eq_getElem?_getD]
  by_cases hi : i < ps.length
  · rw [List.getElem?_eq_getElem hi]; exact h _ (List.getElem_mem hi)
  · rw [List.getElem?_eq_none (by omega)]
    exact ⟨show -B ≤ 0 by omega, hB, show -B ≤ 0 by omega, hB⟩
theorem ab_plc {B : Int} (hB : 0 ≤ B) {p : Pt} (h : Ab B p) : Ab B (plc p) := by
  have key : ∀ x : Int, -B ≤ x → x ≤ B → -B ≤ place x ∧ place x ≤ B := by
    intro x h1 h2
    unfold place clamp
    split <;> (try split) <;> omega
  obtain ⟨a, b, c, d⟩ := h
  exact ⟨(key _ a b).1, (key _ a b).2, (key _ c d).1, (key _ c d).2⟩
theorem pq_shape {B : Int} (hB : 0 ≤ B) {ps : List Pt} (h : PQ B ps) : PQ B (shapeL ps) := by
  have hm : PQ B (ps.map plc) := fun p hp => by
    obtain ⟨q, hq, rfl⟩ := List.mem_map.1 hp
    exact ab_plc hB (h q hq)
  unfold shapeL turnL
  split
  · intro p hp
    exact hm p (List.mem_reverse.1 hp)
  · exact hm
theorem pq_flat {c : Bool} {ps : List Pt} {n : Nat} (hn : ps.length = 3 * n + 1) (hs : Small ps) : PQ 983039 (flatL c ps) := by
  unfold flatL
  split
  · intro p hp; cases hp
  · have hb : ∀ i, i < ps.length → Bx (-131072) 983039 (-131072) 983039 (pt ps i) := fun i hi => hs i hi
    have key : ∀ k, k ≤ n → ∀ i, i < (polyN ps k).length → Bx (-131072) 983039 (-131072) 983039 (pt (polyN ps k) i) := by
      intro k
      induction k with
      | zero =>
        intro _ i hi
        have : i = 0 := by simp [polyN] at hi; omega
        subst this
        exact hb 0 (by omega)
      | succ k ih =>
        intro hk i hi
        unfold polyN at hi ⊢
        rw [List.length_append] at hi
        by_cases hl : i < (polyN ps k).length
        · rw [pt_lefts hl]; exact ih (by omega) i hl
        · rw [pt_right (by omega)]
          obtain ⟨j, hj⟩ : ∃ j, i - (polyN ps k).length = j := ⟨_, rfl⟩
          rw [hj]
          have hj2 : j < (partL (pt ps (3 * k)) (pt ps (3 * k + 1)) (pt ps (3 * k + 2)) (pt ps (3 * k + 3))).length := by omega
          unfold partL at hj2 ⊢
          split
          · rename_i he
            rw [if_pos he] at hj2
            have : j = 0 := by simp at hj2; omega
            subst this
            exact hb (3 * k + 3) (by omega)
          · rename_i he
            rw [if_neg he, bendL_length] at hj2
            exact bendL_box 3 _ _ _ _ (hb _ (by omega)) (hb _ (by omega)) (hb _ (by omega)) (hb _ (by omega)) j hj2
    refine pq_pt fun i hi => ?_
    have := key ((ps.length - 1) / 3) (by omega) i hi
    unfold Bx at this
    exact ⟨by omega, by omega, by omega, by omega⟩
theorem hyp_ge {x y : Int} (x1 : -1073741824 ≤ x) (x2 : x ≤ 1073741824) (y1 : -1073741824 ≤ y) (y2 : y ≤ 1073741824) : (-(hyp x y) ≤ x ∧ x ≤ hyp x y) ∧ -(hyp x y) ≤ y ∧ y ≤ hyp x y := by
  obtain ⟨h0, -, h2⟩ := hyp_spec x1 x2 y1 y2
  generalize hyp x y = h at *
  have sq : ∀ z w : Int, z * z + w * w < (h + 1) * (h + 1) → -h ≤ z ∧ z ≤ h := by
    intro z w hz
    have hw : 0 ≤ w * w := by
      rcases Int.le_total 0 w with q | q
      · exact Int.mul_nonneg q q
      · have := Int.mul_nonneg (show 0 ≤ -w by omega) (show 0 ≤ -w by omega); rwa [Int.neg_mul_neg] at this
    constructor
    · apply Classical.byContradiction
      intro hn
      have := Int.mul_le_mul (show h + 1 ≤ -z by omega) (show h + 1 ≤ -z by omega) (by omega) (by omega)
      rw [Int.neg_mul_neg] at this
      omega
    · apply Classical.byContradiction
      intro hn
      have := Int.mul_le_mul (show h + 1 ≤ z by omega) (show h + 1 ≤ z by omega) (by omega) (by omega)
      omega
  exact ⟨sq x y h2, sq y x (by omega)⟩
theorem dv_le {d l : Int} (h0 : 0 < l) (h1 : l ≤ 1099511627776) (d0 : -l ≤ d) (d1 : d ≤ l) : -65536 ≤ dv d l ∧ dv d l ≤ 65536 := by
  have hl : hold l = l := hold_in (by omega) h1
  have hd : hold d = d := hold_in (by omega) (by omega)
  unfold dv
  rw [hl, hd, if_neg (by omega)]
  unfold flo
  rw [if_pos h0]
  have a1 : d * 65536 / l ≤ 65536 := Int.ediv_le_of_le_mul h0 (by omega)
  have a2 : -65536 ≤ d * 65536 / l := Int.le_ediv_of_mul_le h0 (by omega)
  rw [hold_in (by omega) (by omega)]
  exact ⟨a2, a1⟩
theorem mul_le_h {a h : Int} (a0 : -65536 ≤ a) (a1 : a ≤ 65536) (h0 : 0 ≤ h) (h1 : h ≤ 131072) : -h ≤ mul a h ∧ mul a h ≤ h := by
  have e1 : hold a = a := hold_in (by omega) (by omega)
  have e2 : hold h = h := hold_in (by omega) (by omega)
  unfold mul
  rw [e1, e2]
  have m1 : a * h ≤ 65536 * h := Int.mul_le_mul_of_nonneg_right a1 h0
  have m2 : -65536 * h ≤ a * h := Int.mul_le_mul_of_nonneg_right a0 h0
  rw [hold_in (by omega) (by omega)]
  omega
/-- A line of small numbers. -/
def LnSm (l : Ln) : Prop := Ab 983039 l.a ∧ Ab 983039 l.b ∧ Ab 131072 l.way ∧ Ab 131072 l.off
theorem lnOf_sm {ps : List Pt} {h : Int} {i : Nat} (hp : PQ 983039 ps) (h0 : 0 ≤ h) (h1 : h ≤ 131072) (hs : 0 < sideL ps i) : LnSm (lnOf ps h i) := by
  have ha : Ab 983039 (sa ps i) := ab_plc (by decide) (pq_at (by decide) hp _)
  have hb : Ab 983039 (sb ps i) := ab_plc (by decide) (pq_at (by decide) hp _)
  obtain ⟨a1, a2, a3, a4⟩ := ha
  obtain ⟨b1, b2, b3, b4⟩ := hb
  obtain ⟨⟨x1, x2⟩, y1, y2⟩ := hyp_ge (x := (sb ps i).x - (sa ps i).x) (y := (sb ps i).y - (sa ps i).y) (by omega) (by omega) (by omega) (by omega)
  have hh := longP_hi (sa ps i) (sb ps i)
  have hl : sideL ps i ≤ 1099511627776 := by unfold sideL; omega
  obtain ⟨p1, p2⟩ := dv_le (d := (sb ps i).x - (sa ps i).x) hs hl x1 x2
  obtain ⟨q1, q2⟩ := dv_le (d := (sb ps i).y - (sa ps i).y) hs hl y1 y2
  have mx := mul_le_h p1 p2 h0 h1
  have my := mul_le_h q1 q2 h0 h1
  have mz := mul_le_h (a := -(dv ((sb ps i).y - (sa ps i).y) (sideL ps i))) (by omega) (by omega) h0 h1
  refine ⟨⟨a1, a2, a3, a4⟩, ⟨b1, b2, b3, b4⟩, ⟨?_, ?_, ?_, ?_⟩, ⟨?_, ?_, ?_, ?_⟩⟩
  · show -131072 ≤ mul _ h; omega
  · show mul _ h ≤ 131072; omega
  · show -131072 ≤ mul _ h; omega
  · show mul _ h ≤ 131072; omega
  · show -131072 ≤ mul _ h; omega
  · show mul _ h ≤ 131072; omega
  · show -131072 ≤ mul _ h; omega
  · show mul _ h ≤ 131072; omega
theorem linesN_sm {ps : List Pt} {h : Int} (hp : PQ 983039 ps) (h0 : 0 ≤ h) (h1 : h ≤ 131072) : ∀ n, ∀ l ∈ linesN ps h n, LnSm l
  | 0, l, hl => by simp [linesN] at hl
  | n + 1, l, hl => by
    by_cases hs : 0 < sideL ps n
    · rw [linesN_yes hs] at hl
      rcases List.mem_append.1 hl with h2 | h2
      · exact linesN_sm hp h0 h1 n l h2
      · rw [List.mem_singleton.1 h2]; exact lnOf_sm hp h0 h1 hs
    · rw [linesN_no hs] at hl; exact linesN_sm hp h0 h1 n l hl
theorem lnSm_default : LnSm default := by
  have z : ∀ B : Int, 0 ≤ B → Ab B default := fun B hB => ⟨show -B ≤ 0 by omega, hB, show -B ≤ 0 by omega, hB⟩
  exact ⟨z _ (by decide), z _ (by decide), z _ (by decide), z _ (by decide)⟩
theorem ln_sm {ls : List Ln} (h : ∀ l ∈ ls, LnSm l) (i : Nat) : LnSm (ln ls i) := by
  by_cases hi : i < ls.length
  · exact h _ (ln_mem hi)
  · unfold ln
    rw [List.getD_eq_getElem?_getD, List.getElem?_eq_none (by omega)]
    exact lnSm_default
theorem ab_ad {B C D : Int} {p q : Pt} {k : Int} (hp : Ab B p) (hq : Ab C q) (hk : k = 1 ∨ k = -1) (hD : B + C ≤ D) : Ab D (ad p q k) := by
  obtain ⟨a1, a2, a3, a4⟩ := hp
  obtain ⟨b1, b2, b3, b4⟩ := hq
  rcases hk with rfl | rfl
  · exact ⟨show -D ≤ p.x + 1 * q.x by omega, show p.x + 1 * q.x ≤ D by omega, show -D ≤ p.y + 1 * q.y by omega, show p.y + 1 * q.y ≤ D by omega⟩
  · exact ⟨show -D ≤ p.x + -1 * q.x by omega, show p.x + -1 * q.x ≤ D by omega, show -D ≤ p.y + -1 * q.y by omega, show p.y + -1 * q.y ≤ D by omega⟩
theorem ab_more {B D : Int} {p : Pt} (hp : Ab B p) (h : B ≤ D) : Ab D p := by
  obtain ⟨a1, a2, a3, a4⟩ := hp
  exact ⟨by omega, by omega, by omega, by omega⟩
theorem sm_bar {l : Ln} (h : LnSm l) (e f : Bool) : PS (barP l e f).2 := by
  obtain ⟨h1, h2, h3, h4⟩ := h
  have f1 : Ab 1114111 (frP l e) := by
    unfold frP
    split
    · exact ab_ad h1 h3 (Or.inr rfl) (by decide)
    · exact ab_more h1 (by decide)
  have f2 : Ab 1114111 (toP l f) := by
    unfold toP
    split
    · exact ab_ad h2 h3 (Or.inl rfl) (by decide)
    · exact ab_more h2 (by decide)
  refine ⟨pq_shape (by decide) fun p hp => ?_, by unfold barP; rw [shapeL_length]; simp⟩
  simp only [List.mem_cons, List.not_mem_nil, or_false] at hp
  rcases hp with rfl | rfl | rfl | rfl
  · exact ab_ad f1 h4 (Or.inl rfl) (by decide)
  · exact ab_ad f2 h4 (Or.inl rfl) (by decide)
  · exact ab_ad f2 h4 (Or.inr rfl) (by decide)
  · exact ab_ad f1 h4 (Or.inr rfl) (by decide)
theorem sm_joint {a b : Ln} (ha : LnSm a) (hb : LnSm b) : ∀ y ∈ jointL a b, PS y.2 := by
  have key : ∀ k : Int, k = 1 ∨ k = -1 → PS (jointA a b k) := by
    intro k hk
    refine ⟨pq_shape (by decide) fun p hp => ?_, by unfold jointA; rw [shapeL_length]; simp⟩
    simp only [List.mem_cons, List.not_mem_nil, or_false] at hp
    rcases hp with rfl | rfl | rfl
    · exact ab_more hb.1 (by decide)
    · exact ab_ad hb.1 ha.2.2.2 hk (by decide)
    · exact ab_ad hb.1 hb.2.2.2 hk (by decide)
  intro y hy
  simp [jointL] at hy
  rcases hy with rfl | rfl
  · exact key 1 (Or.inl rfl)
  · exact key (-1) (Or.inr rfl)
theorem sm_bars {ls : List Ln} (h : ∀ l ∈ ls, LnSm l) (ends : Bool) : ∀ n, ∀ y ∈ barsN ls ends n, PS y.2
  | 0, y, hy => by simp [barsN] at hy
  | n + 1, y, hy => by
    rw [barsN_step] at hy
    rcases List.mem_append.1 hy with h1 | h1
    · exact sm_bars h ends n y h1
    · rw [List.mem_singleton.1 h1]; exact sm_bar (ln_sm h _) _ _
theorem sm_corn {ls : List Ln} (h : ∀ l ∈ ls, LnSm l) : ∀ n, ∀ y ∈ cornN ls n, PS y.2
  | 0, y, hy => by simp [cornN] at hy
  | n + 1, y, hy => by
    rw [cornN_step] at hy
    rcases List.mem_append.1 hy with h1 | h1
    · exact sm_corn h n y h1
    · exact sm_joint (ln_sm h _) (ln_sm h _) y h1
theorem sm_stroke (c : Bool) {ps : List Pt} {w : Int} (cap : Int) (hp : PQ 983039 ps) (hw : w ≤ 262144) : ∀ y ∈ strokeL c ps w cap, PS y.2 := by
  intro y hy
  have hh : 0 ≤ half w ∧ half w ≤ 131072 := by unfold half clamp; split <;> (try split) <;> omega
  have hl : ∀ l ∈ linesL c ps (half w), LnSm l := linesN_sm hp hh.1 hh.2 _
  unfold strokeL at hy
  split at hy
  · simp at hy
  · unfold outL cornL lastL at hy
    rcases List.mem_append.1 hy with h1 | h1
    · exact sm_bars hl _ _ y h1
    · rcases List.mem_append.1 h1 with h2 | h2
      · exact sm_corn hl _ y h2
      · split at h2
        · exact sm_joint (ln_sm hl _) (ln_sm hl _) y h2
        · simp at h2

end M
end Go.Proofs.Ytopepgifhnfbiaa

namespace Go.Proofs.Ytopepgifhnfbiaa
open Go Go.RowKit
open M

/-- A line's cells. -/
abbrev lCells (l : Ln) : Array Value := #[.int .i64 l.a.x, .int .i64 l.a.y, .int .i64 l.b.x, .int .i64 l.b.y, .int .i64 l.way.x, .int .i64 l.way.y, .int .i64 l.off.x, .int .i64 l.off.y]
def ll (l : Ln) : List Value := [.int .i64 l.a.x, .int .i64 l.a.y, .int .i64 l.b.x, .int .i64 l.b.y, .int .i64 l.way.x, .int .i64 l.way.y, .int .i64 l.off.x, .int .i64 l.off.y]
def lls (ls : List Ln) : List Value := ls.flatMap ll
theorem lls_cons (l : Ln) (ls : List Ln) : lls (l :: ls) = ll l ++ lls ls := by simp [lls]
theorem lls_append (ls ms : List Ln) : lls (ls ++ ms) = lls ls ++ lls ms := by simp [lls]
theorem ll_length (l : Ln) : (ll l).length = 8 := rfl
theorem lls_length (ls : List Ln) : (lls ls).length = ls.length * 8 := by
  induction ls with
  | nil => rfl
  | cons l ls ih => rw [lls_cons, List.length_append, ih, ll_length, List.length_cons]; omega
theorem lls_at {ls : List Ln} {i j : Nat} (hi : i < ls.length) (hj : j < 8) : (lls ls)[i * 8 + j]? = (ll (ln ls i))[j]? := by
  induction ls generalizing i with
  | nil => simp at hi
  | cons l ls ih =>
    rw [lls_cons]
    cases i with
    | zero => rw [ln_zero, Nat.zero_mul, Nat.zero_add, List.getElem?_append_left (by rw [ll_length]; exact hj)]
    | succ i =>
      rw [ln_cons, List.getElem?_append_right (by rw [ll_length]; omega)]
      rw [← ih (by simpa using hi)]
      congr 1
      rw [ll_length]; omega
theorem ones_ll (l : Ln) : ∀ u ∈ ll l, u.oneCell' = true := by
  intro u hu
  simp [ll] at hu
  rcases hu with rfl | rfl | rfl | rfl | rfl | rfl | rfl | rfl <;> rfl
/-- A row of lines lies in block g from cell o on. -/
structure Lrow (w : World) (g o : Nat) (ls : List Ln) : Prop where
  c0 : ∀ i, i < ls.length → w.cell? ⟨g, o + i * 8, none⟩ = some (.int .i64 (ln ls i).a.x)
  c1 : ∀ i, i < ls.length → w.cell? ⟨g, o + i * 8 + 1, none⟩ = some (.int .i64 (ln ls i).a.y)
  c2 : ∀ i, i < ls.length → w.cell? ⟨g, o + i * 8 + 2, none⟩ = some (.int .i64 (ln ls i).b.x)
  c3 : ∀ i, i < ls.length → w.cell? ⟨g, o + i * 8 + 3, none⟩ = some (.int .i64 (ln ls i).b.y)
  c4 : ∀ i, i < ls.length → w.cell? ⟨g, o + i * 8 + 4, none⟩ = some (.int .i64 (ln ls i).way.x)
  c5 : ∀ i, i < ls.length → w.cell? ⟨g, o + i * 8 + 5, none⟩ = some (.int .i64 (ln ls i).way.y)
  c6 : ∀ i, i < ls.length → w.cell? ⟨g, o + i * 8 + 6, none⟩ = some (.int .i64 (ln ls i).off.x)
  c7 : ∀ i, i < ls.length → w.cell? ⟨g, o + i * 8 + 7, none⟩ = some (.int .i64 (ln ls i).off.y)
theorem Lrow.lt {w : World} {g o : Nat} {ls : List Ln} (h : Lrow w g o ls) (hn : 0 < ls.length) : g < w.heap.size := World.block_lt_of_cell? w _ (h.c0 0 hn)
theorem lrow_of {w : World} {g o : Nat} {ls : List Ln} (h : ∀ j u, (lls ls)[j]? = some u → w.cell? ⟨g, o + j, none⟩ = some u) : Lrow w g o ls := by
  have key : ∀ i j u, i < ls.length → j < 8 → (ll (ln ls i))[j]? = some u → w.cell? ⟨g, o + i * 8 + j, none⟩ = some u := by
    intro i j u hi hj hu
    rw [Nat.add_assoc]
    exact h _ _ ((lls_at hi hj).trans hu)
  exact ⟨fun i hi => key i 0 _ hi (by omega) rfl, fun i hi => key i 1 _ hi (by omega) rfl, fun i hi => key i 2 _ hi (by omega) rfl, fun i hi => key i 3 _ hi (by omega) rfl, fun i hi => key i 4 _ hi (by omega) rfl, fun i hi => key i 5 _ hi (by omega) rfl, fun i hi => key i 6 _ hi (by omega) rfl, fun i hi => key i 7 _ hi (by omega) rfl⟩
theorem Lrow.block {w w' : World} {g o : Nat} {ls : List Ln} (h : Lrow w g o ls) (hb : w'.heap[g]? = w.heap[g]?) : Lrow w' g o ls := by
  have key : ∀ j, w'.cell? ⟨g, j, none⟩ = w.cell? ⟨g, j, none⟩ := fun j => World.cell?_of_block (a := ⟨g, _, _⟩) hb
  exact ⟨fun i hi => (key _).trans (h.c0 i hi), fun i hi => (key _).trans (h.c1 i hi), fun i hi => (key _).trans (h.c2 i hi), fun i hi => (key _).trans (h.c3 i hi), fun i hi => (key _).trans (h.c4 i hi), fun i hi => (key _).trans (h.c5 i hi), fun i hi => (key _).trans (h.c6 i hi), fun i hi => (key _).trans (h.c7 i hi)⟩
/-- The slice's value v holds just these lines. -/
def Lsl (w : World) (v : Value) (ls : List Ln) : Prop := ∃ ao cap, v = .slice ao ls.length cap ∧ (0 < ls.length → ∃ g o, ao = some ⟨g, o, none⟩ ∧ Lrow w g o ls)
theorem Lsl.below {w w' : World} {v : Value} {ls : List Ln} (h : Lsl w v ls) (hb : Below w.heap.size w w') : Lsl w' v ls := by
  obtain ⟨ao, cap, rfl, hr⟩ := h
  refine ⟨ao, cap, rfl, fun h0 => ?_⟩
  obtain ⟨g, o, e, hr'⟩ := hr h0
  exact ⟨g, o, e, hr'.block (hb.block g (hr'.lt h0))⟩
theorem Lsl.row {w : World} {ao : Option Addr} {N cap : Nat} {ls : List Ln} (h : Lsl w (.slice ao N cap) ls) (hn : 0 < N) : ∃ g o, ao = some ⟨g, o, none⟩ ∧ Lrow w g o ls ∧ ls.length = N := by
  obtain ⟨ao', cap', hv, hr⟩ := h
  simp at hv
  obtain ⟨rfl, hl, rfl⟩ := hv
  obtain ⟨g, o, e, hr⟩ := hr (by omega)
  exact ⟨g, o, e, hr, hl.symm⟩
theorem Lsl.slice {w : World} {v : Value} {ls : List Ln} (h : Lsl w v ls) : ∃ ao cap, v = .slice ao ls.length cap := by
  obtain ⟨ao, cap, e, _⟩ := h
  exact ⟨ao, cap, e⟩
/-- The value v of a call's own holds just these lines, in its own blocks from 'base' on. -/
def Lown (t : TypeId) (w : World) (base : Nat) (v : Value) (ls : List Ln) : Prop := w.ownsRow base t 8 v ls.length (lls ls)
theorem Lown.sl {t : TypeId} {w : World} {base : Nat} {v : Value} {ls : List Ln} (h : Lown t w base v ls) : Lsl w v ls := by
  rcases h.2 with ⟨rfl, hn⟩ | ⟨g, cap, cur, rfl, _, hg, _, _, _, ht⟩
  · exact ⟨none, 0, by rw [hn], fun h0 => by omega⟩
  · refine ⟨_, cap, rfl, fun _ => ⟨g, 0, rfl, lrow_of fun j u hu => ?_⟩⟩
    rw [Nat.zero_add, cell_of_row w g j cur _ _ hg]
    rw [← ht, List.getElem?_take] at hu
    split at hu
    · simpa using hu
    · cases hu
theorem Lown.nil (t : TypeId) (w : World) (base : Nat) : Lown t w base (.slice none 0 0) [] := World.ownsRow_nil _ _ _ _
theorem Lown.below {t : TypeId} {w w' : World} {B B' : Nat} {v : Value} {ls : List Ln} (h : Lown t w B v ls) (hb : Below B' w w') (hB : w.heap.size ≤ B') : Lown t w' B v ls :=
  World.ownsRow.kept h (grownBy_below hb hB) (by by_cases e : v.ownBlock = none; exact Or.inl e; exact Or.inr e)
theorem Lown.base {t : TypeId} {w : World} {B : Nat} {v : Value} {ls : List Ln} (h : Lown t w B v ls) (k : Nat) (hk : v.ownBlock = some k) : B ≤ k ∧ k < w.heap.size := World.ownsRow.lt h k hk
theorem Lown.lower {t : TypeId} {w : World} {B B' : Nat} {v : Value} {ls : List Ln} (h : Lown t w B v ls) (hB : B' ≤ B) : Lown t w B' v ls := by
  refine ⟨h.1, ?_⟩
  rcases h.2 with h | ⟨g, cap, cur, a, b, r⟩
  · exact Or.inl h
  · exact Or.inr ⟨g, cap, cur, a, by omega, r⟩
theorem Lown.len {t : TypeId} {w : World} {B : Nat} {v : Value} {ls : List Ln} (h : Lown t w B v ls) : ∃ ao cap, v = .slice ao ls.length cap := by
  rcases h.2 with ⟨rfl, hn⟩ | ⟨g, cap, cur, rfl, _⟩
  · exact ⟨none, 0, by rw [hn]⟩
  · exact ⟨_, cap, rfl⟩
/-- What is told of a type of lines. -/
def LnInfo (t st : TypeId) : Prop := (Try.prog.info? t).map (fun i => (i.zero, i.size, i.bytes)) = some (some (.agg #[.int .i64 0, .int .i64 0, .int .i64 0, .int .i64 0, .int .i64 0, .int .i64 0, .int .i64 0, .int .i64 0]), 8, 64) ∧ Try.prog.underlying st = some (.slice t)
theorem wpList_append_ln {W : World} {base : Nat} {t st : TypeId} (hI : LnInfo t st) {l : Value} {ls : List Ln} {ops : Array Oper} {rest : List Oper} {op : Oper} {a : Act} {Q : Exit → Act → World → Prop} (hgd : op.guard = none) (s x : Operand)
    (hop : op.op = .call { callee := .builtin .append, args := #[s, x], argTypes := #[st, st] }) (N : Nat) (hN : ls.length = N) (hs : a.eval s = l) (H : Nat) (hx : a.eval x = .slice (some ⟨H, 0, none⟩) 1 1)
    (y : Ln) (cs : Array Value) (hn : Has W H cs t) (hcs : cs.toList = ll y) (hT : Lown t W base l ls) (hf : N ≤ 1000000) (hb : base ≤ W.heap.size)
    (h : ∀ g' cap' w', Lown t w' base (.slice (some ⟨g', 0, none⟩) (N + 1) cap') (ls ++ [y]) → W.grownBy w' l.ownBlock → wpList Try.prog ops Q rest (a.put op.dst (.slice (some ⟨g', 0, none⟩) (N + 1) cap')) w') : wpList Try.prog ops Q (op :: rest) a W := by
  obtain ⟨i0, hi, hz0, hz1, hz2⟩ := info_parts hI.1
  subst hN
  refine wpList_plain hgd fun _ hK => wp_append_lies W s x st hop base t i0 _ 8 64 hI.2 hi hz0 hz1 hz2 rfl (by decide) l ls.length (lls ls) hs hT ⟨H, 0, none⟩ 1 1 (ll y) hx rfl ?_ (ones_ll y) (by decide) (by unfold maxLen; omega) (by omega) hb _ rfl ?_
  · intro j u hu
    rw [Addr.add_lit, Nat.zero_add]
    refine hn.cell j u ?_
    rw [← hcs] at hu
    simpa using hu
  intro g' cap' w' hown' hg _ _
  refine hK _ _ (h g' cap' w' ?_ hg)
  unfold Lown
  rw [List.length_append, lls_append]
  have e : lls [y] = ll y := by simp [lls]
  rw [e]
  exact hown'
/-- The value v is a list of this line alone, in a block of the call's own. -/
def OneL (t : TypeId) (base : Nat) (l : Ln) (v : Value) (w : World) : Prop := ∃ g, v = .slice (some ⟨g, 0, none⟩) 1 1 ∧ base ≤ g ∧ Has w g (lCells l) t
theorem OneL.stay {t : TypeId} {base : Nat} {l : Ln} {v : Value} {w w' : World} (h : OneL t base l v w) (hb : Below w.heap.size w w') : OneL t base l v w' := by
  obtain ⟨g, e, l, k⟩ := h
  exact ⟨g, e, l, k.below hb k.lt⟩
/-- A list of just these lines, of the call's own, is returned. -/
def GivesLn (t : TypeId) (w : World) (ls : List Ln) (e : Ending) (w' : World) : Prop := ∃ u, e = .returned u ∧ Lown t w' w.heap.size u ls ∧ Below w.heap.size w w'

end Go.Proofs.Ytopepgifhnfbiaa

namespace Go.Proofs.Ytopepgifhnfbiaa
open Go Go.RowKit
open M

theorem infoLine : LnInfo 69 66 := ⟨by kernel_rfl, Try.underlying66⟩
theorem dv_in (a b : Int) : -1099511627776 ≤ dv a b ∧ dv a b ≤ 1099511627776 := by
  unfold dv
  split
  · omega
  · exact ⟨hold_lo _, hold_hi _⟩

end Go.Proofs.Ytopepgifhnfbiaa

namespace Go.Proofs.Ytopepgifhnfbiaa
open Go Go.RowKit
open M

/-- Two literals (numbers 9 and 20 of a region) and the polys made of them (10 and 21). -/
structure Two (base : Nat) (c1 c2 : Array Value) (P1 P2 : List Pt) (G : Nat → Option Value) (w : World) : Prop where
  lit1 : ∀ v, G 9 = some v → LitP base 3 c1 (G 10 = none) v w
  lit2 : ∀ v, G 20 = some v → LitP base 3 c2 (G 21 = none) v w
  po1 : ∀ v, G 10 = some v → ∃ l, v = .agg #[.bool true, l] ∧ Pown w base l P1
  po2 : ∀ v, G 21 = some v → ∃ l, v = .agg #[.bool true, l] ∧ Pown w base l P2
  ap : ∀ v u g, G 9 = some v → G 20 = some u → u.ownBlock = some g → v.ownBlock ≠ some g
  q1 : ∀ l u g, G 10 = some (.agg #[.bool true, l]) → G 20 = some u → u.ownBlock = some g → l.ownBlock ≠ some g
  q2 : ∀ l u g, G 21 = some (.agg #[.bool true, l]) → G 9 = some u → u.ownBlock = some g → l.ownBlock ≠ some g
section
variable {base : Nat} {c1 c2 : Array Value} {P1 P2 : List Pt} {G : Nat → Option Value} {w w' : World}
theorem Two.start : Two base c1 c2 P1 P2 (fun _ => none) w := ⟨fun _ h => (by cases h), fun _ h => (by cases h), fun _ h => (by cases h), fun _ h => (by cases h), fun _ _ _ h => (by cases h), fun _ _ _ h => (by cases h), fun _ _ _ h => (by cases h)⟩
theorem Two.stay (h : Two base c1 c2 P1 P2 G w) (hb : Below w.heap.size w w') : Two base c1 c2 P1 P2 G w' :=
  ⟨fun v hv => (h.lit1 v hv).stay hb, fun v hv => (h.lit2 v hv).stay hb, fun v hv => by obtain ⟨l, e, k⟩ := h.po1 v hv; exact ⟨l, e, k.below hb (Nat.le_refl _)⟩, fun v hv => by obtain ⟨l, e, k⟩ := h.po2 v hv; exact ⟨l, e, k.below hb (Nat.le_refl _)⟩, h.ap, h.q1, h.q2⟩
theorem Two.build1 (h : Two base c1 c2 P1 P2 G w) (hb : base ≤ w.heap.size) : Two base c1 c2 P1 P2 (updV G 9 (.slice (some ⟨w.heap.size, 0, none⟩) 3 3)) (w.alloc (.cells c1 28)) := by
  have s := h.stay (w' := w.alloc (.cells c1 28)) ((Below.refl _ _).alloc (Nat.le_refl _) _)
  have e10 := updV_ne G (.slice (some ⟨w.heap.size, 0, none⟩) 3 3) (show (10 : Nat) ≠ 9 by omega)
  have e20 := updV_ne G (.slice (some ⟨w.heap.size, 0, none⟩) 3 3) (show (20 : Nat) ≠ 9 by omega)
  have e21 := updV_ne G (.slice (some ⟨w.heap.size, 0, none⟩) 3 3) (show (21 : Nat) ≠ 9 by omega)
  refine ⟨fun v hv => ?_, fun v hv => ?_, fun v hv => ?_, fun v hv => ?_, fun v u g hv hu hg e => ?_, fun l u g hv hu hg => ?_, fun l u g hv hu hg e => ?_⟩
  · rw [updV_eq] at hv; cases hv; exact ⟨_, rfl, hb, by simp, fun _ => has_new rfl⟩
  · rw [e20] at hv; rw [e21]; exact s.lit2 v hv
  · rw [e10] at hv; exact s.po1 v hv
  · rw [e21] at hv; exact s.po2 v hv
  · rw [updV_eq] at hv; rw [e20] at hu; cases hv
    obtain ⟨k, rfl, _, hlt, _⟩ := h.lit2 u hu
    have h1 : some k = some g := hg
    have h2 : some w.heap.size = some g := e
    simp at h1 h2
    omega
  · rw [e10] at hv; rw [e20] at hu; exact h.q1 l u g hv hu hg
  · rw [e21] at hv; rw [updV_eq] at hu; cases hu
    obtain ⟨l', el, k⟩ := h.po2 _ hv
    simp at el
    subst el
    have h1 : some w.heap.size = some g := hg
    simp at h1
    have := (k.base g e).2
    omega
theorem Two.build2 (h : Two base c1 c2 P1 P2 G w) (hb : base ≤ w.heap.size) : Two base c1 c2 P1 P2 (updV G 20 (.slice (some ⟨w.heap.size, 0, none⟩) 3 3)) (w.alloc (.cells c2 28)) := by
  have s := h.stay (w' := w.alloc (.cells c2 28)) ((Below.refl _ _).alloc (Nat.le_refl _) _)
  have e9 := updV_ne G (.slice (some ⟨w.heap.size, 0, none⟩) 3 3) (show (9 : Nat) ≠ 20 by omega)
  have e10 := updV_ne G (.slice (some ⟨w.heap.size, 0, none⟩) 3 3) (show (10 : Nat) ≠ 20 by omega)
  have e21 := updV_ne G (.slice (some ⟨w.heap.size, 0, none⟩) 3 3) (show (21 : Nat) ≠ 20 by omega)
  refine ⟨fun v hv => ?_, fun v hv => ?_, fun v hv => ?_, fun v hv => ?_, fun v u g hv hu hg e => ?_, fun l u g hv hu hg e => ?_, fun l u g hv hu hg => ?_⟩
  · rw [e9] at hv; rw [e10]; exact s.lit1 v hv
  · rw [updV_eq] at hv; cases hv; exact ⟨_, rfl, hb, by simp, fun _ => has_new rfl⟩
  · rw [e10] at hv; exact s.po1 v hv
  · rw [e21] at hv; exact s.po2 v hv
  · rw [e9] at hv; rw [updV_eq] at hu; cases hu
    obtain ⟨k, rfl, _, hlt, _⟩ := h.lit1 v hv
    have h1 : some w.heap.size = some g := hg
    have h2 : some k = some g := e
    simp at h1 h2
    omega
  · rw [e10] at hv; rw [updV_eq] at hu; cases hu
    obtain ⟨l', el, k⟩ := h.po1 _ hv
    simp at el
    subst el
    have h1 : some w.heap.size = some g := hg
    simp at h1
    have := (k.base g e).2
    omega
  · rw [e21] at hv; rw [e9] at hu; exact h.q2 l u g hv hu hg
theorem Two.poly1 {g : Nat} {l : Value} (h : Two base c1 c2 P1 P2 G w) (h9 : G 9 = some (.slice (some ⟨g, 0, none⟩) 3 3)) (hl : Pown w' w.heap.size l P1) (hg : w.grownBy w' (some g)) (hb : base ≤ w.heap.size) : Two base c1 c2 P1 P2 (updV G 10 (.agg #[.bool true, l])) w' := by
  have e9 := updV_ne G (.agg #[.bool true, l]) (show (9 : Nat) ≠ 10 by omega)
  have e20 := updV_ne G (.agg #[.bool true, l]) (show (20 : Nat) ≠ 10 by omega)
  have e21 := updV_ne G (.agg #[.bool true, l]) (show (21 : Nat) ≠ 10 by omega)
  refine ⟨fun v hv => ?_, fun v hv => ?_, fun v hv => ?_, fun v hv => ?_, fun v u k hv hu hk => ?_, fun l2 u k hv hu hk e => ?_, fun l2 u k hv hu hk => ?_⟩
  · rw [e9] at hv
    obtain ⟨k, e, a, b, _⟩ := h.lit1 v hv
    exact ⟨k, e, a, Nat.lt_of_lt_of_le b hg.size, fun e => by rw [updV_eq] at e; cases e⟩
  · rw [e20] at hv; rw [e21]
    exact (h.lit2 v hv).grown hg (fun e => h.ap _ v g h9 hv e rfl)
  · rw [updV_eq] at hv; cases hv; exact ⟨l, rfl, hl.lower hb⟩
  · rw [e21] at hv
    obtain ⟨l2, rfl, k⟩ := h.po2 v hv
    exact ⟨l2, rfl, k.off2 hg (h.q2 l2 _ g hv h9 rfl)⟩
  · rw [e9] at hv; rw [e20] at hu; exact h.ap v u k hv hu hk
  · rw [updV_eq] at hv; rw [e20] at hu
    simp at hv
    subst hv
    obtain ⟨k2, rfl, _, hlt, _⟩ := h.lit2 u hu
    have h1 : some k2 = some k := hk
    simp at h1
    have := (hl.base k e).1
    omega
  · rw [e21] at hv; rw [e9] at hu; exact h.q2 l2 u k hv hu hk
theorem Two.poly2 {g : Nat} {l : Value} (h : Two base c1 c2 P1 P2 G w) (h20 : G 20 = some (.slice (some ⟨g, 0, none⟩) 3 3)) (hl : Pown w' w.heap.size l P2) (hg : w.grownBy w' (some g)) (hb : base ≤ w.heap.size) : Two base c1 c2 P1 P2 (updV G 21 (.agg #[.bool true, l])) w' := by
  have e9 := updV_ne G (.agg #[.bool true, l]) (show (9 : Nat) ≠ 21 by omega)
  have e10 := updV_ne G (.agg #[.bool true, l]) (show (10 : Nat) ≠ 21 by omega)
  have e20 := updV_ne G (.agg #[.bool true, l]) (show (20 : Nat) ≠ 21 by omega)
  refine ⟨fun v hv => ?_, fun v hv => ?_, fun v hv => ?_, fun v hv => ?_, fun v u k hv hu hk => ?_, fun l2 u k hv hu hk => ?_, fun l2 u k hv hu hk e => ?_⟩
  · rw [e9] at hv; rw [e10]
    exact (h.lit1 v hv).grown hg (fun e => h.ap v _ g hv h20 rfl e)
  · rw [e20] at hv
    obtain ⟨k, e, a, b, _⟩ := h.lit2 v hv
    exact ⟨k, e, a, Nat.lt_of_lt_of_le b hg.size, fun e => by rw [updV_eq] at e; cases e⟩
  · rw [e10] at hv
    obtain ⟨l2, rfl, k⟩ := h.po1 v hv
    exact ⟨l2, rfl, k.off2 hg (h.q1 l2 _ g hv h20 rfl)⟩
  · rw [updV_eq] at hv; cases hv; exact ⟨l, rfl, hl.lower hb⟩
  · rw [e9] at hv; rw [e20] at hu; exact h.ap v u k hv hu hk
  · rw [e10] at hv; rw [e20] at hu; exact h.q1 l2 u k hv hu hk
  · rw [updV_eq] at hv; rw [e9] at hu
    simp at hv
    subst hv
    obtain ⟨k2, rfl, _, hlt, _⟩ := h.lit1 u hu
    have h1 : some k2 = some k := hk
    simp at h1
    have := (hl.base k e).1
    omega
end
theorem pls_three (p q r : Pt) : (#[.int .i64 p.x, .int .i64 p.y, .int .i64 q.x, .int .i64 q.y, .int .i64 r.x, .int .i64 r.y] : Array Value).toList = pls [p, q, r] := rfl
abbrev pCells3 (p q r : Pt) : Array Value := #[.int .i64 p.x, .int .i64 p.y, .int .i64 q.x, .int .i64 q.y, .int .i64 r.x, .int .i64 r.y]

set_option maxRecDepth 100000 in
set_option maxHeartbeats 4000000 in
theorem r9_joint (x y : Ln) (w : World) (hx : LnOk x) (hy : LnOk y) : Calls Try.prog 38 #[.agg (lCells x), .agg (lCells y)] w (GivesK w (jointL x y)) := by
  obtain ⟨B, hB⟩ : ∃ B, w.heap.size = B := ⟨_, rfl⟩
  obtain ⟨W, hW⟩ : ∃ W, ((w.alloc (.cells (lCells x) 69)).alloc (.cells (lCells y) 69)).alloc (.cells (pCells y.a) 28) = W := ⟨_, rfl⟩
  have k0 : Has W B (lCells x) 69 := by rw [← hW]; exact ((has_new hB).alloc _).alloc _
  have k1 : Has W (B + 1) (lCells y) 69 := by rw [← hW]; exact (has_new (by simp [hB])).alloc _
  have k2 : Has W (B + 1 + 1) (pCells y.a) 28 := by rw [← hW]; exact has_new (by simp [hB])
  have hbl : Below w.heap.size w W := by rw [← hW]; exact (((Below.refl _ _).alloc (by omega) _).alloc (by simp) _).alloc (by simp; omega) _
  have K0 := Lib.hid k0
  have K1 := Lib.hid k1
  have K2 := Lib.hid k2
  have HBL := Lib.hid hbl
  have HW := Lib.hid hW
  have HB := Lib.hid hB
  have wa := Wd.of hy.1
  have wx := Wd.of hx.2.2.2
  have wy := Wd.of hy.2.2.2
  have PX : Hid (Wd y.a ∧ Wd x.off ∧ Wd y.off) := Lib.hid ⟨wa, wx, wy⟩
  have EJ : Hid (jointL x y = [(true, shapeL [y.a, ad y.a x.off 1, ad y.a y.off 1]), (true, shapeL [y.a, ad y.a x.off (-1), ad y.a y.off (-1)])]) := Lib.hid rfl
  have C1 := Lib.hid (fun k w hk => r9_plus y.a x.off k w wa wx hk)
  have C2 := Lib.hid (fun k w hk => r9_plus y.a y.off k w wa wy hk)
  clear k0 k1 k2 hbl hW hx hy wa wx wy
  rw [EJ.out]
  obtain ⟨ya, yb, yw, yo⟩ := y
  obtain ⟨xa, xb, xw, xo⟩ := x
  go_enter Try.func38, Try.ntmps38
  go_upto_region 2 with fail
  rw [HW.out]
  clear hB
  refine wp_region_gen 22 [9, 10, 20, 21] [] [0, 0, 0, 0, 0, 0, 0, 0, 0, 1, 1, 0, 0, 0, 0, 0, 0, 0, 0, 0, 1, 1] (by kernel_rfl) (by kernel_rfl) (fun c a d v w h => by cases d <;> exact h) trivial (fun G w' => Two W.heap.size (pCells3 ya (ad ya xo 1) (ad ya yo 1)) (pCells3 ya (ad ya xo (-1)) (ad ya yo (-1))) (shapeL [ya, (ad ya xo 1), (ad ya yo 1)]) (shapeL [ya, (ad ya xo (-1)), (ad ya yo (-1))]) G w') (fun G w w' h hb => h.stay hb) Two.start ?_
  apply Exists.intro
  refine ⟨fun R hR hN => ?_, ?_, ?_⟩
  · have A6 := fun z => LaterR.read (R := R) K0.out 6 _ rfl z
    have A7 := fun z => LaterR.read (R := R) K0.out 7 _ rfl z
    have B6 := fun z => LaterR.read (R := R) K1.out 6 _ rfl z
    have B7 := fun z => LaterR.read (R := R) K1.out 7 _ rfl z
    have V0 := fun z => LaterR.read (R := R) K2.out 0 _ rfl z
    have V1 := fun z => LaterR.read (R := R) K2.out 1 _ rfl z
    simp only [quietL, takeA]
    repeat (go_big_quiet_step (first | (go_at_call_of 36 xo; exact LaterR.calls hR (C1.out _ _ (by decide))) | (go_at_call_of 36 yo; exact LaterR.calls hR (C2.out _ _ (by decide)))))
    exact wpQuiet_nil rfl
  · intro i oo hi ho
    have hi' : i = 9 ∨ i = 10 ∨ i = 20 ∨ i = 21 := by simpa using hi
    clear hi
    rcases hi' with rfl | rfl | rfl | rfl
    · cases ho
      intro G w' hG hGn hdep hb hR
      refine ⟨rfl, gives_none (by kernel_rfl) hGn ?_⟩
      unfold gives
      simp [go_sem]
      exact ⟨hb.alloc hb.size _, hR.build1 hb.size⟩
    · cases ho
      intro G w' hG hGn hdep hb hR
      obtain ⟨v9, hv9⟩ := Option.ne_none_iff_exists'.1 (hdep 9 (by simp) (by kernel_rfl))
      obtain ⟨g, rfl, hg, hlt, hk⟩ := hR.lit1 v9 hv9
      refine ⟨rfl, gives_one (k := 9) (by kernel_rfl) hGn (by omega) hv9 ?_⟩
      unfold gives
      simp [go_sem]
      refine (r9_shape ((pown_lit (n := 3) (hk hG) hg (pls_three ya (ad ya xo 1) (ad ya yo 1)) rfl (by decide)).sl (by simp)) (by simp)).mono ?_
      rintro e w'' ⟨l, rfl, hol, hbb⟩
      exact ⟨_, rfl, hb.trans (hbb.mono hb.size), hR.poly1 hv9 hol (grown_weak (grownBy_below hbb (Nat.le_refl _))) hb.size⟩
    · cases ho
      intro G w' hG hGn hdep hb hR
      refine ⟨rfl, gives_none (by kernel_rfl) hGn ?_⟩
      unfold gives
      simp [go_sem]
      exact ⟨hb.alloc hb.size _, hR.build2 hb.size⟩
    · cases ho
      intro G w' hG hGn hdep hb hR
      obtain ⟨v20, hv20⟩ := Option.ne_none_iff_exists'.1 (hdep 20 (by simp) (by kernel_rfl))
      obtain ⟨g, rfl, hg, hlt, hk⟩ := hR.lit2 v20 hv20
      refine ⟨rfl, gives_one (k := 20) (by kernel_rfl) hGn (by omega) hv20 ?_⟩
      unfold gives
      simp [go_sem]
      refine (r9_shape ((pown_lit (n := 3) (hk hG) hg (pls_three ya (ad ya xo (-1)) (ad ya yo (-1))) rfl (by decide)).sl (by simp)) (by simp)).mono ?_
      rintro e w'' ⟨l, rfl, hol, hbb⟩
      exact ⟨_, rfl, hb.trans (hbb.mono hb.size), hR.poly2 hv20 hol (grown_weak (grownBy_below hbb (Nat.le_refl _))) hb.size⟩
  · intro G w1 hb hR hG hN
    obtain ⟨v9, e9⟩ := hG 9 (by simp)
    obtain ⟨v10, e10⟩ := hG 10 (by simp)
    obtain ⟨v20, e20⟩ := hG 20 (by simp)
    obtain ⟨v21, e21⟩ := hG 21 (by simp)
    obtain ⟨l1, rfl, o1⟩ := hR.po1 _ e10
    obtain ⟨l2, rfl, o2⟩ := hR.po2 _ e21
    have nn : ∀ j, j < 9 → G j = none := fun j hj => hN j (by simp; omega)
    have nm : ∀ j, 10 < j → j < 20 → G j = none := fun j hj hj2 => hN j (by simp; omega)
    simp only [putV, dstAt, e9, e10, e20, e21, nn 0 (by decide), nn 1 (by decide), nn 2 (by decide), nn 3 (by decide), nn 4 (by decide), nn 5 (by decide), nn 6 (by decide), nn 7 (by decide), nn 8 (by decide), nm 11 (by decide) (by decide), nm 12 (by decide) (by decide), nm 13 (by decide) (by decide), nm 14 (by decide) (by decide), nm 15 (by decide) (by decide), nm 16 (by decide) (by decide), nm 17 (by decide) (by decide), nm 18 (by decide) (by decide), nm 19 (by decide) (by decide), List.drop_succ_cons, List.drop_zero, List.getElem?_cons_succ, List.getElem?_cons_zero, Option.bind_some]
    have R := Lib.hid (Kq.two (w1 := w) (base := w.heap.size) (HBL.out.trans (hb.mono HBL.out.size)) (Nat.le_refl _) (o1.lower HBL.out.size) (by rw [shapeL_length]; simp) (o2.lower HBL.out.size) (by rw [shapeL_length]; simp) (Nat.le_trans HBL.out.size hb.size))
    clear hb hR hG hN nn nm e9 e10 e20 e21 o1 o2
    go_wp2
    go_ret
    exact ⟨_, rfl, R.out⟩

end Go.Proofs.Ytopepgifhnfbiaa

namespace Go.Proofs.Ytopepgifhnfbiaa
open Go Go.RowKit
open M

/-- A literal of n places (number a of a region), the poly made of it (b) and the list of that poly alone (c). -/
structure Lit1 (w0 : World) (base n : Nat) (cs : Array Value) (P : List Pt) (a b c : Nat) (G : Nat → Option Value) (w : World) : Prop where
  lit : ∀ v, G a = some v → LitP base n cs (G b = none) v w
  po : ∀ v, G b = some v → ∃ l, v = .agg #[.bool true, l] ∧ Pown w base l P
  li : ∀ v, G c = some v → Kq w0 base [(true, P)] v w
  late : G b = none → G c = none
section
variable {w0 : World} {base n a b c : Nat} {cs : Array Value} {P : List Pt} {G : Nat → Option Value} {w w' : World}
theorem Lit1.start : Lit1 w0 base n cs P a b c (fun _ => none) w := ⟨fun _ h => (by cases h), fun _ h => (by cases h), fun _ h => (by cases h), fun _ => rfl⟩
theorem Lit1.stay (h : Lit1 w0 base n cs P a b c G w) (hb : Below w.heap.size w w') : Lit1 w0 base n cs P a b c G w' :=
  ⟨fun v hv => (h.lit v hv).stay hb, fun v hv => by obtain ⟨l, e, k⟩ := h.po v hv; exact ⟨l, e, k.below hb (Nat.le_refl _)⟩, fun v hv => (h.li v hv).later hb, h.late⟩
theorem Lit1.build (h : Lit1 w0 base n cs P a b c G w) (hab : a ≠ b) (hac : a ≠ c) (hb : base ≤ w.heap.size) : Lit1 w0 base n cs P a b c (updV G a (.slice (some ⟨w.heap.size, 0, none⟩) n n)) (w.alloc (.cells cs 28)) := by
  have s := h.stay (w' := w.alloc (.cells cs 28)) ((Below.refl _ _).alloc (Nat.le_refl _) _)
  have eb := updV_ne G (.slice (some ⟨w.heap.size, 0, none⟩) n n) (Ne.symm hab)
  have ec := updV_ne G (.slice (some ⟨w.heap.size, 0, none⟩) n n) (Ne.symm hac)
  refine ⟨fun v hv => ?_, fun v hv => ?_, fun v hv => ?_, fun hn => ?_⟩
  · rw [updV_eq] at hv; cases hv; exact ⟨_, rfl, hb, by simp, fun _ => has_new rfl⟩
  · rw [eb] at hv; exact s.po v hv
  · rw [ec] at hv; exact s.li v hv
  · rw [eb] at hn; rw [ec]; exact h.late hn
theorem Lit1.poly {g : Nat} {l : Value} (h : Lit1 w0 base n cs P a b c G w) (hab : a ≠ b) (hbc : b ≠ c) (hGb : G b = none) (hl : Pown w' w.heap.size l P) (hg : w.grownBy w' (some g)) (hb : base ≤ w.heap.size) : Lit1 w0 base n cs P a b c (updV G b (.agg #[.bool true, l])) w' := by
  have ea := updV_ne G (.agg #[.bool true, l]) hab
  have ec := updV_ne G (.agg #[.bool true, l]) (Ne.symm hbc)
  refine ⟨fun v hv => ?_, fun v hv => ?_, fun v hv => ?_, fun hn => ?_⟩
  · rw [ea] at hv
    obtain ⟨k, e, x, y, _⟩ := h.lit v hv
    exact ⟨k, e, x, Nat.lt_of_lt_of_le y hg.size, fun e => by rw [updV_eq] at e; cases e⟩
  · rw [updV_eq] at hv; cases hv; exact ⟨l, rfl, hl.lower hb⟩
  · rw [ec, h.late hGb] at hv; cases hv
  · rw [updV_eq] at hn; cases hn
theorem Lit1.list {l : Value} (h : Lit1 w0 base n cs P a b c G w) (hac : a ≠ c) (hbc : b ≠ c) (hb : G b = some (.agg #[.bool true, l])) (h0 : Below w0.heap.size w0 w) (h1 : w0.heap.size ≤ base) (h2 : base ≤ w.heap.size) (hP : P.length ≤ 1000) : Lit1 w0 base n cs P a b c (updV G c (.slice (some ⟨w.heap.size, 0, none⟩) 1 1)) (w.alloc (.cells #[.bool true, l] 31)) := by
  have s := h.stay (w' := w.alloc (.cells #[.bool true, l] 31)) ((Below.refl _ _).alloc (Nat.le_refl _) _)
  have ea := updV_ne G (.slice (some ⟨w.heap.size, 0, none⟩) 1 1) hac
  have eb := updV_ne G (.slice (some ⟨w.heap.size, 0, none⟩) 1 1) hbc
  refine ⟨fun v hv => ?_, fun v hv => ?_, fun v hv => ?_, fun hn => ?_⟩
  · rw [ea] at hv; rw [eb]; exact s.lit v hv
  · rw [eb] at hv; exact s.po v hv
  · rw [updV_eq] at hv; cases hv
    obtain ⟨l', e, k⟩ := h.po _ hb
    simp at e
    subst e
    exact Kq.one h0 h1 k (by omega) h2
  · rw [eb, hb] at hn; cases hn
end
theorem pls_four (p q r s : Pt) : (#[.int .i64 p.x, .int .i64 p.y, .int .i64 q.x, .int .i64 q.y, .int .i64 r.x, .int .i64 r.y, .int .i64 s.x, .int .i64 s.y] : Array Value).toList = pls [p, q, r, s] := rfl
abbrev pCells4 (p q r s : Pt) : Array Value := #[.int .i64 p.x, .int .i64 p.y, .int .i64 q.x, .int .i64 q.y, .int .i64 r.x, .int .i64 r.y, .int .i64 s.x, .int .i64 s.y]
theorem Wd.fr {l : Ln} (h : LnOk l) (e : Bool) : Wd (frP l e) := by
  unfold frP
  split
  · exact Wd.ad h.1 h.2.2.1 (by simp)
  · exact Wd.of h.1
theorem Wd.to {l : Ln} (h : LnOk l) (e : Bool) : Wd (toP l e) := by
  unfold toP
  split
  · exact Wd.ad h.2.1 h.2.2.1 (by simp)
  · exact Wd.of h.2.1
/-- What a round of the bars holds: the line's variable, both ends. -/
structure BarW (wr : World) (gv g8 g9 : Nat) (t : TypeId) (l : Ln) (p q : Pt) (U : World) : Prop where
  kl : Has U gv (lCells l) t
  k8 : Has U g8 (pCells p) 28
  k9 : Has U g9 (pCells q) 28
  below : Below wr.heap.size wr U
theorem BarW.later {wr : World} {gv g8 g9 : Nat} {t : TypeId} {l : Ln} {p q : Pt} {U U' : World} (h : BarW wr gv g8 g9 t l p q U) (hb : Below U.heap.size U U') : BarW wr gv g8 g9 t l p q U' :=
  ⟨h.kl.below hb h.kl.lt, h.k8.below hb h.k8.lt, h.k9.below hb h.k9.lt, h.below.trans (hb.mono h.below.size)⟩

end Go.Proofs.Ytopepgifhnfbiaa

namespace Go.Proofs.Ytopepgifhnfbiaa
open Go Go.RowKit
open M

theorem Lrow.laterR {w : World} {g o : Nat} {ls : List Ln} (h : Lrow w g o ls) (hn : 0 < ls.length) {R : World → Prop} (z : LaterR w R) : Lrow z.to g o ls := h.block (z.below.block g (h.lt hn))
/-- What line i's cells hold, in every later world. -/
def Lat (w : World) (g o i : Nat) (l : Ln) : Prop := ∀ (R : World → Prop) (z : LaterR w R), (z.to.cell? ⟨g, o + i * 8, none⟩ = some (.int .i64 l.a.x) ∧ z.to.cell? ⟨g, o + i * 8 + 1, none⟩ = some (.int .i64 l.a.y) ∧ z.to.cell? ⟨g, o + i * 8 + 2, none⟩ = some (.int .i64 l.b.x) ∧ z.to.cell? ⟨g, o + i * 8 + 3, none⟩ = some (.int .i64 l.b.y)) ∧ z.to.cell? ⟨g, o + i * 8 + 4, none⟩ = some (.int .i64 l.way.x) ∧ z.to.cell? ⟨g, o + i * 8 + 5, none⟩ = some (.int .i64 l.way.y) ∧ z.to.cell? ⟨g, o + i * 8 + 6, none⟩ = some (.int .i64 l.off.x) ∧ z.to.cell? ⟨g, o + i * 8 + 7, none⟩ = some (.int .i64 l.off.y)
theorem Lrow.lat {w : World} {g o i : Nat} {ls : List Ln} {l : Ln} (h : Lrow w g o ls) (hi : i < ls.length) (hl : ln ls i = l) : Lat w g o i l := by
  subst hl
  intro R z
  have r := h.laterR (by omega) z
  exact ⟨⟨r.c0 i hi, r.c1 i hi, r.c2 i hi, r.c3 i hi⟩, r.c4 i hi, r.c5 i hi, r.c6 i hi, r.c7 i hi⟩

end Go.Proofs.Ytopepgifhnfbiaa

namespace Go.Proofs.Ytopepgifhnfbiaa
open Go Go.RowKit
open M

/-- Two lists of polys (numbers a and b of a region), the second made behind the first. -/
structure Both (w1 : World) (L M : List (Bool × List Pt)) (a b : Nat) (G : Nat → Option Value) (w : World) : Prop where
  fst : ∀ v, G a = some v → Kq w1 w1.heap.size L v w
  snd : ∀ v, G b = some v → ∃ w2 b2, Kq w2 b2 M v w ∧ w1.heap.size ≤ b2 ∧ ∀ u k, G a = some u → u.ownBlock = some k → k < b2
  late : G a = none → G b = none
section
variable {w1 : World} {L M : List (Bool × List Pt)} {a b : Nat} {G : Nat → Option Value} {w w' : World} {v : Value}
theorem Both.start : Both w1 L M a b (fun _ => none) w := ⟨fun _ h => (by cases h), fun _ h => (by cases h), fun _ => rfl⟩
theorem Both.stay (h : Both w1 L M a b G w) (hb : Below w.heap.size w w') : Both w1 L M a b G w' :=
  ⟨fun v hv => (h.fst v hv).later hb, fun v hv => by obtain ⟨w2, b2, k, l, d⟩ := h.snd v hv; exact ⟨w2, b2, k.later hb, l, d⟩, h.late⟩
theorem Both.one (h : Both w1 L M a b G w) (hab : a ≠ b) (hG : G a = none) (hb : Below w1.heap.size w1 w) (hq : Kq w w.heap.size L v w') : Both w1 L M a b (updV G a v) w' := by
  refine ⟨fun u hu => ?_, fun u hu => ?_, fun hn => ?_⟩
  · rw [updV_eq] at hu; cases hu; exact hq.on hb hb.size (Nat.le_refl _)
  · rw [updV_ne G _ (Ne.symm hab), h.late hG] at hu; cases hu
  · rw [updV_eq] at hn; cases hn
theorem Both.two (h : Both w1 L M a b G w) (hab : a ≠ b) (hG : G a ≠ none) (hb : Below w1.heap.size w1 w) (hq : Kq w w.heap.size M v w') : Both w1 L M a b (updV G b v) w' := by
  have ea := updV_ne G v hab
  have s := h.stay hq.below
  refine ⟨fun u hu => ?_, fun u hu => ?_, fun hn => ?_⟩
  · rw [ea] at hu; exact s.fst u hu
  · rw [updV_eq] at hu; cases hu
    exact ⟨w, w.heap.size, hq, hb.size, fun u k hu hk => by rw [ea] at hu; exact ((h.fst u hu).young k hk).1⟩
  · rw [ea] at hn; exact absurd hn hG
end

end Go.Proofs.Ytopepgifhnfbiaa

namespace Go.Proofs.Ytopepgifhnfbiaa
open Go Go.RowKit
open M

set_option maxRecDepth 100000 in
set_option maxHeartbeats 4000000 in
theorem r9_lines (c : Bool) {v : Value} {ps : List Pt} {w : World} (h : Int) (hp : Psl w v ps) (h900 : ps.length ≤ 900) :
    Calls Try.prog 35 #[.agg #[.bool c, v], .int .i64 h] w (GivesLn 69 w (linesL c ps h)) := by
  obtain ⟨B, hB⟩ : ∃ B, w.heap.size = B := ⟨_, rfl⟩
  obtain ⟨W, hW⟩ : ∃ W, w.alloc (.cells #[.bool c, v] 31) = W := ⟨_, rfl⟩
  have ha : Has W B #[.bool c, v] 31 := by rw [← hW]; exact has_new hB
  have hbl : Below w.heap.size w W := by rw [← hW]; exact (Below.refl _ _).alloc (Nat.le_refl _) _
  have sW : W.heap.size = B + 1 := by rw [← hW]; simp [hB]
  have hs := hp.below hbl (Nat.le_refl _)
  obtain ⟨ao, cap, rfl, hf, _⟩ := hp
  obtain ⟨N, hN⟩ : ∃ N, ps.length = N := ⟨_, rfl⟩
  obtain ⟨M, hM⟩ : ∃ M, sidesN c N = M := ⟨_, rfl⟩
  have hMN : M ≤ N := hM ▸ sidesN_le c N
  rw [hN] at hf hs ha hW h900 ⊢
  have EL : Hid (linesL c ps h = linesN ps h M) := Lib.hid (by unfold linesL; rw [hN, hM])
  have SD : Hid (∀ w : World, Calls Try.prog 48 #[.agg #[.bool c, .slice ao N cap]] w fun r w' => r = .returned (.int .i64 (M : Int)) ∧ Below w.heap.size w w') := Lib.hid (fun w => by have := r9_sides c ao N cap hf w; rw [hM] at this; exact this)
  have HA := Lib.hid ha
  have HBL := Lib.hid hbl
  have HS := Lib.hid hs
  have HW := Lib.hid hW
  have HN := Lib.hid hN
  have HB := Lib.hid hB
  have SW := Lib.hid sW
  clear ha hbl hs hW hN hM sW
  go_enter Try.func35, Try.ntmps35
  go_upto_region 1 with fail
  rw [HW.out]
  clear hB
  go_wp2_with fail
  go_loopw [5, 6] (fun o i wr => ∃ n : Nat, n ≤ M ∧ i = .int .i64 n ∧ Lown 69 wr (B + 1) o (linesN ps h n) ∧ Below W.heap.size W wr) (fun _ i _ => M - (intOf i).toNat)
  case atStart => exact ⟨0, by omega, rfl, Lown.nil _ _ _, Below.refl _ _⟩
  case round =>
    obtain ⟨n, hn, rfl, ho, hb⟩ := hrel
    have HO := Lib.hid ho
    have BR := Lib.hid hb
    obtain ⟨K, hK⟩ : ∃ K, (linesN ps h n).length = K := ⟨_, rfl⟩
    have hKn : K ≤ n := by rw [← hK]; exact linesN_length ps h n
    obtain ⟨al, cl, el⟩ := ho.len
    rw [hK] at el
    subst el
    have HK := Lib.hid hK
    have ka := HA.out.below hb HA.out.lt
    have c0 := ka.cell 0 _ rfl
    have c1 := ka.cell 1 _ rfl
    clear ho hb hK ka
    by_cases hlt : n < M
    · have o3 : (n : Int) < M := by omega
      have o5 : (n : Int) ≤ 8796093022208 := by omega
      go_wp2_with fail
      refine (SD.out _).mono ?_
      rintro e w1 ⟨rfl, hq1⟩
      have BX := Lib.hid (BR.out.trans (hq1.mono BR.out.size))
      have OX := Lib.hid (HO.out.below hq1 (Nat.le_refl _))
      have ka := HA.out.below BX.out HA.out.lt
      clear c0 c1
      have c0 := ka.cell 0 _ rfl
      have c1 := ka.cell 1 _ rfl
      clear hq1 ka
      go_wp2_with fail
      refine (r9_side c (HS.out.below BX.out (Nat.le_refl _)) HN.out (by omega)).mono ?_
      rintro e w2 ⟨rfl, hq2⟩
      obtain ⟨len, hlen⟩ : ∃ l, sideL ps n = l := ⟨_, rfl⟩
      have AL := Lib.hid (fun w => r9_far (sa ps n) (sb ps n) w (pld_plc _) (pld_plc _))
      rw [show longP (sa ps n) (sb ps n) = len from hlen] at AL
      have l0 := sideL_lo ps n
      have l9 := sideL_hi ps n
      rw [hlen] at l0 l9
      have HLEN := Lib.hid hlen
      obtain ⟨a1, a2, a3, a4⟩ := pld_plc (pt ps n)
      obtain ⟨b1, b2, b3, b4⟩ := pld_plc (pt ps (nxt ps.length n))
      obtain ⟨pa, ha⟩ : ∃ p, sa ps n = p := ⟨_, rfl⟩
      obtain ⟨pb, hb⟩ : ∃ p, sb ps n = p := ⟨_, rfl⟩
      rw [show plc (pt ps n) = pa from ha] at a1 a2 a3 a4
      rw [show plc (pt ps (nxt ps.length n)) = pb from hb] at b1 b2 b3 b4
      rw [ha, hb] at AL ⊢
      have ESA := Lib.hid ha
      have ESB := Lib.hid hb
      obtain ⟨G, hG⟩ : ∃ G, w2.heap.size = G := ⟨_, rfl⟩
      obtain ⟨V, hV⟩ : ∃ V, (w2.alloc (.cells (pCells pa) 28)).alloc (.cells (pCells pb) 28) = V := ⟨_, rfl⟩
      have kA : Has V G (pCells pa) 28 := by rw [← hV]; exact (has_new hG).alloc _
      have kB : Has V (G + 1) (pCells pb) 28 := by rw [← hV]; exact has_new (by simp [hG])
      have bV : Below w1.heap.size w1 V := by rw [← hV]; exact (hq2.alloc hq2.size _).alloc (by have := hq2.size; simp; omega) _
      have HV := Lib.hid hV
      have KA := Lib.hid kA
      have KB := Lib.hid kB
      have OV := Lib.hid (OX.out.below bV (Nat.le_refl _))
      have BV := Lib.hid (BX.out.trans (bV.mono BX.out.size))
      obtain ⟨ax, ay⟩ := pa
      obtain ⟨bx, bY⟩ := pb
      simp only at a1 a2 a3 a4 b1 b2 b3 b4
      clear hq2 hlen ha hb c0 c1 hV kA kB bV
      go_upto_region 6 with fail
      rw [HV.out]
      clear hG
      have x0 := KA.out.cell 0 _ rfl
      have x1 := KA.out.cell 1 _ rfl
      have y0 := KB.out.cell 0 _ rfl
      have y1 := KB.out.cell 1 _ rfl
      go_wp2_with fail
      refine (AL.out _).mono ?_
      rintro e w3 ⟨rfl, hq3⟩
      have X0 := Lib.hid (KA.out.below hq3 KA.out.lt)
      have X1 := Lib.hid (KB.out.below hq3 KB.out.lt)
      have O3 := Lib.hid (OV.out.below hq3 (Nat.le_refl _))
      have B3 := Lib.hid (BV.out.trans (hq3.mono BV.out.size))
      clear hq3 x0 x1 y0 y1
      by_cases hz : len = 0
      · have hz' : ¬ 0 < len := by omega
        have E1 : Hid (linesN ps h (n + 1) = linesN ps h n) := Lib.hid (linesN_no (by rw [HLEN.out]; omega))
        go_wp2
        go_roundw
        case rel => exact ⟨n + 1, by omega, by go_num, by rw [E1.out]; exact O3.out, B3.out⟩
        case measure => simp [intOf]; omega
      · have hz' : 0 < len := by omega
        obtain ⟨du, hdu⟩ : ∃ d, dv (bx - ax) len = d := ⟨_, rfl⟩
        obtain ⟨dw, hdw⟩ : ∃ d, dv (bY - ay) len = d := ⟨_, rfl⟩
        have D1 := Lib.hid (fun w => drawnB (r_div (bx - ax) len w))
        have D2 := Lib.hid (fun w => drawnB (r_div (bY - ay) len w))
        obtain ⟨w1', w2'⟩ := dv_in (bY - ay) len
        rw [hdw] at w1' w2'
        have HDU := Lib.hid hdu
        have HDW := Lib.hid hdw
        have EY : Hid (linesN ps h (n + 1) = linesN ps h n ++ [⟨⟨ax, ay⟩, ⟨bx, bY⟩, ⟨mul du h, mul dw h⟩, ⟨mul (-dw) h, mul du h⟩⟩]) := Lib.hid (by
          rw [linesN_yes (by rw [HLEN.out]; omega)]
          unfold lnOf
          rw [HLEN.out, ESA.out, ESB.out]
          simp only
          rw [hdu, hdw])
        clear hdu hdw
        go_upto_region 8 with fail
        refine wp_region_make0 14 (by kernel_rfl) (by kernel_rfl) (by kernel_rfl) ?_
        apply Exists.intro
        refine ⟨fun R hR hN => ?_, ?_⟩
        · have A0 := fun z => LaterR.read (R := R) X0.out 0 _ rfl z
          have A1 := fun z => LaterR.read (R := R) X0.out 1 _ rfl z
          have B0 := fun z => LaterR.read (R := R) X1.out 0 _ rfl z
          have B1 := fun z => LaterR.read (R := R) X1.out 1 _ rfl z
          simp only [List.take_succ_cons, List.take_zero]
          repeat (go_big_quiet_step (first | (go_at_call 51; exact LaterR.calls hR (drawnB (r_div _ _ _)))))
          exact wpQuiet_nil rfl
        · intro w6 hb6
          simp only [List.drop_succ_cons, List.drop_zero]
          rw [HDU.out, HDW.out]
          have K3 := Lib.hid (X0.out.below hb6 X0.out.lt)
          have K4 := Lib.hid (X1.out.below hb6 X1.out.lt)
          have O6 := Lib.hid (O3.out.below hb6 (Nat.le_refl _))
          have B6 := Lib.hid (B3.out.trans (hb6.mono B3.out.size))
          clear hb6
          go_upto_region 9 with fail
          refine wp_region_gen 20 [19] [] [0, 0, 0, 0, 0, 0, 0, 0, 0, 0, 0, 0, 0, 0, 0, 0, 0, 0, 0, 1] (by kernel_rfl) (by kernel_rfl) (fun c a d v w h => by cases d <;> exact h) trivial (fun Gm w' => ∀ v, Gm 19 = some v → OneL 69 w6.heap.size ⟨⟨ax, ay⟩, ⟨bx, bY⟩, ⟨mul du h, mul dw h⟩, ⟨mul (-dw) h, mul du h⟩⟩ v w') (fun Gm w w' h hb v hv => (h v hv).stay hb) (fun v hv => by cases hv) ?_
          apply Exists.intro
          refine ⟨fun R hR hN => ?_, ?_, ?_⟩
          · have A0 := fun z => LaterR.read (R := R) K3.out 0 _ rfl z
            have A1 := fun z => LaterR.read (R := R) K3.out 1 _ rfl z
            have B0 := fun z => LaterR.read (R := R) K4.out 0 _ rfl z
            have B1 := fun z => LaterR.read (R := R) K4.out 1 _ rfl z
            simp only [quietL, takeA]
            repeat (go_big_quiet_step (first | (go_at_call 52; exact LaterR.calls hR (drawnB (r_mul _ _ _)))))
            exact wpQuiet_nil rfl
          · intro i oo hi ho
            obtain rfl : i = 19 := by simpa using hi
            cases ho
            intro Gm w' hG hGn hdep hb hR
            refine ⟨rfl, gives_none (by kernel_rfl) hGn ?_⟩
            unfold gives
            simp [go_sem]
            refine ⟨hb.alloc hb.size _, fun v hv => ?_⟩
            rw [updV_eq] at hv
            cases hv
            exact ⟨_, rfl, hb.size, has_new0⟩
          · intro Gm w' hb hR hG hN
            obtain ⟨v9, e9⟩ := hG 19 (by simp)
            obtain ⟨gp, rfl, lp, kp⟩ := hR v9 e9
            have nn : ∀ j, j < 19 → Gm j = none := fun j hj => hN j (by simp; omega)
            simp only [putV, dstAt, e9, nn 0 (by decide), nn 1 (by decide), nn 2 (by decide), nn 3 (by decide), nn 4 (by decide), nn 5 (by decide), nn 6 (by decide), nn 7 (by decide), nn 8 (by decide), nn 9 (by decide), nn 10 (by decide), nn 11 (by decide), nn 12 (by decide), nn 13 (by decide), nn 14 (by decide), nn 15 (by decide), nn 16 (by decide), nn 17 (by decide), nn 18 (by decide), List.drop_succ_cons, List.drop_zero, List.getElem?_cons_succ, List.getElem?_cons_zero, Option.bind_some]
            have OZ := Lib.hid (O6.out.below hb (Nat.le_refl _))
            have BB := Lib.hid (B6.out.trans (hb.mono B6.out.size))
            have KP := Lib.hid kp
            have SB : Hid (B + 1 ≤ w'.heap.size) := Lib.hid (by have := BB.out.size; have := SW.out; omega)
            have L1 : Hid (K ≤ 1000000) := Lib.hid (by omega)
            clear hb hR hG hN nn e9 kp
            go_wp2_with (at_builtin; refine wpList_append_ln infoLine rfl _ _ rfl K HK.out rfl gp rfl ⟨⟨ax, ay⟩, ⟨bx, bY⟩, ⟨mul du h, mul dw h⟩, ⟨mul (-dw) h, mul du h⟩⟩ _ KP.out rfl OZ.out L1.out SB.out ?_)
            intro g' cap' w7 ho7 hg7
            have O7 : Hid (Lown 69 w7 (B + 1) (.slice (some ⟨g', 0, none⟩) (K + 1) cap') (linesN ps h (n + 1))) := Lib.hid (by rw [EY.out]; exact ho7)
            have B7 : Hid (Below W.heap.size W w7) := Lib.hid (BB.out.grown hg7 BB.out.size (fun k hk => by have := (OZ.out.base k hk).1; have := SW.out; omega))
            clear ho7 hg7
            go_wp2
            go_roundw
            case rel => exact ⟨n + 1, by omega, by go_num, O7.out, B7.out⟩
            case measure => simp [intOf]; omega
    · obtain rfl : n = M := by omega
      have o3 : ¬ (n : Int) < n := by omega
      go_wp2_with fail
      refine (SD.out _).mono ?_
      rintro e w1 ⟨rfl, hq1⟩
      have BX := Lib.hid (BR.out.trans (hq1.mono BR.out.size))
      have R : Hid (GivesLn 69 w (linesL c ps h) (.returned (.slice al K cl)) w1) := Lib.hid ⟨_, rfl, by rw [EL.out]; exact (HO.out.below hq1 (Nat.le_refl _)).lower (by have := HB.out; omega), HBL.out.trans (BX.out.mono HBL.out.size)⟩
      clear hq1
      go_wp2
      go_ret
      exact R.out

end Go.Proofs.Ytopepgifhnfbiaa

namespace Go.Proofs.Ytopepgifhnfbiaa
open Go Go.RowKit
open M

theorem Lat.later {w w' : World} {g o i : Nat} {l : Ln} (h : Lat w g o i l) (hb : Below w.heap.size w w') : Lat w' g o i l := fun R z => h R ⟨z.to, hb.trans (z.below.mono hb.size), z.reg⟩
/-- What a round of the reference's bars holds: both ends. -/
structure BarV (wr : World) (g8 g9 : Nat) (p q : Pt) (U : World) : Prop where
  k8 : Has U g8 (pCells p) 28
  k9 : Has U g9 (pCells q) 28
  below : Below wr.heap.size wr U
theorem BarV.later {wr : World} {g8 g9 : Nat} {p q : Pt} {U U' : World} (h : BarV wr g8 g9 p q U) (hb : Below U.heap.size U U') : BarV wr g8 g9 p q U' :=
  ⟨h.k8.below hb h.k8.lt, h.k9.below hb h.k9.lt, h.below.trans (hb.mono h.below.size)⟩

set_option maxRecDepth 100000 in
set_option maxHeartbeats 8000000 in
theorem r9_stroke (c : Bool) {v : Value} {ps : List Pt} {w : World} (wd cp : Int) (hp : Psl w v ps) (h30 : ps.length ≤ 30) :
    Calls Try.prog 19 #[.agg #[.bool c, v], .int .i64 wd, .int .i64 cp] w (GivesK w (strokeL c ps wd cp)) := by
  obtain ⟨B, hB⟩ : ∃ B, w.heap.size = B := ⟨_, rfl⟩
  obtain ⟨W, hW⟩ : ∃ W, w.alloc (.cells #[.bool c, v] 31) = W := ⟨_, rfl⟩
  have ha : Has W B #[.bool c, v] 31 := by rw [← hW]; exact has_new hB
  have hbl : Below w.heap.size w W := by rw [← hW]; exact (Below.refl _ _).alloc (Nat.le_refl _) _
  have hs := hp.below hbl (Nat.le_refl _)
  obtain ⟨h, hh⟩ : ∃ h, half wd = h := ⟨_, rfl⟩
  have CL := Lib.hid (fun w => r_clamp (wd / 2) 0 67108864 w)
  rw [show clamp (wd / 2) 0 67108864 = h from hh] at CL
  have HH := Lib.hid hh
  have HA := Lib.hid ha
  have HBL := Lib.hid hbl
  have HS := Lib.hid hs
  have HW := Lib.hid hW
  clear hp hh ha hbl hs hW
  go_enter Try.func19, Try.ntmps19
  go_upto_region 1 with fail
  rw [HW.out]
  clear hB
  go_wp2_with fail
  refine (CL.out _).mono ?_
  rintro e w' ⟨rfl, rfl⟩
  by_cases h0 : h = 0
  · have ES : Hid (strokeL c ps wd cp = []) := Lib.hid (strokeL_none (HH.out.trans h0))
    go_wp2
    go_ret
    exact ⟨_, rfl, ES.out ▸ (Kq.start (Nat.le_refl _)).later HBL.out⟩
  · obtain ⟨ends, he⟩ : ∃ b, (decide (cp = 1) && !c) = b := ⟨_, rfl⟩
    obtain ⟨ls, hl⟩ : ∃ ls, linesL c ps h = ls := ⟨_, rfl⟩
    have ES : Hid (strokeL c ps wd cp = barsN ls ends ls.length ++ cornL c ls) := Lib.hid (by rw [strokeL_some (by rw [HH.out]; exact h0), HH.out, he, hl]; rfl)
    have SD := Lib.hid (r9_lines c h HS.out (by omega))
    rw [hl] at SD
    have OK : Hid (∀ i, i < ls.length → LnOk (ln ls i)) := Lib.hid (by intro i hi; subst hl; exact linesL_ok c ps h hi)
    have L30 : Hid (ls.length ≤ 30) := Lib.hid (by rw [← hl]; have := linesN_length ps h (sidesN c ps.length); have := sidesN_le c ps.length; unfold linesL; omega)
    have HE := Lib.hid he
    have a0 := HA.out.cell 0 _ rfl
    have a1 := HA.out.cell 1 _ rfl
    clear hl he
    go_wp2_with fail
    refine SD.out.mono ?_
    rintro e w1 ⟨u, rfl, ho, hb⟩
    have LS := Lib.hid ho.sl
    have B1 := Lib.hid (HBL.out.trans (hb.mono HBL.out.size))
    have HA1 := Lib.hid (HA.out.below hb HA.out.lt)
    obtain ⟨au, cu, hu⟩ := ho.len
    obtain ⟨N, hN⟩ : ∃ N, ls.length = N := ⟨_, rfl⟩
    rw [hN] at hu ES L30 OK
    subst hu
    have HN := Lib.hid hN
    clear ho hb a0 a1 hN
    go_wp2_with fail
    go_loopw [9, 10] (fun o i wr => ∃ n : Nat, n ≤ N ∧ i = .int .i64 n ∧ Kq w1 w1.heap.size (barsN ls ends n) o wr) (fun _ i _ => N - (intOf i).toNat)
    case atStart => exact ⟨0, by omega, rfl, Kq.start (Nat.le_refl _)⟩
    case round =>
      obtain ⟨n, hn, rfl, hk⟩ := hrel
      have HK := Lib.hid hk
      obtain ⟨aol, capl, el⟩ := hk.shape
      rw [barsN_length] at el
      subst el
      have BR := Lib.hid hk.below
      clear hk
      by_cases hlt : n < N
      · have o3 : (n : Int) < N := by omega
        have oN : (N : Int) ≤ 30 := by have := L30.out; omega
        obtain ⟨g, o, e1, row, -⟩ := (LS.out.below BR.out).row (by omega)
        subst e1
        obtain ⟨l, hl⟩ : ∃ l, ln ls n = l := ⟨_, rfl⟩
        have hlo := OK.out n hlt
        rw [hl] at hlo
        have HLO := Lib.hid hlo
        have LA := Lib.hid (row.lat (by have := HN.out; omega) hl)
        have EB : Hid (barsN ls ends (n + 1) = barsN ls ends n ++ [barP l (ends && decide (n = 0)) (ends && decide (n + 1 = N))]) := Lib.hid (by rw [barsN_step, hl, HN.out])
        have HAR := Lib.hid (HA1.out.below BR.out HA1.out.lt)
        clear row hl hlo
        go_upto_region 9 with fail
        refine wp_region_gen 13 [10, 11, 12] [] [0, 0, 0, 0, 0, 0, 0, 0, 0, 0, 1, 1, 1] (by kernel_rfl) (by kernel_rfl) (fun c a d v w h => by cases d <;> exact h) trivial (fun G w' => Vars wr.heap.size 28 zc2 [(10, 12, pCells l.a), (11, 13, pCells l.b)] G w') (fun G w w' h hb => h.stay hb) Vars.start ?_
        apply Exists.intro
        refine ⟨fun R hR hN => ?_, ?_, ?_⟩
        · have A0 := fun z => (LA.out R z).1.1
          have A1 := fun z => (LA.out R z).1.2.1
          have A2 := fun z => (LA.out R z).1.2.2.1
          have A3 := fun z => (LA.out R z).1.2.2.2
          simp only [quietL, takeA]
          repeat (go_big_quiet_step (fail))
          exact wpQuiet_nil rfl
        · intro i oo hi ho
          have hi' : i = 10 ∨ i = 11 ∨ i = 12 := by simpa using hi
          clear hi
          rcases hi' with rfl | rfl | rfl
          · cases ho
            intro G w' hG hGn hdep hb hR
            refine ⟨rfl, gives_none (by kernel_rfl) hGn ?_⟩
            unfold gives
            simp [go_sem]
            exact ⟨hb.alloc hb.size _, hR.alloc (i := 10) (s := 12) (cs := pCells l.a) rfl (by simp) (by intro y hy he; simp at hy; rcases hy with rfl | rfl <;> simp at he ⊢) hG hb.size⟩
          · cases ho
            intro G w' hG hGn hdep hb hR
            refine ⟨rfl, gives_none (by kernel_rfl) hGn ?_⟩
            unfold gives
            simp [go_sem]
            exact ⟨hb.alloc hb.size _, hR.alloc (i := 11) (s := 13) (cs := pCells l.b) rfl (by simp) (by intro y hy he; simp at hy; rcases hy with rfl | rfl <;> simp at he ⊢) hG hb.size⟩
          · cases ho
            intro G w' hG hGn hdep hb hR
            obtain ⟨v, hv⟩ := Option.ne_none_iff_exists'.1 (hdep 10 (by simp) (by kernel_rfl))
            obtain ⟨gx, rfl, hgx, hhx⟩ := hR.has (10, 12, pCells l.a) (by simp) v hv
            rw [if_pos hG] at hhx
            refine ⟨rfl, gives_one (k := 10) (by kernel_rfl) hGn (by omega) hv ?_⟩
            have cx0 := hhx.cell 0 _ rfl
            have cx1 := hhx.cell 1 _ rfl
            have fx := has_fro hhx
            unfold gives
            simp [go_sem, dstAt, Act.put, cx0, cx1, fx]
            exact ⟨(hb.setCell hgx _).setCell hgx _, hR.store (i := 10) (s := 12) (za := .int .i64 0) (zb := .int .i64 0) rfl rfl (by simp) (by intro y hy he; simp at hy; rcases hy with rfl | rfl <;> simp at he ⊢) hv hG⟩
        · intro G w3 hb3 hR hG hN
          obtain ⟨v0, e0⟩ := hG 10 (by simp)
          obtain ⟨v1, e1⟩ := hG 11 (by simp)
          obtain ⟨s0, t0⟩ := hG 12 (by simp)
          obtain ⟨g0, rfl, l0, k0⟩ := hR.has (10, 12, pCells l.a) (by simp) v0 e0
          obtain ⟨g1, rfl, l1, k1⟩ := hR.has (11, 13, pCells l.b) (by simp) v1 e1
          rw [if_neg (by simp [t0])] at k0
          rw [if_pos (hN 13 (by simp))] at k1
          have n01 : g0 ≠ g1 := fun e => hR.ne (10, 12, pCells l.a) (by simp) (11, 13, pCells l.b) (by simp) (by simp) _ e0 (by rw [e1, e])
          have nn : ∀ j, j < 10 → G j = none := fun j hj => hN j (by simp; omega)
          simp only [putV, dstAt, e0, e1, t0, nn 0 (by decide), nn 1 (by decide), nn 2 (by decide), nn 3 (by decide), nn 4 (by decide), nn 5 (by decide), nn 6 (by decide), nn 7 (by decide), nn 8 (by decide), nn 9 (by decide), List.drop_succ_cons, List.drop_zero, List.getElem?_cons_succ, List.getElem?_cons_zero, Option.bind_some]
          have c30 := k1.cell 0 _ rfl
          have c31 := k1.cell 1 _ rfl
          have f3 := has_fro k1
          obtain ⟨U, hU⟩ : ∃ V, (w3.setCell ⟨g1, 0, none⟩ (.int .i64 l.b.x)).setCell ⟨g1, 1, none⟩ (.int .i64 l.b.y) = V := ⟨_, rfl⟩
          have W0 : Hid (BarV wr g0 g1 l.a l.b U) := Lib.hid (by
            have bU : Below wr.heap.size wr U := by rw [← hU]; exact hb3.trans (below_two l1 _ _)
            refine ⟨?_, ?_, bU⟩
            · rw [← hU]; exact two_off k0 (Ne.symm n01) _ _
            · rw [← hU]; exact two_set k1 _ _)
          have L0 : Hid (wr.heap.size ≤ g0 ∧ wr.heap.size ≤ g1 ∧ g0 ≠ g1) := Lib.hid ⟨l0, l1, n01⟩
          have HU := Lib.hid hU
          clear k0 k1 hb3 hU l0 l1 hR hG hN nn e0 e1 t0 n01
          go_upto_region 10 with fail
          rw [HU.out]
          clear c30 c31 f3
          obtain ⟨e1, he1⟩ : ∃ b, (ends && decide (n = 0)) = b := ⟨_, rfl⟩
          obtain ⟨e2, he2⟩ : ∃ b, (ends && decide (n + 1 = N)) = b := ⟨_, rfl⟩
          rw [he1, he2] at EB
          have E2 := Lib.hid he2
          have E1 := Lib.hid he1
          clear he2 he1
          go_cut [48] (fun s wx => s = .bool e1 ∧ wx = U)
          case first =>
            have ka := HAR.out.below W0.out.below HAR.out.lt
            have a0 := ka.cell 0 _ rfl
            clear ka
            by_cases hcp : cp = 1
            · have EE : Hid (e1 = (!c && decide (n = 0))) := Lib.hid (by rw [← E1.out, ← HE.out, decide_eq_true hcp]; rfl)
              cases c
              case false =>
                go_wp2_with fail
                go_meet
                exact ⟨by rw [EE.out, int_zero]; simp, rfl⟩
              case true =>
                go_wp2_with fail
                go_meet
                exact ⟨by rw [EE.out]; rfl, rfl⟩
            · have EE : Hid (e1 = false) := Lib.hid (by rw [← E1.out, ← HE.out, decide_eq_false hcp]; rfl)
              have hcb : (cp == 1) = false := decide_eq_false hcp
              go_wp2_with fail
              go_meet
              exact ⟨by rw [EE.out], rfl⟩
          case rest =>
            obtain ⟨rfl, hx⟩ := hcut
            subst hx
            rename World => U
            have WF := HLO.out
            have CW := Lib.hid (fun w => r9_plus l.a l.way (-1) w (Wd.of WF.1) (Wd.of WF.2.2.1) (by decide))
            have CV := Lib.hid (fun w => r9_plus l.b l.way 1 w (Wd.of WF.2.1) (Wd.of WF.2.2.1) (by decide))
            clear WF HU
            go_upto_if 48 with fail
            go_cut [48] (fun _ wx => BarV wr g0 g1 (frP l e1) l.b wx)
            case first =>
              cases e1
              case false =>
                go_wp2_with fail
                go_meet
                exact W0.out
              case true =>
                go_upto_region 11 with fail
                refine wp_region_make0 6 (by kernel_rfl) (by kernel_rfl) (by kernel_rfl) ?_
                apply Exists.intro
                refine ⟨fun R hR hN => ?_, ?_⟩
                · have A0 := fun z => ((LA.out.later W0.out.below) R z).2.1
                  have A1 := fun z => ((LA.out.later W0.out.below) R z).2.2.1
                  have B0 := fun z => LaterR.read (R := R) W0.out.k8 0 _ rfl z
                  have B1 := fun z => LaterR.read (R := R) W0.out.k8 1 _ rfl z
                  simp only [List.take_succ_cons, List.take_zero]
                  repeat (go_big_quiet_step (fail))
                  exact wpQuiet_nil rfl
                · intro w4 hb4
                  simp only [List.drop_succ_cons, List.drop_zero]
                  go_wp2_with fail
                  refine (CW.out _).mono ?_
                  rintro e w5 ⟨rfl, hb5⟩
                  have W4 := (W0.out.later hb4).later hb5
                  have b0 := W4.k8.cell 0 _ rfl
                  have b1 := W4.k8.cell 1 _ rfl
                  have f0 := has_fro W4.k8
                  have W5 : Hid (BarV wr g0 g1 (frP l true) l.b ((w5.setCell ⟨g0, 0, none⟩ (.int .i64 (ad l.a l.way (-1)).x)).setCell ⟨g0, 1, none⟩ (.int .i64 (ad l.a l.way (-1)).y))) := Lib.hid (by
                    have := L0.out
                    refine ⟨two_set W4.k8 _ _, two_off W4.k9 (by omega) _ _, W4.below.trans (below_two (by omega) _ _)⟩)
                  clear W4 hb4 hb5
                  go_wp2
                  go_meet
                  exact W5.out
            case rest =>
              clear W0 CW
              have W0 := Lib.hid hcut
              clear hcut
              rename World => U
              go_upto_region 12 with fail
              obtain ⟨f, hf⟩ : ∃ f, f = frP l e1 := ⟨_, rfl⟩
              rw [← hf] at W0
              have HF := Lib.hid hf
              clear hf
              go_cut [69] (fun s wx => s = .bool e2 ∧ wx = U)
              case first =>
                have ka := HAR.out.below W0.out.below HAR.out.lt
                have a0 := ka.cell 0 _ rfl
                clear ka
                by_cases hcp : cp = 1
                · have EE : Hid (e2 = (!c && decide (n + 1 = N))) := Lib.hid (by rw [← E2.out, ← HE.out, decide_eq_true hcp]; rfl)
                  cases c
                  case false =>
                    go_wp2_with fail
                    go_meet
                    exact ⟨by rw [EE.out, int_last]; simp, rfl⟩
                  case true =>
                    go_wp2_with fail
                    go_meet
                    exact ⟨by rw [EE.out]; rfl, rfl⟩
                · have EE : Hid (e2 = false) := Lib.hid (by rw [← E2.out, ← HE.out, decide_eq_false hcp]; rfl)
                  have hcb : (cp == 1) = false := decide_eq_false hcp
                  go_wp2_with fail
                  go_meet
                  exact ⟨by rw [EE.out], rfl⟩
              case rest =>
                obtain ⟨rfl, hx⟩ := hcut
                subst hx
                rename World => U
                go_upto_if 69 with fail
                go_cut [69] (fun _ wx => BarV wr g0 g1 f (toP l e2) wx)
                case first =>
                  cases e2
                  case false =>
                    go_wp2_with fail
                    go_meet
                    exact W0.out
                  case true =>
                    go_upto_region 13 with fail
                    refine wp_region_make0 6 (by kernel_rfl) (by kernel_rfl) (by kernel_rfl) ?_
                    apply Exists.intro
                    refine ⟨fun R hR hN => ?_, ?_⟩
                    · have A0 := fun z => ((LA.out.later W0.out.below) R z).2.1
                      have A1 := fun z => ((LA.out.later W0.out.below) R z).2.2.1
                      have B0 := fun z => LaterR.read (R := R) W0.out.k9 0 _ rfl z
                      have B1 := fun z => LaterR.read (R := R) W0.out.k9 1 _ rfl z
                      simp only [List.take_succ_cons, List.take_zero]
                      repeat (go_big_quiet_step (fail))
                      exact wpQuiet_nil rfl
                    · intro w4 hb4
                      simp only [List.drop_succ_cons, List.drop_zero]
                      go_wp2_with fail
                      refine (CV.out _).mono ?_
                      rintro e w5 ⟨rfl, hb5⟩
                      have W4 := (W0.out.later hb4).later hb5
                      have b0 := W4.k9.cell 0 _ rfl
                      have b1 := W4.k9.cell 1 _ rfl
                      have f0 := has_fro W4.k9
                      have W5 : Hid (BarV wr g0 g1 f (toP l true) ((w5.setCell ⟨g1, 0, none⟩ (.int .i64 (ad l.b l.way 1).x)).setCell ⟨g1, 1, none⟩ (.int .i64 (ad l.b l.way 1).y))) := Lib.hid (by
                        have := L0.out
                        refine ⟨two_off W4.k8 (by omega) _ _, two_set W4.k9 _ _, W4.below.trans (below_two (by omega) _ _)⟩)
                      clear W4 hb4 hb5
                      go_wp2
                      go_meet
                      exact W5.out
                case rest =>
                  clear W0 CV
                  have W0 := Lib.hid hcut
                  clear hcut
                  rename World => U
                  obtain ⟨t, ht⟩ : ∃ t, t = toP l e2 := ⟨_, rfl⟩
                  rw [← ht] at W0
                  have HT := Lib.hid ht
                  clear ht
                  obtain ⟨O, hO⟩ : ∃ O, O = l.off := ⟨_, rfl⟩
                  have wf : Wd f := by rw [HF.out]; exact Wd.fr HLO.out _
                  have wt : Wd t := by rw [HT.out]; exact Wd.to HLO.out _
                  have wo : Wd O := by rw [hO]; exact Wd.of HLO.out.2.2.2
                  have ES' : Hid (barP l e1 e2 = (true, shapeL [ad f O 1, ad t O 1, ad t O (-1), ad f O (-1)])) := Lib.hid (by unfold barP; rw [← HF.out, ← HT.out, ← hO])
                  have C1 := Lib.hid (fun k w hk => r9_plus f O k w wf wo hk)
                  have C2 := Lib.hid (fun k w hk => r9_plus t O k w wt wo hk)
                  have LO : Hid (∀ (R : World → Prop) (z : LaterR U R), z.to.cell? ⟨g, o + n * 8 + 6, none⟩ = some (.int .i64 O.x) ∧ z.to.cell? ⟨g, o + n * 8 + 7, none⟩ = some (.int .i64 O.y)) := Lib.hid (fun R z => by rw [hO]; exact ((LA.out.later W0.out.below) R z).2.2.2)
                  have SU : Hid (w1.heap.size ≤ U.heap.size) := Lib.hid (by have := BR.out.size; have := W0.out.below.size; omega)
                  have BU : Hid (Below w1.heap.size w1 U) := Lib.hid (BR.out.trans (W0.out.below.mono BR.out.size))
                  have KU := Lib.hid (HK.out.later W0.out.below)
                  clear hO wf wt wo
                  go_upto_region 14 with fail
                  refine wp_region_gen 32 [29, 30, 31] [] [0, 0, 0, 0, 0, 0, 0, 0, 0, 0, 0, 0, 0, 0, 0, 0, 0, 0, 0, 0, 0, 0, 0, 0, 0, 0, 0, 0, 0, 1, 1, 1] (by kernel_rfl) (by kernel_rfl) (fun c a d v w h => by cases d <;> exact h) trivial (fun G w' => Lit1 U U.heap.size 4 (pCells4 (ad f O 1) (ad t O 1) (ad t O (-1)) (ad f O (-1))) (shapeL [ad f O 1, ad t O 1, ad t O (-1), ad f O (-1)]) 29 30 31 G w') (fun G w w' h hb => h.stay hb) Lit1.start ?_
                  apply Exists.intro
                  refine ⟨fun R hR hN => ?_, ?_, ?_⟩
                  · have A6 := fun z => (LO.out R z).1
                    have A7 := fun z => (LO.out R z).2
                    have B0 := fun z => LaterR.read (R := R) W0.out.k8 0 _ rfl z
                    have B1 := fun z => LaterR.read (R := R) W0.out.k8 1 _ rfl z
                    have D0 := fun z => LaterR.read (R := R) W0.out.k9 0 _ rfl z
                    have D1 := fun z => LaterR.read (R := R) W0.out.k9 1 _ rfl z
                    simp only [quietL, takeA]
                    repeat (go_big_quiet_step (first | (go_at_call_of 36 f; exact LaterR.calls hR (C1.out _ _ (by decide))) | (go_at_call_of 36 t; exact LaterR.calls hR (C2.out _ _ (by decide)))))
                    exact wpQuiet_nil rfl
                  · intro i oo hi ho
                    have hi' : i = 29 ∨ i = 30 ∨ i = 31 := by simpa using hi
                    clear hi
                    rcases hi' with rfl | rfl | rfl
                    · cases ho
                      intro G w' hG hGn hdep hb hR
                      refine ⟨rfl, gives_none (by kernel_rfl) hGn ?_⟩
                      unfold gives
                      simp [go_sem]
                      exact ⟨hb.alloc hb.size _, hR.build (by decide) (by decide) hb.size⟩
                    · cases ho
                      intro G w' hG hGn hdep hb hR
                      obtain ⟨v17, hv17⟩ := Option.ne_none_iff_exists'.1 (hdep 29 (by simp) (by kernel_rfl))
                      obtain ⟨g, rfl, hg, hlt, hk⟩ := hR.lit v17 hv17
                      refine ⟨rfl, gives_one (k := 29) (by kernel_rfl) hGn (by omega) hv17 ?_⟩
                      unfold gives
                      simp [go_sem]
                      refine (r9_shape ((pown_lit (n := 4) (hk hG) hg (pls_four (ad f O 1) (ad t O 1) (ad t O (-1)) (ad f O (-1))) rfl (by decide)).sl (by simp)) (by simp)).mono ?_
                      rintro e w'' ⟨l, rfl, hol, hbb⟩
                      exact ⟨_, rfl, hb.trans (hbb.mono hb.size), hR.poly (by decide) (by decide) hG hol (grown_weak (r := some g) (grownBy_below hbb (Nat.le_refl _))) hb.size⟩
                    · cases ho
                      intro G w' hG hGn hdep hb hR
                      obtain ⟨v18, hv18⟩ := Option.ne_none_iff_exists'.1 (hdep 30 (by simp) (by kernel_rfl))
                      obtain ⟨l', rfl, _⟩ := hR.po v18 hv18
                      refine ⟨rfl, gives_one (k := 30) (by kernel_rfl) hGn (by omega) hv18 ?_⟩
                      unfold gives
                      simp [go_sem]
                      exact ⟨hb.alloc hb.size _, hR.list (by decide) (by decide) hv18 hb (Nat.le_refl _) hb.size (by rw [shapeL_length]; simp)⟩
                  · intro G w2 hb hR hG hN
                    obtain ⟨v17, e17⟩ := hG 29 (by simp)
                    obtain ⟨v18, e18⟩ := hG 30 (by simp)
                    obtain ⟨v19, e19⟩ := hG 31 (by simp)
                    have hq := hR.li _ e19
                    obtain ⟨ax, cx, rfl⟩ := hq.shape
                    have nn : ∀ j, j < 29 → G j = none := fun j hj => hN j (by simp; omega)
                    simp only [putV, dstAt, e17, e18, e19, nn 0 (by decide), nn 1 (by decide), nn 2 (by decide), nn 3 (by decide), nn 4 (by decide), nn 5 (by decide), nn 6 (by decide), nn 7 (by decide), nn 8 (by decide), nn 9 (by decide), nn 10 (by decide), nn 11 (by decide), nn 12 (by decide), nn 13 (by decide), nn 14 (by decide), nn 15 (by decide), nn 16 (by decide), nn 17 (by decide), nn 18 (by decide), nn 19 (by decide), nn 20 (by decide), nn 21 (by decide), nn 22 (by decide), nn 23 (by decide), nn 24 (by decide), nn 25 (by decide), nn 26 (by decide), nn 27 (by decide), nn 28 (by decide), List.drop_succ_cons, List.drop_zero, List.getElem?_cons_succ, List.getElem?_cons_zero, Option.bind_some]
                    have Q1 := Lib.hid hq
                    have K1 := Lib.hid (KU.out.later hb)
                    have DD : Hid (∀ k, Value.ownBlock (.slice aol n capl) = some k → k < U.heap.size) := Lib.hid (fun k hk => by have := (HK.out.young k hk).1; have := W0.out.below.size; omega)
                    have L1 : Hid (n + 1 ≤ 1000) := Lib.hid (by have := L30.out; omega)
                    have NL : Hid ((barsN ls ends n).length = n) := Lib.hid (barsN_length _ _ _)
                    clear hb hR hG hN nn e17 e18 e19 hq
                    go_wp2_with (at_builtin; refine wpList_append_q rfl _ _ rfl aol n capl NL.out rfl ax 1 cx rfl rfl K1.out Q1.out DD.out SU.out L1.out ?_)
                    intro a' c' w7 hk7
                    have K7 : Hid (Kq w1 w1.heap.size (barsN ls ends (n + 1)) (.slice a' (n + 1) c') w7) := Lib.hid (by rw [EB.out, ES'.out]; exact hk7)
                    clear hk7
                    go_wp2
                    go_roundw
                    case rel => exact ⟨n + 1, by omega, by go_num, K7.out⟩
                    case measure => simp [intOf]; omega
      · obtain rfl : n = N := by omega
        have o3 : ¬ (n : Int) < n := by omega
        obtain ⟨Lb, hLb⟩ : ∃ L, barsN ls ends n = L := ⟨_, rfl⟩
        have BL : Hid (Lb.length = n) := Lib.hid (by rw [← hLb]; exact barsN_length _ _ _)
        rw [hLb] at HK
        rw [hLb] at ES
        clear hLb
        go_wp2_with fail
        have K0 : Hid (Kq w1 w1.heap.size (Lb ++ cornN ls (1 - 1)) (.slice aol n capl) wr) := Lib.hid (by rw [show Lb ++ cornN ls (1 - 1) = Lb from List.append_nil Lb]; exact HK.out)
        have oN : (n : Int) ≤ 30 := by have := L30.out; omega
        go_loopw [9, 13] (fun o i wr => ∃ m : Nat, 1 ≤ m ∧ (m ≤ n ∨ m = 1) ∧ i = .int .i64 m ∧ Kq w1 w1.heap.size (Lb ++ cornN ls (m - 1)) o wr) (fun _ i _ => n - (intOf i).toNat)
        case atStart => exact ⟨1, by omega, by omega, rfl, K0.out⟩
        case round =>
          clear K0
          obtain ⟨m, h1, hm, rfl, hk⟩ := hrel
          rename World => vr
          obtain ⟨q, hq⟩ : ∃ q, m - 1 = q := ⟨_, rfl⟩
          rw [hq] at hk
          have hmq : (m : Int) - 1 = q := by omega
          have HMN := Lib.hid hq
          obtain ⟨aol, capl, el⟩ := hk.shape
          obtain ⟨K, hK⟩ : ∃ K, (Lb ++ cornN ls q).length = K := ⟨_, rfl⟩
          have hKn : K = n + 2 * q := by rw [← hK, List.length_append, cornN_length, BL.out]
          rw [hK] at el
          subst el
          have HK2 := Lib.hid hk
          have BR2 := Lib.hid hk.below
          have SR : Hid (w1.heap.size ≤ vr.heap.size) := Lib.hid BR2.out.size
          have HKK := Lib.hid hK
          have HKN := Lib.hid hKn
          have HAV := Lib.hid (HA1.out.below BR2.out HA1.out.lt)
          clear hk hq hK hKn
          by_cases hlt : m < n
          · have o4 : (m : Int) < n := by omega
            have o5 : (q : Int) < n := by omega
            obtain ⟨g, o, e1, row, -⟩ := (LS.out.below BR2.out).row (by omega)
            subst e1
            obtain ⟨x, hx⟩ : ∃ l, ln ls q = l := ⟨_, rfl⟩
            obtain ⟨y, hy⟩ : ∃ l, ln ls m = l := ⟨_, rfl⟩
            have hxo := OK.out q (by omega)
            have hyo := OK.out m (by omega)
            rw [hx] at hxo
            rw [hy] at hyo
            have PX := Lib.hid (row.lat (by have := HN.out; omega) hx)
            have PY := Lib.hid (row.lat (by have := HN.out; omega) hy)
            have EC : Hid (Lb ++ cornN ls (m + 1 - 1) = Lb ++ cornN ls q ++ jointL x y) := Lib.hid (by have := HMN.out; rw [show m + 1 - 1 = q + 1 by omega, cornN_step, hx, show q + 1 = m by omega, hy, List.append_assoc])
            have CC := Lib.hid (fun w => r9_joint x y w hxo hyo)
            clear row hx hy hxo hyo
            go_upto_region 18 with fail
            refine wp_region_gen 11 [10] [] [0, 0, 0, 0, 0, 0, 0, 0, 0, 0, 1] (by kernel_rfl) (by kernel_rfl) (fun c a d v w h => by cases d <;> exact h) trivial (fun G w' => ∀ v, G 10 = some v → Kq vr vr.heap.size (jointL x y) v w') (fun G w w' h hb v hv => (h v hv).later hb) (fun v hv => by cases hv) ?_
            apply Exists.intro
            refine ⟨fun R hR hN => ?_, ?_, ?_⟩
            · have A0 := fun z => (PX.out R z).1.1
              have A1 := fun z => (PX.out R z).1.2.1
              have A2 := fun z => (PX.out R z).1.2.2.1
              have A3 := fun z => (PX.out R z).1.2.2.2
              have A4 := fun z => (PX.out R z).2.1
              have A5 := fun z => (PX.out R z).2.2.1
              have A6 := fun z => (PX.out R z).2.2.2.1
              have A7 := fun z => (PX.out R z).2.2.2.2
              have B0 := fun z => (PY.out R z).1.1
              have B1 := fun z => (PY.out R z).1.2.1
              have B2 := fun z => (PY.out R z).1.2.2.1
              have B3 := fun z => (PY.out R z).1.2.2.2
              have B4 := fun z => (PY.out R z).2.1
              have B5 := fun z => (PY.out R z).2.2.1
              have B6 := fun z => (PY.out R z).2.2.2.1
              have B7 := fun z => (PY.out R z).2.2.2.2
              simp only [quietL, takeA]
              repeat (go_big_quiet_step (fail))
              exact wpQuiet_nil rfl
            · intro i oo hi ho
              obtain rfl : i = 10 := by simpa using hi
              cases ho
              intro G w' hG hGn hdep hb hR
              refine ⟨rfl, gives_none (by kernel_rfl) hGn ?_⟩
              unfold gives
              simp [go_sem]
              refine (CC.out w').mono ?_
              rintro e w'' ⟨v, rfl, hq⟩
              exact ⟨_, rfl, hb.trans (hq.below.mono hb.size), fun v' hv => by rw [updV_eq] at hv; cases hv; exact hq.on hb hb.size (Nat.le_refl _)⟩
            · intro G w2 hb hR hG hN
              obtain ⟨v10, e10⟩ := hG 10 (by simp)
              have hq := hR _ e10
              obtain ⟨ax, cx, rfl⟩ := hq.shape
              have nn : ∀ j, j < 10 → G j = none := fun j hj => hN j (by simp; omega)
              simp only [putV, dstAt, e10, nn 0 (by decide), nn 1 (by decide), nn 2 (by decide), nn 3 (by decide), nn 4 (by decide), nn 5 (by decide), nn 6 (by decide), nn 7 (by decide), nn 8 (by decide), nn 9 (by decide), List.drop_succ_cons, List.drop_zero, List.getElem?_cons_succ, List.getElem?_cons_zero, Option.bind_some]
              have Q1 := Lib.hid hq
              have K1 := Lib.hid (HK2.out.later hb)
              have DD : Hid (∀ k, Value.ownBlock (.slice aol K capl) = some k → k < vr.heap.size) := Lib.hid (fun k hk => (HK2.out.young k hk).1)
              have L1 : Hid (K + 2 ≤ 1000) := Lib.hid (by have := HKN.out; have := HMN.out; omega)
              clear hb hR hG hN nn e10 hq
              go_wp2_with (at_builtin; refine wpList_append_q rfl _ _ rfl aol K capl HKK.out rfl ax 2 cx rfl rfl K1.out Q1.out DD.out SR.out L1.out ?_)
              intro a' c' w7 hk7
              have K7 : Hid (Kq w1 w1.heap.size (Lb ++ cornN ls (m + 1 - 1)) (.slice a' (K + 2) c') w7) := Lib.hid (by rw [EC.out]; first | exact hk7 | (rw [List.append_assoc]; exact hk7))
              clear hk7
              go_wp2
              go_roundw
              case rel => exact ⟨m + 1, by omega, by omega, by go_num, K7.out⟩
              case measure => simp [intOf]; omega
          · have o4 : ¬ (m : Int) < n := by omega
            have EN : Hid (cornN ls q = cornN ls (ls.length - 1)) := Lib.hid (by have := HMN.out; rw [HN.out]; congr 1; omega)
            have a0 := HAV.out.cell 0 _ rfl
            by_cases hc : c = true ∧ 2 ≤ n
            · obtain ⟨rfl, h2⟩ := hc
              have o5 : (2 : Int) ≤ n := by omega
              have o5' : ¬ (n : Int) < 2 := by omega
              obtain ⟨M, hM⟩ : ∃ M, n - 1 = M := ⟨_, rfl⟩
              have hMN : (n : Int) - 1 = M := by omega
              have o6 : (M : Int) < n := by omega
              have o7 : (0 : Int) < n := by omega
              obtain ⟨g, o, e1, row, -⟩ := (LS.out.below BR2.out).row (by omega)
              subst e1
              obtain ⟨x, hx⟩ : ∃ l, ln ls M = l := ⟨_, rfl⟩
              obtain ⟨y, hy⟩ : ∃ l, ln ls 0 = l := ⟨_, rfl⟩
              have hxo := OK.out M (by omega)
              have hyo := OK.out 0 (by omega)
              rw [hx] at hxo
              rw [hy] at hyo
              have PX := Lib.hid (row.lat (by have := HN.out; omega) hx)
              have py := row.lat (by have := HN.out; omega) hy
              simp only [Lat, Nat.zero_mul, Nat.add_zero] at py
              have PY := Lib.hid py
              have EC : Hid (cornL true ls = cornN ls q ++ jointL x y) := Lib.hid (by unfold cornL; rw [lastL_yes ⟨rfl, by have := HN.out; omega⟩, ← EN.out, HN.out, hM, hx, hy])
              have CC := Lib.hid (fun w => r9_joint x y w hxo hyo)
              clear row hx hy hxo hyo hM py
              go_upto_region 20 with fail
              clear a0
              refine wp_region_gen 11 [10] [] [0, 0, 0, 0, 0, 0, 0, 0, 0, 0, 1] (by kernel_rfl) (by kernel_rfl) (fun c a d v w h => by cases d <;> exact h) trivial (fun G w' => ∀ v, G 10 = some v → Kq vr vr.heap.size (jointL x y) v w') (fun G w w' h hb v hv => (h v hv).later hb) (fun v hv => by cases hv) ?_
              apply Exists.intro
              refine ⟨fun R hR hN => ?_, ?_, ?_⟩
              · have A0 := fun z => (PX.out R z).1.1
                have A1 := fun z => (PX.out R z).1.2.1
                have A2 := fun z => (PX.out R z).1.2.2.1
                have A3 := fun z => (PX.out R z).1.2.2.2
                have A4 := fun z => (PX.out R z).2.1
                have A5 := fun z => (PX.out R z).2.2.1
                have A6 := fun z => (PX.out R z).2.2.2.1
                have A7 := fun z => (PX.out R z).2.2.2.2
                have B0 := fun z => (PY.out R z).1.1
                have B1 := fun z => (PY.out R z).1.2.1
                have B2 := fun z => (PY.out R z).1.2.2.1
                have B3 := fun z => (PY.out R z).1.2.2.2
                have B4 := fun z => (PY.out R z).2.1
                have B5 := fun z => (PY.out R z).2.2.1
                have B6 := fun z => (PY.out R z).2.2.2.1
                have B7 := fun z => (PY.out R z).2.2.2.2
                simp only [quietL, takeA]
                repeat (go_big_quiet_step (fail))
                exact wpQuiet_nil rfl
              · intro i oo hi ho
                obtain rfl : i = 10 := by simpa using hi
                cases ho
                intro G w' hG hGn hdep hb hR
                refine ⟨rfl, gives_none (by kernel_rfl) hGn ?_⟩
                unfold gives
                simp [go_sem]
                refine (CC.out w').mono ?_
                rintro e w'' ⟨v, rfl, hq⟩
                exact ⟨_, rfl, hb.trans (hq.below.mono hb.size), fun v' hv => by rw [updV_eq] at hv; cases hv; exact hq.on hb hb.size (Nat.le_refl _)⟩
              · intro G w2 hb hR hG hN
                obtain ⟨v10, e10⟩ := hG 10 (by simp)
                have hq := hR _ e10
                obtain ⟨ax, cx, rfl⟩ := hq.shape
                have nn : ∀ j, j < 10 → G j = none := fun j hj => hN j (by simp; omega)
                simp only [putV, dstAt, e10, nn 0 (by decide), nn 1 (by decide), nn 2 (by decide), nn 3 (by decide), nn 4 (by decide), nn 5 (by decide), nn 6 (by decide), nn 7 (by decide), nn 8 (by decide), nn 9 (by decide), List.drop_succ_cons, List.drop_zero, List.getElem?_cons_succ, List.getElem?_cons_zero, Option.bind_some]
                have Q1 := Lib.hid hq
                have K1 := Lib.hid (HK2.out.later hb)
                have DD : Hid (∀ k, Value.ownBlock (.slice aol K capl) = some k → k < vr.heap.size) := Lib.hid (fun k hk => (HK2.out.young k hk).1)
                have L1 : Hid (K + 2 ≤ 1000) := Lib.hid (by have := HKN.out; have := HMN.out; omega)
                clear hb hR hG hN nn e10 hq
                go_wp2_with (at_builtin; refine wpList_append_q rfl _ _ rfl aol K capl HKK.out rfl ax 2 cx rfl rfl K1.out Q1.out DD.out SR.out L1.out ?_)
                intro a' c' w7 hk7
                have K7 : Hid (Kq w w.heap.size (strokeL true ps wd cp) (.slice a' (K + 2) c') w7) := Lib.hid (by
                  rw [ES.out, EC.out]
                  exact hk7.on B1.out B1.out.size (Nat.le_refl _))
                clear hk7
                go_wp2
                go_ret
                exact ⟨_, rfl, K7.out⟩
            · have EC : Hid (cornL c ls = cornN ls q) := Lib.hid (by unfold cornL; rw [lastL_no (by rw [HN.out]; exact hc), List.append_nil, EN.out])
              have R : Hid (GivesK w (strokeL c ps wd cp) (.returned (.slice aol K capl)) vr) := Lib.hid ⟨_, rfl, by
                rw [ES.out, EC.out]
                exact HK2.out.on B1.out B1.out.size (Nat.le_refl _)⟩
              cases c
              case false =>
                go_wp2
                go_ret
                exact R.out
              case true =>
                have h2 : ¬ 2 ≤ n := fun h => hc ⟨rfl, h⟩
                have o5 : ¬ (2 : Int) ≤ n := by omega
                clear hc
                go_wp2
                go_ret
                exact R.out
end Go.Proofs.Ytopepgifhnfbiaa

namespace Go.Proofs.Ytopepgifhnfbiaa
open Go Go.RowKit
open M

def hf (x y : Int) : Int := wrap64 (bits .and .i64 x y + bits .xor .i64 x y / 2)
def hr (x y : Int) : Int := wrap64 (wrap64 (x / 2 + y / 2) + bits .and .i64 (bits .and .i64 x y) 1)
def hfP (p q : Pt) : Pt := ⟨hf p.x q.x, hf p.y q.y⟩
def hrP (p q : Pt) : Pt := ⟨hr p.x q.x, hr p.y q.y⟩
theorem hfP_eq {p q : Pt} (hp : Rg p) (hq : Rg q) : hfP p q = hvP p q := by
  unfold hfP hvP hf
  rw [half_bits hp.1 hq.1, half_bits hp.2 hq.2]
theorem hrP_eq {p q : Pt} (hp : Rg p) (hq : Rg q) : hrP p q = hvP p q := by
  unfold hrP hvP hr
  rw [half_ref hp.1 hq.1, half_ref hp.2 hq.2]
theorem r8_half (x y : Int) (w : World) : Calls Try.prog 68 #[.int .i64 x, .int .i64 y] w fun e w' => e = .returned (.int .i64 (hr x y)) ∧ w = w' := by
  go_enter Try.func68, Try.ntmps68
  go_wp2
  go_ret
  exact ⟨rfl, rfl⟩

set_option maxHeartbeats 1000000 in
theorem r8_Half (p q : Pt) (w : World) :
    Calls Try.prog 61 #[.agg (pCells p), .agg (pCells q)] w fun r w' => r = .returned (.agg (pCells (hrP p q))) ∧ Below w.heap.size w w' := by
  obtain ⟨x, y⟩ := p
  obtain ⟨x2, y2⟩ := q
  go_enter Try.func61, Try.ntmps61
  go_wp2
  refine wp_region_draws_tail 11 (by kernel_rfl) (by kernel_rfl) (by kernel_rfl) (by kernel_rfl) ?_
  simp only [List.take_succ_cons, List.take_zero, List.drop_succ_cons, List.drop_zero]
  repeat (go_big_quiet_step (first | (go_at_call 68; exact quiet1 (r8_half _ _ _))))
  refine wpQuiet_nil ?_
  rintro _ ⟨nq, rfl⟩
  obtain ⟨w1, hw1⟩ : ∃ w1, w.drewN nq = w1 := ⟨_, rfl⟩
  have hs : w.heap.size = w1.heap.size := by rw [← hw1]; rfl
  have hb : Below w.heap.size w w1 := by rw [← hw1]; exact below_drewN (Below.refl _ _) _
  change wpList _ _ _ _ _ ((((w.drewN nq).alloc _).alloc _).alloc _)
  rw [hw1]
  have HB := Lib.hid hb
  clear hb hw1
  go_wp2
  refine bodyPost_ret (v := .agg #[.int .i64 (hr x x2), .int .i64 (hr y y2)]) (by simp [results, Try.results61, go_sem, hs]) rfl ⟨rfl, ?_⟩
  repeat (first | exact HB.out | refine Below.alloc ?_ (by first | (simp [hs]; done) | (simp [hs]; omega)) _)

end Go.Proofs.Ytopepgifhnfbiaa

namespace Go.Proofs.Ytopepgifhnfbiaa
open Go Go.RowKit
open M

abbrev zp : Obj := .cells #[.int .i64 0, .int .i64 0] 28
/-- The list v of the call's own, of the places ps, has grown by rs. -/
def Hlv (w : World) (B : Nat) (v : Value) (ps rs : List Pt) (e : Ending) (w' : World) : Prop :=
  ∃ g cap N, e = .returned (.slice (some ⟨g, 0, none⟩) N cap) ∧ (ps ++ rs).length = N ∧ Pown w' B (.slice (some ⟨g, 0, none⟩) N cap) (ps ++ rs) ∧ w.grownBy w' v.ownBlock ∧ (v.ownBlock = some g ∨ w.heap.size ≤ g)
theorem grow_chain {w X w4 w5 : World} {r : Option Nat} {ga : Nat} (h1 : w.grownBy X none) (h2 : X.grownBy w4 r) (h3 : w4.grownBy w5 (some ga)) (hat : r = some ga ∨ X.heap.size ≤ ga) : w.grownBy w5 r :=
  ⟨h3.os.trans (h2.os.trans h1.os), h3.tape.trans (h2.tape.trans h1.tape), h3.output.trans (h2.output.trans h1.output), Nat.le_trans h1.size (Nat.le_trans h2.size h3.size), fun k hk hr => by
    have := h1.size
    have := h2.size
    refine (h3.block k (by omega) (fun e => ?_)).trans ((h2.block k (by omega) hr).trans (h1.block k hk (by simp)))
    rcases hat with h | h
    · exact hr (by rw [h]; exact e)
    · simp at e; omega⟩

theorem hset2 {W : World} {k : Nat} {t : TypeId} {a' b' : Value} (h : Has W k #[a', b'] t) (a b : Value) : Has ((W.setCell ⟨k, 0, none⟩ a).setCell ⟨k, 1, none⟩ b) k #[a, b] t := by
  have := has_set (has_set h 0 a) 1 b
  simpa using this
theorem hoff2 {W : World} {k k' : Nat} {t : TypeId} {cs : Array Value} (h : Has W k cs t) (hne : k' ≠ k) (a b : Value) : Has ((W.setCell ⟨k', 0, none⟩ a).setCell ⟨k', 1, none⟩ b) k cs t :=
  (heap_setCell_other _ ⟨k', _, none⟩ k _ (fun e => hne (by simpa using e.symm))).trans ((heap_setCell_other _ ⟨k', _, none⟩ k _ (fun e => hne (by simpa using e.symm))).trans h)
theorem below_set2 {W : World} {k B : Nat} (hk : B ≤ k) (a b : Value) : Below B W ((W.setCell ⟨k, 0, none⟩ a).setCell ⟨k, 1, none⟩ b) := ((Below.refl _ _).setCell hk _).setCell hk _
theorem put3 {w1 : World} {g0 g1 g2 B : Nat} {t : TypeId} {a0 b0 a1 b1 a2 b2 : Value} (k0 : Has w1 g0 #[a0, b0] t) (k1 : Has w1 g1 #[a1, b1] t) (k2 : Has w1 g2 #[a2, b2] t) (l0 : B ≤ g0) (l1 : B ≤ g1) (l2 : B ≤ g2) (n01 : g0 ≠ g1) (n02 : g0 ≠ g2) (n12 : g1 ≠ g2) (p q r : Pt) :
    ∃ V, (((((w1.setCell ⟨g0, 0, none⟩ (.int .i64 p.x)).setCell ⟨g0, 1, none⟩ (.int .i64 p.y)).setCell ⟨g1, 0, none⟩ (.int .i64 q.x)).setCell ⟨g1, 1, none⟩ (.int .i64 q.y)).setCell ⟨g2, 0, none⟩ (.int .i64 r.x)).setCell ⟨g2, 1, none⟩ (.int .i64 r.y) = V ∧ Has V g0 (pCells p) t ∧ Has V g1 (pCells q) t ∧ Has V g2 (pCells r) t ∧ Below B w1 V :=
  ⟨_, rfl, hoff2 (hoff2 (hset2 k0 _ _) (Ne.symm n01) _ _) (Ne.symm n02) _ _, hoff2 (hset2 (hoff2 k1 n01 _ _) _ _) (Ne.symm n12) _ _, hset2 (hoff2 (hoff2 k2 n02 _ _) n12 _ _) _ _, ((below_set2 l0 _ _).trans (below_set2 l1 _ _)).trans (below_set2 l2 _ _)⟩
theorem put2 {w1 : World} {g0 g1 B : Nat} {t : TypeId} {a0 b0 a1 b1 : Value} (k0 : Has w1 g0 #[a0, b0] t) (k1 : Has w1 g1 #[a1, b1] t) (l0 : B ≤ g0) (l1 : B ≤ g1) (n01 : g0 ≠ g1) (p q : Pt) :
    ∃ V, (((w1.setCell ⟨g0, 0, none⟩ (.int .i64 p.x)).setCell ⟨g0, 1, none⟩ (.int .i64 p.y)).setCell ⟨g1, 0, none⟩ (.int .i64 q.x)).setCell ⟨g1, 1, none⟩ (.int .i64 q.y) = V ∧ Has V g0 (pCells p) t ∧ Has V g1 (pCells q) t ∧ Below B w1 V :=
  ⟨_, rfl, hoff2 (hset2 k0 _ _) (Ne.symm n01) _ _, hset2 (hoff2 k1 n01 _ _) _ _, (below_set2 l0 _ _).trans (below_set2 l1 _ _)⟩

end Go.Proofs.Ytopepgifhnfbiaa

namespace Go.Proofs.Ytopepgifhnfbiaa
open Go Go.RowKit
open M

theorem make_room (w : World) : (Instr.makeSlice 29 (.int .i64 0) (.int .i64 8)).run Try.prog w = .ok (.slice (some ⟨w.heap.size, 0, none⟩) 0 8) (w.alloc (.cells (zer 8) 28)) := by
  obtain ⟨i0, hi, hz0, hz1, hz2⟩ := info_parts Try.infoPt
  have h := run_make (P := Try.prog) w 29 28 i0 _ Try.underlying29 hi hz0 .i64 .i64 0 8 (by omega) (by omega) (by rw [hz2]; decide) (by omega)
  rw [hz1] at h
  exact h
theorem own_room {w : World} {B : Nat} (hb : B ≤ w.heap.size) : Pown (w.alloc (.cells (zer 8) 28)) B (.slice (some ⟨w.heap.size, 0, none⟩) 0 8) [] :=
  ⟨rfl, Or.inr ⟨w.heap.size, 8, zer 8, rfl, hb, (MapKept.heap_alloc w _).1, by decide, by unfold maxLen; decide, by simp [zer, size_madeCells], rfl⟩⟩
theorem Ht.four {W w' : World} {ga gb gc gd : Nat} {a b c d : Pt} {t : TypeId} (h : Ht W w') (H0 : Has W ga (pCells a) t) (H1 : Has W gb (pCells b) t) (H2 : Has W gc (pCells c) t) (H3 : Has W gd (pCells d) t) :
    Ht W w' ∧ w'.cell? ⟨ga, 0, none⟩ = some (.int .i64 a.x) ∧ w'.cell? ⟨ga, 1, none⟩ = some (.int .i64 a.y) ∧ w'.cell? ⟨gb, 0, none⟩ = some (.int .i64 b.x) ∧ w'.cell? ⟨gb, 1, none⟩ = some (.int .i64 b.y) ∧ w'.cell? ⟨gc, 0, none⟩ = some (.int .i64 c.x) ∧ w'.cell? ⟨gc, 1, none⟩ = some (.int .i64 c.y) ∧ w'.cell? ⟨gd, 0, none⟩ = some (.int .i64 d.x) ∧ w'.cell? ⟨gd, 1, none⟩ = some (.int .i64 d.y) := by
  have K0 := H0.below h.below H0.lt
  have K1 := H1.below h.below H1.lt
  have K2 := H2.below h.below H2.lt
  have K3 := H3.below h.below H3.lt
  exact ⟨h, K0.cell 0 _ rfl, K0.cell 1 _ rfl, K1.cell 0 _ rfl, K1.cell 1 _ rfl, K2.cell 0 _ rfl, K2.cell 1 _ rfl, K3.cell 0 _ rfl, K3.cell 1 _ rfl⟩

theorem Ht.row {W X w4 : World} {n cap : Nat} (hbw : Below W.heap.size W X) (hg : X.grownBy w4 (Value.ownBlock (.slice (some ⟨W.heap.size, 0, none⟩) n cap))) : Ht W w4 :=
  ⟨hbw.grown hg hbw.size (fun k hk => by have hk' : some W.heap.size = some k := hk; simp at hk'; omega)⟩
/-- A list of places of the call's own. -/
def Lst (w : World) (rs : List Pt) (e : Ending) (w' : World) : Prop := ∃ g cap, e = .returned (.slice (some ⟨g, 0, none⟩) rs.length cap) ∧ Pown w' w.heap.size (.slice (some ⟨g, 0, none⟩) rs.length cap) rs ∧ Below w.heap.size w w'

end Go.Proofs.Ytopepgifhnfbiaa

namespace Go.Proofs.Ytopepgifhnfbiaa
open Go.RowKit
open M

theorem r8_near (x y : Int) (w : World) : Calls Try.prog 46 #[.agg #[.int .i64 x, .int .i64 y]] w fun e w' => e = .returned (.bool (nearP ⟨x, y⟩)) ∧ Below w.heap.size w w' := by
  by_cases h0 : -67108864 ≤ x
  · by_cases h1 : x ≤ 67108864
    · by_cases h2 : -67108864 ≤ y
      · by_cases h3 : y ≤ 67108864
        · rw [show nearP ⟨x, y⟩ = true by simp [nearP, nearN, h0, h1, h2, h3]]
          go_enter Try.func46, Try.ntmps46
          go_wp2
          go_ret
          exact ⟨rfl, (Below.refl _ _).alloc (Nat.le_refl _) _⟩
        · rw [show nearP ⟨x, y⟩ = false by simp [nearP, nearN, h3]]
          go_enter Try.func46, Try.ntmps46
          go_wp2
          go_ret
          exact ⟨rfl, (Below.refl _ _).alloc (Nat.le_refl _) _⟩
      · rw [show nearP ⟨x, y⟩ = false by simp [nearP, nearN, h2]]
        go_enter Try.func46, Try.ntmps46
        go_wp2
        go_ret
        exact ⟨rfl, (Below.refl _ _).alloc (Nat.le_refl _) _⟩
    · rw [show nearP ⟨x, y⟩ = false by simp [nearP, nearN, h1]]
      go_enter Try.func46, Try.ntmps46
      go_wp2
      go_ret
      exact ⟨rfl, (Below.refl _ _).alloc (Nat.le_refl _) _⟩
  · rw [show nearP ⟨x, y⟩ = false by simp [nearP, nearN, h0]]
    go_enter Try.func46, Try.ntmps46
    go_wp2
    go_ret
    exact ⟨rfl, (Below.refl _ _).alloc (Nat.le_refl _) _⟩

theorem okLen_cases (N : Nat) : (¬ 4 ≤ N ∧ okLen N = false) ∨ (4 ≤ N ∧ ¬ N ≤ 97 ∧ okLen N = false) ∨ (4 ≤ N ∧ N ≤ 97 ∧ ¬ N % 3 = 1 ∧ okLen N = false) ∨ (4 ≤ N ∧ N ≤ 97 ∧ N % 3 = 1 ∧ okLen N = true) := by
  by_cases h0 : 4 ≤ N
  · by_cases h1 : N ≤ 97
    · by_cases h2 : N % 3 = 1
      · exact Or.inr (Or.inr (Or.inr ⟨h0, h1, h2, by simp [okLen, h0, h1, h2]⟩))
      · exact Or.inr (Or.inr (Or.inl ⟨h0, h1, h2, by simp [okLen, h2]⟩))
    · exact Or.inr (Or.inl ⟨h0, h1, by simp [okLen, h1]⟩)
  · exact Or.inl ⟨h0, by simp [okLen, h0]⟩
set_option maxHeartbeats 1000000 in
theorem r8_right {v : Value} {ps : List Pt} {w : World} (c : Bool) (h : Psl w v ps) :
    Calls Try.prog 31 #[.agg #[.bool c, v]] w fun e w' => e = .returned (.bool (okP c ps)) ∧ Below w.heap.size w w' := by
  obtain ⟨B, hB⟩ : ∃ B, w.heap.size = B := ⟨_, rfl⟩
  obtain ⟨W, hW⟩ : ∃ W, w.alloc (.cells #[.bool c, v] 45) = W := ⟨_, rfl⟩
  have h0 : Has W B #[.bool c, v] 45 := by rw [← hW]; exact has_new hB
  have hb : Below B w W := by rw [← hW]; exact (Below.refl _ _).alloc (by omega) _
  have hs := h.below hb (by omega)
  obtain ⟨ao, cap, rfl, hf, _⟩ := h
  obtain ⟨N, hN⟩ : ∃ N, ps.length = N := ⟨_, rfl⟩
  rw [hN] at hf hs h0 hW ⊢
  have HN := Lib.hid hN
  have HB := Lib.hid hB
  have HW := Lib.hid hW
  have H0 := Lib.hid h0
  have HBW := Lib.hid hb
  have HS := Lib.hid hs
  have sW : B < W.heap.size := h0.lt
  clear hN hW h0 hb hs
  by_cases e : N = 0
  · subst e
    go_enter Try.func31, Try.ntmps31
    go_wp2
    go_ret
    exact ⟨by rw [okP_zero HN.out]; rfl, by rw [HW.out, HB.out]; exact HBW.out⟩
  · have o0 : ¬ (N : Int) = 0 := by omega
    have a1 := H0.out.cell 1 _ rfl
    have hw0 := eqz e
    have EP : Hid (okP c ps = (okLen N && nearL ps N)) := Lib.hid (by rw [okP_pos (by rw [HN.out]; exact e), HN.out])
    go_enter Try.func31, Try.ntmps31
    go_wp2
    rw [HW.out]
    clear hB a1
    go_loopw [4] (fun i wr => ∃ n : Nat, n ≤ N ∧ i = .int .i64 n ∧ nearL ps n = true ∧ Below W.heap.size W wr) (fun i _ => N - (intOf i).toNat)
    case atStart => exact ⟨0, by omega, rfl, rfl, Below.refl _ _⟩
    case round =>
      obtain ⟨n, hn, rfl, hst, hbd⟩ := hrel
      have HST := Lib.hid hst
      have HBD := Lib.hid hbd
      have BF : Hid (Below B w wr) := Lib.hid (HBW.out.trans (hbd.mono (by omega)))
      have sr : W.heap.size ≤ wr.heap.size := hbd.size
      clear hst
      by_cases hlt : n < N
      · have k0 := H0.out.below hbd H0.out.lt
        obtain ⟨g, o, rfl, r, l⟩ := (HS.out.below hbd (Nat.le_refl _)).row (by omega)
        have a1 := k0.cell 1 _ rfl
        have c0 := r.c0 n (by omega)
        have c1 := r.c1 n (by omega)
        obtain ⟨p, hp⟩ : ∃ p, pt ps n = p := ⟨_, rfl⟩
        rw [hp] at c0 c1
        have HP := Lib.hid hp
        have o1 : (n : Int) < N := by omega
        clear k0 r l hp hbd HS H0 HW
        obtain ⟨x, y⟩ := p
        simp only at c0 c1
        by_cases hx : nearP ⟨x, y⟩ = true
        · go_wp2_with fail
          refine (r8_near x y _).mono ?_
          rw [hx]
          rintro e w2 ⟨rfl, hq⟩
          have R := Lib.hid (HBD.out.trans (hq.mono sr))
          clear hq
          go_wp2
          go_roundw
          case rel => exact ⟨n + 1, by omega, by go_num, by unfold nearL; rw [HST.out, HP.out, hx]; rfl, R.out⟩
          case measure => simp [intOf]; omega
        · have hx' : nearP ⟨x, y⟩ = false := by simpa using hx
          have EH := Lib.hid (nearL_off hlt (by rw [HP.out]; exact hx'))
          clear hx
          go_wp2_with fail
          refine (r8_near x y _).mono ?_
          rw [hx']
          rintro e w2 ⟨rfl, hq⟩
          have R := Lib.hid (BF.out.trans (hq.mono (by omega)))
          clear hq
          go_wp2
          go_ret
          exact ⟨by rw [EP.out, EH.out]; simp, by rw [HB.out]; exact R.out⟩
      · obtain rfl : n = N := by omega
        have o1 : (n : Int) ≤ n := by omega
        clear hbd HS H0 HW
        rcases okLen_cases n with ⟨p0, p3⟩ | ⟨p0, p1, p3⟩ | ⟨p0, p1, p2, p3⟩ | ⟨p0, p1, p2, p3⟩
        · have o2 : (n : Int) < 4 := by omega
          have EL := Lib.hid p3
          clear p3
          go_wp2
          go_ret
          exact ⟨by rw [EP.out, HST.out, EL.out]; rfl, by rw [HB.out]; exact BF.out⟩
        · have o2 : (4 : Int) ≤ n := by omega
          have o3 : (97 : Int) < n := by omega
          have EL := Lib.hid p3
          clear p3
          go_wp2
          go_ret
          exact ⟨by rw [EP.out, HST.out, EL.out]; rfl, by rw [HB.out]; exact BF.out⟩
        · have o2 : (4 : Int) ≤ n := by omega
          have o3 : (n : Int) ≤ 97 := by omega
          have o4 : ((n : Int) % 3 == 1) = false := by simp; omega
          have EL := Lib.hid p3
          clear p3
          go_wp2
          go_ret
          exact ⟨by rw [EP.out, HST.out, EL.out]; first | rfl | exact ret_b (by simp; omega), by rw [HB.out]; exact BF.out⟩
        · have o2 : (4 : Int) ≤ n := by omega
          have o3 : (n : Int) ≤ 97 := by omega
          have o4 : (n : Int) % 3 = 1 := by omega
          have EL := Lib.hid p3
          clear p3
          go_wp2
          go_ret
          exact ⟨by rw [EP.out, HST.out, EL.out]; rfl, by rw [HB.out]; exact BF.out⟩

end Go.Proofs.Ytopepgifhnfbiaa

namespace Go.Proofs.Ytopepgifhnfbiaa
open Go.RowKit
open M

abbrev mCells (a b c d e f : Int) : Array Value := #[.int .i64 a, .int .i64 b, .int .i64 c, .int .i64 d, .int .i64 e, .int .i64 f]
theorem mapL_range (a b c d e f : Int) (ps : List Pt) : (List.range ps.length).map (fun i => applyP a b c d e f (pt ps i)) = mapL a b c d e f ps := by
  apply pts_ext (by simp [mapL])
  intro i hi
  have hi' : i < ps.length := by simpa using hi
  rw [pt_mapIdx _ hi']
  unfold mapL
  rw [pt_map _ hi']

end Go.Proofs.Ytopepgifhnfbiaa

namespace Go.Proofs.Ytopepgifhnfbiaa
namespace M

def turn (a : Int) : Int := a % 23592960
def hpP (x : Int) : Int := x * (11796480 - x) / 65536
def hpV (p : Int) : Int := 4 * p * 65536 / (2654208000 - p)
def hump (x : Int) : Int := hpV (hpP x)
def sin (a : Int) : Int := if turn a < 11796480 then hump (turn a) else -(hump (turn a - 11796480))
def cos (a : Int) : Int := sin (turn a + 5898240)

theorem turn_lo (a : Int) : 0 ≤ turn a := by unfold turn; omega
theorem turn_hi (a : Int) : turn a ≤ 23592959 := by unfold turn; omega
theorem turn_in {a : Int} (h0 : 0 ≤ a) (h1 : a ≤ 23592959) : turn a = a := by unfold turn; omega
theorem turn_tmod (a : Int) : (a.tmod 23592960 < 0 ∧ turn a = a.tmod 23592960 + 23592960) ∨ (¬ a.tmod 23592960 < 0 ∧ turn a = a.tmod 23592960) := by
  have e := Int.mul_tdiv_add_tmod a 23592960
  have l := tmod_lt a 23592960 (by decide)
  unfold turn
  generalize a.tmod 23592960 = r at *
  generalize a.tdiv 23592960 = t at *
  omega
theorem tmod_bd (a : Int) : -23592959 ≤ a.tmod 23592960 ∧ a.tmod 23592960 ≤ 23592959 := by
  have := tmod_lt a 23592960 (by decide); omega
theorem turn_twice (a : Int) : (a.tmod 23592960 + 23592960) % 23592960 = turn a := by
  have b := tmod_bd a
  rcases turn_tmod a with ⟨h, e⟩ | ⟨h, e⟩ <;> rw [e] <;> generalize a.tmod 23592960 = r at * <;> omega

theorem sq_gap (x : Int) : x * (11796480 - x) = 34789235097600 - (5898240 - x) * (5898240 - x) := by
  have e1 : x * (11796480 - x) = 11796480 * x - x * x := by rw [Int.mul_sub]; omega
  have e2 : (5898240 - x) * (5898240 - x) = 34789235097600 - 11796480 * x + x * x := by
    rw [Int.mul_sub, Int.sub_mul, Int.sub_mul]; omega
  omega
theorem prod_lo {x : Int} (h0 : 0 ≤ x) (h1 : x ≤ 11796480) : 0 ≤ x * (11796480 - x) := Int.mul_nonneg h0 (by omega)
theorem sq_pos (x : Int) : 0 ≤ x * x := by
  have := Int.natAbs_mul_self (a := x); omega
theorem prod_hi (x : Int) : x * (11796480 - x) ≤ 34789235097600 := by
  rw [sq_gap]; have := sq_pos (5898240 - x); omega
theorem hpP_lo {x : Int} (h0 : 0 ≤ x) (h1 : x ≤ 11796480) : 0 ≤ hpP x := by
  have := prod_lo h0 h1; unfold hpP; generalize x * (11796480 - x) = p at *; omega
theorem hpP_hi (x : Int) : hpP x ≤ 530841600 := by
  have := prod_hi x; unfold hpP; generalize x * (11796480 - x) = p at *; omega
theorem hpP_mirror (x : Int) : hpP (11796480 - x) = hpP x := by
  unfold hpP; rw [show (11796480 : Int) - (11796480 - x) = x by omega, Int.mul_comm]
theorem hpP_mono {x y : Int} (h : x ≤ y) (h1 : y ≤ 5898240) : hpP x ≤ hpP y := by
  have e : (5898240 - y) * (5898240 - y) ≤ (5898240 - x) * (5898240 - x) :=
    Int.mul_le_mul (by omega) (by omega) (by omega) (by omega)
  unfold hpP
  rw [sq_gap x, sq_gap y]
  generalize (5898240 - y) * (5898240 - y) = p at *
  generalize (5898240 - x) * (5898240 - x) = q at *
  omega
theorem div_mono {a b c d : Int} (ha : 0 ≤ a) (h : a ≤ b) (hd : 0 < d) (hc : d ≤ c) : a / c ≤ b / d := by
  apply Int.le_ediv_of_mul_le hd
  have q0 : 0 ≤ a / c := Int.ediv_nonneg ha (by omega)
  have l1 : a / c * d ≤ a / c * c := Int.mul_le_mul_of_nonneg_left hc q0
  have l2 : a / c * c ≤ a := Int.ediv_mul_le a (by omega)
  omega
theorem hpV_mono {p q : Int} (h0 : 0 ≤ p) (h : p ≤ q) (h1 : q ≤ 530841600) : hpV p ≤ hpV q := by
  unfold hpV; exact div_mono (by omega) (by omega) (by omega) (by omega)
theorem hump_mirror (x : Int) : hump (11796480 - x) = hump x := by unfold hump; rw [hpP_mirror]
theorem hump_mono {x y : Int} (h0 : 0 ≤ x) (h : x ≤ y) (h1 : y ≤ 5898240) : hump x ≤ hump y :=
  hpV_mono (hpP_lo h0 (by omega)) (hpP_mono h h1) (hpP_hi y)
theorem hump_lo {x : Int} (h0 : 0 ≤ x) (h1 : x ≤ 11796480) : 0 ≤ hump x := by
  have a := hpP_lo h0 h1
  have b := hpP_hi x
  unfold hump hpV; exact Int.ediv_nonneg (by omega) (by omega)
theorem hump_hi {x : Int} (h0 : 0 ≤ x) (h1 : x ≤ 11796480) : hump x ≤ 65536 := by
  have a := hpP_lo h0 h1
  have b := hpP_hi x
  have c := hpV_mono a b (by decide)
  have d : hpV 530841600 = 65536 := by decide
  unfold hump; omega
theorem hump_zero : hump 0 = 0 := by decide

theorem sin_up {a : Int} (h : turn a < 11796480) : sin a = hump (turn a) := if_pos h
theorem sin_down {a : Int} (h : ¬ turn a < 11796480) : sin a = -(hump (turn a - 11796480)) := if_neg h
theorem sin_bd (a : Int) : -65536 ≤ sin a ∧ sin a ≤ 65536 := by
  have l := turn_lo a; have g := turn_hi a
  by_cases h : turn a < 11796480
  · rw [sin_up h]; have := hump_lo (x := turn a) l (by omega); have := hump_hi (x := turn a) l (by omega); omega
  · rw [sin_down h]; have := hump_lo (x := turn a - 11796480) (by omega) (by omega); have := hump_hi (x := turn a - 11796480) (by omega) (by omega); omega
theorem cos_bd (a : Int) : -65536 ≤ cos a ∧ cos a ≤ 65536 := sin_bd _
theorem sin_round (x : Int) : sin (x + 23592960) = sin x := by
  have e : turn (x + 23592960) = turn x := by unfold turn; omega
  unfold sin; rw [e]
theorem cos_round (x : Int) : cos (x + 23592960) = cos x := by
  have e : turn (x + 23592960) = turn x := by unfold turn; omega
  unfold cos; rw [e]
theorem sin_half (x : Int) : sin (x + 11796480) = -(sin x) := by
  have l := turn_lo x; have g := turn_hi x
  by_cases h : turn x < 11796480
  · have e : turn (x + 11796480) = turn x + 11796480 := by unfold turn at *; omega
    rw [sin_up h, sin_down (by omega), e, show turn x + 11796480 - 11796480 = turn x by omega]
  · have e : turn (x + 11796480) = turn x - 11796480 := by unfold turn at *; omega
    rw [sin_down h, sin_up (by omega), e]; omega
theorem sin_in {x : Int} (h0 : 0 ≤ x) (h1 : x < 11796480) : sin x = hump x := by
  have e := turn_in h0 (by omega)
  rw [sin_up (by omega), e]
theorem sin_at_half : sin 11796480 = 0 := by decide
theorem sin_in' {x : Int} (h0 : 0 ≤ x) (h1 : x ≤ 11796480) : sin x = hump x := by
  rcases (by omega : x < 11796480 ∨ x = 11796480) with h | rfl
  · exact sin_in h0 h
  · decide
theorem hump_fall {x y : Int} (h0 : 5898240 ≤ x) (h : x ≤ y) (h1 : y ≤ 11796480) : hump y ≤ hump x := by
  rw [← hump_mirror x, ← hump_mirror y]; exact hump_mono (by omega) (by omega) (by omega)

/-- On each of 1,024 pieces of a quarter the squares' sum keeps its bounds, by the ends of the piece. -/
def near (k : Nat) : Bool :=
  decide (64881 * 65536 ≤ hump (5760 * (k : Int)) * hump (5760 * (k : Int)) + hump (5898240 - 5760 * ((k : Int) + 1)) * hump (5898240 - 5760 * ((k : Int) + 1)) ∧
    hump (5760 * ((k : Int) + 1)) * hump (5760 * ((k : Int) + 1)) + hump (5898240 - 5760 * (k : Int)) * hump (5898240 - 5760 * (k : Int)) < 66191 * 65536)
theorem near_all : ∀ k, k < 1024 → near k = true := by
  have h : (List.range 1024).all near = true := by decide +kernel
  intro k hk
  exact List.all_eq_true.mp h k (List.mem_range.mpr hk)
theorem sq_mono {a b : Int} (h0 : 0 ≤ a) (h : a ≤ b) : a * a ≤ b * b := Int.mul_le_mul h h h0 (by omega)
theorem quarter_near {x : Int} (h0 : 0 ≤ x) (h1 : x < 5898240) :
    64881 * 65536 ≤ hump x * hump x + hump (5898240 - x) * hump (5898240 - x) ∧ hump x * hump x + hump (5898240 - x) * hump (5898240 - x) < 66191 * 65536 := by
  obtain ⟨k, hk⟩ : ∃ k : Nat, (k : Int) = x / 5760 := ⟨(x / 5760).toNat, by omega⟩
  have n := of_decide_eq_true (near_all k (by omega))
  have b1 : 5760 * (k : Int) ≤ x := by omega
  have b2 : x ≤ 5760 * ((k : Int) + 1) := by omega
  have b3 : 5760 * ((k : Int) + 1) ≤ 5898240 := by omega
  have b4 : 0 ≤ (k : Int) := by omega
  generalize (k : Int) = m at *
  have s1 := sq_mono (hump_lo (x := 5760 * m) (by omega) (by omega)) (hump_mono (x := 5760 * m) (y := x) (by omega) b1 (by omega))
  have s2 := sq_mono (hump_lo (x := x) (by omega) (by omega)) (hump_mono (x := x) (y := 5760 * (m + 1)) (by omega) b2 (by omega))
  have s3 := sq_mono (hump_lo (x := 5898240 - 5760 * (m + 1)) (by omega) (by omega)) (hump_mono (x := 5898240 - 5760 * (m + 1)) (y := 5898240 - x) (by omega) (by omega) (by omega))
  have s4 := sq_mono (hump_lo (x := 5898240 - x) (by omega) (by omega)) (hump_mono (x := 5898240 - x) (y := 5898240 - 5760 * m) (by omega) (by omega) (by omega))
  generalize hump x * hump x = p at *
  generalize hump (5898240 - x) * hump (5898240 - x) = q at *
  generalize hump (5760 * m) * hump (5760 * m) = p1 at *
  generalize hump (5760 * (m + 1)) * hump (5760 * (m + 1)) = p2 at *
  generalize hump (5898240 - 5760 * (m + 1)) * hump (5898240 - 5760 * (m + 1)) = q1 at *
  generalize hump (5898240 - 5760 * m) * hump (5898240 - 5760 * m) = q2 at *
  omega
theorem sq_neg (x : Int) : (-x) * (-x) = x * x := Int.neg_mul_neg x x
/-- The quarter's two numbers, for any angle: where it lies in its quarter, sine and cosine are the humps, but for signs and which is which. -/
theorem squares_near (a : Int) : 64881 * 65536 ≤ sin a * sin a + cos a * cos a ∧ sin a * sin a + cos a * cos a < 66191 * 65536 := by
  have l := turn_lo a; have g := turn_hi a
  unfold cos
  have es : sin a = sin (turn a) := by
    have e : turn (turn a) = turn a := turn_in l g
    unfold sin; rw [e]
  rw [es]
  generalize turn a = x at *
  rcases (by omega : x < 5898240 ∨ (5898240 ≤ x ∧ x < 11796480) ∨ (11796480 ≤ x ∧ x < 17694720) ∨ 17694720 ≤ x) with h | h | h | h
  · have c : sin (x + 5898240) = hump (5898240 - x) := by
      rw [sin_in (by omega) (by omega), ← hump_mirror]; congr 1; omega
    rw [sin_in l (by omega), c]
    exact quarter_near l h
  · have c : sin (x + 5898240) = -(hump (x - 5898240)) := by
      rw [show x + 5898240 = (x - 5898240) + 11796480 by omega, sin_half, sin_in (by omega) (by omega)]
    have s : sin x = hump (5898240 - (x - 5898240)) := by
      rw [sin_in l (by omega), ← hump_mirror]; congr 1; omega
    rw [c, s, sq_neg, Int.add_comm]
    exact quarter_near (by omega) (by omega)
  · have c : sin (x + 5898240) = -(hump (5898240 - (x - 11796480))) := by
      rw [show x + 5898240 = (x - 5898240) + 11796480 by omega, sin_half, sin_in (by omega) (by omega), ← hump_mirror]; congr 2; omega
    have s : sin x = -(hump (x - 11796480)) := by
      conv => lhs; rw [show x = (x - 11796480) + 11796480 by omega]
      rw [sin_half, sin_in (by omega) (by omega)]
    rw [c, s, sq_neg, sq_neg]
    exact quarter_near (by omega) (by omega)
  · have c : sin (x + 5898240) = hump (x - 17694720) := by
      rw [show x + 5898240 = (x - 17694720) + 23592960 by omega, sin_round, sin_in (by omega) (by omega)]
    have s : sin x = -(hump (5898240 - (x - 17694720))) := by
      conv => lhs; rw [show x = (x - 11796480) + 11796480 by omega]
      rw [sin_half, sin_in (by omega) (by omega), ← hump_mirror]; congr 2; omega
    rw [c, s, sq_neg, Int.add_comm]
    exact quarter_near (by omega) (by omega)

end M
end Go.Proofs.Ytopepgifhnfbiaa

namespace Go.Proofs.Ytopepgifhnfbiaa
open Go.RowKit
open M

theorem hump_q {x : Int} (h0 : 0 ≤ x) (h1 : x ≤ 11796480) : mul x (11796480 - x) = hpP x := by
  have a := hpP_lo h0 h1; have b := hpP_hi x
  unfold mul; rw [hold_in (a := x) (by omega) (by omega), hold_in (a := 11796480 - x) (by omega) (by omega)]
  unfold hpP at *
  exact hold_in (by omega) (by omega)
theorem hump_dv {p : Int} (h0 : 0 ≤ p) (h1 : p ≤ 530841600) : dv (4 * p) (2654208000 - p) = hpV p := by
  have m := hpV_mono h0 h1 (by decide)
  have d : hpV 530841600 = 65536 := by decide
  have l : 0 ≤ hpV p := by unfold hpV; exact Int.ediv_nonneg (by omega) (by omega)
  unfold dv
  rw [hold_in (a := 4 * p) (by omega) (by omega), hold_in (a := 2654208000 - p) (by omega) (by omega), if_neg (by omega)]
  unfold flo
  rw [if_pos (by omega)]
  exact hold_in (by unfold hpV at l; omega) (by unfold hpV at m d; omega)


end Go.Proofs.Ytopepgifhnfbiaa

namespace Go.Proofs.Ytopepgifhnfbiaa
open Go.RowKit
open M

theorem tdiv_p {x : Int} (h0 : 0 ≤ x) (h1 : x ≤ 11796480) : (x * (11796480 - x)).tdiv 65536 = hpP x := Int.tdiv_eq_ediv_of_nonneg (prod_lo h0 h1)
theorem tdiv_v {p : Int} (h0 : 0 ≤ p) : (4 * p * 65536).tdiv (2654208000 - p) = hpV p := Int.tdiv_eq_ediv_of_nonneg (by omega)

end Go.Proofs.Ytopepgifhnfbiaa

namespace Go.Proofs.Ytopepgifhnfbiaa
open Go.RowKit
open M

theorem add_none (p q : Int) : add (add p q) 0 = add p q := by
  have l := hold_lo (hold p + hold q); have g := hold_hi (hold p + hold q)
  show hold (hold (add p q) + hold 0) = add p q
  rw [show hold (add p q) = add p q from hold_hold _, show hold 0 = 0 by decide, Int.add_zero]
  exact hold_hold _
end Go.Proofs.Ytopepgifhnfbiaa

namespace Go.Proofs.Ytopepgifhnfbiaa
open Go.RowKit
open M

theorem below_drawn {P : Program} {f : FuncId} {args : Array Value} {w : World} {v : Value} (h : Calls P f args w (Drawn v w)) :
    Calls P f args w fun e w' => e = .returned v ∧ Below w.heap.size w w' := h.mono fun _ _ ⟨a, n, b⟩ => ⟨a, by rw [b]; exact below_drewN (Below.refl _ _) _⟩

theorem okE_and (x1 y1 x2 y2 : Int) : okE x1 y1 x2 y2 = ((okT x1 && okT x2) && (okV y1 && okV y2)) := by unfold okE; rw [Bool.and_assoc]
end Go.Proofs.Ytopepgifhnfbiaa

namespace Go.Proofs.Ytopepgifhnfbiaa
open Go.RowKit
open M

/-- A list of places that grows: in blocks from 'base' on. -/
theorem wp_append_one {W : World} {base : Nat} {l : Value} {rs : List Pt} {o : Oper} {a : Act} {K : Act → World → Prop} {Q : Exit → Act → World → Prop} (s x : Operand)
    (ho : o.op = .call { callee := .builtin .append, args := #[s, x], argTypes := #[29, 29] }) (N : Nat) (hN : rs.length = N) (hf : N < 8796093022208) (hs : a.eval s = l) (H : Nat) (hx : a.eval x = .slice (some ⟨H, 0, none⟩) 1 1)
    (p : Pt) (cs : Array Value) (hn : Has W H cs 28) (hcs : cs.toList = pl p) (hT : Pown W base l rs) (hb : base ≤ W.heap.size)
    (h : ∀ g' cap' w', Pown w' base (.slice (some ⟨g', 0, none⟩) (N + 1) cap') (rs ++ [p]) → W.grownBy w' l.ownBlock → K (a.put o.dst (.slice (some ⟨g', 0, none⟩) (N + 1) cap')) w') : o.wp Try.prog a W K Q := by
  obtain ⟨i0, hi, hz0, hz1, hz2⟩ := info_parts Try.infoPt
  subst hN
  refine wp_append_lies W s x 29 ho base 28 i0 _ 2 16 Try.underlying29 hi hz0 hz1 hz2 rfl (by decide) l rs.length (pls rs) hs hT ⟨H, 0, none⟩ 1 1 (pl p) hx rfl ?_ (by have := ones_pls [p]; simpa [pls] using this) (by decide) (by unfold maxLen; omega) (by omega) hb _ rfl ?_
  · intro j u hu
    rw [Addr.add_lit, Nat.zero_add]
    refine hn.cell j u ?_
    rw [← hcs] at hu
    simpa using hu
  intro g' cap' w' hown' hg _ _
  refine h g' cap' w' ?_ hg
  unfold Pown
  rw [List.length_append, pls_append]
  have e : pls [p] = pl p := by simp [pls]
  rw [e]
  exact hown'
theorem wpList_append_one {W : World} {base : Nat} {l : Value} {rs : List Pt} {ops : Array Oper} {rest : List Oper} {o : Oper} {a : Act} {Q : Exit → Act → World → Prop} (hgd : o.guard = none) (s x : Operand)
    (ho : o.op = .call { callee := .builtin .append, args := #[s, x], argTypes := #[29, 29] }) (N : Nat) (hN : rs.length = N) (hf : N < 8796093022208) (hs : a.eval s = l) (H : Nat) (hx : a.eval x = .slice (some ⟨H, 0, none⟩) 1 1)
    (p : Pt) (cs : Array Value) (hn : Has W H cs 28) (hcs : cs.toList = pl p) (hT : Pown W base l rs) (hb : base ≤ W.heap.size)
    (h : ∀ g' cap' w', Pown w' base (.slice (some ⟨g', 0, none⟩) (N + 1) cap') (rs ++ [p]) → W.grownBy w' l.ownBlock → wpList Try.prog ops Q rest (a.put o.dst (.slice (some ⟨g', 0, none⟩) (N + 1) cap')) w') : wpList Try.prog ops Q (o :: rest) a W :=
  wpList_plain hgd fun _ hK => wp_append_one s x ho N hN hf hs H hx p cs hn hcs hT hb fun g' cap' w' h1 h2 => hK _ _ (h g' cap' w' h1 h2)
theorem step_append_one {W : World} {base : Nat} {l : Value} {rs : List Pt} {ops : Array Oper} {o : Oper} {a : Act} {K : Act → World → Prop} {Q : Exit → Act → World → Prop} {E : Prop} (hw : Region.wanted o (yielded ops a.tmps) = true) (s x : Operand)
    (ho : o.op = .call { callee := .builtin .append, args := #[s, x], argTypes := #[29, 29] }) (N : Nat) (hN : rs.length = N) (hf : N < 8796093022208) (hs : a.eval s = l) (H : Nat) (hx : a.eval x = .slice (some ⟨H, 0, none⟩) 1 1)
    (p : Pt) (cs : Array Value) (hn : Has W H cs 28) (hcs : cs.toList = pl p) (hT : Pown W base l rs) (hb : base ≤ W.heap.size)
    (h : ∀ g' cap' w', Pown w' base (.slice (some ⟨g', 0, none⟩) (N + 1) cap') (rs ++ [p]) → W.grownBy w' l.ownBlock → K (a.put o.dst (.slice (some ⟨g', 0, none⟩) (N + 1) cap')) w') :
    if Region.wanted o (yielded ops a.tmps) = true then Oper.wp Try.prog o a W K Q else E := by
  rw [if_pos hw]
  exact wp_append_one s x ho N hN hf hs H hx p cs hn hcs hT hb h
theorem pts_snoc {rs qs : List Pt} {n : Nat} (hl : rs.length = n) (h : ∀ j, j < n → pt rs j = pt qs j) : ∀ j, j < n + 1 → pt (rs ++ [pt qs n]) j = pt qs j := by
  intro j hj
  by_cases e : j < n
  · rw [pt_left (by omega)]; exact h j e
  · obtain rfl : j = n := by omega
    subst hl
    exact pt_last _ _

/-- A path that grows place by place: in block go, its list in blocks behind it. -/
structure Rpa (w1 : World) (go : Nat) (c : Bool) (n : Nat) (qs : List Pt) (l : Value) (wr : World) : Prop where
  own : ∃ rs, rs.length = n ∧ (∀ j, j < n → pt rs j = pt qs j) ∧ Pown wr (go + 1) l rs
  out : Has wr go #[.bool c, l] 45
  below : Below w1.heap.size w1 wr
  hgo : w1.heap.size = go
theorem Rpa.call {w1 wr w' : World} {go n : Nat} {c : Bool} {qs : List Pt} {l : Value} (h : Rpa w1 go c n qs l wr) (hq : Below wr.heap.size wr w') : Rpa w1 go c n qs l w' := by
  obtain ⟨rs, h1, h2, h3⟩ := h.own
  exact ⟨⟨rs, h1, h2, h3.below hq (Nat.le_refl _)⟩, h.out.below hq h.out.lt, h.below.trans (hq.mono h.below.size), h.hgo⟩
theorem Rpa.len {w1 wr : World} {go n : Nat} {c : Bool} {qs : List Pt} {l : Value} (h : Rpa w1 go c n qs l wr) : ∃ ao cap, l = .slice ao n cap := by
  obtain ⟨rs, h1, h2, h3⟩ := h.own
  subst h1
  exact h3.len
theorem Rpa.snoc {w1 W w' : World} {go n g' cap' : Nat} {c : Bool} {qs rs : List Pt} {l : Value} (h : Rpa w1 go c n qs l W) (h1 : rs.length = n) (h2 : ∀ j, j < n → pt rs j = pt qs j) (h3 : Pown W (go + 1) l rs)
    (ho : Pown w' (go + 1) (.slice (some ⟨g', 0, none⟩) (n + 1) cap') (rs ++ [pt qs n])) (hg : W.grownBy w' l.ownBlock) : Rpa w1 go c (n + 1) qs (.slice (some ⟨g', 0, none⟩) (n + 1) cap') (w'.setCell ⟨go, 1, none⟩ (.slice (some ⟨g', 0, none⟩) (n + 1) cap')) := by
  have hne : l.ownBlock ≠ some go := fun e => by have := (h3.base go e).1; omega
  have hk : Has w' go #[.bool c, l] 45 := (hg.block go h.out.lt (fun e => hne e.symm)).trans h.out
  have hb := h.hgo
  have hs := h.below.size
  refine ⟨⟨_, by simp [h1], pts_snoc h1 h2, ?_⟩, ?_, ?_, h.hgo⟩
  · exact ho.kept (grownBy_set (World.grownBy.refl _ _) _ _) (fun k hk e => by simp at hk; have := (ho.base k e).1; omega)
  · have := has_set hk 1 (.slice (some ⟨g', 0, none⟩) (n + 1) cap')
    simpa using this
  · exact (h.below.grown hg (by omega) (fun k e => by have := (h3.base k e).1; omega)).setCell (Nat.le_of_eq h.hgo) _
theorem Rpa.fine {w1 W w' : World} {go n : Nat} {c : Bool} {qs rs : List Pt} {l : Value} (h : Rpa w1 go c n qs l W) (h3 : Pown W (go + 1) l rs) (hg : W.grownBy w' l.ownBlock) : w'.cell? ⟨go, 1, none⟩ = some l ∧ w'.frozen? ⟨go, 1, none⟩ = false := by
  have hne : l.ownBlock ≠ some go := fun e => by have := (h3.base go e).1; omega
  have hk : Has w' go #[.bool c, l] 45 := (hg.block go h.out.lt (fun e => hne e.symm)).trans h.out
  exact ⟨hk.cell 1 _ rfl, has_fro hk 1⟩

theorem Rpa.set {w1 w0 wr : World} {go n : Nat} {c : Bool} {qs : List Pt} {l : Value} (h0 : Rpa w1 go c n qs l w0) (h : Rpa w1 go c n qs l wr) {k : Nat} (hk : w0.heap.size ≤ k) (j : Nat) (u : Value) : Rpa w1 go c n qs l (wr.setCell ⟨k, j, none⟩ u) := by
  obtain ⟨rs0, _, _, o0⟩ := h0.own
  obtain ⟨rs, h1, h2, h3⟩ := h.own
  have hs : wr.grownBy (wr.setCell ⟨k, j, none⟩ u) (some k) := grownBy_set (World.grownBy.refl _ _) _ _
  have a1 := h0.out.lt
  have a2 := h.hgo
  exact ⟨⟨rs, h1, h2, h3.kept hs (fun i hi e => by simp at hi; have := (o0.base i e).2; omega)⟩, has_grown h.out hs (by omega), h.below.setCell (by show w1.heap.size ≤ k; omega) _, h.hgo⟩
theorem Rpa.alloc {w1 wr : World} {go n : Nat} {c : Bool} {qs : List Pt} {l : Value} (h : Rpa w1 go c n qs l wr) (o : Obj) : Rpa w1 go c n qs l (wr.alloc o) := h.call ((Below.refl _ _).alloc (Nat.le_refl _) _)

end Go.Proofs.Ytopepgifhnfbiaa

namespace Go.Proofs.Ytopepgifhnfbiaa
open Go Go.RowKit
open M

/-- Seven places in a later world. -/
theorem Ht.seven {W w' : World} {g1 g2 g3 g4 g5 g6 g7 : Nat} {p1 p2 p3 p4 p5 p6 p7 : Pt} {t : TypeId} (h : Ht W w') (H1 : Has W g1 (pCells p1) t) (H2 : Has W g2 (pCells p2) t) (H3 : Has W g3 (pCells p3) t) (H4 : Has W g4 (pCells p4) t) (H5 : Has W g5 (pCells p5) t) (H6 : Has W g6 (pCells p6) t) (H7 : Has W g7 (pCells p7) t) :
    Ht W w' ∧ w'.cell? ⟨g1, 0, none⟩ = some (.int .i64 p1.x) ∧ w'.cell? ⟨g1, 1, none⟩ = some (.int .i64 p1.y) ∧ w'.cell? ⟨g2, 0, none⟩ = some (.int .i64 p2.x) ∧ w'.cell? ⟨g2, 1, none⟩ = some (.int .i64 p2.y) ∧ w'.cell? ⟨g3, 0, none⟩ = some (.int .i64 p3.x) ∧ w'.cell? ⟨g3, 1, none⟩ = some (.int .i64 p3.y) ∧ w'.cell? ⟨g4, 0, none⟩ = some (.int .i64 p4.x) ∧ w'.cell? ⟨g4, 1, none⟩ = some (.int .i64 p4.y) ∧ w'.cell? ⟨g5, 0, none⟩ = some (.int .i64 p5.x) ∧ w'.cell? ⟨g5, 1, none⟩ = some (.int .i64 p5.y) ∧ w'.cell? ⟨g6, 0, none⟩ = some (.int .i64 p6.x) ∧ w'.cell? ⟨g6, 1, none⟩ = some (.int .i64 p6.y) ∧ w'.cell? ⟨g7, 0, none⟩ = some (.int .i64 p7.x) ∧ w'.cell? ⟨g7, 1, none⟩ = some (.int .i64 p7.y) := by
  have K1 := H1.below h.below H1.lt
  have K2 := H2.below h.below H2.lt
  have K3 := H3.below h.below H3.lt
  have K4 := H4.below h.below H4.lt
  have K5 := H5.below h.below H5.lt
  have K6 := H6.below h.below H6.lt
  have K7 := H7.below h.below H7.lt
  exact ⟨h, K1.cell 0 _ rfl, K1.cell 1 _ rfl, K2.cell 0 _ rfl, K2.cell 1 _ rfl, K3.cell 0 _ rfl, K3.cell 1 _ rfl, K4.cell 0 _ rfl, K4.cell 1 _ rfl, K5.cell 0 _ rfl, K5.cell 1 _ rfl, K6.cell 0 _ rfl, K6.cell 1 _ rfl, K7.cell 0 _ rfl, K7.cell 1 _ rfl⟩
theorem Ht.grownR {W w' w'' : World} {row : Option Nat} (h : Ht W w') (hg : w'.grownBy w'' row) (hr : ∀ k, row = some k → W.heap.size ≤ k) : Ht W w'' := ⟨h.below.grown hg h.below.size hr⟩

/-- A list of places of the call's own, n of them. -/
def Lsn (w : World) (n : Nat) (rs : List Pt) (e : Ending) (w' : World) : Prop := ∃ g cap, e = .returned (.slice (some ⟨g, 0, none⟩) n cap) ∧ rs.length = n ∧ Pown w' w.heap.size (.slice (some ⟨g, 0, none⟩) n cap) rs ∧ Below w.heap.size w w'

set_option maxRecDepth 100000 in
set_option maxHeartbeats 2000000 in
theorem r8_bend : ∀ (n : Nat) (a b c d : Pt) (w : World), n ≤ 3 → Rg a → Rg b → Rg c → Rg d →
    Calls Try.prog 47 #[.agg (pCells a), .agg (pCells b), .agg (pCells c), .agg (pCells d), .int .i64 (n : Int)] w (Lsn w (2 ^ n) (bendL n a b c d))
  | 0, a, b, c, d, w, hn, ha, hb, hc, hd => by
    obtain ⟨S, hS⟩ : ∃ S, w.heap.size = S := ⟨_, rfl⟩
    obtain ⟨W, hW⟩ : ∃ W, (((w.alloc (.cells (pCells a) 28)).alloc (.cells (pCells b) 28)).alloc (.cells (pCells c) 28)).alloc (.cells (pCells d) 28) = W := ⟨_, rfl⟩
    have bW : Below S w W := by rw [← hW]; exact ((((Below.refl _ _).alloc (by omega) _).alloc (by simp; omega) _).alloc (by simp; omega) _).alloc (by simp; omega) _
    have kd : Has W (S + 1 + 1 + 1) (pCells d) 28 := by rw [← hW]; exact has_new (by simp [hS])
    have d0 := kd.cell 0 _ rfl
    have d1 := kd.cell 1 _ rfl
    have RR : Lsn w 1 (bendL 0 a b c d) (.returned (.slice (some ⟨W.heap.size, 0, none⟩) 1 1)) (W.alloc (.cells (pCells d) 28)) := by
      have q := bW.size
      refine ⟨_, 1, rfl, rfl, World.ownsRow_lit W (pCells d) 1 (by omega) (by unfold maxLen; omega) rfl, ?_⟩
      rw [hS]
      exact bW.alloc (by omega) _
    have RRH := Lib.hid RR
    have HW := Lib.hid hW
    clear bW hW kd RR
    go_enter Try.func47, Try.ntmps47
    go_upto_region 2 with fail
    rw [HW.out]
    clear hS
    go_wp2
    go_ret
    exact RRH.out
  | n + 1, a, b, c, d, w, hn, ha, hb, hc, hd => by
    obtain ⟨S, hS⟩ : ∃ S, w.heap.size = S := ⟨_, rfl⟩
    obtain ⟨W, hW⟩ : ∃ W, (((w.alloc (.cells (pCells a) 28)).alloc (.cells (pCells b) 28)).alloc (.cells (pCells c) 28)).alloc (.cells (pCells d) 28) = W := ⟨_, rfl⟩
    have bW : Below S w W := by rw [← hW]; exact ((((Below.refl _ _).alloc (by omega) _).alloc (by simp; omega) _).alloc (by simp; omega) _).alloc (by simp; omega) _
    have ka : Has W S (pCells a) 28 := by rw [← hW]; exact (((has_new hS).alloc _).alloc _).alloc _
    have kb : Has W (S + 1) (pCells b) 28 := by rw [← hW]; exact ((has_new (by simp [hS])).alloc _).alloc _
    have kc : Has W (S + 1 + 1) (pCells c) 28 := by rw [← hW]; exact (has_new (by simp [hS])).alloc _
    have kd : Has W (S + 1 + 1 + 1) (pCells d) 28 := by rw [← hW]; exact has_new (by simp [hS])
    have KA := Lib.hid ka
    have KB := Lib.hid kb
    have KC := Lib.hid kc
    have KD := Lib.hid kd
    have BW := Lib.hid bW
    have HW := Lib.hid hW
    have HS := Lib.hid hS
    have o1 : ¬ ((n : Int) + 1 = 0) := by omega
    clear bW hW ka kb kc kd
    go_enter Try.func47, Try.ntmps47
    go_wp2_with fail
    rw [HW.out]
    clear hS
    refine wp_region_make3 9 zp zp zp (by kernel_rfl) (by kernel_rfl) (by kernel_rfl) ⟨_, rfl, fun x w => by simp [go_sem, ptr]⟩ ⟨_, rfl, fun x w => by simp [go_sem, ptr]⟩ ⟨_, rfl, fun x w => by simp [go_sem, ptr]⟩ ?_
    apply Exists.intro
    refine ⟨fun R hR hN => ?_, ?_⟩
    · have a0 := fun z => LaterR.read (R := R) KA.out 0 _ rfl z
      have a1 := fun z => LaterR.read (R := R) KA.out 1 _ rfl z
      have b0 := fun z => LaterR.read (R := R) KB.out 0 _ rfl z
      have b1 := fun z => LaterR.read (R := R) KB.out 1 _ rfl z
      have c0 := fun z => LaterR.read (R := R) KC.out 0 _ rfl z
      have c1 := fun z => LaterR.read (R := R) KC.out 1 _ rfl z
      have d0 := fun z => LaterR.read (R := R) KD.out 0 _ rfl z
      have d1 := fun z => LaterR.read (R := R) KD.out 1 _ rfl z
      simp only [List.take_succ_cons, List.take_zero]
      repeat (go_big_quiet_step (first | (go_at_call 61; exact LaterR.calls hR (r8_Half _ _ _))))
      exact wpQuiet_nil rfl
    · intro g0 g1 g2 w1 hb1 h0 h1 h2 l0 l1 l2 n01 n02 n12
      have k0 : Has w1 g0 #[.int .i64 0, .int .i64 0] 28 := h0
      have k1 : Has w1 g1 #[.int .i64 0, .int .i64 0] 28 := h1
      have k2 : Has w1 g2 #[.int .i64 0, .int .i64 0] 28 := h2
      clear h0 h1 h2
      simp only [List.drop_succ_cons, List.drop_zero]
      have c00 := k0.cell 0 _ rfl
      have c01 := k0.cell 1 _ rfl
      have c10 := k1.cell 0 _ rfl
      have c11 := k1.cell 1 _ rfl
      have c20 := k2.cell 0 _ rfl
      have c21 := k2.cell 1 _ rfl
      have f0 := has_fro k0
      have f1 := has_fro k1
      have f2 := has_fro k2
      have HB1 := Lib.hid hb1
      have K0 := Lib.hid k0
      have K1 := Lib.hid k1
      have K2 := Lib.hid k2
      clear hb1 k0 k1 k2
      obtain ⟨ab, hab⟩ : ∃ p, hvP a b = p := ⟨_, rfl⟩
      obtain ⟨bc, hbc⟩ : ∃ p, hvP b c = p := ⟨_, rfl⟩
      obtain ⟨cd, hcd⟩ : ∃ p, hvP c d = p := ⟨_, rfl⟩
      have e1 : hrP a b = ab := (hrP_eq ha hb).trans hab
      have e2 : hrP b c = bc := (hrP_eq hb hc).trans hbc
      have e3 : hrP c d = cd := (hrP_eq hc hd).trans hcd
      rw [e1, e2, e3]
      have rab : Rg ab := hab ▸ ha.hv hb
      have rbc : Rg bc := hbc ▸ hb.hv hc
      have rcd : Rg cd := hcd ▸ hc.hv hd
      have EAB := Lib.hid (And.intro hab (And.intro hbc hcd))
      clear e1 e2 e3 hab hbc hcd
      go_upto_region 4 with fail
      clear c00 c01 c10 c11 c20 c21 f0 f1 f2
      obtain ⟨V, hV, v0, v1, v2, bV⟩ := put3 K0.out K1.out K2.out l0 l1 l2 n01 n02 n12 ab bc cd
      rw [hV]
      have BV := Lib.hid (HB1.out.trans bV)
      have V0 := Lib.hid v0
      have V1 := Lib.hid v1
      have V2 := Lib.hid v2
      have sV : Hid (W.heap.size ≤ V.heap.size) := Lib.hid BV.out.size
      clear hV v0 v1 v2 bV K0 K1 K2 HB1
      refine wp_region_make2 6 zp zp (by kernel_rfl) (by kernel_rfl) (by kernel_rfl) ⟨_, rfl, fun x w => by simp [go_sem, ptr]⟩ ⟨_, rfl, fun x w => by simp [go_sem, ptr]⟩ ?_
      apply Exists.intro
      refine ⟨fun R hR hN => ?_, ?_⟩
      · have a0 := fun z => LaterR.read (R := R) V0.out 0 _ rfl z
        have a1 := fun z => LaterR.read (R := R) V0.out 1 _ rfl z
        have b0 := fun z => LaterR.read (R := R) V1.out 0 _ rfl z
        have b1 := fun z => LaterR.read (R := R) V1.out 1 _ rfl z
        have c0 := fun z => LaterR.read (R := R) V2.out 0 _ rfl z
        have c1 := fun z => LaterR.read (R := R) V2.out 1 _ rfl z
        simp only [List.take_succ_cons, List.take_zero]
        repeat (go_big_quiet_step (first | (go_at_call 61; exact LaterR.calls hR (r8_Half _ _ _))))
        exact wpQuiet_nil rfl
      · intro g3 g4 w2 hb2 h3 h4 l3 l4 n34
        have k3 : Has w2 g3 #[.int .i64 0, .int .i64 0] 28 := h3
        have k4 : Has w2 g4 #[.int .i64 0, .int .i64 0] 28 := h4
        clear h3 h4
        simp only [List.drop_succ_cons, List.drop_zero]
        have c00 := k3.cell 0 _ rfl
        have c01 := k3.cell 1 _ rfl
        have c10 := k4.cell 0 _ rfl
        have c11 := k4.cell 1 _ rfl
        have f0 := has_fro k3
        have f1 := has_fro k4
        have HB2 := Lib.hid hb2
        have K3 := Lib.hid k3
        have K4 := Lib.hid k4
        clear hb2 k3 k4
        obtain ⟨abc, habc⟩ : ∃ p, hvP ab bc = p := ⟨_, rfl⟩
        obtain ⟨bcd, hbcd⟩ : ∃ p, hvP bc cd = p := ⟨_, rfl⟩
        have e1 : hrP ab bc = abc := (hrP_eq rab rbc).trans habc
        have e2 : hrP bc cd = bcd := (hrP_eq rbc rcd).trans hbcd
        rw [e1, e2]
        have rabc : Rg abc := habc ▸ rab.hv rbc
        have rbcd : Rg bcd := hbcd ▸ rbc.hv rcd
        have EABC := Lib.hid (And.intro habc hbcd)
        clear e1 e2 habc hbcd
        go_upto_region 5 with fail
        clear c00 c01 c10 c11 f0 f1
        obtain ⟨U, hU, v3, v4, bU⟩ := put2 K3.out K4.out l3 l4 n34 abc bcd
        rw [hU]
        have BU := Lib.hid (HB2.out.trans bU)
        have U0 := Lib.hid (V0.out.below BU.out V0.out.lt)
        have U2 := Lib.hid (V2.out.below BU.out V2.out.lt)
        have U3 := Lib.hid v3
        have U4 := Lib.hid v4
        have x0 := v3.cell 0 _ rfl
        have x1 := v3.cell 1 _ rfl
        have y0 := v4.cell 0 _ rfl
        have y1 := v4.cell 1 _ rfl
        have sU : Hid (V.heap.size ≤ U.heap.size) := Lib.hid BU.out.size
        have LO := Lib.hid (And.intro l0 (And.intro l2 (And.intro l3 l4)))
        clear hU v3 v4 bU K3 K4 HB2 V0 V1 V2 l0 l1 l2 l3 l4 n01 n02 n12 n34
        go_wp2_with fail
        refine (r8_Half _ _ _).mono ?_
        rintro e w3 ⟨rfl, hq3⟩
        obtain ⟨md, hmd⟩ : ∃ p, hvP abc bcd = p := ⟨_, rfl⟩
        have e1 : hrP abc bcd = md := (hrP_eq rabc rbcd).trans hmd
        rw [e1]
        have rmd : Rg md := hmd ▸ rabc.hv rbcd
        have EM := Lib.hid hmd
        obtain ⟨X, hX⟩ : ∃ X, w3.alloc (.cells (pCells md) 28) = X := ⟨_, rfl⟩
        obtain ⟨gm, hgm⟩ : ∃ g, w3.heap.size = g := ⟨_, rfl⟩
        have bX : Below U.heap.size U X := by rw [← hX]; exact hq3.alloc hq3.size _
        have km : Has X gm (pCells md) 28 := by rw [← hX]; exact has_new hgm
        have sX : U.heap.size ≤ gm := by rw [← hgm]; exact hq3.size
        have bVX : Below V.heap.size V X := BU.out.trans (bX.mono sU.out)
        have bWX : Below W.heap.size W X := BV.out.trans (bVX.mono sV.out)
        have bwX : Below S w X := BW.out.trans (bWX.mono (by have := BW.out.size; have := HS.out; omega))
        have ka := KA.out.below bWX KA.out.lt
        have kd := KD.out.below bWX KD.out.lt
        have kab := U0.out.below bX U0.out.lt
        have kcd := U2.out.below bX U2.out.lt
        have kabc := U3.out.below bX U3.out.lt
        have kbcd := U4.out.below bX U4.out.lt
        have a0 := ka.cell 0 _ rfl
        have KAX := Lib.hid ka
        have KABX := Lib.hid kab
        have KABCX := Lib.hid kabc
        have KMX := Lib.hid km
        have KDX := Lib.hid kd
        have KCDX := Lib.hid kcd
        have KBCDX := Lib.hid kbcd
        have BX := Lib.hid bwX
        have sXX : Hid (S ≤ X.heap.size) := Lib.hid (by have := bwX.size; have := HS.out; omega)
        have HX := Lib.hid hX
        have HT0 : Hid (Ht X X) := Lib.hid (Ht.refl X)
        have S7 := Lib.hid (fun (w' : World) (h : Ht X w') => h.seven ka kab kabc km kbcd kcd kd)
        have C1 := Lib.hid (fun w => r8_bend n a ab abc md w (by omega) ha rab rabc rmd)
        have C2 := Lib.hid (fun w => r8_bend n md bcd cd d w (by omega) rmd rbcd rcd hd)
        have o2 : ((n : Int) + 1 - 1) = (n : Int) := by omega
        have o3 : (n : Int) ≤ 2 := by omega
        have o4 : IntKind.i64.wrap (n : Int) = (n : Int) := IntWalk.i64_in _ ⟨by omega, by omega⟩
        obtain ⟨P2, hP2⟩ : ∃ p, 2 ^ n = p := ⟨_, rfl⟩
        have hP0 : 0 < P2 ∧ P2 ≤ 8 := by
          rw [← hP2]
          rcases (show n = 0 ∨ n = 1 ∨ n = 2 by omega) with rfl | rfl | rfl <;> decide
        rw [hP2] at C1 C2
        have PP := Lib.hid hP0
        have EP := Lib.hid hP2
        clear hP2 hP0 a0 e1 hmd hX bX km sX bVX bWX bwX ka kd kab kcd kabc kbcd x0 x1 y0 y1 hq3 U0 U2 U3 U4 BU BV BW KA KB KC KD HW
        go_upto_region 6 with fail
        rw [HX.out]
        clear hgm
        go_region_held3 (fun w' => Ht X w' ∧ w'.cell? ⟨S, 0, none⟩ = some (.int .i64 a.x) ∧ w'.cell? ⟨S, 1, none⟩ = some (.int .i64 a.y) ∧ w'.cell? ⟨g0, 0, none⟩ = some (.int .i64 ab.x) ∧ w'.cell? ⟨g0, 1, none⟩ = some (.int .i64 ab.y) ∧ w'.cell? ⟨g3, 0, none⟩ = some (.int .i64 abc.x) ∧ w'.cell? ⟨g3, 1, none⟩ = some (.int .i64 abc.y) ∧ w'.cell? ⟨gm, 0, none⟩ = some (.int .i64 md.x) ∧ w'.cell? ⟨gm, 1, none⟩ = some (.int .i64 md.y) ∧ w'.cell? ⟨g4, 0, none⟩ = some (.int .i64 bcd.x) ∧ w'.cell? ⟨g4, 1, none⟩ = some (.int .i64 bcd.y) ∧ w'.cell? ⟨g2, 0, none⟩ = some (.int .i64 cd.x) ∧ w'.cell? ⟨g2, 1, none⟩ = some (.int .i64 cd.y) ∧ w'.cell? ⟨S + 1 + 1 + 1, 0, none⟩ = some (.int .i64 d.x) ∧ w'.cell? ⟨S + 1 + 1 + 1, 1, none⟩ = some (.int .i64 d.y))
          ((go_split_ands; first | exact S7.out _ HT0.out.drew | exact S7.out _ h5 | exact S7.out _ h4 | exact S7.out _ h3))
          (first
            | (have mm := h4; clear mm; refine step_append_pl (base := S) (by rfl) (.tmp 45) (.tmp 52) (by rfl) P2 L4.out (by rfl) gb 0 P2 capb (by rfl) (bendL n md bcd cd d) L5.out PP.out.1 NF.out R5.out O4.out S5.out ?_; intro g' cap' w6 ho6 hg6 hat6; have h5 := Ht.grownR h4 hg6 G6.out)
            | (have mm := h3; clear mm; go_at_call 47; refine (C2.out _).mono ?_; rintro e w5 ⟨gb, capb, rfl, hlb, hob, hbb⟩; have h4 := Ht.call h3 hbb; have L5 := Lib.hid hlb; have R5 := Lib.hid (hob.row (by have := PP.out; omega) (by have := PP.out; omega)); have O4 := Lib.hid (O3.out.below hbb (Nat.le_refl _)); have S5 : Hid (S ≤ w5.heap.size) := Lib.hid (by have := h4.below.size; have := sXX.out; omega))
            | (go_at_call 47; refine (C1.out _).mono ?_; rintro e w4 ⟨ga, capa, rfl, hla, hoa, hba⟩; have h3 := Ht.call HT0.out.drew hba; have L4 := Lib.hid hla; have O3 := Lib.hid (hoa.lower (by have := sXX.out; show S ≤ X.heap.size; omega)); have G6 : Hid (∀ k, Value.ownBlock (.slice (some ⟨ga, 0, none⟩) P2 capa) = some k → X.heap.size ≤ k) := Lib.hid (fun k hk => (hoa.base k hk).1); have NF : Hid (P2 + P2 ≤ 8796093022208) := Lib.hid (by have := PP.out; omega)))
        all_goals
          have ee : bendL n a ab abc md ++ bendL n md bcd cd d = bendL (n + 1) a b c d := by
            show _ = bendL n a (hvP a b) (hvP (hvP a b) (hvP b c)) (hvP (hvP (hvP a b) (hvP b c)) (hvP (hvP b c) (hvP c d))) ++ bendL n (hvP (hvP (hvP a b) (hvP b c)) (hvP (hvP b c) (hvP c d))) (hvP (hvP b c) (hvP c d)) (hvP c d) d
            rw [EAB.out.1, EAB.out.2.1, EAB.out.2.2, EABC.out.1, EABC.out.2, EM.out]
          rw [ee] at ho6
          have RR : Lsn w (2 ^ (n + 1)) (bendL (n + 1) a b c d) (.returned (.slice (some ⟨g', 0, none⟩) (P2 + P2) cap')) w6 := by
            have q := HS.out
            have e2 : 2 ^ (n + 1) = P2 + P2 := by rw [Nat.pow_succ, EP.out]; omega
            refine ⟨g', cap', by rw [e2], bendL_length _ _ _ _ _, by rw [e2, q]; exact ho6, ?_⟩
            rw [q]
            exact BX.out.trans (h5.below.mono sXX.out)
          have RRH := Lib.hid RR
          clear RR ho6 hg6 hat6 ee
          go_wp2
          go_ret
          exact RRH.out

end Go.Proofs.Ytopepgifhnfbiaa

namespace Go.Proofs.Ytopepgifhnfbiaa
open Go Go.RowKit
open M

/-- A poly that grows: in block go, its list in blocks behind it; the result's block is r, the path's own is q. -/
structure Gro (w1 : World) (q r go : Nat) (c : Bool) (vp : Value) (rs : List Pt) (l : Value) (wr : World) : Prop where
  own : Pown wr (go + 1) l rs
  out : Has wr go #[.bool c, l] 31
  res : Has wr r #[.bool false, .slice none 0 0] 31
  src : Has wr q #[.bool c, vp] 45
  below : Below w1.heap.size w1 wr
  lq : w1.heap.size ≤ q
  lr : q < r
  lo : r < go
section
variable {w1 W w' : World} {q r go : Nat} {c : Bool} {rs qs : List Pt} {vp l l' : Value}
theorem Gro.later (h : Gro w1 q r go c vp rs l W) (hq : Below W.heap.size W w') : Gro w1 q r go c vp rs l w' :=
  ⟨h.own.below hq (Nat.le_refl _), h.out.below hq h.out.lt, h.res.below hq h.res.lt, h.src.below hq h.src.lt, h.below.trans (hq.mono h.below.size), h.lq, h.lr, h.lo⟩
theorem Gro.away (h : Gro w1 q r go c vp rs l W) : l.ownBlock ≠ some go ∧ l.ownBlock ≠ some r ∧ l.ownBlock ≠ some q := ⟨fun e => by have := (h.own.base go e).1; omega, fun e => by have := (h.own.base r e).1; have := h.lo; omega, fun e => by have := (h.own.base q e).1; have := h.lo; have := h.lr; omega⟩
/-- The list has grown, and is stored. -/
theorem Gro.put (h : Gro w1 q r go c vp rs l W) (ho : Pown w' (go + 1) l' qs) (hg : W.grownBy w' l.ownBlock) : Gro w1 q r go c vp qs l' (w'.setCell ⟨go, 1, none⟩ l') := by
  have hk : Has w' go #[.bool c, l] 31 := (hg.block go h.out.lt (fun e => h.away.1 e.symm)).trans h.out
  have hr : Has w' r #[.bool false, .slice none 0 0] 31 := (hg.block r h.res.lt (fun e => h.away.2.1 e.symm)).trans h.res
  have hq : Has w' q #[.bool c, vp] 45 := (hg.block q h.src.lt (fun e => h.away.2.2 e.symm)).trans h.src
  have hs := h.below.size
  have h1 := h.lr
  have h0 := h.lq
  have h2 := h.lo
  refine ⟨ho.kept (grownBy_set (World.grownBy.refl _ _) _ _) (fun k hk e => by simp at hk; have := (ho.base k e).1; omega), ?_, has_grown hr (grownBy_set (World.grownBy.refl _ _) _ _) (by omega), has_grown hq (grownBy_set (World.grownBy.refl _ _) _ _) (by omega), ?_, h0, h1, h2⟩
  · have := has_set hk 1 l'
    simpa using this
  · exact (h.below.grown hg (by omega) (fun k e => by have := (h.own.base k e).1; omega)).setCell (show w1.heap.size ≤ go by omega) _
theorem Gro.fine (h : Gro w1 q r go c vp rs l W) (hg : W.grownBy w' l.ownBlock) : w'.cell? ⟨go, 1, none⟩ = some l ∧ w'.frozen? ⟨go, 1, none⟩ = false := by
  have hk : Has w' go #[.bool c, l] 31 := (hg.block go h.out.lt (fun e => h.away.1 e.symm)).trans h.out
  exact ⟨hk.cell 1 _ rfl, has_fro hk 1⟩
end
/-- A slice has room for what it holds. -/
def capOk : Value → Prop
  | .slice _ n c => n ≤ c
  | _ => False
def lenOf : Value → Nat
  | .slice _ n _ => n
  | _ => 0
theorem flatL_no {c : Bool} {ps : List Pt} (h : ps.length = 0 ∨ okP c ps = false) : flatL c ps = [] := by unfold flatL; rw [if_pos h]
theorem flatL_yes {c : Bool} {ps : List Pt} (h : ¬ (ps.length = 0 ∨ okP c ps = false)) : flatL c ps = polyN ps ((ps.length - 1) / 3) := by unfold flatL; rw [if_neg h]
theorem nearL_at {ps : List Pt} : ∀ {n : Nat}, nearL ps n = true → ∀ i, i < n → nearP (pt ps i) = true
  | 0, _, i, hi => by omega
  | n + 1, h, i, hi => by
    unfold nearL at h
    rw [Bool.and_eq_true] at h
    by_cases e : i = n
    · rw [e]; exact h.2
    · exact nearL_at h.1 i (by omega)
theorem okP_rg {c : Bool} {ps : List Pt} (h0 : ¬ ps.length = 0) (h : okP c ps = true) : 4 ≤ ps.length ∧ ps.length ≤ 97 ∧ ps.length % 3 = 1 ∧ ∀ i, i < ps.length → Rg (pt ps i) := by
  rw [okP_pos h0, Bool.and_eq_true] at h
  have h1 := h.1
  simp [okLen] at h1
  exact ⟨h1.1.1, h1.1.2, h1.2, fun i hi => Rg.near (nearL_at h.2 i hi)⟩

end Go.Proofs.Ytopepgifhnfbiaa

namespace Go.Proofs.Ytopepgifhnfbiaa
open Go Go.RowKit
open M

theorem r8_Bend {a b c d : Pt} (w : World) (ha : Rg a) (hb : Rg b) (hc : Rg c) (hd : Rg d) :
    Calls Try.prog 32 #[.agg (pCells a), .agg (pCells b), .agg (pCells c), .agg (pCells d)] w (Lsn w 8 (bendL 3 a b c d)) := by
  obtain ⟨W, hW⟩ : ∃ W, (((w.alloc (.cells (pCells a) 28)).alloc (.cells (pCells b) 28)).alloc (.cells (pCells c) 28)).alloc (.cells (pCells d) 28) = W := ⟨_, rfl⟩
  have bW : Below w.heap.size w W := by rw [← hW]; exact ((((Below.refl _ _).alloc (by omega) _).alloc (by simp) _).alloc (by simp; omega) _).alloc (by simp; omega) _
  have C := r8_bend 3 a b c d W (by omega) ha hb hc hd
  have CH := Lib.hid C
  have BW := Lib.hid bW
  have HW := Lib.hid hW
  clear C bW hW
  go_enter Try.func32, Try.ntmps32
  go_wp2_with fail
  rw [HW.out]
  refine CH.out.mono ?_
  rintro e w1 ⟨g, cap, rfl, hl, ho, hb⟩
  have RR : Lsn w 8 (bendL 3 a b c d) (.returned (.slice (some ⟨g, 0, none⟩) 8 cap)) w1 := ⟨g, cap, rfl, hl, ho.lower BW.out.size, BW.out.trans (hb.mono BW.out.size)⟩
  have RRH := Lib.hid RR
  clear RR hl ho hb
  go_wp2
  go_ret
  exact RRH.out

/-- A poly that grows: in block go, its list in other blocks behind the result's, r; the path's own block is q. -/
structure Grp (w1 : World) (q r go : Nat) (c : Bool) (vp : Value) (rs : List Pt) (l : Value) (wr : World) : Prop where
  own : Pown wr (r + 1) l rs
  away : l.ownBlock ≠ some go
  out : Has wr go #[.bool c, l] 31
  res : Has wr r #[.bool false, .slice none 0 0] 31
  src : Has wr q #[.bool c, vp] 45
  below : Below w1.heap.size w1 wr
  lq : w1.heap.size ≤ q
  lr : q < r
  lo : r < go
section
variable {w1 W w' : World} {q r go : Nat} {c : Bool} {rs qs : List Pt} {vp l l' : Value}
theorem Grp.later (h : Grp w1 q r go c vp rs l W) (hq : Below W.heap.size W w') : Grp w1 q r go c vp rs l w' :=
  ⟨h.own.below hq (Nat.le_refl _), h.away, h.out.below hq h.out.lt, h.res.below hq h.res.lt, h.src.below hq h.src.lt, h.below.trans (hq.mono h.below.size), h.lq, h.lr, h.lo⟩
theorem Grp.far (h : Grp w1 q r go c vp rs l W) : l.ownBlock ≠ some r ∧ l.ownBlock ≠ some q := ⟨fun e => by have := (h.own.base r e).1; omega, fun e => by have := (h.own.base q e).1; have := h.lr; omega⟩
/-- The list has grown, and is stored. -/
theorem Grp.put {g' n' cap' : Nat} (h : Grp w1 q r go c vp rs l W) (ho : Pown w' (r + 1) (.slice (some ⟨g', 0, none⟩) n' cap') qs) (hg : W.grownBy w' l.ownBlock) (hat : l.ownBlock = some g' ∨ W.heap.size ≤ g') : Grp w1 q r go c vp qs (.slice (some ⟨g', 0, none⟩) n' cap') (w'.setCell ⟨go, 1, none⟩ (.slice (some ⟨g', 0, none⟩) n' cap')) := by
  have hk : Has w' go #[.bool c, l] 31 := (hg.block go h.out.lt (fun e => h.away e.symm)).trans h.out
  have hr : Has w' r #[.bool false, .slice none 0 0] 31 := (hg.block r h.res.lt (fun e => h.far.1 e.symm)).trans h.res
  have hq : Has w' q #[.bool c, vp] 45 := (hg.block q h.src.lt (fun e => h.far.2 e.symm)).trans h.src
  have hne : g' ≠ go := by
    rcases hat with e | e
    · intro e2; subst e2; exact h.away e
    · have := h.out.lt; omega
  have hs := h.below.size
  have h0 := h.lq
  have h1 := h.lr
  have h2 := h.lo
  refine ⟨ho.kept (grownBy_set (World.grownBy.refl _ _) _ _) (fun k hk e => by have e' : some g' = some k := e; simp at hk e'; omega), fun e => by have e' : some g' = some go := e; simp at e'; omega, ?_, has_grown hr (grownBy_set (World.grownBy.refl _ _) _ _) (by omega), has_grown hq (grownBy_set (World.grownBy.refl _ _) _ _) (by omega), ?_, h0, h1, h2⟩
  · have := has_set hk 1 (.slice (some ⟨g', 0, none⟩) n' cap')
    simpa using this
  · exact (h.below.grown hg (by omega) (fun k e => by have := (h.own.base k e).1; omega)).setCell (show w1.heap.size ≤ go by omega) _
theorem Grp.fine (h : Grp w1 q r go c vp rs l W) (hg : W.grownBy w' l.ownBlock) : w'.cell? ⟨go, 1, none⟩ = some l ∧ w'.frozen? ⟨go, 1, none⟩ = false := by
  have hk : Has w' go #[.bool c, l] 31 := (hg.block go h.out.lt (fun e => h.away e.symm)).trans h.out
  exact ⟨hk.cell 1 _ rfl, has_fro hk 1⟩
end
abbrev zc : Array Value := #[.int .i64 0, .int .i64 0]
/-- Four variables of one statement. -/
abbrev vs4 (n m : Nat) (a b c d : Pt) : List (Nat × Nat × Array Value) := [(n, m, pCells a), (n + 1, m + 1, pCells b), (n + 2, m + 2, pCells c), (n + 3, m + 3, pCells d)]
/-- The value v is a list of the call's own, of these places. -/
def LstV (base n : Nat) (rs : List Pt) (v : Value) (w : World) : Prop := ∃ g cap, v = .slice (some ⟨g, 0, none⟩) n cap ∧ rs.length = n ∧ Pown w base v rs
theorem LstV.stay {base n : Nat} {rs : List Pt} {v : Value} {w w' : World} (h : LstV base n rs v w) (hb : Below w.heap.size w w') : LstV base n rs v w' := by
  obtain ⟨g, cap, e, hl, ho⟩ := h
  exact ⟨g, cap, e, hl, ho.below hb (Nat.le_refl _)⟩
theorem own_lit1 {W : World} {H base : Nat} (p : Pt) (hH : W.heap.size = H) (hb : base ≤ W.heap.size) : Pown (W.alloc (.cells (pCells p) 28)) base (.slice (some ⟨H, 0, none⟩) 1 1) [p] := by
  subst hH
  exact World.ownsRow_lit W (pCells p) 1 hb (by unfold maxLen; omega) rfl

set_option maxRecDepth 100000 in
set_option maxHeartbeats 2000000 in
theorem r8_flat {v : Value} {ps : List Pt} {w : World} (c : Bool) (h : Psl w v ps) : Calls Try.prog 16 #[.agg #[.bool c, v]] w (Gives w c (flatL c ps)) := by
  obtain ⟨B, hB⟩ : ∃ B, w.heap.size = B := ⟨_, rfl⟩
  obtain ⟨W, hW⟩ : ∃ W, (w.alloc (.cells #[.bool c, v] 45)).alloc (.cells #[.bool false, .slice none 0 0] 31) = W := ⟨_, rfl⟩
  have ha : Has W B #[.bool c, v] 45 := by rw [← hW]; exact (has_new hB).alloc _
  have hr : Has W (B + 1) #[.bool false, .slice none 0 0] 31 := by rw [← hW]; exact has_new (by simp [hB])
  have hbl : Below B w W := by rw [← hW]; exact ((Below.refl _ _).alloc (by omega) _).alloc (by simp; omega) _
  have hsz : W.heap.size = B + 1 + 1 := by rw [← hW]; simp [hB]
  have h' := h.below hbl (by omega)
  have hsw := h
  obtain ⟨ao, cap, rfl, hf, _⟩ := h
  obtain ⟨N, hN⟩ : ∃ N, ps.length = N := ⟨_, rfl⟩
  rw [hN] at h' ha hf hW hsw ⊢
  have HSW := Lib.hid hsw
  have HE := Lib.hid (r8_right c h')
  have HS := Lib.hid h'
  have HA := Lib.hid ha
  have HR := Lib.hid hr
  have HBL := Lib.hid hbl
  have HSZ := Lib.hid hsz
  have HW := Lib.hid hW
  have HB := Lib.hid hB
  have HN := Lib.hid hN
  clear ha hr hbl hsz hW h' hN hsw
  go_enter Try.func16, Try.ntmps16
  go_upto_region 1 with fail
  rw [HW.out]
  have a0 := HA.out.cell 0 _ rfl
  have a1 := HA.out.cell 1 _ rfl
  clear hB HW
  go_wp2_with fail
  refine HE.out.mono ?_
  rintro e w2 ⟨rfl, b2⟩
  have B2 := Lib.hid b2
  have ka := HA.out.below b2 HA.out.lt
  have kr := HR.out.below b2 HR.out.lt
  have a0 := ka.cell 0 _ rfl
  have a1 := ka.cell 1 _ rfl
  have r0 := kr.cell 0 _ rfl
  have r1 := kr.cell 1 _ rfl
  have fz := has_fro kr
  by_cases hok : okP c ps = false
  · rw [hok]
    have RR : Gives w c (flatL c ps) (.returned (.agg #[.bool c, .slice none 0 0])) ((w2.setCell ⟨B + 1, 0, none⟩ (.bool c)).setCell ⟨B + 1, 1, none⟩ (.slice none 0 0)) := by
      rw [flatL_no (Or.inr hok)]
      exact gives_put (w := w) HB.out (Pown.nil _ _) (by simp [Value.ownBlock]) (by omega) (HBL.out.trans (b2.mono (by have := HSZ.out; omega))) rfl _ _ rfl
    have RRH := Lib.hid RR
    clear RR kr ka b2 hok
    go_wp2
    refine bodyPost_ret (v := .agg #[.bool c, .slice none 0 0]) (by simp [results, Try.results16, go_sem, r0, r1]) rfl ?_
    exact RRH.out
  · have hok' : okP c ps = true := by simpa using hok
    rw [hok']
    by_cases h0 : N = 0
    · have RR : Gives w c (flatL c ps) (.returned (.agg #[.bool c, .slice none 0 0])) ((w2.setCell ⟨B + 1, 0, none⟩ (.bool c)).setCell ⟨B + 1, 1, none⟩ (.slice none 0 0)) := by
        rw [flatL_no (Or.inl (by rw [HN.out]; exact h0))]
        exact gives_put (w := w) HB.out (Pown.nil _ _) (by simp [Value.ownBlock]) (by omega) (HBL.out.trans (b2.mono (by have := HSZ.out; omega))) rfl _ _ rfl
      have RRH := Lib.hid RR
      have o1 : ((N : Int) == 0) = true := by simp; omega
      clear RR kr ka b2 hok hok'
      go_wp2
      refine bodyPost_ret (v := .agg #[.bool c, .slice none 0 0]) (by simp [results, Try.results16, go_sem, r0, r1]) rfl ?_
      exact RRH.out
    · have EF := Lib.hid (flatL_yes (c := c) (ps := ps) (by rw [HN.out]; rintro (h | h); exact h0 h; exact hok h))
      obtain ⟨q1, q2, q3, q4⟩ := okP_rg (by rw [HN.out]; exact h0) hok'
      rw [HN.out] at q1 q2 q3 q4 EF
      have RG := Lib.hid q4
      have o1 : ((N : Int) == 0) = false := eqz h0
      have bS : w2.heap.size > B + 1 := by have := b2.size; have := HSZ.out; omega
      obtain ⟨g, o, e1, r, l1⟩ := (HS.out.below b2 (Nat.le_refl _)).row (by omega)
      subst e1
      have x0 := r.c0 0 (by omega)
      have x1 := r.c1 0 (by omega)
      simp only [Nat.zero_mul, Nat.add_zero] at x0 x1
      obtain ⟨p, hp⟩ : ∃ p, pt ps 0 = p := ⟨_, rfl⟩
      rw [hp] at x0 x1
      have HP := Lib.hid hp
      have o2 : 0 < N := by omega
      have KA := Lib.hid ka
      have KR := Lib.hid kr
      clear hok hok' q4 r l1 hp b2 ka kr
      obtain ⟨px, py⟩ := p
      simp only at x0 x1
      have ka2 := fun ob => (KA.out.alloc ob).cell 0 _ rfl
      have ka3 := fun ob => (KA.out.alloc ob).cell 1 _ rfl
      have ka4 := fun ob ob' => ((KA.out.alloc ob).alloc ob').cell 0 _ rfl
      have ka5 := fun ob ob' => ((KA.out.alloc ob).alloc ob').cell 1 _ rfl
      have xl : ∀ ob, (w2.alloc ob).cell? ⟨g, o, none⟩ = some (.int .i64 px) := fun ob => (((Below.refl w2.heap.size w2).alloc (Nat.le_refl _) ob).cell (p := ⟨g, o, none⟩) (World.block_lt_of_cell? w2 _ x0)).trans x0
      have yl : ∀ ob, (w2.alloc ob).cell? ⟨g, o + 1, none⟩ = some (.int .i64 py) := fun ob => (((Below.refl w2.heap.size w2).alloc (Nat.le_refl _) ob).cell (p := ⟨g, o + 1, none⟩) (World.block_lt_of_cell? w2 _ x1)).trans x1
      have xl2 : ∀ ob ob', ((w2.alloc ob).alloc ob').cell? ⟨g, o, none⟩ = some (.int .i64 px) := fun ob ob' => (((Below.refl w2.heap.size w2).alloc (Nat.le_refl _) ob |>.alloc (by simp) ob').cell (p := ⟨g, o, none⟩) (World.block_lt_of_cell? w2 _ x0)).trans x0
      have yl2 : ∀ ob ob', ((w2.alloc ob).alloc ob').cell? ⟨g, o + 1, none⟩ = some (.int .i64 py) := fun ob ob' => (((Below.refl w2.heap.size w2).alloc (Nat.le_refl _) ob |>.alloc (by simp) ob').cell (p := ⟨g, o + 1, none⟩) (World.block_lt_of_cell? w2 _ x1)).trans x1
      have GA : Hid (Grp w B (B + 1) (w2.heap.size + 1) c (.slice (some ⟨g, o, none⟩) N cap) [⟨px, py⟩] (.slice (some ⟨w2.heap.size, 0, none⟩) 1 1) ((w2.alloc (.cells (pCells ⟨px, py⟩) 28)).alloc (.cells #[.bool c, .slice (some ⟨w2.heap.size, 0, none⟩) 1 1] 31)).drew) := Lib.hid
        ⟨((own_lit1 ⟨px, py⟩ rfl (by omega)).alloc _).drew, by simp [Value.ownBlock], (has_new (by simp)).drew, ((KR.out.alloc _).alloc _).drew, ((KA.out.alloc _).alloc _).drew, below_drew (by rw [HB.out]; exact ((HBL.out.trans (B2.out.mono (by have := HSZ.out; omega))).alloc (by omega) _).alloc (by simp; omega) _), by rw [HB.out]; omega, by omega, by omega⟩
      have GB : Hid (Grp w B (B + 1) w2.heap.size c (.slice (some ⟨g, o, none⟩) N cap) [⟨px, py⟩] (.slice (some ⟨w2.heap.size + 1, 0, none⟩) 1 1) ((w2.alloc (.cells #[.bool c, .slice (some ⟨w2.heap.size + 1, 0, none⟩) 1 1] 31)).alloc (.cells (pCells ⟨px, py⟩) 28)).drew) := Lib.hid
        ⟨(own_lit1 ⟨px, py⟩ (by simp) (by simp; omega)).drew, by simp [Value.ownBlock], ((has_new rfl).alloc _).drew, ((KR.out.alloc _).alloc _).drew, ((KA.out.alloc _).alloc _).drew, below_drew (by rw [HB.out]; exact ((HBL.out.trans (B2.out.mono (by have := HSZ.out; omega))).alloc (by omega) _).alloc (by simp; omega) _), by rw [HB.out]; omega, by omega, by omega⟩
      clear r0 r1 fz
      go_upto_region 3 with fail
      go_cut [3] (fun so wx => ∃ go gs, so = .pointer (some ⟨go, 0, none⟩) ∧ Grp w B (B + 1) go c (.slice (some ⟨g, o, none⟩) N cap) [⟨px, py⟩] (.slice (some ⟨gs, 0, none⟩) 1 1) wx)
      case first =>
        go_region
        all_goals
          go_wp2_with fail
          go_meet
          case rel => first | exact ⟨_, _, rfl, GA.out⟩ | exact ⟨_, _, rfl, GB.out⟩
      case rest =>
        obtain ⟨go, gs, rfl, hG⟩ := hcut
        have RW := Lib.hid (fun (wr : World) (hb : Below w.heap.size w wr) => (HSW.out.below hb (Nat.le_refl _)))
        have H0 := Lib.hid hG
        clear GA GB xl yl xl2 yl2 ka4 ka5 ka2 ka3 x0 x1 a0 a1 hG KA KR B2 HS HA HR HBL HSZ HE bS
        go_wp2
        go_loopw [4] (fun i wr => ∃ (k I : Nat) (lo : Value), 3 * k = I ∧ I + 1 ≤ N ∧ i = .int .i64 I ∧ Grp w B (B + 1) go c (.slice (some ⟨g, o, none⟩) N cap) (polyN ps k) lo wr) (fun i _ => 100 - (intOf i).toNat)
        case atStart => exact ⟨0, 0, _, rfl, by omega, rfl, by rw [show polyN ps 0 = [⟨px, py⟩] by rw [← HP.out]; rfl]; exact H0.out⟩
        case round =>
          obtain ⟨k, I, lo, hI, hIN, rfl, hG⟩ := hrel
          clear H0
          have GH := Lib.hid hG
          have s1 := hG.src.cell 1 _ rfl
          by_cases hlt : I + 3 < N
          · obtain ⟨g1, o1', eo, r, l1⟩ := (RW.out wr hG.below).row (by omega)
            simp at eo
            obtain ⟨rfl, rfl⟩ := eo
            obtain ⟨a, pa⟩ : ∃ p, pt ps I = p := ⟨_, rfl⟩
            obtain ⟨b, pb⟩ : ∃ p, pt ps (I + 1) = p := ⟨_, rfl⟩
            obtain ⟨cc, pc⟩ : ∃ p, pt ps (I + 2) = p := ⟨_, rfl⟩
            obtain ⟨d, pd⟩ : ∃ p, pt ps (I + 3) = p := ⟨_, rfl⟩
            have ra : Rg a := pa ▸ RG.out I (by omega)
            have rb : Rg b := pb ▸ RG.out (I + 1) (by omega)
            have rc : Rg cc := pc ▸ RG.out (I + 2) (by omega)
            have rd : Rg d := pd ▸ RG.out (I + 3) (by omega)
            have row : ∀ (R : World → Prop) (z : LaterR wr R), Prow z.to g o ps := fun R z => r.block (z.below.block g (r.lt (by omega)))
            have PX : Hid (∀ (R : World → Prop) (z : LaterR wr R), (z.to.cell? ⟨g, o + I * 2, none⟩ = some (.int .i64 a.x) ∧ z.to.cell? ⟨g, o + I * 2 + 1, none⟩ = some (.int .i64 a.y)) ∧ (z.to.cell? ⟨g, o + (I + 1) * 2, none⟩ = some (.int .i64 b.x) ∧ z.to.cell? ⟨g, o + (I + 1) * 2 + 1, none⟩ = some (.int .i64 b.y)) ∧ (z.to.cell? ⟨g, o + (I + 2) * 2, none⟩ = some (.int .i64 cc.x) ∧ z.to.cell? ⟨g, o + (I + 2) * 2 + 1, none⟩ = some (.int .i64 cc.y)) ∧ (z.to.cell? ⟨g, o + (I + 3) * 2, none⟩ = some (.int .i64 d.x) ∧ z.to.cell? ⟨g, o + (I + 3) * 2 + 1, none⟩ = some (.int .i64 d.y))) := Lib.hid (by
              intro R z
              have q := row R z
              have A0 := q.c0 I (by omega)
              have A1 := q.c1 I (by omega)
              have B0 := q.c0 (I + 1) (by omega)
              have B1 := q.c1 (I + 1) (by omega)
              have C0 := q.c0 (I + 2) (by omega)
              have C1 := q.c1 (I + 2) (by omega)
              have D0 := q.c0 (I + 3) (by omega)
              have D1 := q.c1 (I + 3) (by omega)
              rw [pa] at A0 A1
              rw [pb] at B0 B1
              rw [pc] at C0 C1
              rw [pd] at D0 D1
              exact ⟨⟨A0, A1⟩, ⟨B0, B1⟩, ⟨C0, C1⟩, ⟨D0, D1⟩⟩)
            have hst : polyN ps k ++ partL a b cc d = polyN ps (k + 1) := by
              show _ = polyN ps k ++ partL (pt ps (3 * k)) (pt ps (3 * k + 1)) (pt ps (3 * k + 2)) (pt ps (3 * k + 3))
              rw [hI, pa, pb, pc, pd]
            have EST := Lib.hid hst
            have EI := Lib.hid hI
            have PL := polyN_length ps k
            obtain ⟨ln, hln⟩ : ∃ n, (polyN ps k).length = n := ⟨_, rfl⟩
            have LN8 : Hid (ln + 8 ≤ 8796093022208) := Lib.hid (by omega)
            obtain ⟨aol, capl, hv⟩ := hG.own.len
            rw [hln] at hv
            subst hv
            have HLN := Lib.hid hln
            have o3 : (I : Int) + 3 < N := by omega
            have o4 : (N : Int) ≤ 97 := by omega
            clear hG pa pb pc pd r row l1 hln PL hst hI
            go_upto_region 7 with fail
            refine wp_region_gen 30 [23, 24, 25, 26, 27, 28, 29] [] [0, 0, 0, 0, 0, 0, 0, 0, 0, 0, 0, 0, 0, 0, 0, 0, 0, 0, 0, 0, 0, 0, 0, 1, 1, 1, 1, 1, 1, 1] (by kernel_rfl) (by kernel_rfl) (fun c a d v w h => by cases d <;> exact h) trivial (fun G w' => Vars wr.heap.size 28 zc (vs4 23 27 a b cc d) G w') (fun G w w' h hb => h.stay hb) Vars.start ?_
            apply Exists.intro
            refine ⟨fun R hR hN => ?_, ?_, ?_⟩
            · have y0 := fun z => LaterR.read (R := R) GH.out.src 1 _ rfl z
              have A0 := fun z => (PX.out R z).1.1
              have A1 := fun z => (PX.out R z).1.2
              have B0 := fun z => (PX.out R z).2.1.1
              have B1 := fun z => (PX.out R z).2.1.2
              have C0 := fun z => (PX.out R z).2.2.1.1
              have C1 := fun z => (PX.out R z).2.2.1.2
              have D0 := fun z => (PX.out R z).2.2.2.1
              have D1 := fun z => (PX.out R z).2.2.2.2
              simp only [quietL, takeA]
              repeat (go_big_quiet_step (fail))
              exact wpQuiet_nil rfl
            · intro i oo hi ho
              have hi' : i = 23 ∨ i = 24 ∨ i = 25 ∨ i = 26 ∨ i = 27 ∨ i = 28 ∨ i = 29 := by simpa using hi
              clear hi
              rcases hi' with rfl | rfl | rfl | rfl | rfl | rfl | rfl
              · cases ho
                intro G w' hG hGn hdep hb hR
                refine ⟨rfl, gives_none (by kernel_rfl) hGn ?_⟩
                unfold gives
                simp [go_sem]
                exact ⟨hb.alloc hb.size _, hR.alloc (i := 23) (s := 27) (cs := pCells a) rfl (by simp) (by intro y hy he; simp at hy; rcases hy with rfl | rfl | rfl | rfl <;> simp at he ⊢) hG hb.size⟩
              · cases ho
                intro G w' hG hGn hdep hb hR
                refine ⟨rfl, gives_none (by kernel_rfl) hGn ?_⟩
                unfold gives
                simp [go_sem]
                exact ⟨hb.alloc hb.size _, hR.alloc (i := 24) (s := 28) (cs := pCells b) rfl (by simp) (by intro y hy he; simp at hy; rcases hy with rfl | rfl | rfl | rfl <;> simp at he ⊢) hG hb.size⟩
              · cases ho
                intro G w' hG hGn hdep hb hR
                refine ⟨rfl, gives_none (by kernel_rfl) hGn ?_⟩
                unfold gives
                simp [go_sem]
                exact ⟨hb.alloc hb.size _, hR.alloc (i := 25) (s := 29) (cs := pCells cc) rfl (by simp) (by intro y hy he; simp at hy; rcases hy with rfl | rfl | rfl | rfl <;> simp at he ⊢) hG hb.size⟩
              · cases ho
                intro G w' hG hGn hdep hb hR
                refine ⟨rfl, gives_none (by kernel_rfl) hGn ?_⟩
                unfold gives
                simp [go_sem]
                exact ⟨hb.alloc hb.size _, hR.alloc (i := 26) (s := 30) (cs := pCells d) rfl (by simp) (by intro y hy he; simp at hy; rcases hy with rfl | rfl | rfl | rfl <;> simp at he ⊢) hG hb.size⟩
              · cases ho
                intro G w' hG hGn hdep hb hR
                obtain ⟨v, hv⟩ := Option.ne_none_iff_exists'.1 (hdep 23 (by simp) (by kernel_rfl))
                obtain ⟨gx, rfl, hgx, hhx⟩ := hR.has (23, 27, pCells a) (by simp) v hv
                rw [if_pos hG] at hhx
                refine ⟨rfl, gives_one (k := 23) (by kernel_rfl) hGn (by omega) hv ?_⟩
                have cx0 := hhx.cell 0 _ rfl
                have cx1 := hhx.cell 1 _ rfl
                have fx := has_fro hhx
                unfold gives
                simp [go_sem, dstAt, Act.put, cx0, cx1, fx]
                exact ⟨(hb.setCell hgx _).setCell hgx _, hR.store (i := 23) (s := 27) (za := .int .i64 0) (zb := .int .i64 0) rfl rfl (by simp) (by intro y hy he; simp at hy; rcases hy with rfl | rfl | rfl | rfl <;> simp at he ⊢) hv hG⟩
              · cases ho
                intro G w' hG hGn hdep hb hR
                obtain ⟨v, hv⟩ := Option.ne_none_iff_exists'.1 (hdep 24 (by simp) (by kernel_rfl))
                obtain ⟨gx, rfl, hgx, hhx⟩ := hR.has (24, 28, pCells b) (by simp) v hv
                rw [if_pos hG] at hhx
                refine ⟨rfl, gives_one (k := 24) (by kernel_rfl) hGn (by omega) hv ?_⟩
                have cx0 := hhx.cell 0 _ rfl
                have cx1 := hhx.cell 1 _ rfl
                have fx := has_fro hhx
                unfold gives
                simp [go_sem, dstAt, Act.put, cx0, cx1, fx]
                exact ⟨(hb.setCell hgx _).setCell hgx _, hR.store (i := 24) (s := 28) (za := .int .i64 0) (zb := .int .i64 0) rfl rfl (by simp) (by intro y hy he; simp at hy; rcases hy with rfl | rfl | rfl | rfl <;> simp at he ⊢) hv hG⟩
              · cases ho
                intro G w' hG hGn hdep hb hR
                obtain ⟨v, hv⟩ := Option.ne_none_iff_exists'.1 (hdep 25 (by simp) (by kernel_rfl))
                obtain ⟨gx, rfl, hgx, hhx⟩ := hR.has (25, 29, pCells cc) (by simp) v hv
                rw [if_pos hG] at hhx
                refine ⟨rfl, gives_one (k := 25) (by kernel_rfl) hGn (by omega) hv ?_⟩
                have cx0 := hhx.cell 0 _ rfl
                have cx1 := hhx.cell 1 _ rfl
                have fx := has_fro hhx
                unfold gives
                simp [go_sem, dstAt, Act.put, cx0, cx1, fx]
                exact ⟨(hb.setCell hgx _).setCell hgx _, hR.store (i := 25) (s := 29) (za := .int .i64 0) (zb := .int .i64 0) rfl rfl (by simp) (by intro y hy he; simp at hy; rcases hy with rfl | rfl | rfl | rfl <;> simp at he ⊢) hv hG⟩
            · intro G w3 hb3 hR hG hN
              obtain ⟨v0, e0⟩ := hG 23 (by simp)
              obtain ⟨v1, e1⟩ := hG 24 (by simp)
              obtain ⟨v2, e2⟩ := hG 25 (by simp)
              obtain ⟨v3, e3⟩ := hG 26 (by simp)
              obtain ⟨s0, t0⟩ := hG 27 (by simp)
              obtain ⟨s1', t1⟩ := hG 28 (by simp)
              obtain ⟨s2, t2⟩ := hG 29 (by simp)
              obtain ⟨g0, rfl, l0, k0⟩ := hR.has (23, 27, pCells a) (by simp) v0 e0
              obtain ⟨g1, rfl, l1, k1⟩ := hR.has (24, 28, pCells b) (by simp) v1 e1
              obtain ⟨g2, rfl, l2, k2⟩ := hR.has (25, 29, pCells cc) (by simp) v2 e2
              obtain ⟨g3, rfl, l3, k3⟩ := hR.has (26, 30, pCells d) (by simp) v3 e3
              rw [if_neg (by simp [t0])] at k0
              rw [if_neg (by simp [t1])] at k1
              rw [if_neg (by simp [t2])] at k2
              rw [if_pos (hN 30 (by simp))] at k3
              have n03 : g0 ≠ g3 := fun e => hR.ne (23, 27, pCells a) (by simp) (26, 30, pCells d) (by simp) (by simp) _ e0 (by rw [e3, e])
              have n13 : g1 ≠ g3 := fun e => hR.ne (24, 28, pCells b) (by simp) (26, 30, pCells d) (by simp) (by simp) _ e1 (by rw [e3, e])
              have n23 : g2 ≠ g3 := fun e => hR.ne (25, 29, pCells cc) (by simp) (26, 30, pCells d) (by simp) (by simp) _ e2 (by rw [e3, e])
              have nn : ∀ j, j < 23 → G j = none := fun j hj => hN j (by simp; omega)
              simp only [putV, dstAt, e0, e1, e2, e3, t0, t1, t2, nn 0 (by decide), nn 1 (by decide), nn 2 (by decide), nn 3 (by decide), nn 4 (by decide), nn 5 (by decide), nn 6 (by decide), nn 7 (by decide), nn 8 (by decide), nn 9 (by decide), nn 10 (by decide), nn 11 (by decide), nn 12 (by decide), nn 13 (by decide), nn 14 (by decide), nn 15 (by decide), nn 16 (by decide), nn 17 (by decide), nn 18 (by decide), nn 19 (by decide), nn 20 (by decide), nn 21 (by decide), nn 22 (by decide), List.drop_succ_cons, List.drop_zero, List.getElem?_cons_succ, List.getElem?_cons_zero, Option.bind_some]
              have c30 := k3.cell 0 _ rfl
              have c31 := k3.cell 1 _ rfl
              have f3 := has_fro k3
              obtain ⟨V, hV⟩ : ∃ V, (w3.setCell ⟨g3, 0, none⟩ (.int .i64 d.x)).setCell ⟨g3, 1, none⟩ (.int .i64 d.y) = V := ⟨_, rfl⟩
              have v0 : Has V g0 (pCells a) 28 := by rw [← hV]; exact hoff2 k0 (Ne.symm n03) _ _
              have v1 : Has V g1 (pCells b) 28 := by rw [← hV]; exact hoff2 k1 (Ne.symm n13) _ _
              have v2 : Has V g2 (pCells cc) 28 := by rw [← hV]; exact hoff2 k2 (Ne.symm n23) _ _
              have v3 : Has V g3 (pCells d) 28 := by rw [← hV]; exact hset2 k3 _ _
              have bV : Below wr.heap.size w3 V := by rw [← hV]; exact below_set2 l3 _ _
              have GV := Lib.hid (GH.out.later (hb3.trans bV))
              have V0 := Lib.hid v0
              have V1 := Lib.hid v1
              have V2 := Lib.hid v2
              have V3 := Lib.hid v3
              have HV := Lib.hid hV
              clear k0 k1 k2 k3 hb3 v0 v1 v2 v3 bV hV l0 l1 l2 l3 hR hG hN nn e0 e1 e2 e3 t0 t1 t2 n03 n13 n23
              go_upto_region 8 with fail
              rw [HV.out]
              clear c30 c31 f3 HV
              have a0 := V0.out.cell 0 _ rfl
              have a1 := V0.out.cell 1 _ rfl
              have b0 := V1.out.cell 0 _ rfl
              have b1 := V1.out.cell 1 _ rfl
              have c0 := V2.out.cell 0 _ rfl
              have c1 := V2.out.cell 1 _ rfl
              have d0 := V3.out.cell 0 _ rfl
              have d1 := V3.out.cell 1 _ rfl
              have m1 := GV.out.out.cell 1 _ rfl
              have sV : Hid (B + 1 + 1 ≤ V.heap.size) := Lib.hid GV.out.res.lt
              by_cases hst : b = a ∧ cc = d
              · obtain ⟨rfl, rfl⟩ := hst
                have EP : Hid (partL b b cc cc = [cc]) := Lib.hid (by unfold partL; rw [if_pos ⟨rfl, rfl⟩])
                have OW := Lib.hid (GV.out.own.alloc (.cells (pCells cc) 28))
                have SW : Hid (B + 1 + 1 ≤ (V.alloc (.cells (pCells cc) 28)).heap.size) := Lib.hid (by have := sV.out; simp; omega)
                have NF1 : Hid (ln + 1 ≤ 8796093022208) := Lib.hid (by have := LN8.out; omega)
                have GW := Lib.hid (GV.out.later ((Below.refl V.heap.size V).alloc (Nat.le_refl _) (.cells (pCells cc) 28)))
                go_wp2_with (at_builtin; refine wpList_append_pl rfl _ _ rfl ln HLN.out rfl V.heap.size 0 1 1 rfl [cc] rfl (by decide) NF1.out (prow_one cc _) OW.out SW.out ?_)
                intro g' cap' w4 ho hg hat
                have e0 := (GW.out.fine hg).1
                have e1 := (GW.out.fine hg).2
                rw [← EP.out, EST.out] at ho
                have G4 := Lib.hid (GW.out.put ho hg (hat.imp id (fun h => by simpa using h)))
                clear ho hg hat
                go_wp2
                go_roundw
                case rel => exact ⟨k + 1, I + 3, _, by have := EI.out; omega, by omega, by go_num, G4.out⟩
                case measure => simp [intOf]; omega
              · have EP : Hid (partL a b cc d = bendL 3 a b cc d) := Lib.hid (by unfold partL; rw [if_neg hst])
                have NE : a.x ≠ b.x ∨ (a.x = b.x ∧ a.y ≠ b.y) ∨ (a.x = b.x ∧ a.y = b.y ∧ cc.x ≠ d.x) ∨ (a.x = b.x ∧ a.y = b.y ∧ cc.x = d.x ∧ cc.y ≠ d.y) := by
                  obtain ⟨ax, ay⟩ := a
                  obtain ⟨bx, bY⟩ := b
                  obtain ⟨cx, cy⟩ := cc
                  obtain ⟨dx, dy⟩ := d
                  simp only [Pt.mk.injEq] at hst ⊢
                  omega
                have BD := Lib.hid (fun w => r8_Bend w ra rb rc rd)
                clear hst
                rcases NE with h | ⟨h, h2⟩ | ⟨h, h2, h3⟩ | ⟨h, h2, h3, h4⟩
                all_goals
                  go_upto_region 10 with fail
                  clear h
                  try clear h2
                  try clear h3
                  try clear h4
                  clear a0 a1 b0 b1 c0 c1 d0 d1 m1
                  refine wp_region_gen 7 [6] [] [0, 0, 0, 0, 0, 0, 1] (by kernel_rfl) (by kernel_rfl) (fun c a d v w h => by cases d <;> exact h) trivial (fun G w' => ∀ v, G 6 = some v → LstV V.heap.size 8 (bendL 3 a b cc d) v w') (fun G w w' h hb v hv => (h v hv).stay hb) (fun v hv => by cases hv) ?_
                  apply Exists.intro
                  refine ⟨fun R hR hN => ?_, ?_, ?_⟩
                  · have A0 := fun z => LaterR.read (R := R) V0.out 0 _ rfl z
                    have A1 := fun z => LaterR.read (R := R) V0.out 1 _ rfl z
                    have B0 := fun z => LaterR.read (R := R) V1.out 0 _ rfl z
                    have B1 := fun z => LaterR.read (R := R) V1.out 1 _ rfl z
                    have C0 := fun z => LaterR.read (R := R) V2.out 0 _ rfl z
                    have C1 := fun z => LaterR.read (R := R) V2.out 1 _ rfl z
                    have D0 := fun z => LaterR.read (R := R) V3.out 0 _ rfl z
                    have D1 := fun z => LaterR.read (R := R) V3.out 1 _ rfl z
                    have M1 := fun z => LaterR.read (R := R) GV.out.out 1 _ rfl z
                    simp only [quietL, takeA]
                    repeat (go_big_quiet_step (fail))
                    exact wpQuiet_nil rfl
                  · intro i oo hi ho
                    obtain rfl : i = 6 := by simpa using hi
                    cases ho
                    intro G w' hG hGn hdep hb hR
                    refine ⟨rfl, gives_none (by kernel_rfl) hGn ?_⟩
                    unfold gives
                    simp [go_sem]
                    refine (BD.out w').mono ?_
                    rintro r w'' ⟨gb, capb, rfl, hlb, hob, hbb⟩
                    exact ⟨_, rfl, hb.trans (hbb.mono hb.size), fun v hv => by rw [updV_eq] at hv; cases hv; exact ⟨gb, capb, rfl, hlb, hob.lower hb.size⟩⟩
                  · intro G w' hb hR hG hN
                    obtain ⟨v6, e6⟩ := hG 6 (by simp)
                    obtain ⟨g6, cap6, rfl, hl6, ho6⟩ := hR v6 e6
                    have n0 := hN 0 (by simp)
                    have n1 := hN 1 (by simp)
                    have n2 := hN 2 (by simp)
                    have n3 := hN 3 (by simp)
                    have n4 := hN 4 (by simp)
                    have n5 := hN 5 (by simp)
                    simp only [putV, dstAt, e6, n0, n1, n2, n3, n4, n5, List.drop_succ_cons, List.drop_zero, List.getElem?_cons_succ, List.getElem?_cons_zero, Option.bind_some]
                    have GW := Lib.hid (GV.out.later hb)
                    have R6 := Lib.hid (ho6.row (by omega) (by omega))
                    have L6 := Lib.hid hl6
                    have SW : Hid (B + 1 + 1 ≤ w'.heap.size) := Lib.hid GW.out.res.lt
                    clear hb hR hG hN n0 n1 n2 n3 n4 n5 hl6 ho6 e6
                    go_wp2_with (at_builtin; refine wpList_append_pl rfl _ _ rfl ln HLN.out rfl g6 0 8 cap6 rfl (bendL 3 a b cc d) L6.out (by decide) LN8.out R6.out GW.out.own SW.out ?_)
                    intro g' cap' w4 ho hg hat
                    have e0 := (GW.out.fine hg).1
                    have e1 := (GW.out.fine hg).2
                    rw [← EP.out, EST.out] at ho
                    have G4 := Lib.hid (GW.out.put ho hg hat)
                    clear ho hg hat
                    go_wp2
                    go_roundw
                    case rel => exact ⟨k + 1, I + 3, _, by have := EI.out; omega, by omega, by go_num, G4.out⟩
                    case measure => simp [intOf]; omega
          · have ek : k = (N - 1) / 3 := by omega
            have c0 := hG.out.cell 0 _ rfl
            have c1 := hG.out.cell 1 _ rfl
            have v0 := hG.res.cell 0 _ rfl
            have v1 := hG.res.cell 1 _ rfl
            have fz := has_fro hG.res
            obtain ⟨aol, capl, hv⟩ := hG.own.len
            obtain ⟨ln, hln⟩ : ∃ n, (polyN ps k).length = n := ⟨_, rfl⟩
            rw [hln] at hv
            subst hv
            have RR : Gives w c (flatL c ps) (.returned (.agg #[.bool c, .slice aol ln capl])) ((wr.setCell ⟨B + 1, 0, none⟩ (.bool c)).setCell ⟨B + 1, 1, none⟩ (.slice aol ln capl)) := by
              rw [EF.out, ← ek]
              exact gives_put (w := w) HB.out (hG.own.lower (by omega)) hG.far.1 (by omega) (by have := hG.below; rw [HB.out] at this; exact this) rfl _ _ rfl
            have RRH := Lib.hid RR
            have o3 : ¬ (I : Int) + 3 < N := by omega
            have o4 : (I : Int) ≤ 8796093022208 := by omega
            clear RR hG GH hln hI
            go_wp2
            refine bodyPost_ret (v := .agg #[.bool c, .slice aol ln capl]) (by simp [results, Try.results16, go_sem, v0, v1]) rfl ?_
            exact RRH.out

end Go.Proofs.Ytopepgifhnfbiaa

namespace Go.Proofs.Ytopepgifhnfbiaa
open Go Go.RowKit
open M

def Plss (w : World) (g : Nat) (v : Value) (e : Ending) (w' : World) : Prop := ∃ (L : List (Bool × List Pt)) (vl : Value), e = .returned vl ∧ L.length ≤ 285 ∧ (∀ y ∈ L, PS y.2) ∧ Kz w w.heap.size L vl w' ∧ Tp w' g v ∧ w.grownBy w' (some g)
/-- What holds at the loop's round. -/
structure Pl (w : World) (g : Nat) (v : Value) (m : Nat) (L : List (Bool × List Pt)) (o : Value) (wr : World) : Prop where
  few : L.length + 95 * m ≤ 285
  m3 : m ≤ 3
  pj : ∀ y ∈ L, PS y.2
  kz : Kz w w.heap.size L o wr
  tp : Tp wr g v
  grown : w.grownBy wr (some g)
  gl : g < w.heap.size
theorem Pl.tape {w wr w' : World} {g m : Nat} {v o : Value} {L : List (Bool × List Pt)} (h : Pl w g v m L o wr) (ht : Tp w' g v) (hg : wr.grownBy w' (some g)) : Pl w g v m L o w' :=
  ⟨h.few, h.m3, h.pj, h.kz.grown hg h.gl, ht, grownBy_trans h.grown hg, h.gl⟩
theorem Pl.call {w wr w' : World} {g m : Nat} {v o : Value} {L : List (Bool × List Pt)} (h : Pl w g v m L o wr) (hb : Below wr.heap.size wr w') : Pl w g v m L o w' :=
  ⟨h.few, h.m3, h.pj, h.kz.later hb, h.tp.calls hb, grownBy_own h.grown (grownBy_below hb (Nat.le_refl _)) (fun k e => by cases e), h.gl⟩
theorem Pl.size {w wr : World} {g m : Nat} {v o : Value} {L : List (Bool × List Pt)} (h : Pl w g v m L o wr) : w.heap.size ≤ wr.heap.size := h.grown.size

section
variable {P : Program} {ops : Array Oper} {Q : Exit → Act → World → Prop} {S : World → Prop} {md : Region.Mode} {i fuel : Nat} {listed : Array Bool} {a : Act} {w : World} {dst : Option Tmp} {ty : TypeId} {pos : String} {after : Array Edge} {gd : Option (Nat × Bool)}
theorem run1_call3 {ρ : Operand → Value} {o : Oper} {f : FuncId} {ts : Array TypeId} {x y z : Operand} {u v t : Value} (ho : o.op = .call { callee := .value (.func f), args := #[x, y, z], argTypes := ts }) (hf : ρ (.func f) = .func (.func f) #[] #[]) (hx : ρ x = u) (hy : ρ y = v) (hz : ρ z = t) (w : World) (hc : (callFunc f #[u, v, t]).run P w = .ok (.enter f #[u, v, t]) w) : (execOp ρ o).run P w = .ok (.enter f #[u, v, t]) w := by
  simp [execOp, ho, hf, hx, hy, hz, hc, go_sem]
theorem stepH_call3 {f : FuncId} {ts : Array TypeId} (x y z : Operand) (u v t : Value) (hi : ops[i]? = some { dst := dst, op := .call { callee := .value (.func f), args := #[x, y, z], argTypes := ts }, type := ty, pos := pos, after := after, guard := gd }) (hr : Region.ready md ops listed = [i])
    (hw : Region.wanted { dst := dst, op := .call { callee := .value (.func f), args := #[x, y, z], argTypes := ts }, type := ty, pos := pos, after := after, guard := gd } (yielded ops a.tmps) = true) (hx : a.eval x = u) (hy : a.eval y = v) (hz : a.eval z = t) (hc : (callFunc f #[u, v, t]).run P w = .ok (.enter f #[u, v, t]) w)
    (h : Calls P f #[u, v, t] w fun e w' => ∃ r, e = .returned r ∧ S w' ∧ (S w' → wpAnyH P md ops Q S fuel (listed.setIfInBounds i true) (a.put dst r) w')) : wpAnyH P md ops Q S (fuel + 1) listed a w := by
  refine wpAnyH_ready hr (by simp) ?_
  refine AllReadyH.cons hi (fun K hK => ?_) AllReadyH.nil
  rw [if_pos hw]
  unfold Oper.wp
  rw [run1_call3 rfl rfl hx hy hz _ hc]
  refine Calls.mono h ?_
  rintro e w' ⟨r, rfl, s', h'⟩
  exact hK.out _ _ s' h'
/-- One operation, the only one that may come up. -/
theorem stepH_one {o : Oper} (hi : ops[i]? = some o) (hr : Region.ready md ops listed = [i]) (hw : Region.wanted o (yielded ops a.tmps) = true)
    (h : ∀ K : Act → World → Prop, (∀ a w, S w → (S w → wpAnyH P md ops Q S fuel (listed.setIfInBounds i true) a w) → K a w) → o.wp P a w K Q) : wpAnyH P md ops Q S (fuel + 1) listed a w := by
  refine wpAnyH_ready hr (by simp) ?_
  refine AllReadyH.cons hi (fun K hK => ?_) AllReadyH.nil
  rw [if_pos hw]
  exact h K hK.out
end
theorem call_number (u v t : Value) (w : World) : (callFunc 20 #[u, v, t]).run Try.prog w = .ok (.enter 20 #[u, v, t]) w := by
  simp [go_sem]
theorem call_next (u v : Value) (w : World) : (callFunc 18 #[u, v]).run Try.prog w = .ok (.enter 18 #[u, v]) w := by
  simp [go_sem]
theorem call_stroke (u v t : Value) (w : World) : (callFunc 19 #[u, v, t]).run Try.prog w = .ok (.enter 19 #[u, v, t]) w := by
  simp [go_sem]

set_option maxRecDepth 100000 in
set_option maxHeartbeats 8000000 in
theorem l14_polys (g : Nat) (v : Value) (w : World) (h : Tp w g v) : Calls Try.prog 8 #[.pointer (some ⟨g, 0, none⟩)] w (Plss w g v) := by
  have HT := Lib.hid h
  go_enter Try.func8, Try.ntmps8
  clear h
  go_wp2_with fail
  refine (t_next g v 4 _ (by omega) (by omega) HT.out).mono ?_
  rintro e w1 ⟨z, rfl, z0, z1, ht, hg⟩
  obtain ⟨n0, rfl⟩ : ∃ n : Nat, z = n := ⟨z.toNat, by omega⟩
  have P0 : Hid (Pl w g v n0 [] (.slice none 0 0) w1) := Lib.hid ⟨by simp; omega, by omega, by simp, Kz.start hg, ht, hg, HT.out.lt⟩
  clear ht hg
  go_wp2_with fail
  go_loopw [3, 4] (fun o i wr => ∃ (m : Nat) (L : List (Bool × List Pt)), i = .int .i64 m ∧ Pl w g v m L o wr) (fun _ i _ => (intOf i).toNat)
  case atStart => exact ⟨n0, [], rfl, P0.out⟩
  case round =>
    clear P0 z0 z1
    obtain ⟨m, L, rfl, hP⟩ := hrel
    obtain ⟨ao, cap, eo⟩ := hP.kz.shape
    obtain ⟨N, hN⟩ : ∃ N, L.length = N := ⟨_, rfl⟩
    rw [hN] at eo
    subst eo
    have HP := Lib.hid hP
    have HN := Lib.hid hN
    clear hP hN
    by_cases hm0 : m = 0
    · subst hm0
      have R : Hid (Plss w g v (.returned (.slice ao N cap)) wr) := Lib.hid ⟨L, _, rfl, by have := HP.out.few; omega, HP.out.pj, HP.out.kz, HP.out.tp, HP.out.grown⟩
      go_wp2
      go_ret
      exact R.out
    · obtain ⟨m', rfl⟩ : ∃ k, m = k + 1 := ⟨m - 1, by omega⟩
      have om : (m' : Int) ≤ 2 := by have := HP.out.m3; omega
      go_wp2_with fail
      refine (t_next g v 3 _ (by omega) (by omega) HP.out.tp).mono ?_
      rintro e w2 ⟨z, rfl, z0, z1, ht, hg⟩
      have P2 := Lib.hid (HP.out.tape ht hg)
      obtain ⟨n, hn, hn1⟩ : ∃ n : Nat, 1 + z = n ∧ n ≤ 3 := ⟨(1 + z).toNat, by omega, by omega⟩
      clear ht hg
      go_wp2_with fail
      refine (t_next g v 2 _ (by omega) (by omega) P2.out.tp).mono ?_
      rintro e w3 ⟨y, rfl, y0, y1, ht, hg⟩
      have P3 := Lib.hid (P2.out.tape ht hg)
      obtain ⟨c, hc⟩ : ∃ c : Bool, (y == 0) = c := ⟨_, rfl⟩
      clear ht hg
      go_wp2_with fail
      refine (t_path g v n c _ (by omega) P3.out.tp).mono ?_
      rintro e w4 ⟨l, ps, rfl, hlen, hsm, ho, ht, hg⟩
      have P4 := Lib.hid (P3.out.tape ht hg)
      have PS := Lib.hid (ho.sl (by omega))
      have FF := Lib.hid (flat_few (c := c) hlen)
      have FP := Lib.hid (pq_flat (c := c) hlen hsm)
      obtain ⟨al, cl, el⟩ := ho.len
      obtain ⟨nl, hnl⟩ : ∃ k, ps.length = k := ⟨_, rfl⟩
      rw [hnl] at el
      subst el
      have RF := Lib.hid (r8_flat c PS.out)
      obtain ⟨F, hF⟩ : ∃ F, flatL c ps = F := ⟨_, rfl⟩
      rw [hF] at FF FP RF
      clear ht hg hlen hsm ho hF hnl
      go_wp2_with fail
      refine RF.out.mono ?_
      rintro e w5 ⟨vf, rfl, hof, hb⟩
      have P5 := Lib.hid (P4.out.call hb)
      obtain ⟨nf, hnf⟩ : ∃ k, F.length = k := ⟨_, rfl⟩
      obtain ⟨af, cf, ef⟩ := hof.len
      rw [hnf] at ef FF
      subst ef
      obtain ⟨gp, hgp⟩ : ∃ k, w5.heap.size = k := ⟨_, rfl⟩
      obtain ⟨X, hX⟩ : ∃ X, w5.alloc (.cells #[.bool c, .slice af nf cf] 31) = X := ⟨_, rfl⟩
      have bX : Below w5.heap.size w5 X := by rw [← hX]; exact (Below.refl _ _).alloc (Nat.le_refl _) _
      have kp : Has X gp #[.bool c, .slice af nf cf] 31 := by rw [← hX]; exact has_new hgp
      have P6 := Lib.hid (P5.out.call bX)
      have OF := Lib.hid (hof.below bX (Nat.le_refl _))
      have GP : Hid (w4.heap.size ≤ gp ∧ g < gp) := Lib.hid ⟨by rw [← hgp]; exact hb.size, by rw [← hgp]; have := P5.out.size; have := P5.out.gl; omega⟩
      have YG : Hid (∀ k, Value.ownBlock (.slice ao N cap) = some k → k < gp) := Lib.hid (fun k hk => by rw [← hgp]; exact (P5.out.kz.young k hk).1)
      have HX := Lib.hid hX
      have KP := Lib.hid kp
      have HNF := Lib.hid hnf
      clear hof hb hX bX kp hnf
      go_upto_region 6 with fail
      rw [HX.out]
      clear hgp
      go_wp2_with fail
      refine (t_next g v 4 _ (by omega) (by omega) P6.out.tp).mono ?_
      rintro e w6 ⟨x, rfl, x0, x1, ht, hg⟩
      have P7 := Lib.hid (P6.out.tape ht hg)
      have K7 := Lib.hid (has_grown KP.out hg (by have := GP.out.2; omega))
      have O7 := Lib.hid (OF.out.young hg (show g < w4.heap.size by have := P4.out.size; have := P4.out.gl; omega))
      clear ht hg P6 KP OF HX P5
      by_cases hx0 : x = 0
      · subst hx0
        go_upto_region 7 with fail
        refine wp_region_held_drew (S := fun w' => Has w' gp #[.bool c, .slice af nf cf] 31) (by kernel_rfl) K7.out (fun hH => ?_)
        have P8 : Hid (Pl w g v (m' + 1) L (.slice ao N cap) w6.drew) := Lib.hid (P7.out.call (below_drew (Below.refl _ _)))
        have O8 : Hid (Pown w6.drew w4.heap.size (.slice af nf cf) F) := Lib.hid (O7.out.below (below_drew (Below.refl w6.heap.size w6)) (Nat.le_refl _))
        obtain ⟨V, hV⟩ : ∃ V, w6.drew = V := ⟨_, rfl⟩
        rw [hV] at hH P8 O8 ⊢
        clear hV
        refine takeH_move (i := 0) (.tmp 3) (.slice ao N cap) rfl (by kernel_rfl) (by kernel_rfl) (by kernel_rfl) (fun c a d v w h => by first | exact h | (cases d <;> exact h)) (by rfl) rfl hH ?_
        simp only [Act.put, List.setIfInBounds_toArray, List.set_cons_zero, List.set_cons_succ]
        refine takeH_load (i := 1) (.tmp 5) gp rfl (by kernel_rfl) (by kernel_rfl) (by kernel_rfl) (fun c a d v w h => by first | exact h | (cases d <;> exact h)) (by rfl) rfl (fun w h => h) Try.underlying31 rfl (by kernel_rfl) hH ?_
        simp only [Act.put, List.setIfInBounds_toArray, List.set_cons_zero, List.set_cons_succ]
        refine takeH_move (i := 2) (.tmp 0) (.pointer (some ⟨g, 0, none⟩)) rfl (by kernel_rfl) (by kernel_rfl) (by kernel_rfl) (fun c a d v w h => by first | exact h | (cases d <;> exact h)) (by rfl) rfl hH ?_
        simp only [Act.put, List.setIfInBounds_toArray, List.set_cons_zero, List.set_cons_succ]
        refine takeH_move (i := 4) (.tmp 0) (.pointer (some ⟨g, 0, none⟩)) rfl (by kernel_rfl) (by kernel_rfl) (by kernel_rfl) (fun c a d v w h => by first | exact h | (cases d <;> exact h)) (by rfl) rfl hH ?_
        simp only [Act.put, List.setIfInBounds_toArray, List.set_cons_zero, List.set_cons_succ]
        refine stepH_call3 (i := 3) (.tmp 26) (.const (.int .i64 0)) (.const (.int .i64 3)) (.pointer (some ⟨g, 0, none⟩)) (.int .i64 0) (.int .i64 3) rfl (by kernel_rfl) (by rfl) rfl rfl rfl (call_number _ _ _ _) ?_
        refine Calls.mono (t_number g v 0 3 _ (by omega) (by omega) (by omega) P8.out.tp) ?_
        rintro e w8 ⟨wd, rfl, d0, d1, ht, hg⟩
        refine ⟨_, rfl, has_grown hH hg (by have := GP.out.2; omega), fun hH' => ?_⟩
        have P9 := Lib.hid (P8.out.tape ht hg)
        have O9 := Lib.hid (O8.out.young hg (show g < w4.heap.size by have := P4.out.size; have := P4.out.gl; omega))
        clear hH ht hg P8 O8
        have hH := hH'
        clear hH'
        simp only [Act.put, List.setIfInBounds_toArray, List.set_cons_zero, List.set_cons_succ]
        refine stepH_call2 (i := 5) (.tmp 28) (.const (.int .i64 2)) (.pointer (some ⟨g, 0, none⟩)) (.int .i64 2) rfl (by kernel_rfl) (by rfl) rfl rfl (call_next _ _ _) ?_
        refine Calls.mono (t_next g v 2 _ (by omega) (by omega) P9.out.tp) ?_
        rintro e w9 ⟨cp, rfl, cp0, cp1, ht, hg⟩
        refine ⟨_, rfl, has_grown hH hg (by have := GP.out.2; omega), fun hH' => ?_⟩
        have P10 := Lib.hid (P9.out.tape ht hg)
        have O10 := Lib.hid (O9.out.young hg (show g < w4.heap.size by have := P4.out.size; have := P4.out.gl; omega))
        clear hH ht hg P9 O9
        have hH := hH'
        clear hH'
        simp only [Act.put, List.setIfInBounds_toArray, List.set_cons_zero, List.set_cons_succ]
        refine stepH_call3 (i := 6) (.tmp 25) (.tmp 27) (.tmp 29) (.agg #[.bool c, .slice af nf cf]) (.int .i64 wd) (.int .i64 cp) rfl (by kernel_rfl) (by rfl) rfl rfl rfl (call_stroke _ _ _ _) ?_
        refine Calls.mono (r9_stroke c wd cp (O10.out.sl (by have := HNF.out; have := FF.out; omega)) (by have := HNF.out; have := FF.out; omega)) ?_
        rintro e w10 ⟨vs, rfl, hk⟩
        have hb := hk.below
        refine ⟨_, rfl, hH.below hb hH.lt, fun hH' => ?_⟩
        have P11 := Lib.hid (P10.out.call hb)
        have S9 := Lib.hid (stroke_few c F wd cp (by have := HNF.out; have := FF.out; omega))
        have SP := Lib.hid (sm_stroke c (w := wd) cp FP.out (by omega))
        obtain ⟨M, hM⟩ : ∃ M, strokeL c F wd cp = M := ⟨_, rfl⟩
        rw [hM] at hk S9 SP
        obtain ⟨as_, cs, es⟩ := hk.shape
        obtain ⟨ms, hms⟩ : ∃ k, M.length = k := ⟨_, rfl⟩
        rw [hms] at es S9
        subst es
        have HK := Lib.hid hk
        have YO : Hid (∀ k, Value.ownBlock (.slice ao N cap) = some k → k < w9.heap.size) := Lib.hid (fun k hk => (P10.out.kz.young k hk).1)
        have SZ : Hid (w.heap.size ≤ w9.heap.size) := Lib.hid P10.out.size
        clear hH hb hM
        have hH := hH'
        clear hH'
        simp only [Act.put, List.setIfInBounds_toArray, List.set_cons_zero, List.set_cons_succ]
        refine stepH_one (i := 7) rfl (by kernel_rfl) (by rfl) (fun K hK => ?_)
        refine wp_append_z (.tmp 24) (.tmp 30) rfl ao N cap HN.out rfl as_ ms cs hms rfl P11.out.kz HK.out YO.out SZ.out (by have := HP.out.few; have := HN.out; have := S9.out; omega) ?_
        intro a' c' w11 hk2 hg2
        have PN : Hid (Pl w g v m' (L ++ M) (.slice a' (N + ms) c') w11) := Lib.hid ⟨by rw [List.length_append, HN.out, hms]; have := HP.out.few; have := HN.out; have := S9.out; omega, by have := HP.out.m3; omega,
          fun y hy => by
            rcases List.mem_append.1 hy with h1 | h1
            · exact HP.out.pj y h1
            · exact SP.out y h1,
          hk2, HT.out.young P11.out.tp hg2 (fun k e => (P11.out.kz.young k e).2), grownBy_own P11.out.grown hg2 (fun k e => (P11.out.kz.young k e).2), HP.out.gl⟩
        refine hK _ _ ((hg2.block gp hH.lt (fun e => by have := YG.out gp e.symm; omega)).trans hH) (fun hH' => ?_)
        clear hH hk2 hg2 hK K
        have hH := hH'
        clear hH' hms
        simp only [Act.put, List.setIfInBounds_toArray]
        refine takeH_assign (i := 8) (.tmp 31) (.slice a' (N + ms) c') rfl (by kernel_rfl) (by kernel_rfl) (by kernel_rfl) (fun c a d v w h => by first | exact h | (cases d <;> exact h)) (by rfl) rfl hH ?_
        simp only [Act.put]
        refine wpAnyH_done (by kernel_rfl) ?_ _
        clear hH
        go_wp2
        go_roundw
        case rel => exact ⟨m', L ++ M, by go_num, PN.out⟩
        case measure => simp [intOf]
      · have k0 := K7.out.cell 0 _ rfl
        have k1 := K7.out.cell 1 _ rfl
        have YO : Hid (∀ k, Value.ownBlock (.slice ao N cap) = some k → k < w4.heap.size) := Lib.hid (fun k hk => (P4.out.kz.young k hk).1)
        have s46 : w4.heap.size ≤ w6.heap.size := by have := GP.out.1; have := K7.out.lt; omega
        have F9 : F.length ≤ 8796093022208 := by have := HNF.out; have := FF.out; omega
        have ONE := Lib.hid (Kz.one (w := w) c P7.out.grown O7.out F9 s46)
        have P8 : Hid (Pl w g v (m' + 1) L (.slice ao N cap) (w6.alloc (.cells #[.bool c, .slice af nf cf] 31))) := Lib.hid (P7.out.call ((Below.refl _ _).alloc (Nat.le_refl _) _))
        have SZ : Hid (w.heap.size ≤ w4.heap.size) := Lib.hid P4.out.size
        have N9 : Hid (N + 1 ≤ 1000) := Lib.hid (by have := HP.out.few; have := HN.out; omega)
        clear s46 F9
        go_wp2_with (at_builtin; refine wpList_append_z rfl _ _ rfl ao N cap HN.out rfl _ 1 1 rfl rfl P8.out.kz ONE.out YO.out SZ.out N9.out ?_)
        intro a' c' w11 hk2 hg2
        have PN : Hid (Pl w g v m' (L ++ [(c, F)]) (.slice a' (N + 1) c') w11) := Lib.hid ⟨by rw [List.length_append, HN.out, List.length_singleton]; have := HP.out.few; have := HN.out; omega, by have := HP.out.m3; omega,
          fun y hy => by
            rcases List.mem_append.1 hy with h1 | h1
            · exact HP.out.pj y h1
            · rw [List.mem_singleton.1 h1]; exact FP.out.ps (by have := HNF.out; have := FF.out; omega),
          hk2, HT.out.young P8.out.tp hg2 (fun k e => (P8.out.kz.young k e).2), grownBy_own P8.out.grown hg2 (fun k e => (P8.out.kz.young k e).2), HP.out.gl⟩
        clear hk2 hg2 k0 k1
        go_wp2
        go_roundw
        case rel => exact ⟨m', L ++ [(c, F)], by go_num, PN.out⟩
        case measure => simp [intOf]

end Go.Proofs.Ytopepgifhnfbiaa
