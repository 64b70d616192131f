/- CoverBacks of the statements: whatever the numbers are, the call returns true and each argument reads as it did; no condition. -/
import Derived.Test.YtopepgifhnfbiaaBx1
import Derived.Test.YtopepgifhnfbiaaK4
import Derived.Test.YtopepgifhnfbiaaVar
import Derived.Test.YtopepgifhnfbiaaXMath
import Derived.Test.YtopepgifhnfbiaaN4
import Derived.Test.YtopepgifhnfbiaaY8
import Derived.Test.YtopepgifhnfbiaaPB
import Derived.BigRegion
import Derived.Test.YtopepgifhnfbiaaUMath
import Derived.Test.YtopepgifhnfbiaaRF8
import Derived.Test.YtopepgifhnfbiaaTP
import Derived.Test.YtopepgifhnfbiaaTB7
import Derived.Test.YtopepgifhnfbiaaCv1
import Derived.Test.YtopepgifhnfbiaaNMath
import Derived.Test.YtopepgifhnfbiaaCvA
import Derived.Test.YtopepgifhnfbiaaA
import Derived.Test.YtopepgifhnfbiaaMake
import Derived.Test.YtopepgifhnfbiaaQt
import Derived.Test.YtopepgifhnfbiaaApp
import Derived.Deep.AppendLies
import Derived.Deep.DeepCutAuto
import Derived.Test.YtopepgifhnfbiaaBxMath
import Derived.Test.YtopepgifhnfbiaaRI5
import Derived.Test.YtopepgifhnfbiaaT5
import Derived.Deep.Slices
import Derived.ChangeSame
import Derived.Test.YtopepgifhnfbiaaRows
import Derived.WalkKit
import Derived.ProofKit
import Derived.OpenShut
import Derived.Carry
namespace Go.Proofs.Ytopepgifhnfbiaa
open Go Go.RowKit
open M

def I64 (a : Int) : Prop := -9223372036854775808 ≤ a ∧ a ≤ 9223372036854775807
theorem b_down (a : Int) (w : World) : Calls Try.prog 57 #[.int .i64 a] w fun r w' => r = .returned (.int .i64 (dn a)) ∧ w = w' := by
  unfold dn
  go_enter Try.func57, Try.ntmps57
  go_wp2
  go_ret
  exact ⟨rfl, rfl⟩
theorem b_up (a : Int) (h : I64 a) (w : World) : Calls Try.prog 58 #[.int .i64 a] w fun r w' => r = .returned (.int .i64 (up a)) ∧ w = w' := by
  have bd := dn_bd h.1 h.2
  have ha := and_one a
  obtain ⟨m, hm⟩ : ∃ m, bits .and .i64 a 65535 = m := ⟨_, rfl⟩
  obtain ⟨d, hd⟩ : ∃ d, dn a = d := ⟨_, rfl⟩
  have DN := Lib.hid (fun w => b_down a w)
  rw [hd] at DN bd
  rw [hm] at ha
  by_cases h0 : m = 0
  · have HU : Hid (up a = d) := Lib.hid (by rw [← hd]; unfold up dn; rw [if_pos (by omega)])
    clear ha hd h
    go_enter Try.func58, Try.ntmps58
    go_wp2_with fail
    refine (DN.out _).mono ?_
    rintro r w1 ⟨rfl, rfl⟩
    go_wp2
    go_ret
    exact ⟨by rw [HU.out]; rfl, rfl⟩
  · have HU : Hid (up a = d + 1) := Lib.hid (by rw [← hd]; unfold up dn; rw [if_neg (by omega)])
    have b1 : -140737488355328 ≤ d := bd.1
    have b2 : d ≤ 140737488355327 := bd.2
    clear ha hd h bd
    go_enter Try.func58, Try.ntmps58
    go_wp2_with fail
    refine (DN.out _).mono ?_
    rintro r w1 ⟨rfl, rfl⟩
    go_wp2
    go_ret
    exact ⟨by rw [HU.out]; rfl, rfl⟩
end Go.Proofs.Ytopepgifhnfbiaa

namespace Go.Proofs.Ytopepgifhnfbiaa
open Go Go.RowKit

section
variable {L : List Oper} {mk : List Nat} {o : Oper} {p : Nat} {G : Nat → Option Value} {e : Act}
/-- Operation o's guard is no made value. -/
def guardB (L : List Oper) (mk : List Nat) (o : Oper) : Bool := match o.guard with | none => true | some (g, _) => (match dstAt L g with | some d => mk.all fun j => dstAt L j != some d | none => true)
theorem wanted_put (h : guardB L mk o = true) (hGn : ∀ k, k ∉ mk → G k = none) (hw : Region.wanted o (yielded L.toArray e.tmps) = true) : Region.wanted o (yielded L.toArray (putV (dstAt L) G p e).tmps) = true := by
  unfold Region.wanted at hw ⊢
  unfold guardB at h
  cases hg : o.guard with
  | none => rfl
  | some gb =>
    obtain ⟨g, b⟩ := gb
    rw [hg] at h hw
    simp only at h hw ⊢
    have key : yielded L.toArray (putV (dstAt L) G p e).tmps g = yielded L.toArray e.tmps g := by
      unfold yielded
      have ed : (L.toArray[g]?).bind (·.dst) = dstAt L g := by unfold dstAt; simp
      rw [ed]
      cases hd : dstAt L g with
      | none => rfl
      | some d =>
        rw [hd] at h
        simp only at h
        have q : (putV (dstAt L) G p e).tmps[d]? = e.tmps[d]? := putV_at e p fun k hk hkn he => by
          have hkm : k ∈ mk := by
            apply Classical.byContradiction
            intro hn
            exact hkn (hGn k hn)
          have := List.all_eq_true.1 h k hkm
          rw [he] at this
          simp at this
        simp only [Option.bind_some, q]
    rw [key]
    exact hw
end

end Go.Proofs.Ytopepgifhnfbiaa

namespace Go.Proofs.Ytopepgifhnfbiaa
open Go Go.RowKit
open M

/-- A poly's part is stored into a block of the call's own. -/
theorem part_put {w V w3 : World} {r : Nat} {l : Value} {ps : List Pt} {cs : Array Value} (hb : Below w.heap.size w V) (hl : w.heap.size ≤ r) (hr : Has V r cs 31) (hs : cs.size = 2) (ho : Pown w3 V.heap.size l ps) (hb3 : Below V.heap.size V w3) :
    Gives w false ps (.returned (.agg #[.bool false, l])) ((w3.setCell ⟨r, 0, none⟩ (.bool false)).setCell ⟨r, 1, none⟩ l) ∧ Has ((w3.setCell ⟨r, 0, none⟩ (.bool false)).setCell ⟨r, 1, none⟩ l) r #[.bool false, l] 31 := by
  have k3 := hr.below hb3 hr.lt
  refine ⟨⟨l, rfl, (ho.lower hb.size).kept (grownBy_set (grownBy_set (World.grownBy.refl _ _) _ _) _ _) (fun k hk e => by simp at hk; have := (ho.base k e).1; have := hr.lt; omega), ((hb.trans (hb3.mono hb.size)).setCell hl _).setCell hl _⟩, ?_⟩
  have := has_set (has_set k3 0 (.bool false)) 1 l
  match cs, hs with
  | ⟨[x, y]⟩, _ => simpa using this

end Go.Proofs.Ytopepgifhnfbiaa

namespace Go.Proofs.Ytopepgifhnfbiaa
open Go Go.RowKit
open M

/-- The value v is a poly whose list is of the call's own. -/
def PolyO (base : Nat) (c : Bool) (ps : List Pt) (v : Value) (w : World) : Prop := ∃ l, v = .agg #[.bool c, l] ∧ Pown w base l ps
theorem PolyO.stay {base : Nat} {c : Bool} {ps : List Pt} {v : Value} {w w' : World} (h : PolyO base c ps v w) (hb : Below w.heap.size w w') : PolyO base c ps v w' := by
  obtain ⟨l, e, hp⟩ := h
  exact ⟨l, e, hp.below hb (Nat.le_refl _)⟩
theorem Pown.ne_has {w : World} {B g : Nat} {l : Value} {ps : List Pt} {cs : Array Value} (h : Pown w B l ps) (hg : Has w g cs 31) : l.ownBlock ≠ some g := by
  intro e
  rcases h.2 with ⟨rfl, _⟩ | ⟨g', cap, cur, rfl, _, hh, _⟩
  · cases e
  · have e' : some g' = some g := e
    simp at e'
    subst e'
    unfold Has at hg
    rw [hh] at hg
    simp at hg
theorem ysl_lit {w : World} {g n cp : Nat} {ys : List Po} {cs : Array Value} {t : TypeId} (hn : ys.length = n) (hf : n ≤ 1000) (hs : ∀ i, i < ys.length → Psl w (po ys i).v (po ys i).ps) (h : Has w g cs t) (hc : cs = (yls ys).toArray) : Ysl w (.slice (some ⟨g, 0, none⟩) n cp) ys := ysl_has hn hf hs (hc ▸ h)
theorem ysl_one {w : World} {g : Nat} {c : Bool} {l : Value} {fs : List Pt} {t : TypeId} (hs : Psl w l fs) (h : Has w g #[.bool c, l] t) : Ysl w (.slice (some ⟨g, 0, none⟩) 1 1) [⟨c, l, fs⟩] := by
  refine ysl_lit (ys := [⟨c, l, fs⟩]) rfl (by decide) (fun i hi => ?_) h rfl
  obtain rfl : i = 0 := by simp at hi; omega
  exact hs
theorem ysl_two {w : World} {g : Nat} {c c2 : Bool} {l l2 : Value} {fs fs2 : List Pt} {t : TypeId} (hs : Psl w l fs) (hs2 : Psl w l2 fs2) (h : Has w g #[.bool c, l, .bool c2, l2] t) : Ysl w (.slice (some ⟨g, 0, none⟩) 2 2) [⟨c, l, fs⟩, ⟨c2, l2, fs2⟩] :=
  ysl_lit (ys := [⟨c, l, fs⟩, ⟨c2, l2, fs2⟩]) rfl (by decide) (fun i hi => by
    rcases (show i = 0 ∨ i = 1 by simp at hi; omega) with rfl | rfl
    · exact hs
    · exact hs2) h rfl
theorem one_alike {c : Bool} {l l2 : Value} {fs : List Pt} : ∀ j, j < [(⟨c, l, fs⟩ : Po)].length → bareY (po [(⟨c, l, fs⟩ : Po)] j) = bareY (po [(⟨c, l2, fs⟩ : Po)] j) := fun j hj => by
  obtain rfl : j = 0 := by simp at hj; omega
  rfl
theorem ysl_shape {w : World} {v : Value} {ys : List Po} {n : Nat} (h : Ysl w v ys) (hn : ys.length = n) : ∃ ao cap, v = .slice ao n cap := by
  obtain ⟨ao, cap, e, _⟩ := h
  exact ⟨ao, cap, by rw [e, hn]⟩

end Go.Proofs.Ytopepgifhnfbiaa

namespace Go.Proofs.Ytopepgifhnfbiaa
open Go Go.RowKit

section
variable {P : Program}
theorem run_append_noth (w : World) (t ty e : TypeId) (i : TypeInfo) (ht : P.underlying t = some (.slice e)) (hi : P.info? e = some i) (base : Option Addr) (sLen sCap : Nat) (hle : sLen ≤ sCap) (ao : Option Addr) (cap : Nat) :
    (Builtin.append_ #[t, t] ty #[.slice base sLen sCap, .slice ao 0 cap]).run P w = .ok (.slice base sLen sCap) w := by
  have hlo : ∀ (x : Addr), (loadCells x 0).run P w = .ok #[] w := fun x => by simpa using run_loadCells_list (P := P) w x [] (by simp)
  cases ao <;> cases base <;> simp [Builtin.append_, run_underlying ht, sizeOf, typeInfo, hi, Builtin.lenOf, Builtin.firstCells, hle, hlo, storeCells]
theorem wp_append_noth {w : World} {o : Oper} {a : Act} {K : Act → World → Prop} {Q : Exit → Act → World → Prop} (s x : Operand) (t : TypeId)
    (ho : o.op = .call { callee := .builtin .append, args := #[s, x], argTypes := #[t, t] }) (e : TypeId) (i : TypeInfo) (ht : P.underlying t = some (.slice e)) (hi : P.info? e = some i) (base : Option Addr) (sLen sCap : Nat) (hle : sLen ≤ sCap) (hs : a.eval s = .slice base sLen sCap)
    (ao : Option Addr) (cap : Nat) (hx : a.eval x = .slice ao 0 cap) (h : K (a.put o.dst (.slice base sLen sCap)) w) : o.wp P a w K Q := by
  have hrun := run_append_noth (P := P) w t o.type e i ht hi base sLen sCap hle ao cap
  unfold Oper.wp
  simp [execOp, ho, resolve, invoke, builtin, hs, hx, hrun, Result.andThen]
  exact h
theorem wpList_append_noth {w : World} {ops : Array Oper} {rest : List Oper} {o : Oper} {a : Act} {Q : Exit → Act → World → Prop} (hgd : o.guard = none) (s x : Operand) (t : TypeId)
    (ho : o.op = .call { callee := .builtin .append, args := #[s, x], argTypes := #[t, t] }) (e : TypeId) (i : TypeInfo) (ht : P.underlying t = some (.slice e)) (hi : P.info? e = some i) (base : Option Addr) (sLen sCap : Nat) (hle : sLen ≤ sCap) (hs : a.eval s = .slice base sLen sCap)
    (ao : Option Addr) (cap : Nat) (hx : a.eval x = .slice ao 0 cap) (h : wpList P ops Q rest (a.put o.dst (.slice base sLen sCap)) w) : wpList P ops Q (o :: rest) a w :=
  wpList_plain hgd fun _ hK => wp_append_noth s x t ho e i ht hi base sLen sCap hle hs ao cap hx (hK _ _ h)
end

end Go.Proofs.Ytopepgifhnfbiaa

namespace Go.Proofs.Ytopepgifhnfbiaa
open Go Go.RowKit
open M

/-- A list of just these polys is returned. -/
def GivesL (w : World) (L : List (Bool × List Pt)) (e : Ending) (w' : World) : Prop := ∃ v zs, e = .returned v ∧ Ysl w' v zs ∧ zs.map bareY = L ∧ Below w.heap.size w w'
theorem Ysl.slice {w : World} {v : Value} {ys : List Po} (h : Ysl w v ys) : ∃ ao cap, v = .slice ao ys.length cap := by
  obtain ⟨ao, cap, e, _⟩ := h
  exact ⟨ao, cap, e⟩
theorem GivesL.on {w w1 w2 : World} {L : List (Bool × List Pt)} {e : Ending} (h : GivesL w1 L e w2) (hb : Below w.heap.size w w1) : GivesL w L e w2 := by
  obtain ⟨v, zs, he, hy, hz, hq⟩ := h
  exact ⟨v, zs, he, hy, hz, hb.trans (hq.mono hb.size)⟩
/-- The value v is a list of just these polys. -/
def LR (L : List (Bool × List Pt)) (v : Value) (w : World) : Prop := ∃ zs, Ysl w v zs ∧ zs.map bareY = L
theorem LR.stay {L : List (Bool × List Pt)} {v : Value} {w w' : World} (h : LR L v w) (hb : Below w.heap.size w w') : LR L v w' := by
  obtain ⟨zs, hy, hz⟩ := h
  exact ⟨zs, hy.below hb, hz⟩
theorem bares_of {zs : List Po} {N : Nat} {f : Nat → Bool × List Pt} (hl : zs.length = N) (h : ∀ j, j < N → bareY (po zs j) = f j) : zs.map bareY = (List.range N).map f := by
  apply List.ext_getElem?
  intro i
  by_cases hi : i < N
  · have := h i hi
    unfold po at this
    rw [List.getD_eq_getElem?_getD, List.getElem?_eq_getElem (by omega)] at this
    simp [hi, hl]
    simpa using this
  · rw [List.getElem?_eq_none (by simp; omega), List.getElem?_eq_none (by simp; omega)]
theorem grownBy_drew {a b : World} {r : Option Nat} (h : a.grownBy b r) : a.grownBy b.drew r := ⟨h.os, h.tape, h.output, h.size, h.block⟩
theorem Yfill.copied {w1 wr V : World} {gs N n : Nat} {f : Nat → Bool × List Pt} {zs : List Po} (h : Yfill w1 gs N f n zs wr) (hn : n < N) {c : Bool} {v : Value} {ps : List Pt} (hf : f n = (c, ps)) (hv : Psl V v ps) (hne : v.ownBlock ≠ some gs)
    (hk : ∀ k, k < wr.heap.size → k ≠ gs → V.heap[k]? = wr.heap[k]?) (hh : Has V gs (((yls zs).set (n * 2) (.bool c)).set (n * 2 + 1) v).toArray 31) (hb : Below w1.heap.size w1 V) : Yfill w1 gs N f (n + 1) (zs.set n ⟨c, v, ps⟩) V := by
  refine ⟨by rw [List.length_set]; exact h.len, ?_, fun j hj => ?_, hb, h.lo⟩
  · rw [yls_set (by rw [h.len]; exact hn)]
    exact hh
  · by_cases e : n = j
    · subst e
      rw [po_set_eq (by rw [h.len]; exact hn)]
      exact ⟨hf.symm, hv, hne⟩
    · rw [po_set_ne e]
      obtain ⟨a, b, c'⟩ := h.told j (by omega)
      exact ⟨a, b.blocks (fun k hkk e => hk k hkk (fun e2 => c' (by rw [e, e2]))), c'⟩

theorem gives_append {P : Program} {o : Oper} {e : Act} {w : World} {K : Value → World → Prop} (s x : Operand) (t : TypeId) (ho : o.op = .call { callee := .builtin .append, args := #[s, x], argTypes := #[t, t] })
    {v u : Value} (hs : e.eval s = v) (hx : e.eval x = u) {v' : Value} {w' : World} (hr : (Builtin.append_ #[t, t] o.type #[v, u]).run P w = .ok v' w') (h : K v' w') : gives P o e w K := by
  unfold gives execOp
  simp only [ho, resolve, invoke, builtin, Sem.run_bind, Sem.run_pure, Result.andThen_ok, List.map_toArray, List.map_cons, List.map_nil, hs, hx, hr]
  exact h
/-- A list of no places, in a block of the call's own, still bare where c says so. -/
def NoP (base : Nat) (c : Prop) (v : Value) (w : World) : Prop := ∃ g, v = .slice (some ⟨g, 0, none⟩) 0 0 ∧ base ≤ g ∧ g < w.heap.size ∧ (c → Has w g #[] 28)
theorem NoP.stay {base : Nat} {c : Prop} {v : Value} {w w' : World} (h : NoP base c v w) (hb : Below w.heap.size w w') : NoP base c v w' := by
  obtain ⟨g, e, l, s, k⟩ := h
  exact ⟨g, e, l, Nat.lt_of_lt_of_le s hb.size, fun hc => (k hc).below hb (k hc).lt⟩
/-- All places of a list appended to a list of none: what lies where. -/
theorem append_all {w : World} {B g : Nat} {ps : List Pt} {ao : Option Addr} {M cap : Nat} (hk : Has w g #[] 28) (hg : B ≤ g) (hs : Psl w (.slice ao M cap) ps) (hM : ps.length = M) (ty : TypeId) :
    ∃ v' w', (Builtin.append_ #[29, 29] ty #[.slice (some ⟨g, 0, none⟩) 0 0, .slice ao M cap]).run Try.prog w = .ok v' w' ∧ Pown w' B v' ps ∧ w.grownBy w' (some g) := by
  obtain ⟨i0, hi, hz0, hz1, hz2⟩ := info_parts Try.infoPt
  have hlt := hk.lt
  have ho : Pown w B (.slice (some ⟨g, 0, none⟩) 0 0) [] := ⟨rfl, Or.inr ⟨g, 0, #[], rfl, hg, hk, by simp, by simp, by simp, by simp [pls]⟩⟩
  have hf := hs.few
  by_cases h0 : M = 0
  · subst h0
    obtain rfl : ps = [] := List.eq_nil_of_length_eq_zero hM
    exact ⟨_, w, run_append_noth w _ ty _ i0 Try.underlying29 hi _ 0 0 (Nat.le_refl _) ao cap, ho, World.grownBy.refl _ _⟩
  · obtain ⟨ao', cap', hv, _, hrow⟩ := hs
    obtain ⟨gs, o, rfl, row⟩ := hrow (by omega)
    simp only [Value.slice.injEq] at hv
    obtain ⟨rfl, _, _⟩ := hv
    obtain ⟨g', cap2, w', hr, h2, h3, _, _⟩ := run_append_lies (P := Try.prog) w 29 ty B 28 i0 _ 2 16 Try.underlying29 hi hz0 hz1 hz2 rfl (by decide) (.slice (some ⟨g, 0, none⟩) 0 0) 0 [] ho ⟨gs, o, none⟩ M cap (pls ps) (by rw [pls_length, hM]) (fun j u hu => by rw [Addr.add_lit]; exact row.at j u hu) (ones_pls ps) (by omega) (by unfold maxLen; omega) (by omega) (by omega) _ rfl
    refine ⟨_, w', hr, ?_, h3⟩
    unfold Pown
    rw [hM]
    simpa using h2

end Go.Proofs.Ytopepgifhnfbiaa

namespace Go.Proofs.Ytopepgifhnfbiaa
open Go Go.RowKit
open M

/-- The places of the first n polys. -/
def ptsN (ys : List Po) : Nat → List Pt
  | 0 => []
  | n + 1 => ptsN ys n ++ (po ys n).ps
def lsP (e : Option (Pt × Pt)) : Pt := match e with | none => ⟨0, 0⟩ | some (a, _) => a
def gsP (e : Option (Pt × Pt)) : Pt := match e with | none => ⟨0, 0⟩ | some (_, b) => b
def smP (e : Option (Pt × Pt)) : Bool := match e with | none => false | some _ => true
theorem ends1_smP (e : Option (Pt × Pt)) (p : Pt) : smP (ends1 e p) = true := by rcases e with _ | ⟨a, b⟩ <;> rfl
theorem has_set_ne {w : World} {g k : Nat} {cs : Array Value} {t : TypeId} (h : Has w g cs t) (hne : g ≠ k) (j : Nat) (u : Value) : Has (w.setCell ⟨k, j, none⟩ u) g cs t := has_grown h (grownBy_set (World.grownBy.refl _ _) _ _) hne
/-- What the program holds of the places so far. -/
structure EV (w0 : World) (g : Nat) (e : Option (Pt × Pt)) (wr : World) : Prop where
  k1 : Has wr g (pCells (lsP e)) 28
  k2 : Has wr (g + 1) (pCells (gsP e)) 28
  below : Below w0.heap.size w0 wr
  lo : w0.heap.size ≤ g
theorem EV.later {w0 wr w' : World} {g : Nat} {e : Option (Pt × Pt)} (h : EV w0 g e wr) (hb : Below wr.heap.size wr w') : EV w0 g e w' :=
  ⟨h.k1.below hb h.k1.lt, h.k2.below hb h.k2.lt, h.below.trans (hb.mono h.below.size), h.lo⟩
theorem EV.put {w0 wr : World} {g : Nat} {e : Option (Pt × Pt)} (h : EV w0 g e wr) (e' : Option (Pt × Pt)) :
    EV w0 g e' ((((wr.setCell ⟨g, 0, none⟩ (.int .i64 (lsP e').x)).setCell ⟨g, 1, none⟩ (.int .i64 (lsP e').y)).setCell ⟨g + 1, 0, none⟩ (.int .i64 (gsP e').x)).setCell ⟨g + 1, 1, none⟩ (.int .i64 (gsP e').y)) := by
  have hl := h.lo
  refine ⟨?_, ?_, ((((h.below.setCell (show w0.heap.size ≤ g from hl) _).setCell (show w0.heap.size ≤ g from hl) _).setCell (show w0.heap.size ≤ g + 1 by omega) _).setCell (show w0.heap.size ≤ g + 1 by omega) _), hl⟩
  · have := has_set (has_set h.k1 0 (.int .i64 (lsP e').x)) 1 (.int .i64 (lsP e').y)
    refine has_set_ne (has_set_ne ?_ (by omega) _ _) (by omega) _ _
    simpa using this
  · have h1 : Has ((wr.setCell ⟨g, 0, none⟩ (.int .i64 (lsP e').x)).setCell ⟨g, 1, none⟩ (.int .i64 (lsP e').y)) (g + 1) (pCells (gsP e)) 28 := has_set_ne (has_set_ne h.k2 (by omega) _ _) (by omega) _ _
    have := has_set (has_set h1 0 (.int .i64 (gsP e').x)) 1 (.int .i64 (gsP e').y)
    simpa using this

def preP (e : Option (Pt × Pt)) (p : Pt) : Pt × Pt := match e with | none => (p, p) | some q => q
theorem ends1_pre (e : Option (Pt × Pt)) (p a b : Pt) (h : preP e p = (a, b)) : ends1 e p = some (⟨minI a.x p.x, minI a.y p.y⟩, ⟨maxI b.x p.x, maxI b.y p.y⟩) := by
  rcases e with _ | ⟨c, d⟩
  · simp only [preP, Prod.mk.injEq] at h
    obtain ⟨rfl, rfl⟩ := h
    simp [ends1, minI, maxI]
  · simp only [preP, Prod.mk.injEq] at h
    obtain ⟨rfl, rfl⟩ := h
    rfl
theorem take_pt {ps : List Pt} {k : Nat} (h : k < ps.length) : ps.take (k + 1) = ps.take k ++ [pt ps k] := by
  rw [List.take_succ_eq_append_getElem h]
  unfold pt
  simp [List.getD, h]
set_option maxHeartbeats 4000000 in
theorem b_ends {v : Value} {ys : List Po} {w : World} (h : Ysl w v ys) :
    Calls Try.prog 56 #[v] w fun r w' => r = .returned (.tuple #[.agg (pCells (lsP (endsP (ptsN ys ys.length)))), .agg (pCells (gsP (endsP (ptsN ys ys.length)))), .bool (smP (endsP (ptsN ys ys.length)))]) ∧ Below w.heap.size w w' := by
  obtain ⟨W, hW⟩ : ∃ W, (w.alloc (.cells #[.int .i64 0, .int .i64 0] 28)).alloc (.cells #[.int .i64 0, .int .i64 0] 28) = W := ⟨_, rfl⟩
  obtain ⟨ha, hr, hb0⟩ := has_old hW
  obtain ⟨B, hB⟩ : ∃ B, w.heap.size = B := ⟨_, rfl⟩
  rw [hB] at ha hr
  have E0 : Hid (EV w B none W) := Lib.hid ⟨ha, hr, hb0, by omega⟩
  obtain ⟨N, hN⟩ : ∃ N, ys.length = N := ⟨_, rfl⟩
  obtain ⟨ao, cap, ev⟩ : ∃ ao cap, v = .slice ao N cap := by obtain ⟨ao, cap, e, _⟩ := h; rw [hN] at e; exact ⟨_, _, e⟩
  subst ev
  rw [hN]
  have HS := Lib.hid h
  have HW := Lib.hid hW
  have hN1 : N ≤ 1000 := by obtain ⟨_, _, _, hf, _⟩ := h; omega
  have HN1 := Lib.hid hN1
  clear h ha hr hb0 hW hN hN1
  go_enter Try.func56, Try.ntmps56
  go_upto_region 1 with fail
  rw [HW.out]
  clear hB
  go_wp2_with fail
  go_loopw [11, 4] (fun i s wr => ∃ n : Nat, n ≤ N ∧ i = .int .i64 n ∧ s = .bool (smP (endsP (ptsN ys n))) ∧ EV w B (endsP (ptsN ys n)) wr) (fun i _ _ => N - (intOf i).toNat)
  case atStart => exact ⟨0, by omega, rfl, rfl, E0.out⟩
  case round =>
    clear E0
    obtain ⟨n, hn, rfl, rfl, hk⟩ := hrel
    have o0 : (N : Int) ≤ 1000 := by have := HN1.out; omega
    have HK := Lib.hid hk
    by_cases hlt : n < N
    · obtain ⟨g, o, e1, r0, l0⟩ := HS.out.row (by omega)
      subst e1
      have hb := hk.below
      have r := r0.below hb (by omega)
      have hsl := r0.sl n (by omega)
      obtain ⟨y, hy⟩ : ∃ y, po ys n = y := ⟨_, rfl⟩
      have c0 := r.c0 n (by omega)
      have c1 := r.c1 n (by omega)
      have HPN : Hid (ptsN ys (n + 1) = ptsN ys n ++ y.ps) := Lib.hid (by rw [← hy]; rfl)
      rw [hy] at c0 c1 hsl
      obtain ⟨c, vy, ps⟩ := y
      simp only at c0 c1 hsl HPN
      obtain ⟨K, hK⟩ : ∃ K, ps.length = K := ⟨_, rfl⟩
      obtain ⟨aoy, capy, evy⟩ : ∃ ao cap, vy = .slice ao K cap := by obtain ⟨ao, cap, hv, _⟩ := hsl; rw [hK] at hv; exact ⟨_, _, hv⟩
      subst evy
      obtain ⟨V, hV⟩ : ∃ V, wr.alloc (.cells #[.bool c, .slice aoy K capy] 31) = V := ⟨_, rfl⟩
      obtain ⟨gp, hgp⟩ : ∃ g, wr.heap.size = g := ⟨_, rfl⟩
      have bV : Below wr.heap.size wr V := by rw [← hV]; exact (Below.refl _ _).alloc (Nat.le_refl _) _
      have kp : Has V gp #[.bool c, .slice aoy K capy] 31 := by rw [← hV]; exact has_new hgp
      have KV := Lib.hid (HK.out.later bV)
      have SV := Lib.hid hsl
      have HV := Lib.hid hV
      have KPX := Lib.hid kp
      have HKL := Lib.hid hK
      obtain ⟨Q, hQ⟩ : ∃ Q, ptsN ys n = Q := ⟨_, rfl⟩
      rw [hQ] at KV HPN
      have HQ := Lib.hid hQ
      have o3 : (n : Int) < N := by omega
      have o4 : n < N := hlt
      clear r r0 l0 hy hb hk hsl bV hV kp hK hQ
      go_upto_region 4 with fail
      rw [HV.out]
      clear hgp c0 c1
      have x0 := KPX.out.cell 0 _ rfl
      have x1 := KPX.out.cell 1 _ rfl
      go_wp2_with fail
      clear x0 x1
      go_loopw [18, 4] (fun i s wk => ∃ k : Nat, k ≤ K ∧ i = .int .i64 k ∧ s = .bool (smP (endsP (Q ++ ps.take k))) ∧ EV w B (endsP (Q ++ ps.take k)) wk) (fun i _ _ => K - (intOf i).toNat)
      case atStart =>
        have e : Q ++ ps.take 0 = Q := by simp
        exact ⟨0, by omega, rfl, by rw [e, ← HQ.out], by rw [e]; exact KV.out⟩
      case round =>
        obtain ⟨k, hk, rfl, rfl, hE⟩ := hrel
        have HE := Lib.hid hE
        by_cases hkl : k < K
        · obtain ⟨gq, oq, eq, rp, -⟩ := (SV.out.below hE.below (Nat.le_refl _)).row (by omega)
          subst eq
          obtain ⟨E, hEe⟩ : ∃ E, endsP (Q ++ ps.take k) = E := ⟨_, rfl⟩
          have HNX : Hid (endsP (Q ++ ps.take (k + 1)) = ends1 E (pt ps k)) := Lib.hid (by rw [take_pt (by rw [HKL.out]; exact hkl), ← List.append_assoc, endsP_snoc, hEe])
          have c0 := rp.c0 k (by rw [HKL.out]; exact hkl)
          have c1 := rp.c1 k (by rw [HKL.out]; exact hkl)
          obtain ⟨q, hq⟩ : ∃ q, pt ps k = q := ⟨_, rfl⟩
          rw [hq] at c0 c1 HNX
          obtain ⟨px, py⟩ := q
          simp only at c0 c1
          obtain ⟨ga, hga⟩ : ∃ g, wr.heap.size = g := ⟨_, rfl⟩
          obtain ⟨V2, hV2⟩ : ∃ V, wr.alloc (.cells #[.int .i64 px, .int .i64 py] 28) = V := ⟨_, rfl⟩
          have bV2 : Below wr.heap.size wr V2 := by rw [← hV2]; exact (Below.refl _ _).alloc (Nat.le_refl _) _
          have kq : Has V2 ga #[.int .i64 px, .int .i64 py] 28 := by rw [← hV2]; exact has_new hga
          have hlt1 : B + 1 < ga := by rw [← hga]; exact hE.k2.lt
          rw [hEe] at hE HE
          have HE2 := Lib.hid (HE.out.later bV2)
          have KQ := Lib.hid kq
          have HV2 := Lib.hid hV2
          have HEe := Lib.hid hEe
          have HLT := Lib.hid hlt1
          have o5 : (k : Int) < K := by omega
          have o6 : (K : Int) ≤ 8796093022208 := by have := SV.out.few; have := HKL.out; omega
          clear hE HE hq bV2 kq hV2 hEe rp hlt1
          go_upto_region 7 with fail
          rw [HV2.out]
          clear hga c0 c1
          obtain ⟨sm, hsm⟩ : ∃ s, smP (endsP (Q ++ ps.take k)) = s := ⟨_, rfl⟩
          rw [hsm]
          have HSM := Lib.hid hsm
          clear hsm
          go_upto_if 23 with fail
          go_cut [4] (fun s wx => s = .bool true ∧ ∃ a b : Pt, preP E ⟨px, py⟩ = (a, b) ∧ EV w B (some (a, b)) wx ∧ Has wx ga #[.int .i64 px, .int .i64 py] 28)
          case first =>
            have a0 := KQ.out.cell 0 _ rfl
            have a1 := KQ.out.cell 1 _ rfl
            rcases E with _ | ⟨a, b⟩
            · obtain rfl : sm = false := by rw [← HSM.out, HEe.out]; rfl
              have hk1 := HE2.out.k1
              have hk2 := HE2.out.k2
              have p0 : V2.cell? ⟨B, 0, none⟩ = some (.int .i64 0) := hk1.cell 0 _ rfl
              have p1 : V2.cell? ⟨B, 1, none⟩ = some (.int .i64 0) := hk1.cell 1 _ rfl
              have q0 : V2.cell? ⟨B + 1, 0, none⟩ = some (.int .i64 0) := hk2.cell 0 _ rfl
              have q1 : V2.cell? ⟨B + 1, 1, none⟩ = some (.int .i64 0) := hk2.cell 1 _ rfl
              have fz := has_fro hk1
              have fz2 := has_fro hk2
              have R0 := Lib.hid (HE2.out.put (some (⟨px, py⟩, ⟨px, py⟩)))
              have n1 : ga ≠ B := by have := HLT.out; omega
              have n2 : ga ≠ B + 1 := by have := HLT.out; omega
              clear hk1 hk2
              go_upto_region 8 with fail
              go_region
              go_wp2
              go_meet
              exact ⟨rfl, ⟨px, py⟩, ⟨px, py⟩, rfl, R0.out.later (below_drew (Below.refl _ _)), has_set_ne (has_set_ne (has_set_ne (has_set_ne KQ.out n1 _ _) n1 _ _) n2 _ _) n2 _ _⟩
            · obtain rfl : sm = true := by rw [← HSM.out, HEe.out]; rfl
              go_wp2
              go_meet
              exact ⟨rfl, a, b, rfl, HE2.out, KQ.out⟩
          case rest =>
            obtain ⟨rfl, a, b, hab, hE, hq⟩ := hcut
            rename World => X
            have HE3 := Lib.hid hE
            have n1 : ga ≠ B := by have := HLT.out; omega
            have n2 : ga ≠ B + 1 := by have := HLT.out; omega
            have e1 := ends1_pre E ⟨px, py⟩ a b hab
            obtain ⟨ax, ay⟩ := a
            obtain ⟨bx, by'⟩ := b
            obtain ⟨m0, hm0⟩ : ∃ m, (if px < ax then px else ax) = m := ⟨_, rfl⟩
            obtain ⟨m1, hm1⟩ : ∃ m, (if py < ay then py else ay) = m := ⟨_, rfl⟩
            obtain ⟨m2, hm2⟩ : ∃ m, (if bx < px then px else bx) = m := ⟨_, rfl⟩
            obtain ⟨m3, hm3⟩ : ∃ m, (if by' < py then py else by') = m := ⟨_, rfl⟩
            have e2 : ends1 E ⟨px, py⟩ = some (⟨m0, m1⟩, ⟨m2, m3⟩) := by rw [e1, ← hm0, ← hm1, ← hm2, ← hm3]; rfl
            have HE4 := Lib.hid (hE.put (some (⟨m0, m1⟩, ⟨m2, m3⟩)))
            have hn0 : min ax px = m0 := by rw [← hm0]; split <;> omega
            have hn1 : min ay py = m1 := by rw [← hm1]; split <;> omega
            have hn2 : max bx px = m2 := by rw [← hm2]; split <;> omega
            have hn3 : max by' py = m3 := by rw [← hm3]; split <;> omega
            clear hm0 hm1 hm2 hm3
            have HN4 := Lib.hid (HNX.out.trans e2)
            have a0 := hq.cell 0 _ rfl
            have a1 := hq.cell 1 _ rfl
            have p0 : X.cell? ⟨B, 0, none⟩ = some (.int .i64 ax) := hE.k1.cell 0 _ rfl
            have p1 : X.cell? ⟨B, 1, none⟩ = some (.int .i64 ay) := hE.k1.cell 1 _ rfl
            have q0 : X.cell? ⟨B + 1, 0, none⟩ = some (.int .i64 bx) := hE.k2.cell 0 _ rfl
            have q1 : X.cell? ⟨B + 1, 1, none⟩ = some (.int .i64 by') := hE.k2.cell 1 _ rfl
            have fz := has_fro hE.k1
            have fz2 := has_fro hE.k2
            clear hE hq e1 e2 hab
            go_wp2_with fail
            go_roundw
            case rel => exact ⟨k + 1, by omega, by go_num, by rw [HN4.out]; rfl, by rw [HN4.out]; exact HE4.out⟩
            case measure => simp [intOf]; omega
        · obtain rfl : k = K := by omega
          have o5 : ¬ (k : Int) < k := by omega
          have R1 : Hid (EV w B (endsP (ptsN ys (n + 1))) _) := Lib.hid (by have := HE.out; rw [List.take_of_length_le (show ps.length ≤ k by rw [HKL.out]; exact Nat.le_refl _)] at this; rw [HPN.out]; exact this)
          have R2 : Hid (smP (endsP (Q ++ ps.take k)) = smP (endsP (ptsN ys (n + 1)))) := Lib.hid (by rw [HPN.out, List.take_of_length_le (show ps.length ≤ k by rw [HKL.out]; exact Nat.le_refl _)])
          clear hE
          go_wp2
          go_roundw
          case rel => exact ⟨n + 1, by omega, by go_num, by rw [← R2.out], R1.out⟩
          case measure => simp [intOf]; omega
    · obtain rfl : n = N := by omega
      have o3 : ¬ (n : Int) < n := by omega
      obtain ⟨E, hE⟩ : ∃ E, endsP (ptsN ys n) = E := ⟨_, rfl⟩
      rw [hE] at HK hk
      have HEE := Lib.hid hE
      have p0 := hk.k1.cell 0 _ rfl
      have p1 := hk.k1.cell 1 _ rfl
      have q0 := hk.k2.cell 0 _ rfl
      have q1 := hk.k2.cell 1 _ rfl
      have fz := has_fro hk.k1
      have fz2 := has_fro hk.k2
      clear hk hE
      go_upto_region 13 with fail
      obtain ⟨ea, hea⟩ : ∃ x, lsP E = x := ⟨_, rfl⟩
      obtain ⟨eb, heb⟩ : ∃ x, gsP E = x := ⟨_, rfl⟩
      have HEA := Lib.hid hea
      have HEB := Lib.hid heb
      rw [hea] at p0 p1
      rw [heb] at q0 q1
      obtain ⟨ax, ay⟩ := ea
      obtain ⟨bx, by'⟩ := eb
      clear hea heb
      go_region
      have R0 : EV w B E ((((wr.setCell ⟨B, 0, none⟩ (.int .i64 ax)).setCell ⟨B, 1, none⟩ (.int .i64 ay)).setCell ⟨B + 1, 0, none⟩ (.int .i64 bx)).setCell ⟨B + 1, 1, none⟩ (.int .i64 by')) := by
        have := HK.out.put E
        rw [HEA.out, HEB.out] at this
        exact this
      obtain ⟨X, hX⟩ : ∃ X, ((((wr.setCell ⟨B, 0, none⟩ (.int .i64 ax)).setCell ⟨B, 1, none⟩ (.int .i64 ay)).setCell ⟨B + 1, 0, none⟩ (.int .i64 bx)).setCell ⟨B + 1, 1, none⟩ (.int .i64 by')).drew = X := ⟨_, rfl⟩
      have R1 : Hid (EV w B E X) := Lib.hid (by rw [← hX]; exact R0.later (below_drew (Below.refl _ _)))
      rw [hX]
      clear p0 p1 q0 q1 fz fz2 R0 hX
      have r1 := R1.out.k1
      have r2 := R1.out.k2
      rw [HEA.out] at r1
      rw [HEB.out] at r2
      have p0 := r1.cell 0 _ rfl
      have p1 := r1.cell 1 _ rfl
      have q0 := r2.cell 0 _ rfl
      have q1 := r2.cell 1 _ rfl
      clear r1 r2
      go_wp2
      refine bodyPost_ret (v := .tuple #[.agg #[.int .i64 ax, .int .i64 ay], .agg #[.int .i64 bx, .int .i64 by'], .bool (smP (endsP (ptsN ys n)))]) (by simp [results, Try.results56, go_sem, p0, p1, q0, q1]) rfl ⟨?_, R1.out.below⟩
      rw [HEE.out, HEA.out, HEB.out]

end Go.Proofs.Ytopepgifhnfbiaa

namespace Go.Proofs.Ytopepgifhnfbiaa
open Go Go.RowKit
open M

def PI (ps : List Pt) : Prop := ∀ p ∈ ps, I64 p.x ∧ I64 p.y
theorem PI.gs {ps : List Pt} (h : PI ps) : I64 (gsP (endsP ps)).x ∧ I64 (gsP (endsP ps)).y := by
  rcases e : endsP ps with _ | ⟨a, b⟩
  · simp [gsP, I64]
  · obtain ⟨_, _, _, ⟨p3, m3, e3⟩, ⟨p4, m4, e4⟩⟩ := ends_all ps a b e
    have h3 := (h p3 m3).1
    have h4 := (h p4 m4).2
    rw [e3] at h3
    rw [e4] at h4
    exact ⟨h3, h4⟩
set_option maxHeartbeats 2000000 in
theorem b_of {v : Value} {ys : List Po} {w : World} (h : Ysl w v ys) (hp : PI (ptsN ys ys.length)) :
    Calls Try.prog 40 #[v] w fun r w' => r = .returned (.agg (bCells (boxP (ptsN ys ys.length)))) ∧ Below w.heap.size w w' := by
  obtain ⟨W, hW⟩ : ∃ W, w.alloc (.cells #[.int .i64 0, .int .i64 0, .int .i64 0, .int .i64 0] 41) = W := ⟨_, rfl⟩
  obtain ⟨B, hB⟩ : ∃ B, w.heap.size = B := ⟨_, rfl⟩
  have hr : Has W B #[.int .i64 0, .int .i64 0, .int .i64 0, .int .i64 0] 41 := by rw [← hW]; exact has_new hB
  have hb0 : Below w.heap.size w W := by rw [← hW]; exact (Below.refl _ _).alloc (Nat.le_refl _) _
  have EN := Lib.hid (b_ends (h.below hb0))
  have GI := Lib.hid hp.gs
  have BX : Hid (boxP (ptsN ys ys.length) = boxE (endsP (ptsN ys ys.length))) := Lib.hid rfl
  obtain ⟨E, hE⟩ : ∃ E, endsP (ptsN ys ys.length) = E := ⟨_, rfl⟩
  rw [hE] at EN GI BX
  have HW := Lib.hid hW
  have HB0 := Lib.hid hb0
  have HR := Lib.hid hr
  obtain ⟨ao, n, cap, rfl⟩ : ∃ ao n cap, v = .slice ao n cap := by obtain ⟨ao, cap, e, _⟩ := h; exact ⟨_, _, _, e⟩
  obtain ⟨a, ha⟩ : ∃ a, lsP E = a := ⟨_, rfl⟩
  obtain ⟨b, hb⟩ : ∃ b, gsP E = b := ⟨_, rfl⟩
  obtain ⟨sm, hsm⟩ : ∃ s, smP E = s := ⟨_, rfl⟩
  rw [ha, hb, hsm] at EN
  rw [hb] at GI
  have BX2 : Hid (boxP (ptsN ys ys.length) = if sm = true then ⟨dn a.x, dn a.y, up b.x, up b.y⟩ else zeroB) := Lib.hid (by
    rw [BX.out]
    rcases E with _ | ⟨c, d⟩
    · have : sm = false := by rw [← hsm]; rfl
      subst this; rfl
    · have : sm = true := by rw [← hsm]; rfl
      have e1 : c = a := ha
      have e2 : d = b := hb
      subst this e1 e2; rfl)
  obtain ⟨R, hR⟩ : ∃ R, boxP (ptsN ys ys.length) = R := ⟨_, rfl⟩
  rw [hR] at BX2 ⊢
  obtain ⟨ax, ay⟩ := a
  obtain ⟨bx, by'⟩ := b
  simp only at BX2
  have HBe := Lib.hid hB
  clear h hp hW hr hb0 hE ha hb hsm hR BX
  go_enter Try.func40, Try.ntmps40
  go_upto_region 1 with fail
  rw [HW.out]
  clear hB
  go_wp2_with fail
  refine EN.out.mono ?_
  rintro r w1 ⟨rfl, hq⟩
  have hr := HR.out.below hq HR.out.lt
  have B1 := Lib.hid (HB0.out.trans (hq.mono HB0.out.size))
  obtain ⟨V, hV⟩ : ∃ V, (w1.alloc (.cells #[.int .i64 ax, .int .i64 ay] 28)).alloc (.cells #[.int .i64 bx, .int .i64 by'] 28) = V := ⟨_, rfl⟩
  obtain ⟨ka, kb, kbl⟩ := has_old hV
  obtain ⟨G, hG⟩ : ∃ G, w1.heap.size = G := ⟨_, rfl⟩
  rw [hG] at ka kb
  have B2 := Lib.hid (B1.out.trans (kbl.mono B1.out.size))
  have HR2 := Lib.hid (hr.below kbl hr.lt)
  have KA := Lib.hid ka
  have KB := Lib.hid kb
  have HV := Lib.hid hV
  clear hq hr ka kb kbl hV
  go_upto_region 2 with fail
  rw [HV.out]
  clear hG
  have a0 := KA.out.cell 0 _ rfl
  have a1 := KA.out.cell 1 _ rfl
  have b0 := KB.out.cell 0 _ rfl
  have b1 := KB.out.cell 1 _ rfl
  have r0 := HR2.out.cell 0 _ rfl
  have r1 := HR2.out.cell 1 _ rfl
  have r2 := HR2.out.cell 2 _ rfl
  have r3 := HR2.out.cell 3 _ rfl
  have fz := has_fro HR2.out
  cases sm
  · go_wp2
    refine bodyPost_ret (v := .agg #[.int .i64 0, .int .i64 0, .int .i64 0, .int .i64 0]) (by simp [results, Try.results40, go_sem, r0, r1, r2, r3]) rfl ⟨by rw [BX2.out]; rfl, ?_⟩
    repeat (first | exact B2.out | refine Below.setCell ?_ (show w.heap.size ≤ B by have := HBe.out; omega) _)
  · go_upto_region 4 with fail
    refine wp_region_draws_tail 13 (by kernel_rfl) (by kernel_rfl) (by kernel_rfl) (by kernel_rfl) ?_
    simp only [List.take_succ_cons, List.take_zero, List.drop_succ_cons, List.drop_zero]
    repeat (go_big_quiet_step (first | (go_at_call 57; exact quiet1 (b_down _ _)) | (go_at_call_of 58 bx; exact quiet1 (b_up bx GI.out.1 _)) | (go_at_call_of 58 by'; exact quiet1 (b_up by' GI.out.2 _))))
    refine wpQuiet_nil ?_
    rintro _ ⟨nq, rfl⟩
    obtain ⟨X, hX⟩ : ∃ X, V.drewN nq = X := ⟨_, rfl⟩
    have HX := Lib.hid (show Has X B #[.int .i64 0, .int .i64 0, .int .i64 0, .int .i64 0] 41 by rw [← hX]; exact HR2.out)
    have B3 := Lib.hid (show Below w.heap.size w X by rw [← hX]; exact below_drewN B2.out _)
    rw [hX]
    clear r0 r1 r2 r3 fz a0 a1 b0 b1 hX
    have r0 := HX.out.cell 0 _ rfl
    have r1 := HX.out.cell 1 _ rfl
    have r2 := HX.out.cell 2 _ rfl
    have r3 := HX.out.cell 3 _ rfl
    have fz := has_fro HX.out
    go_wp2
    refine bodyPost_ret (v := .agg #[.int .i64 (dn ax), .int .i64 (dn ay), .int .i64 (up bx), .int .i64 (up by')]) (by simp [results, Try.results40, go_sem, r0, r1, r2, r3]) rfl ⟨by rw [BX2.out]; rfl, ?_⟩
    repeat (first | exact B3.out | refine Below.setCell ?_ (show w.heap.size ≤ B by have := HBe.out; omega) _)

/-- What the reference holds of the places so far. -/
structure RV (w0 : World) (B : Nat) (e : Option (Pt × Pt)) (wr : World) : Prop where
  k0 : Has wr B #[.int .i64 0, .int .i64 0, .int .i64 0, .int .i64 0] 41
  k1 : Has wr (B + 1) (bCells (boxE e)) 41
  below : Below w0.heap.size w0 wr
  lo : w0.heap.size ≤ B
theorem RV.later {w0 wr w' : World} {g : Nat} {e : Option (Pt × Pt)} (h : RV w0 g e wr) (hb : Below wr.heap.size wr w') : RV w0 g e w' :=
  ⟨h.k0.below hb h.k0.lt, h.k1.below hb h.k1.lt, h.below.trans (hb.mono h.below.size), h.lo⟩
/-- The box's block behind a store. -/
theorem box_put {wr : World} {g : Nat} {cs : Array Value} {b : Bo} (hs : cs.size = 4) (h : Has wr g cs 41) :
    Has ((((wr.setCell ⟨g, 0, none⟩ (.int .i64 b.x0)).setCell ⟨g, 1, none⟩ (.int .i64 b.y0)).setCell ⟨g, 2, none⟩ (.int .i64 b.x1)).setCell ⟨g, 3, none⟩ (.int .i64 b.y1)) g (bCells b) 41 := by
  have := has_set (has_set (has_set (has_set h 0 (.int .i64 b.x0)) 1 (.int .i64 b.y0)) 2 (.int .i64 b.x1)) 3 (.int .i64 b.y1)
  match cs, hs with
  | ⟨[c0, c1, c2, c3]⟩, _ => simpa using this
theorem RV.put {w0 wr : World} {g : Nat} {e : Option (Pt × Pt)} (h : RV w0 g e wr) (e' : Option (Pt × Pt)) (b : Bo) (hb : boxE e' = b) :
    RV w0 g e' ((((wr.setCell ⟨g + 1, 0, none⟩ (.int .i64 b.x0)).setCell ⟨g + 1, 1, none⟩ (.int .i64 b.y0)).setCell ⟨g + 1, 2, none⟩ (.int .i64 b.x1)).setCell ⟨g + 1, 3, none⟩ (.int .i64 b.y1)) := by
  have hl := h.lo
  subst hb
  exact ⟨has_set_ne (has_set_ne (has_set_ne (has_set_ne h.k0 (by omega) _ _) (by omega) _ _) (by omega) _ _) (by omega) _ _, box_put rfl h.k1,
    (((h.below.setCell (show w0.heap.size ≤ g + 1 by omega) _).setCell (show w0.heap.size ≤ g + 1 by omega) _).setCell (show w0.heap.size ≤ g + 1 by omega) _).setCell (show w0.heap.size ≤ g + 1 by omega) _, hl⟩
theorem boxE_pre (e : Option (Pt × Pt)) (p : Pt) (b : Bo) (h : (if e = none then pixB p else boxE e) = b) : boxE (ends1 e p) = uniB b (pixB p) := by
  rw [boxE_snoc]
  by_cases h0 : e = none
  · rw [if_pos h0] at h ⊢; subst h; rw [uniB_self]
  · rw [if_neg h0] at h ⊢; subst h; rfl
theorem pi_mem {ys : List Po} : ∀ {m n k : Nat}, n < m → k < (po ys n).ps.length → pt (po ys n).ps k ∈ ptsN ys m := by
  intro m
  induction m with
  | zero => intro n k h; omega
  | succ m ih =>
    intro n k h hk
    rw [ptsN]
    by_cases e : n = m
    · subst e
      refine List.mem_append_right _ ?_
      unfold pt
      simp [List.getD, hk]
    · exact List.mem_append_left _ (ih (by omega) hk)

end Go.Proofs.Ytopepgifhnfbiaa

namespace Go.Proofs.Ytopepgifhnfbiaa
open Go Go.RowKit
open M

theorem pi_ptsN {zs : List Po} (h : ∀ i, i < zs.length → PI (po zs i).ps) : ∀ n, n ≤ zs.length → PI (ptsN zs n)
  | 0, _ => fun p hp => by cases hp
  | n + 1, hn => fun p hp => by
    rcases List.mem_append.1 hp with h1 | h1
    · exact pi_ptsN h n (by omega) p h1
    · exact h n (by omega) p h1
theorem ptsN_part {zs : List Po} : ∀ {n i : Nat}, i < n → ∀ p ∈ (po zs i).ps, p ∈ ptsN zs n
  | 0, i, h, _, _ => by omega
  | n + 1, i, h, p, hp => by
    by_cases e : i = n
    · subst e; exact List.mem_append_right _ hp
    · exact List.mem_append_left _ (ptsN_part (by omega) p hp)
theorem ptsN_few {zs : List Po} {m : Nat} (h : ∀ i, i < zs.length → (po zs i).ps.length ≤ m) : ∀ n, n ≤ zs.length → (ptsN zs n).length ≤ n * m
  | 0, _ => by simp [ptsN]
  | n + 1, hn => by
    have := ptsN_few h n (by omega)
    have := h n (by omega)
    show (ptsN zs n ++ (po zs n).ps).length ≤ _
    rw [List.length_append, Nat.add_mul]
    omega
theorem few_all {zs : List Po} {m : Nat} (h : ∀ i, i < zs.length → (po zs i).ps.length ≤ m) (hl : zs.length ≤ 1000) (hm : m ≤ 1000) : (ptsN zs zs.length).length ≤ 4194304 := by
  have h1 := ptsN_few h _ (Nat.le_refl zs.length)
  have := Nat.mul_le_mul hl hm
  omega
theorem few_one {c : Bool} {v : Value} {ps : List Pt} (h : ps.length ≤ 50) : (ptsN [⟨c, v, ps⟩] ([⟨c, v, ps⟩] : List Po).length).length ≤ 4194304 := by
  simp [ptsN, po]
  omega
/-- Polys of which there are not too many places, whose numbers are of 64 bits. -/
structure Cv (zs : List Po) : Prop where
  few : (ptsN zs zs.length).length ≤ 4194304
  pi : PI (ptsN zs zs.length)
theorem cv_few {zs : List Po} (h : ∀ i, i < zs.length → PI (po zs i).ps ∧ (po zs i).ps.length ≤ 1000) (hl : zs.length ≤ 1000) : Cv zs := by
  refine ⟨?_, pi_ptsN (fun i hi => (h i hi).1) _ (Nat.le_refl _)⟩
  have := ptsN_few (fun i hi => (h i hi).2) _ (Nat.le_refl zs.length)
  omega

end Go.Proofs.Ytopepgifhnfbiaa

namespace Go.Proofs.Ytopepgifhnfbiaa
namespace M

/-- Places whose numbers are of 64 bits. -/
def PJ (ps : List Pt) : Prop := ∀ p ∈ ps, In64 p.x ∧ In64 p.y
theorem pi_map (ps : List Pt) : PJ (ps.map plc) := by
  intro p hp
  obtain ⟨q, _, rfl⟩ := List.mem_map.1 hp
  have h1 := place_lo q.x
  have h2 := place_hi q.x
  have h3 := place_lo q.y
  have h4 := place_hi q.y
  refine ⟨⟨?_, ?_⟩, ⟨?_, ?_⟩⟩
  · show _ ≤ place q.x; omega
  · show place q.x ≤ _; omega
  · show _ ≤ place q.y; omega
  · show place q.y ≤ _; omega
theorem pi_shape (ps : List Pt) : PJ (shapeL ps) := by
  unfold shapeL turnL
  split
  · intro p hp
    exact pi_map ps p (List.mem_reverse.1 hp)
  · exact pi_map ps
theorem pi_bars (ls : List Ln) (ends : Bool) : ∀ n, ∀ y ∈ barsN ls ends n, PJ y.2
  | 0, y, hy => by simp [barsN] at hy
  | n + 1, y, hy => by
    rw [barsN_step] at hy
    rcases List.mem_append.1 hy with h1 | h1
    · exact pi_bars ls ends n y h1
    · rw [List.mem_singleton.1 h1]; exact pi_shape _
theorem pi_joint (a b : Ln) : ∀ y ∈ jointL a b, PJ y.2 := by
  intro y hy
  simp [jointL] at hy
  rcases hy with rfl | rfl <;> exact pi_shape _
theorem pi_corn (ls : List Ln) : ∀ n, ∀ y ∈ cornN ls n, PJ y.2
  | 0, y, hy => by simp [cornN] at hy
  | n + 1, y, hy => by
    rw [cornN_step] at hy
    rcases List.mem_append.1 hy with h1 | h1
    · exact pi_corn ls n y h1
    · exact pi_joint _ _ y h1
theorem pi_stroke (c : Bool) (ps : List Pt) (w cap : Int) : ∀ y ∈ strokeL c ps w cap, PJ y.2 := by
  intro y hy
  unfold strokeL at hy
  split at hy
  · simp at hy
  · unfold outL cornL lastL at hy
    rcases List.mem_append.1 hy with h1 | h1
    · exact pi_bars _ _ _ y h1
    · rcases List.mem_append.1 h1 with h2 | h2
      · exact pi_corn _ _ y h2
      · split at h2
        · exact pi_joint _ _ y h2
        · simp at h2
theorem stroke_few (c : Bool) (ps : List Pt) (w cap : Int) (h : ps.length ≤ 30) : (strokeL c ps w cap).length ≤ 90 := by
  unfold strokeL
  split
  · simp
  · rw [outL_length]
    have h1 := linesN_length ps (half w) (sidesN c ps.length)
    have h2 := sidesN_le c ps.length
    unfold linesL
    split <;> omega
theorem flat_few {c : Bool} {ps : List Pt} {n : Nat} (h : ps.length = 3 * n + 1) : (flatL c ps).length ≤ 8 * n + 1 := by
  unfold flatL
  split
  · simp
  · have := (polyN_length ps ((ps.length - 1) / 3)).2
    rw [h] at this ⊢
    have e : (3 * n + 1 - 1) / 3 = n := by omega
    rw [e] at this ⊢
    exact this
theorem pi_pt {ps : List Pt} (h : ∀ i, i < ps.length → In64 (pt ps i).x ∧ In64 (pt ps i).y) : PJ ps := by
  intro p hp
  obtain ⟨i, hi, e⟩ := List.getElem_of_mem hp
  have := h i hi
  unfold pt at this
  rw [List.getD_eq_getElem?_getD, List.getElem?_eq_getElem hi] at this
  simp only [Option.getD_some] at this
  rw [e] at this
  exact this
theorem pi_flat {c : Bool} {ps : List Pt} {n : Nat} (hn : ps.length = 3 * n + 1) (hs : Small ps) : PJ (flatL c ps) := by
  unfold flatL
  split
  · intro p hp; cases hp
  · have hb : ∀ i, i < ps.length → Bx (-131072) 983039 (-131072) 983039 (pt ps i) := fun i hi => hs i hi
    have key : ∀ k, k ≤ n → ∀ i, i < (polyN ps k).length → Bx (-131072) 983039 (-131072) 983039 (pt (polyN ps k) i) := by
      intro k
      induction k with
      | zero =>
        intro _ i hi
        have : i = 0 := by simp [polyN] at hi; omega
        subst this
        exact hb 0 (by omega)
      | succ k ih =>
        intro hk i hi
        unfold polyN at hi ⊢
        rw [List.length_append] at hi
        by_cases hl : i < (polyN ps k).length
        · rw [pt_lefts hl]; exact ih (by omega) i hl
        · rw [pt_right (by omega)]
          obtain ⟨j, hj⟩ : ∃ j, i - (polyN ps k).length = j := ⟨_, rfl⟩
          rw [hj]
          have hj2 : j < (partL (pt ps (3 * k)) (pt ps (3 * k + 1)) (pt ps (3 * k + 2)) (pt ps (3 * k + 3))).length := by omega
          unfold partL at hj2 ⊢
          split
          · rename_i he
            rw [if_pos he] at hj2
            have : j = 0 := by simp at hj2; omega
            subst this
            exact hb (3 * k + 3) (by omega)
          · rename_i he
            rw [if_neg he, bendL_length] at hj2
            exact bendL_box 3 _ _ _ _ (hb _ (by omega)) (hb _ (by omega)) (hb _ (by omega)) (hb _ (by omega)) j hj2
    refine pi_pt fun i hi => ?_
    have := key ((ps.length - 1) / 3) (by omega) i hi
    unfold Bx at this
    unfold In64
    omega

end M
end Go.Proofs.Ytopepgifhnfbiaa

namespace Go.Proofs.Ytopepgifhnfbiaa
open Go Go.RowKit
open M

structure Gr2 (w0 : World) (base g1 g2 : Nat) (R1 R2 : List Pt) (l1 l2 : Value) (wr : World) : Prop where
  o1 : Pown wr base l1 R1
  o2 : Pown wr base l2 R2
  k1 : Has wr g1 #[.bool false, l1] 31
  k2 : Has wr g2 #[.bool false, l2] 31
  ne : ∀ k, l1.ownBlock = some k → l2.ownBlock ≠ some k
  below : Below w0.heap.size w0 wr
  b1 : w0.heap.size ≤ g1
  b2 : w0.heap.size ≤ g2
  lt1 : g1 < base
  lt2 : g2 < base
  n12 : g1 ≠ g2
  big : base ≤ wr.heap.size
section
variable {w0 W w' : World} {base g1 g2 : Nat} {R1 R2 qs : List Pt} {l1 l2 : Value}
theorem Gr2.later (h : Gr2 w0 base g1 g2 R1 R2 l1 l2 W) (hq : Below W.heap.size W w') : Gr2 w0 base g1 g2 R1 R2 l1 l2 w' :=
  ⟨h.o1.below hq (Nat.le_refl _), h.o2.below hq (Nat.le_refl _), h.k1.below hq h.k1.lt, h.k2.below hq h.k2.lt, h.ne, h.below.trans (hq.mono h.below.size), h.b1, h.b2, h.lt1, h.lt2, h.n12, Nat.le_trans h.big hq.size⟩
theorem Gr2.swap (h : Gr2 w0 base g1 g2 R1 R2 l1 l2 W) : Gr2 w0 base g2 g1 R2 R1 l2 l1 W :=
  ⟨h.o2, h.o1, h.k2, h.k1, fun k hk e => h.ne k e hk, h.below, h.b2, h.b1, h.lt2, h.lt1, Ne.symm h.n12, h.big⟩
theorem Gr2.away (h : Gr2 w0 base g1 g2 R1 R2 l1 l2 W) : l1.ownBlock ≠ some g1 ∧ l1.ownBlock ≠ some g2 := ⟨fun e => by have := (h.o1.base _ e).1; have := h.lt1; omega, fun e => by have := (h.o1.base _ e).1; have := h.lt2; omega⟩
theorem Gr2.fine (h : Gr2 w0 base g1 g2 R1 R2 l1 l2 W) (hg : W.grownBy w' l1.ownBlock) : w'.cell? ⟨g1, 1, none⟩ = some l1 ∧ w'.frozen? ⟨g1, 1, none⟩ = false := by
  have hk : Has w' g1 #[.bool false, l1] 31 := (hg.block g1 h.k1.lt (fun e => h.away.1 e.symm)).trans h.k1
  exact ⟨hk.cell 1 _ rfl, has_fro hk 1⟩
/-- The first one's list has grown, and is stored. -/
theorem Gr2.put {g' n' cap' : Nat} (h : Gr2 w0 base g1 g2 R1 R2 l1 l2 W) (ho : Pown w' base (.slice (some ⟨g', 0, none⟩) n' cap') qs) (hg : W.grownBy w' l1.ownBlock) (hat : l1.ownBlock = some g' ∨ W.heap.size ≤ g') : Gr2 w0 base g1 g2 qs R2 (.slice (some ⟨g', 0, none⟩) n' cap') l2 (w'.setCell ⟨g1, 1, none⟩ (.slice (some ⟨g', 0, none⟩) n' cap')) := by
  have hk : Has w' g1 #[.bool false, l1] 31 := (hg.block g1 h.k1.lt (fun e => h.away.1 e.symm)).trans h.k1
  have hk2 : Has w' g2 #[.bool false, l2] 31 := (hg.block g2 h.k2.lt (fun e => h.away.2 e.symm)).trans h.k2
  have hs : w'.grownBy (w'.setCell ⟨g1, 1, none⟩ (.slice (some ⟨g', 0, none⟩) n' cap')) (some g1) := grownBy_set (World.grownBy.refl _ _) _ _
  have h2 := (h.o2.kept hg (fun k hk e => h.ne k hk e))
  have q1 := h.lt1
  have q2 := h.b1
  refine ⟨ho.kept hs (fun k hk e => by simp at hk; have := (ho.base k e).1; omega), h2.kept hs (fun k hk e => by simp at hk; have := (h2.base k e).1; omega), ?_, has_grown hk2 hs (Ne.symm h.n12), fun k hk e => ?_, ?_, h.b1, h.b2, h.lt1, h.lt2, h.n12, ?_⟩
  · have := has_set hk 1 (.slice (some ⟨g', 0, none⟩) n' cap')
    simpa using this
  · have e1 : some g' = some k := hk
    simp at e1
    subst e1
    rcases hat with e2 | e2
    · exact h.ne _ e2 e
    · have := (h.o2.base _ e).2; omega
  · exact (h.below.grown hg h.below.size (fun k e => by have := (h.o1.base k e).1; omega)).setCell (show w0.heap.size ≤ g1 from h.b1) _
  · have := hg.size; have := h.big; simp; omega
end

/-- The value v is a list of this place alone. -/
def OneQ15 (p : Pt) (v : Value) (w : World) : Prop := ∃ g, v = .slice (some ⟨g, 0, none⟩) 1 1 ∧ Has w g (pCells p) 28
theorem OneQ15.stay {p : Pt} {v : Value} {w w' : World} (h : OneQ15 p v w) (hb : Below w.heap.size w w') : OneQ15 p v w' := by
  obtain ⟨g, e, k⟩ := h
  exact ⟨g, e, k.below hb k.lt⟩

end Go.Proofs.Ytopepgifhnfbiaa

namespace Go.Proofs.Ytopepgifhnfbiaa
open Go Go.RowKit
open M

/-- How much of a pixel polys cover. -/
def covY (rule x y : Int) (ys : List Po) : Nat := covL (fun a b => windY a b ys) rule x y
theorem windY_in {w : World} {v : Value} {ys : List Po} (h : Ysl w v ys) (x y : Int) : -8796093022208000 ≤ windY x y ys ∧ windY x y ys ≤ 8796093022208000 := by
  obtain ⟨ao, cap, rfl, hf, hr⟩ := h
  have h1 := windN_in (place x) (place y) (fun i => (po ys i).ps) (m := 8796093022208) (n := ys.length) (fun i hi => by
    obtain ⟨g, o, _, r⟩ := hr (by omega)
    exact (r.sl i hi).few)
  unfold windY
  omega
theorem nearB_no {x : Int} (h : nearB x = false) : x < -256 ∨ 256 < x := by
  rcases Int.lt_or_le x (-256) with h1 | h1
  · exact Or.inl h1
  · rcases Int.lt_or_le 256 x with h2 | h2
    · exact Or.inr h2
    · rw [nearB_iff.2 ⟨h1, h2⟩] at h; cases h

set_option maxRecDepth 100000 in
set_option maxHeartbeats 4000000 in
theorem r15_cover {v : Value} {ys : List Po} {w : World} (rule x y : Int) (h : Ysl w v ys) :
    Calls Try.prog 22 #[v, .int .i64 rule, .int .i64 x, .int .i64 y] w fun r w' => r = .returned (.int .i64 (covY rule x y ys : Nat)) ∧ Below w.heap.size w w' := by
  have HS := Lib.hid h
  clear h
  by_cases hx : nearB x = true
  · by_cases hy : nearB y = true
    · obtain ⟨x0, x1⟩ := nearB_iff.1 hx
      obtain ⟨y0, y1⟩ := nearB_iff.1 hy
      have EC : Hid (covY rule x y ys = covN (fun a b => windY a b ys) rule x y 16) := Lib.hid (by unfold covY covL; rw [hx, hy]; rfl)
      rw [EC.out]
      have WC := Lib.hid (fun (a b : Int) (w1 : World) (hb : Below w.heap.size w w1) => r15_wind a b (HS.out.below hb))
      have WI := Lib.hid (fun (a b : Int) => windY_in HS.out a b)
      obtain ⟨W, hW⟩ : ∃ W, (fun a b => windY a b ys) = W := ⟨_, rfl⟩
      have eW : ∀ a b, windY a b ys = W a b := fun a b => by rw [← hW]
      simp only [eW] at WC WI
      rw [hW]
      have XN := Lib.hid (show nearB x = true from hx)
      have YN := Lib.hid (show nearB y = true from hy)
      clear hW eW EC hx hy HS
      go_enter Try.func22, Try.ntmps22
      go_wp2_with (first | (go_at_call_of 43 x; refine (r15_near x _).mono ?_; rintro e w' ⟨rfl, rfl⟩; rw [XN.out]) | (go_at_call_of 43 y; refine (r15_near y _).mono ?_; rintro e w' ⟨rfl, rfl⟩; rw [YN.out]))
      go_loopw [9, 10] (fun s i wr => ∃ k : Nat, k ≤ 16 ∧ i = .int .i64 k ∧ s = .int .i64 (covN W rule x y k : Nat) ∧ Below w.heap.size w wr) (fun _ i _ => 16 - (intOf i).toNat)
      case atStart => exact ⟨0, by omega, rfl, rfl, Below.refl _ _⟩
      case round =>
        obtain ⟨k, hk, rfl, rfl, hb⟩ := hrel
        have HB := Lib.hid hb
        have hcn := covN_le W rule x y k
        have hst : covN W rule x y (k + 1) = covN W rule x y k + if countB rule (W (smpX x k) (smpY y k)) = true then 1 else 0 := rfl
        obtain ⟨n, hn⟩ : ∃ n, covN W rule x y k = n := ⟨_, rfl⟩
        rw [hn] at hcn hst ⊢
        have HN := Lib.hid hn
        clear hn
        by_cases hlt : k < 16
        · have o3 : (k : Int) < 16 := by omega
          obtain ⟨W0, hW0⟩ : ∃ z, W (smpX x k) (smpY y k) = z := ⟨_, rfl⟩
          have wi := WI.out (smpX x k) (smpY y k)
          have ST := Lib.hid hst
          have r0 : 0 ≤ Int.tmod (k : Int) 4 ∧ Int.tmod (k : Int) 4 ≤ 3 := by rw [Int.tmod_eq_emod_of_nonneg (by omega)]; omega
          have d0 : 0 ≤ Int.tdiv (k : Int) 4 ∧ Int.tdiv (k : Int) 4 ≤ 3 := by rw [Int.tdiv_eq_ediv_of_nonneg (by omega)]; omega
          have ex : x * 65536 + (2 * Int.tmod (k : Int) 4 + 1) * 65536 / 8 = smpX x k := by unfold smpX; rw [Int.tmod_eq_emod_of_nonneg (by omega)]; omega
          have ey : y * 65536 + (2 * Int.tdiv (k : Int) 4 + 1) * 65536 / 8 = smpY y k := by unfold smpY; rw [Int.tdiv_eq_ediv_of_nonneg (by omega)]; omega
          obtain ⟨p, hp⟩ : ∃ p, Int.tmod (k : Int) 4 = p := ⟨_, rfl⟩
          obtain ⟨q, hq⟩ : ∃ q, Int.tdiv (k : Int) 4 = q := ⟨_, rfl⟩
          rw [hp] at r0 ex
          rw [hq] at d0 ey
          have tp : Int.tdiv ((2 * p + 1) * 65536) 8 = (2 * p + 1) * 65536 / 8 := Int.tdiv_eq_ediv_of_nonneg (by omega)
          have tq : Int.tdiv ((2 * q + 1) * 65536) 8 = (2 * q + 1) * 65536 / 8 := Int.tdiv_eq_ediv_of_nonneg (by omega)
          obtain ⟨P, hP⟩ : ∃ z, (2 * p + 1) * 65536 / 8 = z := ⟨_, rfl⟩
          obtain ⟨Q, hQ⟩ : ∃ z, (2 * q + 1) * 65536 / 8 = z := ⟨_, rfl⟩
          have PQ : (0 ≤ P ∧ P ≤ 65536) ∧ 0 ≤ Q ∧ Q ≤ 65536 := by omega
          rw [hP] at tp ex
          rw [hQ] at tq ey
          have EX := Lib.hid ex
          have EY := Lib.hid ey
          rw [hW0] at wi
          have HW0 := Lib.hid hW0
          clear hP hQ ex ey hst hW0
          go_upto_region 7 with fail
          go_upto_region 8 with (go_at_call 14; rw [EX.out, EY.out]; refine (WC.out _ _ _ HB.out).mono ?_; rintro e w2 ⟨rfl, b2⟩; rw [HW0.out])
          have BW : Hid (Below w.heap.size w w2) := Lib.hid (HB.out.trans (b2.mono HB.out.size))
          have RT : Int.tmod W0 2 = 0 ↔ W0 % 2 = 0 := by
            rcases Int.lt_or_le W0 0 with h | h
            · have e1 := Int.neg_tmod W0 2
              have e2 := Int.tmod_eq_emod_of_nonneg (a := -W0) (b := 2) (by omega)
              omega
            · rw [Int.tmod_eq_emod_of_nonneg h]
          clear tp tq hp hq PQ r0 d0 hb b2
          by_cases h0 : rule = 0
          · subst h0
            by_cases h1 : W0 = 0
            · subst h1
              have E := ST.out; rw [HW0.out, if_neg (by unfold countB; simp [*]), Nat.add_zero] at E
              clear RT
              go_wp2
              go_roundw
              case rel => exact ⟨k + 1, by omega, by go_num, by first | (rw [E]; done) | (rw [E]; go_num), BW.out⟩
              case measure => simp [intOf]; omega
            · have h2 : ¬ W0 = 0 := h1
              have E := ST.out; rw [HW0.out, if_pos (by unfold countB; simp [*])] at E
              clear RT
              go_wp2
              go_roundw
              case rel => exact ⟨k + 1, by omega, by go_num, by first | (rw [E]; done) | (rw [E]; go_num), BW.out⟩
              case measure => simp [intOf]; omega
          · by_cases h1 : rule = 1
            · subst h1
              by_cases h2 : Int.tmod W0 2 = 0
              · have h3 : W0 % 2 = 0 := RT.1 h2
                have E := ST.out; rw [HW0.out, if_neg (by unfold countB; simp [*]), Nat.add_zero] at E
                clear RT
                go_wp2
                go_roundw
                case rel => exact ⟨k + 1, by omega, by go_num, by first | (rw [E]; done) | (rw [E]; go_num), BW.out⟩
                case measure => simp [intOf]; omega
              · have h3 : ¬ W0 % 2 = 0 := fun h => h2 (RT.2 h)
                have E := ST.out; rw [HW0.out, if_pos (by unfold countB; simp [*])] at E
                clear RT
                go_wp2
                go_roundw
                case rel => exact ⟨k + 1, by omega, by go_num, by first | (rw [E]; done) | (rw [E]; go_num), BW.out⟩
                case measure => simp [intOf]; omega
            · have E := ST.out; rw [HW0.out, if_neg (by unfold countB; simp [*]), Nat.add_zero] at E
              clear RT
              go_wp2
              go_roundw
              case rel => exact ⟨k + 1, by omega, by go_num, by first | (rw [E]; done) | (rw [E]; go_num), BW.out⟩
              case measure => simp [intOf]; omega
        · obtain rfl : k = 16 := by omega
          have o3 : ¬ ((16 : Nat) : Int) < 16 := by omega
          go_wp2
          go_ret
          exact ⟨by rw [HN.out]; rfl, hb⟩
    · have e : covY rule x y ys = 0 := by unfold covY covL; rw [Bool.eq_false_iff.2 hy]; simp
      rw [e]
      have XN := Lib.hid (show nearB x = true from hx)
      have YN := Lib.hid (Bool.eq_false_iff.2 hy)
      clear e hx hy
      go_enter Try.func22, Try.ntmps22
      go_wp2_with (first | (go_at_call_of 43 x; refine (r15_near x _).mono ?_; rintro e w' ⟨rfl, rfl⟩; rw [XN.out]) | (go_at_call_of 43 y; refine (r15_near y _).mono ?_; rintro e w' ⟨rfl, rfl⟩; rw [YN.out]))
      go_ret
      exact ⟨rfl, Below.refl _ _⟩
  · have e : covY rule x y ys = 0 := by unfold covY covL; rw [Bool.eq_false_iff.2 hx]; simp
    rw [e]
    have XN := Lib.hid (Bool.eq_false_iff.2 hx)
    clear e hx
    go_enter Try.func22, Try.ntmps22
    go_wp2_with (first | (go_at_call_of 43 x; refine (r15_near x _).mono ?_; rintro e w' ⟨rfl, rfl⟩; rw [XN.out]))
    go_ret
    exact ⟨rfl, Below.refl _ _⟩

end Go.Proofs.Ytopepgifhnfbiaa

namespace Go.Proofs.Ytopepgifhnfbiaa
namespace M

/-- Number i of a list. -/
def nm (ds : List Int) (i : Nat) : Int := ds.getD i 0
theorem nm_cons (d : Int) (ds : List Int) (i : Nat) : nm (d :: ds) (i + 1) = nm ds i := by simp [nm]
theorem nm_zero (d : Int) (ds : List Int) : nm (d :: ds) 0 = d := by simp [nm]
theorem nm_left {ds : List Int} {d : Int} {i : Nat} (h : i < ds.length) : nm (ds ++ [d]) i = nm ds i := by unfold nm; simp [List.getD, List.getElem?_append_left h]
theorem nm_last (ds : List Int) (d : Int) : nm (ds ++ [d]) ds.length = d := by unfold nm; simp [List.getD]
/-- Whether a dash, or a gap, may be so long. -/
def okN (d : Int) : Prop := 65536 ≤ d ∧ d ≤ 67108864
instance (d : Int) : Decidable (okN d) := by unfold okN; infer_instance
def okA (ds : List Int) : Prop := ∀ i, i < ds.length → okN (nm ds i)
instance (ds : List Int) : Decidable (okA ds) := by unfold okA; infer_instance
/-- Right. -/
def okD (ds : List Int) : Bool := decide (ds.length ≤ 8 ∧ okA ds)
theorem okD_many {ds : List Int} (h : 8 < ds.length) : okD ds = false := by unfold okD; rw [decide_eq_false]; omega
theorem okD_bad {ds : List Int} {i : Nat} (hi : i < ds.length) (h : ¬ okN (nm ds i)) : okD ds = false := by
  unfold okD
  rw [decide_eq_false]
  exact fun e => h (e.2 i hi)
theorem okD_yes {ds : List Int} (h8 : ds.length ≤ 8) (h : ∀ i, i < ds.length → okN (nm ds i)) : okD ds = true := by
  unfold okD
  rw [decide_eq_true]
  exact ⟨h8, h⟩
theorem okD_all {ds : List Int} (h : ∀ i, i < ds.length → okN (nm ds i)) : okD ds = decide ((ds.length : Int) ≤ 8) := by
  by_cases h8 : ds.length ≤ 8
  · rw [okD_yes h8 h, decide_eq_true]; omega
  · rw [okD_many (by omega), decide_eq_false]; omega
theorem okD_few {ds : List Int} (h : okD ds = true) : ds.length ≤ 8 ∧ okA ds := by
  unfold okD at h
  simpa using h

/-- Number i, gone through round and round. -/
def tn (ds : List Int) (i : Nat) : Int := nm ds (i % ds.length)
/-- Where dash or gap k begins. -/
def mk (ds : List Int) : Nat → Int
  | 0 => 0
  | k + 1 => mk ds k + tn ds k
theorem mk_zero (ds : List Int) : mk ds 0 = 0 := rfl
theorem mk_step (ds : List Int) (k : Nat) : mk ds (k + 1) = mk ds k + tn ds k := rfl
theorem tn_in {ds : List Int} (h : okD ds = true) (h0 : 0 < ds.length) (i : Nat) : 65536 ≤ tn ds i ∧ tn ds i ≤ 67108864 := (okD_few h).2 _ (Nat.mod_lt _ h0)
theorem mk_in {ds : List Int} (h : okD ds = true) (h0 : 0 < ds.length) : ∀ k : Nat, 0 ≤ mk ds k ∧ mk ds k ≤ k * 67108864
  | 0 => by simp [mk]
  | k + 1 => by
    have ih := mk_in h h0 k
    have t := tn_in h h0 k
    rw [mk_step]
    omega
theorem mk_up {ds : List Int} (h : okD ds = true) (h0 : 0 < ds.length) {i : Nat} : ∀ {j : Nat}, i ≤ j → mk ds i ≤ mk ds j
  | 0, hij => by
    obtain rfl : i = 0 := by omega
    exact Int.le_refl _
  | j + 1, hij => by
    by_cases e : i = j + 1
    · rw [e]; exact Int.le_refl _
    · have ih := mk_up h h0 (i := i) (j := j) (by omega)
      have t := tn_in h h0 j
      rw [mk_step]
      omega
theorem add_mk {ds : List Int} (h : okD ds = true) (h0 : 0 < ds.length) {k : Nat} (hk : k ≤ 200) : add (mk ds k) (tn ds k) = mk ds (k + 1) := by
  have a := mk_in h h0 k
  have t := tn_in h h0 k
  unfold add
  rw [hold_in (a := mk ds k) (by omega) (by omega), hold_in (a := tn ds k) (by omega) (by omega), hold_in (by omega) (by omega), mk_step]
theorem tn_mod {ds : List Int} (i : Nat) : Int.tmod (i : Int) (ds.length : Int) = ((i % ds.length : Nat) : Int) := by
  rw [Int.tmod_eq_emod_of_nonneg (by omega)]
  simp
/-- Dash n. -/
def dashP (c : Bool) (ps : List Pt) (ds : List Int) (n : Nat) : List Pt := cutL c ps (mk ds (2 * n)) (mk ds (2 * n + 1))
theorem dashP_length (c : Bool) (ps : List Pt) (ds : List Int) (n : Nat) : (dashP c ps ds n).length ≤ ps.length + 1 := cutL_length _ _ _ _
/-- The first n dashes. -/
def dashN (c : Bool) (ps : List Pt) (ds : List Int) : Nat → List (Bool × List Pt)
  | 0 => []
  | n + 1 => if mk ds (2 * n) < lengthL c ps ∧ 2 ≤ (dashP c ps ds n).length then dashN c ps ds n ++ [(false, dashP c ps ds n)] else dashN c ps ds n
theorem dashN_zero (c : Bool) (ps : List Pt) (ds : List Int) : dashN c ps ds 0 = [] := rfl
theorem dashN_yes {c : Bool} {ps : List Pt} {ds : List Int} {n : Nat} (h : mk ds (2 * n) < lengthL c ps) (h2 : 2 ≤ (dashP c ps ds n).length) : dashN c ps ds (n + 1) = dashN c ps ds n ++ [(false, dashP c ps ds n)] := if_pos ⟨h, h2⟩
theorem dashN_no {c : Bool} {ps : List Pt} {ds : List Int} {n : Nat} (h2 : ¬ 2 ≤ (dashP c ps ds n).length) : dashN c ps ds (n + 1) = dashN c ps ds n := if_neg fun h => h2 h.2
theorem dashN_off {c : Bool} {ps : List Pt} {ds : List Int} {n : Nat} (h : ¬ mk ds (2 * n) < lengthL c ps) : dashN c ps ds (n + 1) = dashN c ps ds n := if_neg fun e => h e.1
theorem dashN_length (c : Bool) (ps : List Pt) (ds : List Int) : ∀ n, (dashN c ps ds n).length ≤ n
  | 0 => by simp [dashN]
  | n + 1 => by
    have ih := dashN_length c ps ds n
    rw [dashN]
    split
    · simp; omega
    · omega
/-- From the first dash on that would begin at the line's end or behind it nothing comes. -/
theorem dashN_end {c : Bool} {ps : List Pt} {ds : List Int} (h : okD ds = true) (h0 : 0 < ds.length) {n : Nat} (hn : lengthL c ps ≤ mk ds (2 * n)) : ∀ {m : Nat}, n ≤ m → dashN c ps ds m = dashN c ps ds n
  | 0, hm => by
    obtain rfl : n = 0 := by omega
    rfl
  | m + 1, hm => by
    by_cases e : n = m + 1
    · rw [e]
    · have ih := dashN_end h h0 hn (m := m) (by omega)
      have u := mk_up h h0 (i := 2 * n) (j := 2 * m) (by omega)
      rw [dashN_off (by omega), ih]
/-- Of. -/
def dashL (c : Bool) (ps : List Pt) (ds : List Int) : List (Bool × List Pt) := if ds.length = 0 ∨ okD ds = false then [(c, ps)] else dashN c ps ds 64
theorem dashL_none {c : Bool} {ps : List Pt} {ds : List Int} (h : ds.length = 0) : dashL c ps ds = [(c, ps)] := if_pos (Or.inl h)
theorem dashL_bad {c : Bool} {ps : List Pt} {ds : List Int} (h : okD ds = false) : dashL c ps ds = [(c, ps)] := if_pos (Or.inr h)
theorem dashL_some {c : Bool} {ps : List Pt} {ds : List Int} (h0 : 0 < ds.length) (h : okD ds = true) : dashL c ps ds = dashN c ps ds 64 := if_neg fun e => by rcases e with e | e; omega; rw [h] at e; cases e
theorem dashL_length (c : Bool) (ps : List Pt) (ds : List Int) : (dashL c ps ds).length ≤ 64 := by
  unfold dashL
  split
  · simp
  · exact dashN_length _ _ _ _

end M
end Go.Proofs.Ytopepgifhnfbiaa

namespace Go.Proofs.Ytopepgifhnfbiaa
open Go Go.RowKit
open M

/-- The slice's value v holds just these numbers. -/
def Isl (w : World) (v : Value) (ds : List Int) : Prop := ∃ ao cap, v = .slice ao ds.length cap ∧ ds.length ≤ 17592186044416 ∧ (0 < ds.length → ∃ g o, ao = some ⟨g, o, none⟩ ∧ ∀ i, i < ds.length → w.cell? ⟨g, o + i, none⟩ = some (.int .i64 (nm ds i)))
theorem Isl.few {w : World} {v : Value} {ds : List Int} (h : Isl w v ds) : ds.length ≤ 17592186044416 := by
  obtain ⟨_, _, _, h, _⟩ := h
  exact h
theorem Isl.slice {w : World} {v : Value} {ds : List Int} (h : Isl w v ds) : ∃ ao cap, v = .slice ao ds.length cap := by
  obtain ⟨ao, cap, h, _⟩ := h
  exact ⟨ao, cap, h⟩
theorem Isl.blocks {w w' : World} {v : Value} {ds : List Int} (h : Isl w v ds) (hb : ∀ k, k < w.heap.size → v.ownBlock = some k → w'.heap[k]? = w.heap[k]?) : Isl w' v ds := by
  obtain ⟨ao, cap, rfl, hf, hr⟩ := h
  refine ⟨ao, cap, rfl, hf, fun h0 => ?_⟩
  obtain ⟨g, o, rfl, hr'⟩ := hr h0
  exact ⟨g, o, rfl, fun i hi => (World.cell?_of_block (a := ⟨g, _, _⟩) (hb g (World.block_lt_of_cell? w _ (hr' 0 h0)) rfl)).trans (hr' i hi)⟩
theorem Isl.below {w w' : World} {v : Value} {ds : List Int} (h : Isl w v ds) (hb : Below w.heap.size w w') : Isl w' v ds := h.blocks fun k hk _ => hb.block k hk
theorem Isl.alloc {w : World} {v : Value} {ds : List Int} (h : Isl w v ds) (o : Obj) : Isl (w.alloc o) v ds := h.blocks fun k hk _ => (MapKept.heap_alloc w o).2 k hk
theorem Isl.at {w : World} {ao : Option Addr} {N cap : Nat} {ds : List Int} (h : Isl w (.slice ao N cap) ds) (h0 : 0 < N) : ds.length = N ∧ ∃ g o, ao = some ⟨g, o, none⟩ ∧ ∀ i, i < N → w.cell? ⟨g, o + i, none⟩ = some (.int .i64 (nm ds i)) := by
  obtain ⟨ao', cap', e, hf, hr⟩ := h
  simp only [Value.slice.injEq] at e
  obtain ⟨rfl, rfl, rfl⟩ := e
  exact ⟨rfl, hr h0⟩
theorem isl_nil (w : World) (ao : Option Addr) (cap : Nat) : Isl w (.slice ao 0 cap) [] := ⟨ao, cap, rfl, by simp, fun h => by simp at h⟩
theorem isl_lit {w : World} {g n c : Nat} {ds : List Int} {cs : Array Value} {t : TypeId} (hn : ds.length = n) (hf : n ≤ 17592186044416) (h : Has w g cs t) (hc : cs.toList = ds.map (Value.int .i64)) : Isl w (.slice (some ⟨g, 0, none⟩) n c) ds := by
  subst hn
  refine ⟨_, c, rfl, hf, fun _ => ⟨g, 0, rfl, fun i hi => ?_⟩⟩
  rw [Nat.zero_add]
  refine h.cell i _ ?_
  have : cs.toList[i]? = some (.int .i64 (nm ds i)) := by rw [hc]; simp [nm, List.getD, hi]
  simpa using this

end Go.Proofs.Ytopepgifhnfbiaa

namespace Go.Proofs.Ytopepgifhnfbiaa
open Go Go.RowKit
open M

/-- What polys cover of the n pixels from x0 on. -/
def rowN (rule y x0 : Int) (ys : List Po) (n : Nat) : List Int := (List.range n).map fun (i : Nat) => ((covY rule (x0 + (i : Int)) y ys : Nat) : Int)
theorem rowN_length (rule y x0 : Int) (ys : List Po) (n : Nat) : (rowN rule y x0 ys n).length = n := by simp [rowN]
theorem rowN_at {rule y x0 : Int} {ys : List Po} {n i : Nat} (h : i < n) : nm (rowN rule y x0 ys n) i = (covY rule (x0 + (i : Int)) y ys : Nat) := by simp [rowN, nm, List.getD, h]
theorem rowN_succ (rule y x0 : Int) (ys : List Po) (n : Nat) : rowN rule y x0 ys (n + 1) = rowN rule y x0 ys n ++ [((covY rule (x0 + (n : Int)) y ys : Nat) : Int)] := by simp [rowN, List.range_succ]
/-- The row from x0 up to x1. -/
def rowL (rule y x0 x1 : Int) (ys : List Po) : List Int := if x0 < -256 ∨ 256 < x1 then [] else rowN rule y x0 ys (x1 - x0).toNat
theorem rowL_in {rule y x0 x1 : Int} {ys : List Po} (h : -256 ≤ x0) (h1 : x1 ≤ 256) : rowL rule y x0 x1 ys = rowN rule y x0 ys (x1 - x0).toNat := by unfold rowL; rw [if_neg (by omega)]
theorem rowL_none {rule y x0 x1 : Int} {ys : List Po} (h : x1 ≤ x0 ∨ x0 < -256 ∨ 256 < x1) : rowL rule y x0 x1 ys = [] := by
  unfold rowL
  by_cases h1 : x0 < -256 ∨ 256 < x1
  · rw [if_pos h1]
  · rw [if_neg h1, show (x1 - x0).toNat = 0 by omega]; rfl
theorem covY_le (rule x y : Int) (ys : List Po) : covY rule x y ys ≤ 16 := covL_le _ _ _ _

end Go.Proofs.Ytopepgifhnfbiaa

namespace Go.Proofs.Ytopepgifhnfbiaa
open Go Go.RowKit
open M

theorem near_small {x : Int} (h0 : -256 ≤ x) (h1 : x ≤ 256) : nearB x = true := nearB_iff.2 ⟨h0, h1⟩
theorem covY_near {rule x y : Int} {ys : List Po} (hx : nearB x = true) (hy : nearB y = true) : covY rule x y ys = covN (fun a b => windY a b ys) rule x y 16 := by unfold covY covL; rw [hx, hy]; rfl
/-- The same polys but for how often they go round. -/
theorem covY_cong {rule x y x' y' : Int} {ys zs : List Po} (hx : nearB x = nearB x') (hy : nearB y = nearB y') (h : nearB x = true → nearB y = true → ∀ i, i < 16 → countB rule (windY (smpX x i) (smpY y i) ys) = countB rule (windY (smpX x' i) (smpY y' i) zs)) : covY rule x y ys = covY rule x' y' zs := by
  unfold covY covL
  rw [← hx, ← hy]
  by_cases h1 : (nearB x && nearB y) = true
  · rw [if_pos h1, if_pos h1]
    rw [Bool.and_eq_true] at h1
    exact covN_cong fun i hi => h h1.1 h1.2 i hi
  · rw [if_neg h1, if_neg h1]
theorem rect_cov {x0 y0 x1 y1 px py rule m : Int} {ys : List Po} (b0 : -100 ≤ x0) (b1 : x0 ≤ x1) (b2 : x1 ≤ 100) (d0 : -100 ≤ y0) (d1 : y0 ≤ y1) (d2 : y1 ≤ 100) (p0 : -256 ≤ px) (p1 : px ≤ 256) (q0 : -256 ≤ py) (q1 : py ≤ 256)
    (hw : ∀ a b, windY a b ys = m * windP (place a) (place b) (rectP x0 y0 x1 y1)) :
    covY rule px py ys = if x0 ≤ px ∧ px < x1 ∧ y0 ≤ py ∧ py < y1 then (if countB rule m = true then 16 else 0) else 0 := by
  rw [covY_near (near_small p0 p1) (near_small q0 q1)]
  have key : ∀ i, i < 16 → windY (smpX px i) (smpY py i) ys = if x0 ≤ px ∧ px < x1 ∧ y0 ≤ py ∧ py < y1 then m else 0 := by
    intro i hi
    obtain ⟨a1, a2, -, -, a3, -⟩ := smp_in p0 p1 hi
    obtain ⟨-, -, c1, c2, -, c3⟩ := smp_in q0 q1 hi
    rw [hw, a3, c3, rect_wind b0 b1 b2 d0 d1 d2]
    by_cases h : x0 ≤ px ∧ px < x1 ∧ y0 ≤ py ∧ py < y1
    · rw [if_pos h, if_pos (by omega), Int.mul_one]
    · rw [if_neg h, if_neg (by omega), Int.mul_zero]
  by_cases h : x0 ≤ px ∧ px < x1 ∧ y0 ≤ py ∧ py < y1
  · rw [if_pos h]
    by_cases hc : countB rule m = true
    · rw [if_pos hc]
      exact covN_all fun i hi => by rw [key i hi, if_pos h]; exact hc
    · rw [if_neg hc]
      exact covN_no fun i hi => by rw [key i hi, if_pos h]; exact Bool.eq_false_iff.2 hc
  · rw [if_neg h]
    refine covN_no fun i hi => ?_
    rw [key i hi, if_neg h]
    unfold countB
    simp
theorem windY_one {a b : Int} {c : Bool} {l : Value} {ps : List Pt} : windY a b [⟨c, l, ps⟩] = windP (place a) (place b) ps := by
  show 0 + windP (place a) (place b) ps = _
  omega
theorem windY_two {a b : Int} {c d : Bool} {l k : Value} {ps qs : List Pt} : windY a b [⟨c, l, ps⟩, ⟨d, k, qs⟩] = windP (place a) (place b) ps + windP (place a) (place b) qs := by
  show 0 + windP (place a) (place b) ps + windP (place a) (place b) qs = _
  omega

end Go.Proofs.Ytopepgifhnfbiaa

namespace Go.Proofs.Ytopepgifhnfbiaa
open Go Go.RowKit
open M

theorem c_asked (x : Int) (w : World) : Calls Try.prog 28 #[.int .i64 x] w fun e w' => e = .returned (.bool (nearB x)) ∧ w = w' := by
  by_cases h1 : -256 ≤ x
  · by_cases h2 : x ≤ 256
    · have e : nearB x = true := nearB_iff.2 ⟨h1, h2⟩
      rw [e]
      go_enter Try.func28, Try.ntmps28
      go_wp2
      go_ret
      exact ⟨rfl, rfl⟩
    · have e : nearB x = false := by rw [Bool.eq_false_iff]; intro h; have := nearB_iff.1 h; omega
      rw [e]
      go_enter Try.func28, Try.ntmps28
      go_wp2
      go_ret
      exact ⟨rfl, rfl⟩
  · have e : nearB x = false := by rw [Bool.eq_false_iff]; intro h; have := nearB_iff.1 h; omega
    rw [e]
    go_enter Try.func28, Try.ntmps28
    go_wp2
    go_ret
    exact ⟨rfl, rfl⟩
theorem c_place {x c : Int} (x0 : -100000 ≤ x) (x1 : x ≤ 100000) (c0 : 0 ≤ c) (c1 : c ≤ 100000) (w : World) : Calls Try.prog 30 #[.int .i64 x, .int .i64 c] w fun e w' => e = .returned (.int .i64 (x * 65536 + c * 16384 + 8192)) ∧ w = w' := by
  go_enter Try.func30, Try.ntmps30
  go_wp2
  go_ret
  exact ⟨rfl, rfl⟩
theorem tmod_two (n : Int) : Int.tmod n 2 = 0 ↔ n % 2 = 0 := by
  rcases Int.lt_or_le n 0 with h | h
  · have e1 := Int.neg_tmod n 2
    have e2 := Int.tmod_eq_emod_of_nonneg (a := -n) (b := 2) (by omega)
    omega
  · rw [Int.tmod_eq_emod_of_nonneg h]
theorem c_within (rule n : Int) (w : World) : Calls Try.prog 29 #[.int .i64 rule, .int .i64 n] w fun e w' => e = .returned (.bool (countB rule n)) ∧ w = w' := by
  by_cases h0 : rule = 0
  · subst h0
    by_cases h1 : n = 0
    · have e : countB 0 n = false := by unfold countB; simp [h1]
      rw [e]
      subst h1
      go_enter Try.func29, Try.ntmps29
      go_wp2
      go_ret
      exact ⟨rfl, rfl⟩
    · have e : countB 0 n = true := by unfold countB; simp [h1]
      rw [e]
      go_enter Try.func29, Try.ntmps29
      go_wp2
      go_ret
      exact ⟨by simp [h1], rfl⟩
  · by_cases h1 : rule = 1
    · subst h1
      have RT := tmod_two n
      obtain ⟨m, hm⟩ : ∃ m, Int.tmod n 2 = m := ⟨_, rfl⟩
      rw [hm] at RT
      by_cases h2 : m = 0
      · have e : countB 1 n = false := by unfold countB; simp [RT.1 h2]
        rw [e]
        clear RT
        go_enter Try.func29, Try.ntmps29
        go_wp2
        go_ret
        exact ⟨rfl, rfl⟩
      · have e : countB 1 n = true := by unfold countB; have : ¬ n % 2 = 0 := fun h => h2 (RT.2 h); simp [this]
        rw [e]
        clear RT
        go_enter Try.func29, Try.ntmps29
        go_wp2
        go_ret
        exact ⟨by simp [h2], rfl⟩
    · have e : countB rule n = false := by unfold countB; simp [h0, h1]
      rw [e]
      go_enter Try.func29, Try.ntmps29
      go_wp2
      go_ret
      exact ⟨rfl, rfl⟩
set_option maxHeartbeats 1000000 in
theorem c_held (p : Pt) (w : World) :
    Calls Try.prog 45 #[.agg (pCells p)] w fun r w' => r = .returned (.agg (pCells (plc p))) ∧ Below w.heap.size w w' := by
  obtain ⟨x, y⟩ := p
  go_enter Try.func45, Try.ntmps45
  go_wp2
  refine wp_region_draws_tail 7 (by kernel_rfl) (by kernel_rfl) (by kernel_rfl) (by kernel_rfl) ?_
  simp only [List.take_succ_cons, List.take_zero, List.drop_succ_cons, List.drop_zero]
  repeat (go_big_quiet_step (first | (go_at_call 23; exact quiet1 (q_place _ _))))
  refine wpQuiet_nil ?_
  rintro _ ⟨nq, rfl⟩
  obtain ⟨w1, hw1⟩ : ∃ w1, w.drewN nq = w1 := ⟨_, rfl⟩
  have hs : w.heap.size = w1.heap.size := by rw [← hw1]; rfl
  have hb : Below w.heap.size w w1 := by rw [← hw1]; exact below_drewN (Below.refl _ _) _
  change wpList _ _ _ _ _ (((w.drewN nq).alloc _).alloc _)
  rw [hw1]
  have HB := Lib.hid hb
  clear hb hw1
  go_wp2
  refine bodyPost_ret (v := .agg #[.int .i64 (place x), .int .i64 (place y)]) (by simp [results, Try.results45, go_sem, hs]) rfl ⟨rfl, ?_⟩
  repeat (first | exact HB.out | refine Below.alloc ?_ (by first | (simp [hs]; done) | (simp [hs]; omega)) _)

/-- A side's cells. -/
abbrev dCells (s : Sd) : Array Value := #[.int .i64 s.1.x, .int .i64 s.1.y, .int .i64 s.2.x, .int .i64 s.2.y]
set_option maxHeartbeats 1000000 in
theorem c_way (s : Sd) (y : Int) (w : World) :
    Calls Try.prog 26 #[.agg (dCells s), .int .i64 y] w fun r w' => r = .returned (.int .i64 (wayP s.1 s.2 y)) ∧ Below w.heap.size w w' := by
  obtain ⟨⟨ax, ay⟩, bx, bY⟩ := s
  have HB := Lib.hid ((Below.refl w.heap.size w).alloc (Nat.le_refl _) (.cells #[.int .i64 ax, .int .i64 ay, .int .i64 bx, .int .i64 bY] 57))
  unfold wayP
  simp only
  by_cases h1 : ay ≤ y
  · by_cases h2 : y < bY
    · rw [if_pos ⟨h1, h2⟩]
      go_enter Try.func26, Try.ntmps26
      go_wp2
      go_ret
      exact ⟨rfl, HB.out⟩
    · rw [if_neg (by omega)]
      by_cases h3 : bY ≤ y
      · rw [if_neg (by omega)]
        go_enter Try.func26, Try.ntmps26
        go_wp2
        go_ret
        exact ⟨rfl, HB.out⟩
      · omega
  · rw [if_neg (by omega)]
    by_cases h3 : bY ≤ y
    · rw [if_pos (by omega)]
      go_enter Try.func26, Try.ntmps26
      go_wp2
      go_ret
      exact ⟨rfl, HB.out⟩
    · rw [if_neg (by omega)]
      go_enter Try.func26, Try.ntmps26
      go_wp2
      go_ret
      exact ⟨rfl, HB.out⟩
/-- A side whose numbers are held. -/
def SdOk (s : Sd) : Prop := ∀ p ∈ [s.1, s.2], -536870912 ≤ p.x ∧ p.x ≤ 536870912 ∧ -536870912 ≤ p.y ∧ p.y ≤ 536870912
theorem sdOk_plc (a b : Pt) : SdOk (plc a, plc b) := by
  intro p hp
  simp only [List.mem_cons, List.not_mem_nil, or_false] at hp
  rcases hp with rfl | rfl <;> exact ⟨place_lo _, place_hi _, place_lo _, place_hi _⟩
set_option maxHeartbeats 4000000 in
theorem c_beyond (s : Sd) (x y : Int) (hs : SdOk s) (hx : -536870912 ≤ x ∧ x ≤ 536870912) (hy : -536870912 ≤ y ∧ y ≤ 536870912) (w : World) :
    Calls Try.prog 25 #[.agg (dCells s), .int .i64 x, .int .i64 y] w fun r w' => r = .returned (.bool (bydP s.1 s.2 x y)) ∧ Below w.heap.size w w' := by
  obtain ⟨W, hW⟩ : ∃ W, w.alloc (.cells (dCells s) 57) = W := ⟨_, rfl⟩
  obtain ⟨B, hB⟩ : ∃ B, w.heap.size = B := ⟨_, rfl⟩
  have ha : Has W B (dCells s) 57 := by rw [← hW]; exact has_new hB
  have hb : Below w.heap.size w W := by rw [← hW]; exact (Below.refl _ _).alloc (Nat.le_refl _) _
  have WY := Lib.hid (fun w => c_way s y w)
  have wi := wayP_in s.1 s.2 y
  obtain ⟨⟨m1, m2⟩, m3, m4⟩ := side_in (a := s.1) (b := s.2) hs hx hy
  obtain ⟨a1, a2, a3, a4⟩ := hs s.1 (by simp)
  obtain ⟨b1, b2, b3, b4⟩ := hs s.2 (by simp)
  have EB : Hid (∀ W D, wayP s.1 s.2 y = W → sideW s.1 s.2 x y = D → bydP s.1 s.2 x y = ((decide (0 < W) && decide (0 < D)) || (decide (W < 0) && decide (D < 0)))) := Lib.hid (fun W D h1 h2 => by unfold bydP; rw [h1, h2])
  obtain ⟨V, hV⟩ : ∃ V, wayP s.1 s.2 y = V := ⟨_, rfl⟩
  rw [hV] at WY wi EB
  obtain ⟨⟨ax, ay⟩, bx, bY⟩ := s
  simp only [sideW] at m1 m2 m3 m4 a1 a2 a3 a4 b1 b2 b3 b4 EB
  obtain ⟨R, hR⟩ : ∃ R, bydP (⟨ax, ay⟩ : Pt) ⟨bx, bY⟩ x y = R := ⟨_, rfl⟩
  rw [hR] at EB
  simp only
  rw [hR]
  have HW := Lib.hid hW
  have HB := Lib.hid hb
  have HA := Lib.hid ha
  obtain ⟨x1, x2⟩ := hx
  obtain ⟨y1, y2⟩ := hy
  clear hs hW hb ha hV hR
  go_enter Try.func25, Try.ntmps25
  go_upto_region 1 with fail
  rw [HW.out]
  clear hB
  have c0 := HA.out.cell 0 _ rfl
  have c1 := HA.out.cell 1 _ rfl
  have c2 := HA.out.cell 2 _ rfl
  have c3 := HA.out.cell 3 _ rfl
  go_upto_region 2 with fail
  obtain ⟨D, hD⟩ : ∃ D, (bx - ax) * (y - ay) - (x - ax) * (bY - ay) = D := ⟨_, rfl⟩
  have EC := Lib.hid (EB.out V D rfl hD)
  rw [hD]
  have HA2 : Hid (∀ w', Below W.heap.size W w' → Has w' B #[.int .i64 ax, .int .i64 ay, .int .i64 bx, .int .i64 bY] 57) := Lib.hid (fun w' hb => HA.out.below hb HA.out.lt)
  clear hD m1 m2 m3 m4 a1 a2 a3 a4 b1 b2 b3 b4 x1 x2 y1 y2
  by_cases hv : 0 < V
  · go_wp2_with fail
    refine (WY.out _).mono ?_
    rintro r w1 ⟨rfl, hq⟩
    have Q1 := Lib.hid (HB.out.trans (hq.mono HB.out.size))
    have hc := HA2.out _ hq
    have d0 := hc.cell 0 _ rfl
    have d1 := hc.cell 1 _ rfl
    have d2 := hc.cell 2 _ rfl
    have d3 := hc.cell 3 _ rfl
    clear c0 c1 c2 c3 hq
    by_cases hd : 0 < D
    · have E : R = true := by rw [EC.out]; simp [hv, hd]
      subst E
      clear hc
      go_wp2
      go_ret
      exact ⟨rfl, Q1.out⟩
    · have E : R = false := by rw [EC.out]; simp; omega
      subst E
      have hn : ¬ V < 0 := by omega
      have HC := Lib.hid hc
      clear hc
      go_wp2_with fail
      refine (WY.out _).mono ?_
      rintro r w2 ⟨rfl, hq⟩
      have Q2 := Lib.hid (Q1.out.trans (hq.mono Q1.out.size))
      clear hq d0 d1 d2 d3
      go_wp2
      go_ret
      exact ⟨by rw [decide_eq_false (show ¬ 0 < D by omega)]; rfl, Q2.out⟩
  · go_wp2_with fail
    refine (WY.out _).mono ?_
    rintro r w1 ⟨rfl, hq⟩
    have Q1 := Lib.hid (HB.out.trans (hq.mono HB.out.size))
    have hc := HA2.out _ hq
    have d0 := hc.cell 0 _ rfl
    have d1 := hc.cell 1 _ rfl
    have d2 := hc.cell 2 _ rfl
    have d3 := hc.cell 3 _ rfl
    clear c0 c1 c2 c3 hq hc
    go_wp2_with fail
    refine (WY.out _).mono ?_
    rintro r w2 ⟨rfl, hq⟩
    have Q2 := Lib.hid (Q1.out.trans (hq.mono Q1.out.size))
    clear hq d0 d1 d2 d3
    by_cases hn : V < 0
    · by_cases hd : D < 0
      · have E : R = true := by rw [EC.out]; simp [hn, hd]
        subst E
        go_wp2
        go_ret
        exact ⟨rfl, Q2.out⟩
      · have E : R = false := by rw [EC.out]; simp; omega
        subst E
        go_wp2
        go_ret
        exact ⟨by rw [decide_eq_false (show ¬ D < 0 by omega)]; rfl, Q2.out⟩
    · have E : R = false := by rw [EC.out]; simp; omega
      subst E
      go_wp2
      go_ret
      exact ⟨rfl, Q2.out⟩

end Go.Proofs.Ytopepgifhnfbiaa

namespace Go.Proofs.Ytopepgifhnfbiaa
open Go Go.RowKit
open M

/-- Side i of a list. -/
def sd (ls : List Sd) (i : Nat) : Sd := ls.getD i default
theorem sd_cons (l : Sd) (ls : List Sd) (i : Nat) : sd (l :: ls) (i + 1) = sd ls i := by simp [sd]
theorem sd_zero (l : Sd) (ls : List Sd) : sd (l :: ls) 0 = l := by simp [sd]
theorem sd_mem {ls : List Sd} {i : Nat} (h : i < ls.length) : sd ls i ∈ ls := by
  unfold sd
  rw [List.getD_eq_getElem?_getD, List.getElem?_eq_getElem h]
  exact List.getElem_mem h
def dl (l : Sd) : List Value := [.int .i64 l.1.x, .int .i64 l.1.y, .int .i64 l.2.x, .int .i64 l.2.y]
def dls (ls : List Sd) : List Value := ls.flatMap dl
theorem dls_cons (l : Sd) (ls : List Sd) : dls (l :: ls) = dl l ++ dls ls := by simp [dls]
theorem dls_append (ls ms : List Sd) : dls (ls ++ ms) = dls ls ++ dls ms := by simp [dls]
theorem dl_length (l : Sd) : (dl l).length = 4 := rfl
theorem dls_length (ls : List Sd) : (dls ls).length = ls.length * 4 := by
  induction ls with
  | nil => rfl
  | cons l ls ih => rw [dls_cons, List.length_append, ih, dl_length, List.length_cons]; omega
theorem dls_at {ls : List Sd} {i j : Nat} (hi : i < ls.length) (hj : j < 4) : (dls ls)[i * 4 + j]? = (dl (sd ls i))[j]? := by
  induction ls generalizing i with
  | nil => simp at hi
  | cons l ls ih =>
    rw [dls_cons]
    cases i with
    | zero => rw [sd_zero, Nat.zero_mul, Nat.zero_add, List.getElem?_append_left (by rw [dl_length]; exact hj)]
    | succ i =>
      rw [sd_cons, List.getElem?_append_right (by rw [dl_length]; omega)]
      rw [← ih (by simpa using hi)]
      congr 1
      rw [dl_length]; omega
theorem ones_dl (l : Sd) : ∀ u ∈ dl l, u.oneCell' = true := by
  intro u hu
  simp [dl] at hu
  rcases hu with rfl | rfl | rfl | rfl <;> rfl
/-- A row of sides lies in block g from cell o on. -/
structure Drow (w : World) (g o : Nat) (ls : List Sd) : Prop where
  c0 : ∀ i, i < ls.length → w.cell? ⟨g, o + i * 4, none⟩ = some (.int .i64 (sd ls i).1.x)
  c1 : ∀ i, i < ls.length → w.cell? ⟨g, o + i * 4 + 1, none⟩ = some (.int .i64 (sd ls i).1.y)
  c2 : ∀ i, i < ls.length → w.cell? ⟨g, o + i * 4 + 2, none⟩ = some (.int .i64 (sd ls i).2.x)
  c3 : ∀ i, i < ls.length → w.cell? ⟨g, o + i * 4 + 3, none⟩ = some (.int .i64 (sd ls i).2.y)
theorem Drow.lt {w : World} {g o : Nat} {ls : List Sd} (h : Drow w g o ls) (hn : 0 < ls.length) : g < w.heap.size := World.block_lt_of_cell? w _ (h.c0 0 hn)
theorem drow_of {w : World} {g o : Nat} {ls : List Sd} (h : ∀ j u, (dls ls)[j]? = some u → w.cell? ⟨g, o + j, none⟩ = some u) : Drow w g o ls := by
  have key : ∀ i j u, i < ls.length → j < 4 → (dl (sd ls i))[j]? = some u → w.cell? ⟨g, o + i * 4 + j, none⟩ = some u := by
    intro i j u hi hj hu
    rw [Nat.add_assoc]
    exact h _ _ ((dls_at hi hj).trans hu)
  exact ⟨fun i hi => key i 0 _ hi (by omega) rfl, fun i hi => key i 1 _ hi (by omega) rfl, fun i hi => key i 2 _ hi (by omega) rfl, fun i hi => key i 3 _ hi (by omega) rfl⟩
theorem Drow.block {w w' : World} {g o : Nat} {ls : List Sd} (h : Drow w g o ls) (hb : w'.heap[g]? = w.heap[g]?) : Drow w' g o ls := by
  have key : ∀ j, w'.cell? ⟨g, j, none⟩ = w.cell? ⟨g, j, none⟩ := fun j => World.cell?_of_block (a := ⟨g, _, _⟩) hb
  exact ⟨fun i hi => (key _).trans (h.c0 i hi), fun i hi => (key _).trans (h.c1 i hi), fun i hi => (key _).trans (h.c2 i hi), fun i hi => (key _).trans (h.c3 i hi)⟩
/-- The slice's value v holds just these sides. -/
def Dsl (w : World) (v : Value) (ls : List Sd) : Prop := ∃ ao cap, v = .slice ao ls.length cap ∧ (0 < ls.length → ∃ g o, ao = some ⟨g, o, none⟩ ∧ Drow w g o ls)
theorem Dsl.below {w w' : World} {v : Value} {ls : List Sd} (h : Dsl w v ls) (hb : Below w.heap.size w w') : Dsl w' v ls := by
  obtain ⟨ao, cap, rfl, hr⟩ := h
  refine ⟨ao, cap, rfl, fun h0 => ?_⟩
  obtain ⟨g, o, e, hr'⟩ := hr h0
  exact ⟨g, o, e, hr'.block (hb.block g (hr'.lt h0))⟩
theorem Dsl.row {w : World} {ao : Option Addr} {N cap : Nat} {ls : List Sd} (h : Dsl w (.slice ao N cap) ls) (hn : 0 < N) : ∃ g o, ao = some ⟨g, o, none⟩ ∧ Drow w g o ls ∧ ls.length = N := by
  obtain ⟨ao', cap', hv, hr⟩ := h
  simp at hv
  obtain ⟨rfl, hl, rfl⟩ := hv
  obtain ⟨g, o, e, hr⟩ := hr (by omega)
  exact ⟨g, o, e, hr, hl.symm⟩
theorem Dsl.slice {w : World} {v : Value} {ls : List Sd} (h : Dsl w v ls) : ∃ ao cap, v = .slice ao ls.length cap := by
  obtain ⟨ao, cap, e, _⟩ := h
  exact ⟨ao, cap, e⟩
/-- The value v of a call's own holds just these sides, in its own blocks from 'base' on. -/
def Down (t : TypeId) (w : World) (base : Nat) (v : Value) (ls : List Sd) : Prop := w.ownsRow base t 4 v ls.length (dls ls)
theorem Down.sl {t : TypeId} {w : World} {base : Nat} {v : Value} {ls : List Sd} (h : Down t w base v ls) : Dsl w v ls := by
  rcases h.2 with ⟨rfl, hn⟩ | ⟨g, cap, cur, rfl, _, hg, _, _, _, ht⟩
  · exact ⟨none, 0, by rw [hn], fun h0 => by omega⟩
  · refine ⟨_, cap, rfl, fun _ => ⟨g, 0, rfl, drow_of fun j u hu => ?_⟩⟩
    rw [Nat.zero_add, cell_of_row w g j cur _ _ hg]
    rw [← ht, List.getElem?_take] at hu
    split at hu
    · simpa using hu
    · cases hu
theorem Down.nil (t : TypeId) (w : World) (base : Nat) : Down t w base (.slice none 0 0) [] := World.ownsRow_nil _ _ _ _
theorem Down.below {t : TypeId} {w w' : World} {B B' : Nat} {v : Value} {ls : List Sd} (h : Down t w B v ls) (hb : Below B' w w') (hB : w.heap.size ≤ B') : Down t w' B v ls :=
  World.ownsRow.kept h (grownBy_below hb hB) (by by_cases e : v.ownBlock = none; exact Or.inl e; exact Or.inr e)
theorem Down.base {t : TypeId} {w : World} {B : Nat} {v : Value} {ls : List Sd} (h : Down t w B v ls) (k : Nat) (hk : v.ownBlock = some k) : B ≤ k ∧ k < w.heap.size := World.ownsRow.lt h k hk
theorem Down.lower {t : TypeId} {w : World} {B B' : Nat} {v : Value} {ls : List Sd} (h : Down t w B v ls) (hB : B' ≤ B) : Down t w B' v ls := by
  refine ⟨h.1, ?_⟩
  rcases h.2 with h | ⟨g, cap, cur, a, b, r⟩
  · exact Or.inl h
  · exact Or.inr ⟨g, cap, cur, a, by omega, r⟩
theorem Down.len {t : TypeId} {w : World} {B : Nat} {v : Value} {ls : List Sd} (h : Down t w B v ls) : ∃ ao cap, v = .slice ao ls.length cap := by
  rcases h.2 with ⟨rfl, hn⟩ | ⟨g, cap, cur, rfl, _⟩
  · exact ⟨none, 0, by rw [hn]⟩
  · exact ⟨_, cap, rfl⟩
/-- What is told of a type of sides. -/
def SdInfo (t st : TypeId) : Prop := (Try.prog.info? t).map (fun i => (i.zero, i.size, i.bytes)) = some (some (.agg #[.int .i64 0, .int .i64 0, .int .i64 0, .int .i64 0]), 4, 32) ∧ Try.prog.underlying st = some (.slice t)
theorem wpList_append_sd {W : World} {base : Nat} {t st : TypeId} (hI : SdInfo t st) {l : Value} {ls : List Sd} {ops : Array Oper} {rest : List Oper} {op : Oper} {a : Act} {Q : Exit → Act → World → Prop} (hgd : op.guard = none) (s x : Operand)
    (hop : op.op = .call { callee := .builtin .append, args := #[s, x], argTypes := #[st, st] }) (N : Nat) (hN : ls.length = N) (hs : a.eval s = l) (H : Nat) (hx : a.eval x = .slice (some ⟨H, 0, none⟩) 1 1)
    (y : Sd) (cs : Array Value) (hn : Has W H cs t) (hcs : cs.toList = dl y) (hT : Down t W base l ls) (hf : N ≤ 8000000) (hb : base ≤ W.heap.size)
    (h : ∀ g' cap' w', Down t w' base (.slice (some ⟨g', 0, none⟩) (N + 1) cap') (ls ++ [y]) → W.grownBy w' l.ownBlock → (l.ownBlock = some g' ∨ g' = W.heap.size) → wpList Try.prog ops Q rest (a.put op.dst (.slice (some ⟨g', 0, none⟩) (N + 1) cap')) w') : wpList Try.prog ops Q (op :: rest) a W := by
  obtain ⟨i0, hi, hz0, hz1, hz2⟩ := info_parts hI.1
  subst hN
  refine wpList_plain hgd fun _ hK => wp_append_lies W s x st hop base t i0 _ 4 32 hI.2 hi hz0 hz1 hz2 rfl (by decide) l ls.length (dls ls) hs hT ⟨H, 0, none⟩ 1 1 (dl y) hx rfl ?_ (ones_dl y) (by decide) (by unfold maxLen; omega) (by omega) hb _ rfl ?_
  · intro j u hu
    rw [Addr.add_lit, Nat.zero_add]
    refine hn.cell j u ?_
    rw [← hcs] at hu
    simpa using hu
  intro g' cap' w' hown' hg hw _
  refine hK _ _ (h g' cap' w' ?_ hg hw)
  unfold Down
  rw [List.length_append, dls_append]
  have e : dls [y] = dl y := by simp [dls]
  rw [e]
  exact hown'
/-- The value v is a list of this side alone, in a block of the call's own. -/
def OneD (t : TypeId) (base : Nat) (l : Sd) (v : Value) (w : World) : Prop := ∃ g, v = .slice (some ⟨g, 0, none⟩) 1 1 ∧ base ≤ g ∧ Has w g (dCells l) t
theorem OneD.stay {t : TypeId} {base : Nat} {l : Sd} {v : Value} {w w' : World} (h : OneD t base l v w) (hb : Below w.heap.size w w') : OneD t base l v w' := by
  obtain ⟨g, e, l, k⟩ := h
  exact ⟨g, e, l, k.below hb k.lt⟩
/-- A list of just these sides, of the call's own, is returned. -/
def GivesD (t : TypeId) (w : World) (ls : List Sd) (e : Ending) (w' : World) : Prop := ∃ u, e = .returned u ∧ Down t w' w.heap.size u ls ∧ Below w.heap.size w w'

end Go.Proofs.Ytopepgifhnfbiaa

namespace Go.Proofs.Ytopepgifhnfbiaa
open Go Go.RowKit
open M

theorem infoD : SdInfo 57 54 := ⟨by kernel_rfl, Try.underlying54⟩
/-- What holds in a round: the list, and the place that the next side goes from, in block G. -/
structure DR (w : World) (o : Value) (ls : List Sd) (G : Nat) (a : Pt) (wr : World) : Prop where
  own : Down 57 wr w.heap.size o ls
  kg : Has wr G (pCells a) 28
  lo : w.heap.size ≤ G
  ne : o.ownBlock ≠ some G
  below : Below w.heap.size w wr
theorem DR.later {w wr w' : World} {o : Value} {ls : List Sd} {G : Nat} {a : Pt} (h : DR w o ls G a wr) (hb : Below wr.heap.size wr w') : DR w o ls G a w' :=
  ⟨h.own.below hb (Nat.le_refl _), h.kg.below hb h.kg.lt, h.lo, h.ne, h.below.trans (hb.mono h.below.size)⟩
theorem DR.put {w wr : World} {o : Value} {ls : List Sd} {G : Nat} {a : Pt} (h : DR w o ls G a wr) (b : Pt) : DR w o ls G b ((wr.setCell ⟨G, 0, none⟩ (.int .i64 b.x)).setCell ⟨G, 1, none⟩ (.int .i64 b.y)) := by
  have hs : wr.grownBy ((wr.setCell ⟨G, 0, none⟩ (.int .i64 b.x)).setCell ⟨G, 1, none⟩ (.int .i64 b.y)) (some G) := grownBy_set (grownBy_set (World.grownBy.refl _ _) _ _) _ _
  refine ⟨World.ownsRow.kept h.own hs (Or.inr h.ne), two_set h.kg _ _, h.lo, h.ne, (h.below.setCell h.lo _).setCell h.lo _⟩
theorem DR.grow {w wr w' : World} {o : Value} {ls : List Sd} {G : Nat} {a : Pt} (h : DR w o ls G a wr) {s : Sd} {g' n' cap' : Nat} (ho : Down 57 w' w.heap.size (.slice (some ⟨g', 0, none⟩) n' cap') (ls ++ [s])) (hg : wr.grownBy w' o.ownBlock) (hw : o.ownBlock = some g' ∨ g' = wr.heap.size) : DR w (.slice (some ⟨g', 0, none⟩) n' cap') (ls ++ [s]) G a w' := by
  refine ⟨ho, (hg.block G h.kg.lt (fun e => h.ne e.symm)).trans h.kg, h.lo, fun e => ?_, h.below.grown hg h.below.size (fun k e => (h.own.base k e).1)⟩
  have e1 : some g' = some G := e
  simp at e1
  subst e1
  rcases hw with e2 | e2
  · exact h.ne e2
  · have := h.kg.lt; omega
theorem sd_total {F : Nat → List Pt} {y0 y1 : Int} {ys : List Po} (hF : ∀ i, F i = (po ys i).ps) : ∀ n, (sdR y0 y1 F n).length ≤ (ptsN ys n).length
  | 0 => Nat.le_refl _
  | n + 1 => by
    have h1 := sd_total (y0 := y0) (y1 := y1) hF n
    have h2 := sdQ_length y0 y1 (F n)
    rw [hF n] at h2
    show (sdR y0 y1 F n ++ sdQ y0 y1 (F n)).length ≤ (ptsN ys n ++ (po ys n).ps).length
    rw [List.length_append, List.length_append, hF n]
    omega
theorem pts_mono {ys : List Po} : ∀ {n m : Nat}, n ≤ m → (ptsN ys n).length ≤ (ptsN ys m).length := by
  intro n m h
  induction h with
  | refl => exact Nat.le_refl _
  | step _ ih =>
    refine Nat.le_trans ih ?_
    show _ ≤ (ptsN ys _ ++ _).length
    rw [List.length_append]; omega

set_option maxRecDepth 100000 in
set_option maxHeartbeats 8000000 in
theorem c_sides {v : Value} {ys : List Po} {w : World} (y0 y1 : Int) (h : Ysl w v ys) (hf : (ptsN ys ys.length).length ≤ 4194304) :
    Calls Try.prog 24 #[v, .int .i64 y0, .int .i64 y1] w (GivesD 57 w (sdR y0 y1 (fun i => (po ys i).ps) ys.length)) := by
  obtain ⟨N, hN⟩ : ∃ N, ys.length = N := ⟨_, rfl⟩
  obtain ⟨ao, cap, ev⟩ : ∃ ao cap, v = .slice ao N cap := by obtain ⟨ao, cap, e, _⟩ := h; rw [hN] at e; exact ⟨_, _, e⟩
  subst ev
  rw [hN]
  obtain ⟨F, hF⟩ : ∃ F, (fun i => (po ys i).ps) = F := ⟨_, rfl⟩
  rw [hF]
  have TT : Hid (∀ n, n ≤ N → (sdR y0 y1 F n).length + 0 ≤ (ptsN ys n).length) := Lib.hid (fun n _ => by have := sd_total (y0 := y0) (y1 := y1) (F := F) (ys := ys) (fun i => by rw [← hF]) n; omega)
  have TM : Hid (∀ n, n ≤ N → (ptsN ys n).length ≤ 4194304) := Lib.hid (fun n hn => Nat.le_trans (pts_mono (by rw [hN]; exact hn)) hf)
  have HS := Lib.hid h
  have hN1 : N ≤ 1000 := by obtain ⟨_, _, _, hf, _⟩ := h; omega
  have HN1 := Lib.hid hN1
  have HF := Lib.hid hF.symm
  clear h hN hN1 hF hf
  go_enter Try.func24, Try.ntmps24
  go_wp2_with fail
  go_loopw [7, 16] (fun o i wr => ∃ n : Nat, n ≤ N ∧ i = .int .i64 n ∧ Down 57 wr w.heap.size o (sdR y0 y1 F n) ∧ Below w.heap.size w wr) (fun _ i _ => N - (intOf i).toNat)
  case atStart => exact ⟨0, by omega, rfl, Down.nil _ _ _, Below.refl _ _⟩
  case round =>
    obtain ⟨n, hn, rfl, ho, hb⟩ := hrel
    have o0 : (N : Int) ≤ 1000 := by have := HN1.out; omega
    have HB := Lib.hid hb
    have HO := Lib.hid ho
    obtain ⟨L, hL⟩ : ∃ L, sdR y0 y1 F n = L := ⟨_, rfl⟩
    rw [hL] at HO
    have HL := Lib.hid hL
    clear hb ho hL
    by_cases hlt : n < N
    · obtain ⟨g, o, e1, r0, l0⟩ := HS.out.row (by omega)
      subst e1
      have hsl := r0.sl n (by omega)
      have cs0 := (r0.below HB.out (by omega)).c0 n (by omega)
      have cs := (r0.below HB.out (by omega)).c1 n (by omega)
      obtain ⟨p, hp⟩ : ∃ p, po ys n = p := ⟨_, rfl⟩
      have HFN : Hid (F n = p.ps) := Lib.hid (by rw [HF.out]; show (po ys n).ps = _; rw [hp])
      have TN : Hid ((sdR y0 y1 F n).length + p.ps.length ≤ 4194304) := Lib.hid (by
        have h1 := TT.out n (by omega)
        have h2 := TM.out (n + 1) (by omega)
        have h3 : (ptsN ys (n + 1)).length = (ptsN ys n).length + (po ys n).ps.length := by show (ptsN ys n ++ (po ys n).ps).length = _; rw [List.length_append]
        rw [hp] at h3
        omega)
      rw [hp] at hsl cs cs0
      obtain ⟨c, vy, ps⟩ := p
      simp only at hsl HFN cs cs0 TN
      obtain ⟨K, hK⟩ : ∃ K, ps.length = K := ⟨_, rfl⟩
      obtain ⟨aoy, capy, evy⟩ : ∃ ao cap, vy = .slice ao K cap := by obtain ⟨ao, cap, hv, _⟩ := hsl; rw [hK] at hv; exact ⟨_, _, hv⟩
      subst evy
      have SV := Lib.hid hsl
      have HKL := Lib.hid hK
      have o6 : (K : Int) ≤ 4194304 := by have := TN.out; omega
      have o3 : (n : Int) < N := by omega
      have ES : Hid (sdR y0 y1 F (n + 1) = L ++ sdQ y0 y1 ps) := Lib.hid (by show sdR y0 y1 F n ++ sdQ y0 y1 (F n) = _; rw [HL.out, HFN.out])
      rw [HL.out] at TN
      obtain ⟨P, hP⟩ : ∃ P, wr.heap.size = P := ⟨_, rfl⟩
      obtain ⟨V, hV⟩ : ∃ V, wr.alloc (.cells #[.bool c, .slice aoy K capy] 31) = V := ⟨_, rfl⟩
      have hp : Has V P #[.bool c, .slice aoy K capy] 31 := by rw [← hV]; exact has_new hP
      have bV : Below wr.heap.size wr V := by rw [← hV]; exact (Below.refl _ _).alloc (Nat.le_refl _) _
      have HV := Lib.hid hV
      have KP := Lib.hid hp
      have BV := Lib.hid (HB.out.trans (bV.mono HB.out.size))
      have OV := Lib.hid (HO.out.below bV (Nat.le_refl _))
      have SW := Lib.hid (SV.out.below BV.out (Nat.le_refl _))
      clear r0 l0 hsl hK hp hV bV
      go_upto_region 5 with fail
      rw [HV.out]
      clear hP cs cs0
      have p1 := KP.out.cell 1 _ rfl
      by_cases h2 : K < 2
      · have o7 : (K : Int) < 2 := by omega
        have E : Hid (sdR y0 y1 F (n + 1) = L) := Lib.hid (by rw [ES.out]; unfold sdQ; rw [if_pos (by have := HKL.out; omega), List.append_nil])
        go_wp2
        go_roundw
        case rel => exact ⟨n + 1, by omega, by go_num, by rw [E.out]; exact OV.out, BV.out⟩
        case measure => simp [intOf]; omega
      · have o7 : ¬ (K : Int) < 2 := by omega
        have ES2 : Hid (sdR y0 y1 F (n + 1) = L ++ sdN y0 y1 ps K) := Lib.hid (by rw [ES.out]; unfold sdQ; rw [if_neg (by have := HKL.out; omega), HKL.out])
        obtain ⟨gq, oq, eq, row, -⟩ := SW.out.row (by omega)
        subst eq
        obtain ⟨J, hJ⟩ : ∃ J, K - 1 = J := ⟨_, rfl⟩
        have hJK : J < K := by omega
        have oJ : (K : Int) - 1 = J := by omega
        have oJ2 : (J : Int) < K := by omega
        have HJ : Hid (K - 1 = J) := Lib.hid hJ
        clear hJ
        obtain ⟨q, hq⟩ : ∃ q, pt ps J = q := ⟨_, rfl⟩
        have q0 := row.c0 J (by have := HKL.out; omega)
        have q1 := row.c1 J (by have := HKL.out; omega)
        rw [hq] at q0 q1
        have HQ := Lib.hid hq
        have CH := Lib.hid (fun w => c_held q w)
        obtain ⟨qx, qy⟩ := q
        simp only at q0 q1
        have HROW := Lib.hid row
        clear row hq
        go_wp2_with fail
        refine (CH.out _).mono ?_
        rintro e w1 ⟨rfl, hb1⟩
        obtain ⟨G, hG⟩ : ∃ G, w1.heap.size = G := ⟨_, rfl⟩
        obtain ⟨a, ha⟩ : ∃ a, plc (⟨qx, qy⟩ : Pt) = a := ⟨_, rfl⟩
        obtain ⟨V2, hV2⟩ : ∃ V2, w1.alloc (.cells (pCells a) 28) = V2 := ⟨_, rfl⟩
        have kg : Has V2 G (pCells a) 28 := by rw [← hV2]; exact has_new hG
        have b2 : Below w1.heap.size w1 V2 := by rw [← hV2]; exact (Below.refl _ _).alloc (Nat.le_refl _) _
        have b3 : Below V.heap.size V V2 := hb1.trans (b2.mono hb1.size)
        have D0 : Hid (DR w u7 (L ++ sdN y0 y1 ps 0) G a V2) := Lib.hid ⟨by rw [show L ++ sdN y0 y1 ps 0 = L from List.append_nil L]; exact OV.out.below b3 (Nat.le_refl _), kg, by have := BV.out.size; have := hb1.size; omega, fun e => by have := (OV.out.base _ e).2; have := hb1.size; omega, BV.out.trans (b3.mono BV.out.size)⟩
        have EA : Hid (a = plc (pt ps J)) := Lib.hid (by rw [HQ.out, ha])
        have KP2 := Lib.hid (KP.out.below b3 KP.out.lt)
        have B3 := Lib.hid b3
        have HV2 := Lib.hid hV2
        obtain ⟨ax, ay⟩ := a
        rw [ha]
        clear q0 q1 p1 kg b2 b3 hb1 hV2 ha
        go_upto_region 7 with fail
        rw [HV2.out]
        clear hG
        have p1 := KP2.out.cell 1 _ rfl
        go_wp2_with fail
        go_loopw [7, 36] (fun o i wk => ∃ (k : Nat) (b : Pt), k ≤ K ∧ i = .int .i64 k ∧ b = plc (pt ps (if k = 0 then K - 1 else k - 1)) ∧ DR w o (L ++ sdN y0 y1 ps k) G b wk) (fun _ i _ => K - (intOf i).toNat)
        case atStart => exact ⟨0, ⟨ax, ay⟩, by omega, rfl, by rw [if_pos rfl, HJ.out]; exact EA.out, D0.out⟩
        case round =>
          clear D0 EA p1
          obtain ⟨k, b, hk, rfl, hbe, hd⟩ := hrel
          have HD := Lib.hid hd
          have HBE := Lib.hid hbe
          clear hd hbe
          by_cases hkl : k < K
          · obtain ⟨g2, o2, eq, row, -⟩ := (SV.out.below HD.out.below (Nat.le_refl _)).row (by omega)
            simp only [Option.some.injEq, Addr.mk.injEq, and_true] at eq
            obtain ⟨rfl, rfl⟩ := eq
            have t0 := row.c0 k (by have := HKL.out; omega)
            have t1 := row.c1 k (by have := HKL.out; omega)
            obtain ⟨t, ht⟩ : ∃ t, pt ps k = t := ⟨_, rfl⟩
            rw [ht] at t0 t1
            have HT := Lib.hid ht
            have CT := Lib.hid (fun w => c_held t w)
            obtain ⟨tx, ty⟩ := t
            simp only at t0 t1
            have o9 : (k : Int) < K := by omega
            obtain ⟨T, hT⟩ : ∃ T, wr.heap.size = T := ⟨_, rfl⟩
            obtain ⟨V3, hV3⟩ : ∃ V3, wr.alloc (.cells #[.int .i64 tx, .int .i64 ty] 28) = V3 := ⟨_, rfl⟩
            have kt : Has V3 T #[.int .i64 tx, .int .i64 ty] 28 := by rw [← hV3]; exact has_new hT
            have b3 : Below wr.heap.size wr V3 := by rw [← hV3]; exact (Below.refl _ _).alloc (Nat.le_refl _) _
            have D3 := Lib.hid (HD.out.later b3)
            have KT := Lib.hid kt
            have HV3 := Lib.hid hV3
            clear row ht kt b3 hV3
            go_upto_region 10 with fail
            rw [HV3.out]
            clear hT t0 t1
            have t0 := KT.out.cell 0 _ rfl
            have t1 := KT.out.cell 1 _ rfl
            go_wp2_with fail
            refine (CT.out _).mono ?_
            rintro e w2 ⟨rfl, hb2⟩
            obtain ⟨Hb, hHb⟩ : ∃ G, w2.heap.size = G := ⟨_, rfl⟩
            obtain ⟨b', hbb⟩ : ∃ a, plc (⟨tx, ty⟩ : Pt) = a := ⟨_, rfl⟩
            obtain ⟨V4, hV4⟩ : ∃ V4, w2.alloc (.cells (pCells b') 28) = V4 := ⟨_, rfl⟩
            have kb : Has V4 Hb (pCells b') 28 := by rw [← hV4]; exact has_new hHb
            have b4 : Below w2.heap.size w2 V4 := by rw [← hV4]; exact (Below.refl _ _).alloc (Nat.le_refl _) _
            have D4 := Lib.hid ((D3.out.later hb2).later b4)
            have KB := Lib.hid kb
            have HV4 := Lib.hid hV4
            have NE : Hid (Hb ≠ G ∧ w.heap.size ≤ Hb ∧ Value.ownBlock u7 ≠ some Hb) := Lib.hid ⟨by have := D3.out.kg.lt; have := hb2.size; omega, by have := D3.out.below.size; have := hb2.size; omega, fun e => by have := (D3.out.own.base _ e).2; have := hb2.size; omega⟩
            have HSD : Hid (sideA ps k = (b, b')) := Lib.hid (by unfold sideA; rw [HKL.out, ← HBE.out, HT.out, hbb])
            rw [hbb]
            obtain ⟨bx, bY⟩ := b
            obtain ⟨cx, cy⟩ := b'
            clear kb b4 hb2 hV4 hbb t0 t1
            go_upto_region 11 with fail
            rw [HV4.out]
            clear hHb
            have g0 := D4.out.kg.cell 0 _ rfl
            have g1 := D4.out.kg.cell 1 _ rfl
            have k0 := KB.out.cell 0 _ rfl
            have k1 := KB.out.cell 1 _ rfl
            have fz := has_fro D4.out.kg
            obtain ⟨m0, hm0⟩ : ∃ m, (if cy < bY then cy else bY) = m := ⟨_, rfl⟩
            obtain ⟨m1, hm1⟩ : ∃ m, (if bY < cy then cy else bY) = m := ⟨_, rfl⟩
            have hn0 : min bY cy = m0 := by rw [← hm0]; split <;> omega
            have hn1 : max bY cy = m1 := by rw [← hm1]; split <;> omega
            have SO : Hid (sdOk y0 y1 (sideA ps k) = (decide (m0 ≤ y1) && decide (y0 < m1))) := Lib.hid (by rw [HSD.out]; unfold sdOk minI maxI; simp only; rw [hm0, hm1])
            have HK1 : Hid ((⟨cx, cy⟩ : Pt) = plc (pt ps (if k + 1 = 0 then K - 1 else k + 1 - 1))) := Lib.hid (by have := congrArg Prod.snd HSD.out; rw [if_neg (by omega)]; exact this.symm)
            clear hm0 hm1
            by_cases hA : m0 ≤ y1
            · by_cases hB : y0 < m1
              · have E : Hid (L ++ sdN y0 y1 ps (k + 1) = (L ++ sdN y0 y1 ps k) ++ [((⟨bx, bY⟩ : Pt), (⟨cx, cy⟩ : Pt))]) := Lib.hid (by rw [sdN_yes (by rw [SO.out]; simp [hA, hB]), ← List.append_assoc, HSD.out])
                go_upto_region 12 with fail
                obtain ⟨Hs, hHs⟩ : ∃ G, V4.heap.size = G := ⟨_, rfl⟩
                obtain ⟨V5, hV5⟩ : ∃ V5, V4.alloc (.cells #[.int .i64 bx, .int .i64 bY, .int .i64 cx, .int .i64 cy] 57) = V5 := ⟨_, rfl⟩
                have ks : Has V5 Hs (dCells ((⟨bx, bY⟩ : Pt), (⟨cx, cy⟩ : Pt))) 57 := by rw [← hV5]; exact has_new hHs
                have b5 : Below V4.heap.size V4 V5 := by rw [← hV5]; exact (Below.refl _ _).alloc (Nat.le_refl _) _
                have D5 := Lib.hid (D4.out.later b5)
                have KS := Lib.hid ks
                have KB5 := Lib.hid (KB.out.below b5 KB.out.lt)
                have HV5 := Lib.hid hV5
                obtain ⟨M, hM⟩ : ∃ M, (L ++ sdN y0 y1 ps k).length = M := ⟨_, rfl⟩
                have LM : Hid (M ≤ 8000000) := Lib.hid (by rw [← hM, List.length_append]; have := sdN_length y0 y1 ps k; have := TN.out; have := HKL.out; omega)
                have HM := Lib.hid hM
                have B5 : Hid (w.heap.size ≤ V5.heap.size) := Lib.hid D5.out.below.size
                clear ks b5 hV5 hM fz SO hn0 hn1
                go_wp2_with (at_builtin; rw [HV5.out]; refine wpList_append_sd infoD rfl _ _ rfl M HM.out rfl Hs rfl ((⟨bx, bY⟩ : Pt), (⟨cx, cy⟩ : Pt)) _ KS.out rfl D5.out.own LM.out B5.out ?_)
                intro g' cap' w5 ho5 hg5 hw5
                rw [← List.append_assoc] at ho5
                have D6 := Lib.hid (D5.out.grow ho5 hg5 hw5)
                have KB6 := Lib.hid (show Has w5 Hb (pCells ⟨cx, cy⟩) 28 from (hg5.block Hb KB5.out.lt (fun e => NE.out.2.2 e.symm)).trans KB5.out)
                have R := Lib.hid (D6.out.put ⟨cx, cy⟩)
                clear g0 g1 k0 k1 hHs ho5 hg5 hw5
                have k0 := KB6.out.cell 0 _ rfl
                have k1 := KB6.out.cell 1 _ rfl
                have g0 := D6.out.kg.cell 0 _ rfl
                have g1 := D6.out.kg.cell 1 _ rfl
                have fz := has_fro D6.out.kg
                go_wp2
                go_roundw
                case rel => exact ⟨k + 1, ⟨cx, cy⟩, by omega, by go_num, HK1.out, by rw [E.out]; exact R.out⟩
                case measure => simp [intOf]; omega
              · have E : Hid (L ++ sdN y0 y1 ps (k + 1) = L ++ sdN y0 y1 ps k) := Lib.hid (by rw [sdN_no (by rw [SO.out]; simp; omega)])
                have R := Lib.hid (D4.out.put ⟨cx, cy⟩)
                go_wp2
                go_roundw
                case rel => exact ⟨k + 1, ⟨cx, cy⟩, by omega, by go_num, HK1.out, by rw [E.out]; exact R.out⟩
                case measure => simp [intOf]; omega
            · have E : Hid (L ++ sdN y0 y1 ps (k + 1) = L ++ sdN y0 y1 ps k) := Lib.hid (by rw [sdN_no (by rw [SO.out]; simp; omega)])
              have R := Lib.hid (D4.out.put ⟨cx, cy⟩)
              go_wp2
              go_roundw
              case rel => exact ⟨k + 1, ⟨cx, cy⟩, by omega, by go_num, HK1.out, by rw [E.out]; exact R.out⟩
              case measure => simp [intOf]; omega
          · obtain rfl : k = K := by omega
            have o9 : ¬ (k : Int) < k := by omega
            have R : Hid (Down 57 wr w.heap.size u7 (sdR y0 y1 F (n + 1)) ∧ Below w.heap.size w wr) := Lib.hid ⟨by rw [ES2.out]; exact HD.out.own, HD.out.below⟩
            go_wp2
            go_roundw
            case rel => exact ⟨n + 1, by omega, by go_num, R.out.1, R.out.2⟩
            case measure => simp [intOf]; omega
    · obtain rfl : n = N := by omega
      have o3 : ¬ (n : Int) < n := by omega
      have R : Hid (∀ o, Down 57 wr w.heap.size o L → GivesD 57 w (sdR y0 y1 F n) (.returned o) wr) := Lib.hid (fun o ho => ⟨_, rfl, by rw [HL.out]; exact ho, HB.out⟩)
      have R2 := Lib.hid (R.out _ HO.out)
      go_wp2
      go_ret
      exact R2.out

end Go.Proofs.Ytopepgifhnfbiaa

namespace Go.Proofs.Ytopepgifhnfbiaa
open Go Go.RowKit
open M

theorem take_sd {ls : List Sd} {k : Nat} (h : k < ls.length) : ls.take (k + 1) = ls.take k ++ [sd ls k] := by
  rw [List.take_succ_eq_append_getElem h]
  unfold sd
  simp [List.getD, h]
theorem sdN_ok (y0 y1 : Int) (ps : List Pt) : ∀ k, ∀ s ∈ sdN y0 y1 ps k, SdOk s
  | 0, s, hs => by cases hs
  | k + 1, s, hs => by
    cases h : sdOk y0 y1 (sideA ps k)
    · rw [sdN_no h] at hs
      exact sdN_ok y0 y1 ps k s hs
    · rw [sdN_yes h] at hs
      rcases List.mem_append.1 hs with h1 | h1
      · exact sdN_ok y0 y1 ps k s h1
      · rw [List.mem_singleton.1 h1]; exact sdOk_plc _ _
theorem sdR_ok (y0 y1 : Int) (F : Nat → List Pt) : ∀ n, ∀ s ∈ sdR y0 y1 F n, SdOk s
  | 0, s, hs => by cases hs
  | n + 1, s, hs => by
    rcases List.mem_append.1 hs with h1 | h1
    · exact sdR_ok y0 y1 F n s h1
    · unfold sdQ at h1
      split at h1
      · cases h1
      · exact sdN_ok _ _ _ _ s h1

set_option maxRecDepth 100000 in
set_option maxHeartbeats 4000000 in
theorem c_wind {v : Value} {ys : List Po} {w : World} (x y : Int) (h : Ysl w v ys) (hf : (ptsN ys ys.length).length ≤ 4194304) :
    Calls Try.prog 13 #[v, .int .i64 x, .int .i64 y] w fun r w' => r = .returned (.int .i64 (windY x y ys)) ∧ Below w.heap.size w w' := by
  unfold windY
  obtain ⟨X, hX⟩ : ∃ X, place x = X := ⟨_, rfl⟩
  obtain ⟨Y, hY⟩ : ∃ Y, place y = Y := ⟨_, rfl⟩
  have XI : Hid (-536870912 ≤ X ∧ X ≤ 536870912) := Lib.hid (hX ▸ ⟨place_lo x, place_hi x⟩)
  have YI : Hid (-536870912 ≤ Y ∧ Y ≤ 536870912) := Lib.hid (hY ▸ ⟨place_lo y, place_hi y⟩)
  rw [hX, hY]
  rw [← sum_w1 (Int.le_refl Y) (Int.le_refl Y)]
  have SC := Lib.hid (c_sides Y Y h hf)
  have LM : Hid ((sdR Y Y (fun i => (po ys i).ps) ys.length).length ≤ 4194304) := Lib.hid (Nat.le_trans (sd_total (fun i => rfl) _) hf)
  have OK := Lib.hid (sdR_ok Y Y (fun i => (po ys i).ps) ys.length)
  obtain ⟨L, hL⟩ : ∃ L, sdR Y Y (fun i => (po ys i).ps) ys.length = L := ⟨_, rfl⟩
  rw [hL] at SC LM OK ⊢
  obtain ⟨ao, n, cap, rfl⟩ : ∃ ao n cap, v = .slice ao n cap := by obtain ⟨ao, cap, e, _⟩ := h; exact ⟨_, _, _, e⟩
  have HX := Lib.hid hX
  have HY := Lib.hid hY
  clear h hf hL hX hY
  go_enter Try.func13, Try.ntmps13
  go_upto_region 2 with (first | (go_at_call_of 23 x; refine (q_place _ _).mono ?_; rintro e w' ⟨rfl, rfl⟩) | (go_at_call_of 23 y; refine (q_place _ _).mono ?_; rintro e w' ⟨rfl, rfl⟩))
  rw [HX.out, HY.out]
  go_wp2_with fail
  refine SC.out.mono ?_
  rintro e wa ⟨u, rfl, ho, hb⟩
  obtain ⟨al, cl, el⟩ := ho.len
  obtain ⟨M, hM⟩ : ∃ M, L.length = M := ⟨_, rfl⟩
  rw [hM] at el LM
  subst el
  have HS := Lib.hid ho.sl
  have HB := Lib.hid hb
  have HM := Lib.hid hM
  clear ho hb hM
  go_wp2_with fail
  go_loopw [7, 19] (fun s i wr => ∃ k : Nat, k ≤ M ∧ i = .int .i64 k ∧ s = .int .i64 (sumL (fun s => w1 X Y s.1 s.2) (L.take k)) ∧ Below wa.heap.size wa wr) (fun _ i _ => M - (intOf i).toNat)
  case atStart => exact ⟨0, by omega, rfl, rfl, Below.refl _ _⟩
  case round =>
    obtain ⟨k, hk, rfl, rfl, hb⟩ := hrel
    have HBK := Lib.hid hb
    have SI := sumL_in (f := fun s : Sd => w1 X Y s.1 s.2) (fun s => w1_in X Y s.1 s.2) (L.take k)
    have o0 : (M : Int) ≤ 4194304 := by have := LM.out; omega
    rw [List.length_take] at SI
    have S2 : -4194304 ≤ sumL (fun s => w1 X Y s.1 s.2) (L.take k) ∧ sumL (fun s => w1 X Y s.1 s.2) (L.take k) ≤ 4194304 := by omega
    obtain ⟨S, hS⟩ : ∃ S, sumL (fun s => w1 X Y s.1 s.2) (L.take k) = S := ⟨_, rfl⟩
    rw [hS] at S2 ⊢
    have HSU := Lib.hid hS
    clear SI hS hb
    by_cases hlt : k < M
    · have o3 : (k : Int) < M := by omega
      obtain ⟨g, o, e1, row, -⟩ := (HS.out.below HBK.out).row (by omega)
      subst e1
      have hkl : k < L.length := by rw [HM.out]; exact hlt
      have c0 := row.c0 k hkl
      have c1 := row.c1 k hkl
      have c2 := row.c2 k hkl
      have c3 := row.c3 k hkl
      have ok := OK.out _ (sd_mem hkl)
      have ES : Hid (sumL (fun s => w1 X Y s.1 s.2) (L.take (k + 1)) = S + w1 X Y (sd L k).1 (sd L k).2) := Lib.hid (by rw [take_sd hkl, sumL_append, HSU.out]; simp [sumL])
      obtain ⟨s, hs⟩ : ∃ s, sd L k = s := ⟨_, rfl⟩
      rw [hs] at c0 c1 c2 c3 ok ES
      have EW : Hid (w1 X Y s.1 s.2 = if bydP s.1 s.2 X Y = true then wayP s.1 s.2 Y else 0) := Lib.hid (w1_way X Y s.1 s.2)
      have CB := Lib.hid (fun w => c_beyond s X Y ok XI.out YI.out w)
      have CW := Lib.hid (fun w => c_way s Y w)
      have wi := wayP_in s.1 s.2 Y
      obtain ⟨b, hbb⟩ : ∃ b, bydP s.1 s.2 X Y = b := ⟨_, rfl⟩
      obtain ⟨W, hW⟩ : ∃ W, wayP s.1 s.2 Y = W := ⟨_, rfl⟩
      rw [hbb] at CB EW
      rw [hW] at CW EW wi
      obtain ⟨⟨ax, ay⟩, bx, bY⟩ := s
      simp only at c0 c1 c2 c3
      obtain ⟨G, hG⟩ : ∃ G, wr.heap.size = G := ⟨_, rfl⟩
      obtain ⟨V, hV⟩ : ∃ V, wr.alloc (.cells #[.int .i64 ax, .int .i64 ay, .int .i64 bx, .int .i64 bY] 57) = V := ⟨_, rfl⟩
      have kg : Has V G #[.int .i64 ax, .int .i64 ay, .int .i64 bx, .int .i64 bY] 57 := by rw [← hV]; exact has_new hG
      have bV : Below wr.heap.size wr V := by rw [← hV]; exact (Below.refl _ _).alloc (Nat.le_refl _) _
      have KG := Lib.hid kg
      have BV := Lib.hid (HBK.out.trans (bV.mono HBK.out.size))
      have HV := Lib.hid hV
      clear row hs ok hbb hW kg bV hV hkl
      go_upto_region 6 with fail
      rw [HV.out]
      clear hG c0 c1 c2 c3
      have g0 := KG.out.cell 0 _ rfl
      have g1 := KG.out.cell 1 _ rfl
      have g2 := KG.out.cell 2 _ rfl
      have g3 := KG.out.cell 3 _ rfl
      go_wp2_with fail
      refine (CB.out _).mono ?_
      rintro e w2 ⟨rfl, hb2⟩
      have K2 := Lib.hid (KG.out.below hb2 KG.out.lt)
      have B2 := Lib.hid (BV.out.trans (hb2.mono BV.out.size))
      clear g0 g1 g2 g3 hb2
      cases b
      · have E : Hid (sumL (fun s => w1 X Y s.1 s.2) (L.take (k + 1)) = S) := Lib.hid (by rw [ES.out, EW.out]; simp)
        go_wp2
        go_roundw
        case rel => exact ⟨k + 1, by omega, by go_num, by rw [E.out], B2.out⟩
        case measure => simp [intOf]; omega
      · have E : Hid (sumL (fun s => w1 X Y s.1 s.2) (L.take (k + 1)) = S + W) := Lib.hid (by rw [ES.out, EW.out]; simp)
        have g0 := K2.out.cell 0 _ rfl
        have g1 := K2.out.cell 1 _ rfl
        have g2 := K2.out.cell 2 _ rfl
        have g3 := K2.out.cell 3 _ rfl
        go_wp2_with fail
        refine (CW.out _).mono ?_
        rintro e w3 ⟨rfl, hb3⟩
        have B3 := Lib.hid (B2.out.trans (hb3.mono B2.out.size))
        clear g0 g1 g2 g3 hb3
        go_wp2
        go_roundw
        case rel => exact ⟨k + 1, by omega, by go_num, by rw [E.out], B3.out⟩
        case measure => simp [intOf]; omega
    · obtain rfl : k = M := by omega
      have o3 : ¬ (k : Int) < k := by omega
      have E : Hid (sumL (fun s => w1 X Y s.1 s.2) L = S) := Lib.hid (by have := HSU.out; rw [List.take_of_length_le (by rw [HM.out]; exact Nat.le_refl _)] at this; exact this)
      go_wp2
      go_ret
      exact ⟨by rw [E.out]; rfl, HB.out.trans (HBK.out.mono HB.out.size)⟩

end Go.Proofs.Ytopepgifhnfbiaa

namespace Go.Proofs.Ytopepgifhnfbiaa
open Go Go.RowKit
open M

set_option maxRecDepth 100000 in
set_option maxHeartbeats 4000000 in
theorem c_at {v : Value} {ys : List Po} {w : World} (rule x y : Int) (h : Ysl w v ys) (hf : (ptsN ys ys.length).length ≤ 4194304) :
    Calls Try.prog 15 #[v, .int .i64 rule, .int .i64 x, .int .i64 y] w fun r w' => r = .returned (.int .i64 (covY rule x y ys : Nat)) ∧ Below w.heap.size w w' := by
  have HS := Lib.hid h
  have HC := Lib.hid hf
  clear h hf
  by_cases hx : nearB x = true
  · by_cases hy : nearB y = true
    · obtain ⟨x0, x1⟩ := nearB_iff.1 hx
      obtain ⟨y0, y1⟩ := nearB_iff.1 hy
      have EC : Hid (covY rule x y ys = covN (fun a b => windY a b ys) rule x y 16) := Lib.hid (by unfold covY covL; rw [hx, hy]; rfl)
      rw [EC.out]
      have WC := Lib.hid (fun (a b : Int) (w1 : World) (hb : Below w.heap.size w w1) => c_wind a b (HS.out.below hb) HC.out)
      obtain ⟨W, hW⟩ : ∃ W, (fun a b => windY a b ys) = W := ⟨_, rfl⟩
      have eW : ∀ a b, windY a b ys = W a b := fun a b => by rw [← hW]
      simp only [eW] at WC
      rw [hW]
      have XN := Lib.hid (show nearB x = true from hx)
      have YN := Lib.hid (show nearB y = true from hy)
      clear hW eW EC hx hy HS HC
      go_enter Try.func15, Try.ntmps15
      go_wp2_with (first | (go_at_call_of 28 x; refine (c_asked x _).mono ?_; rintro e w' ⟨rfl, rfl⟩; rw [XN.out]) | (go_at_call_of 28 y; refine (c_asked y _).mono ?_; rintro e w' ⟨rfl, rfl⟩; rw [YN.out]))
      go_loopw [9, 19] (fun s i wr => ∃ k : Nat, k ≤ 16 ∧ i = .int .i64 k ∧ s = .int .i64 (covN W rule x y k : Nat) ∧ Below w.heap.size w wr) (fun _ i _ => 16 - (intOf i).toNat)
      case atStart => exact ⟨0, by omega, rfl, rfl, Below.refl _ _⟩
      case round =>
        obtain ⟨k, hk, rfl, rfl, hb⟩ := hrel
        have HB := Lib.hid hb
        have hcn := covN_le W rule x y k
        have hst : covN W rule x y (k + 1) = covN W rule x y k + if countB rule (W (smpX x k) (smpY y k)) = true then 1 else 0 := rfl
        obtain ⟨n, hn⟩ : ∃ n, covN W rule x y k = n := ⟨_, rfl⟩
        rw [hn] at hcn hst ⊢
        have HN := Lib.hid hn
        clear hn
        by_cases hlt : k < 16
        · have o3 : (k : Int) < 16 := by omega
          obtain ⟨W0, hW0⟩ : ∃ z, W (smpX x k) (smpY y k) = z := ⟨_, rfl⟩
          have ST := Lib.hid hst
          have r0 : 0 ≤ Int.tmod (k : Int) 4 ∧ Int.tmod (k : Int) 4 ≤ 3 := by rw [Int.tmod_eq_emod_of_nonneg (by omega)]; omega
          have d0 : 0 ≤ Int.tdiv (k : Int) 4 ∧ Int.tdiv (k : Int) 4 ≤ 3 := by rw [Int.tdiv_eq_ediv_of_nonneg (by omega)]; omega
          have ex : x * 65536 + Int.tmod (k : Int) 4 * 16384 + 8192 = smpX x k := by unfold smpX; rw [Int.tmod_eq_emod_of_nonneg (by omega)]; omega
          have ey : y * 65536 + Int.tdiv (k : Int) 4 * 16384 + 8192 = smpY y k := by unfold smpY; rw [Int.tdiv_eq_ediv_of_nonneg (by omega)]; omega
          obtain ⟨p, hp⟩ : ∃ p, Int.tmod (k : Int) 4 = p := ⟨_, rfl⟩
          obtain ⟨q, hq⟩ : ∃ q, Int.tdiv (k : Int) 4 = q := ⟨_, rfl⟩
          rw [hp] at r0 ex
          rw [hq] at d0 ey
          have P1 := Lib.hid (fun w => c_place (x := x) (c := p) (by omega) (by omega) r0.1 (by omega) w)
          have P2 := Lib.hid (fun w => c_place (x := y) (c := q) (by omega) (by omega) d0.1 (by omega) w)
          rw [ex] at P1
          rw [ey] at P2
          have HW0 := Lib.hid hW0
          have CI := Lib.hid (fun w => c_within rule W0 w)
          obtain ⟨b, hb2⟩ : ∃ b, countB rule W0 = b := ⟨_, rfl⟩
          rw [HW0.out, hb2] at ST
          rw [hb2] at CI
          obtain ⟨q0, q3⟩ := d0
          clear ex ey hst hW0 r0 hb2
          go_upto_region 7 with fail
          go_wp2_with fail
          refine (P1.out _).mono ?_
          rintro e w' ⟨rfl, rfl⟩
          go_wp2_with fail
          refine (P2.out _).mono ?_
          rintro e w' ⟨rfl, rfl⟩
          go_wp2_with fail
          refine (WC.out _ _ _ HB.out).mono ?_
          rintro e w2 ⟨rfl, b2⟩
          rw [HW0.out]
          go_wp2_with fail
          refine (CI.out _).mono ?_
          rintro e w3 ⟨rfl, rfl⟩
          have BW : Hid (Below w.heap.size w w2) := Lib.hid (HB.out.trans (b2.mono HB.out.size))
          clear b2 hb
          cases b
          · have E := ST.out
            simp only [Bool.false_eq_true, if_false, Nat.add_zero] at E
            go_wp2
            go_roundw
            case rel => exact ⟨k + 1, by omega, by go_num, by first | (rw [E]; done) | (rw [E]; go_num), BW.out⟩
            case measure => simp [intOf]; omega
          · have E := ST.out
            simp only [if_true] at E
            go_wp2
            go_roundw
            case rel => exact ⟨k + 1, by omega, by go_num, by first | (rw [E]; done) | (rw [E]; go_num), BW.out⟩
            case measure => simp [intOf]; omega
        · obtain rfl : k = 16 := by omega
          have o3 : ¬ ((16 : Nat) : Int) < 16 := by omega
          go_wp2
          go_ret
          exact ⟨by rw [HN.out]; rfl, hb⟩
    · have e : covY rule x y ys = 0 := by unfold covY covL; rw [Bool.eq_false_iff.2 hy]; simp
      rw [e]
      have XN := Lib.hid (show nearB x = true from hx)
      have YN := Lib.hid (Bool.eq_false_iff.2 hy)
      clear e hx hy
      go_enter Try.func15, Try.ntmps15
      go_wp2_with (first | (go_at_call_of 28 x; refine (c_asked x _).mono ?_; rintro e w' ⟨rfl, rfl⟩; rw [XN.out]) | (go_at_call_of 28 y; refine (c_asked y _).mono ?_; rintro e w' ⟨rfl, rfl⟩; rw [YN.out]))
      go_ret
      exact ⟨rfl, Below.refl _ _⟩
  · have e : covY rule x y ys = 0 := by unfold covY covL; rw [Bool.eq_false_iff.2 hx]; simp
    rw [e]
    have XN := Lib.hid (Bool.eq_false_iff.2 hx)
    clear e hx
    go_enter Try.func15, Try.ntmps15
    go_wp2_with (first | (go_at_call_of 28 x; refine (c_asked x _).mono ?_; rintro e w' ⟨rfl, rfl⟩; rw [XN.out]))
    go_ret
    exact ⟨rfl, Below.refl _ _⟩

end Go.Proofs.Ytopepgifhnfbiaa

namespace Go.Proofs.Ytopepgifhnfbiaa
open Go Go.RowKit
open M

def one15 : List Pt := [⟨0, 0⟩, ⟨65536, 0⟩, ⟨65536, 65536⟩, ⟨0, 65536⟩]
def half15 : List Pt := [⟨0, 0⟩, ⟨32768, 0⟩, ⟨32768, 65536⟩, ⟨0, 65536⟩]
theorem kn15_a : covL (fun a b => 0 + windP (place a) (place b) one15) 0 0 0 = 16 := by decide +kernel
theorem kn15_b : covL (fun a b => 0 + windP (place a) (place b) half15) 1 0 0 = 8 := by decide +kernel
theorem kn15_c : covL (fun a b => 0 + windP (place a) (place b) one15) 0 1 0 = 0 := by decide +kernel
theorem kn15_d : covL (fun a b => 0 + windP (place a) (place b) one15) 7 0 0 = 0 := by decide +kernel
theorem kn15_e : (0 : Int) + windP (place 5) (place 5) one15 = 1 := by decide +kernel

theorem known15 (w : World) : Calls Try.prog 11 #[] w fun e w' => e = .returned (.bool true) ∧ Below w.heap.size w w' := by
  obtain ⟨B, hB⟩ : ∃ B, w.heap.size = B := ⟨_, rfl⟩
  obtain ⟨W1, hW1⟩ : ∃ W, (w.alloc (.cells #[.int .i64 0, .int .i64 0, .int .i64 65536, .int .i64 0, .int .i64 65536, .int .i64 65536, .int .i64 0, .int .i64 65536] 28)).alloc (.cells #[.bool false, .slice (some ⟨B, 0, none⟩) 4 4] 31) = W := ⟨_, rfl⟩
  obtain ⟨ha, hr, hb0⟩ := has_old hW1
  rw [hB] at ha hr
  have s1 : W1.heap.size = B + 2 := by rw [← hW1]; simp [hB]
  have hp : Psl W1 (.slice (some ⟨B, 0, none⟩) 4 4) one15 := psl_lit 4 4 rfl (by decide) ha rfl
  have hy := ysl_one hp hr
  obtain ⟨W2, hW2⟩ : ∃ W, (W1.alloc (.cells #[.int .i64 0, .int .i64 0, .int .i64 32768, .int .i64 0, .int .i64 32768, .int .i64 65536, .int .i64 0, .int .i64 65536] 28)).alloc (.cells #[.bool false, .slice (some ⟨B + 2, 0, none⟩) 4 4] 31) = W := ⟨_, rfl⟩
  obtain ⟨hc, hd, hb1⟩ := has_old hW2
  rw [s1] at hc hd
  have hq : Psl W2 (.slice (some ⟨B + 2, 0, none⟩) 4 4) half15 := psl_lit 4 4 rfl (by decide) hc rfl
  have hz := ysl_one hq hd
  have hy2 := hy.below hb1
  have B0 := Lib.hid (hb0.trans (hb1.mono hb0.size))
  have D0 : Hid (Below W2.heap.size W2 W2) := Lib.hid (Below.refl _ _)
  have EA := Lib.hid (fun (rule x y : Int) (w1 : World) (hb : Below W2.heap.size W2 w1) => c_at rule x y (hy2.below hb) (few_one (by decide)))
  have EH := Lib.hid (fun (rule x y : Int) (w1 : World) (hb : Below W2.heap.size W2 w1) => c_at rule x y (hz.below hb) (few_one (by decide)))
  have EW := Lib.hid (fun (x y : Int) (w1 : World) (hb : Below W2.heap.size W2 w1) => c_wind x y (hy2.below hb) (few_one (by decide)))
  have HW1 := Lib.hid hW1
  have HW2 := Lib.hid hW2
  have S1 := Lib.hid s1
  clear ha hr hb0 hp hy hc hd hb1 hq hz hy2 hW1 hW2 s1
  go_enter Try.func11, Try.ntmps11
  go_upto_region 2 with fail
  rw [HW1.out]
  clear hB
  have s1 := S1.out
  go_upto_region 3 with fail
  rw [HW2.out]
  clear s1
  have E1 := Lib.hid (EA.out 0 0 0 _ D0.out)
  rw [show covY 0 0 0 [(⟨false, .slice (some ⟨B, 0, none⟩) 4 4, one15⟩ : Po)] = 16 from kn15_a] at E1
  go_wp2_with fail
  refine E1.out.mono ?_
  rintro r X1 ⟨rfl, h1⟩
  have D1 := Lib.hid (D0.out.trans (h1.mono D0.out.size))
  clear h1 E1
  have E1 := Lib.hid (EH.out 1 0 0 _ D1.out)
  rw [show covY 1 0 0 [(⟨false, .slice (some ⟨B + 2, 0, none⟩) 4 4, half15⟩ : Po)] = 8 from kn15_b] at E1
  go_wp2_with fail
  refine E1.out.mono ?_
  rintro r X2 ⟨rfl, h1⟩
  have D2 := Lib.hid (D1.out.trans (h1.mono D1.out.size))
  clear h1 E1
  have E1 := Lib.hid (EA.out 0 1 0 _ D2.out)
  rw [show covY 0 1 0 [(⟨false, .slice (some ⟨B, 0, none⟩) 4 4, one15⟩ : Po)] = 0 from kn15_c] at E1
  go_wp2_with fail
  refine E1.out.mono ?_
  rintro r X3 ⟨rfl, h1⟩
  have D3 := Lib.hid (D2.out.trans (h1.mono D2.out.size))
  clear h1 E1
  have E1 := Lib.hid (EA.out 7 0 0 _ D3.out)
  rw [show covY 7 0 0 [(⟨false, .slice (some ⟨B, 0, none⟩) 4 4, one15⟩ : Po)] = 0 from kn15_d] at E1
  go_wp2_with fail
  refine E1.out.mono ?_
  rintro r X4 ⟨rfl, h1⟩
  have D4 := Lib.hid (D3.out.trans (h1.mono D3.out.size))
  clear h1 E1
  have E1 := Lib.hid (EW.out 5 5 _ D4.out)
  rw [show windY 5 5 [(⟨false, .slice (some ⟨B, 0, none⟩) 4 4, one15⟩ : Po)] = 1 from kn15_e] at E1
  go_wp2_with fail
  refine E1.out.mono ?_
  rintro r X5 ⟨rfl, h1⟩
  have D5 := Lib.hid (D4.out.trans (h1.mono D4.out.size))
  clear h1 E1
  go_wp2
  go_ret
  exact ⟨rfl, B0.out.trans (D5.out.mono B0.out.size)⟩

end Go.Proofs.Ytopepgifhnfbiaa

namespace Go.Proofs.Ytopepgifhnfbiaa
open Go.RowKit
open M

/-- What Within answers: the number itself where it lies there, else one that lies there. -/
def winI (x lo hi : Int) : Int := if lo ≤ x ∧ x ≤ hi then x else if x.tmod (hi - lo + 1) < 0 then lo + (x.tmod (hi - lo + 1) + hi - lo + 1) else lo + x.tmod (hi - lo + 1)
theorem winI_in (x : Int) {lo hi : Int} (h : lo ≤ hi) : lo ≤ winI x lo hi ∧ winI x lo hi ≤ hi := by
  have b := tmod_bd x (hi - lo + 1) (by omega)
  unfold winI
  split
  · assumption
  · split <;> omega
theorem b_win (x lo hi : Int) (h1 : -1000 ≤ lo) (h2 : lo ≤ hi) (h3 : hi ≤ 1000) (w : World) :
    Calls Try.prog 12 #[.int .i64 x, .int .i64 lo, .int .i64 hi] w fun e w' => e = .returned (.int .i64 (winI x lo hi)) ∧ w = w' := by
  by_cases h : lo ≤ x ∧ x ≤ hi
  · rw [show winI x lo hi = x by unfold winI; rw [if_pos h]]
    obtain ⟨h0, h4⟩ := h
    go_enter Try.func12, Try.ntmps12
    go_wp2
    go_ret
    exact ⟨rfl, rfl⟩
  · obtain ⟨m, hm⟩ : ∃ m, hi - lo + 1 = m := ⟨_, rfl⟩
    obtain ⟨T, hT, T0, T1⟩ : ∃ T, x.tmod m = T ∧ -m < T ∧ T < m := ⟨_, rfl, (tmod_bd _ _ (by omega)).1, (tmod_bd _ _ (by omega)).2⟩
    have m0 : ¬ m = 0 := by omega
    have hv : winI x lo hi = if T < 0 then lo + (T + hi - lo + 1) else lo + T := by unfold winI; rw [if_neg h, hm, hT]
    have h' : x < lo ∨ hi < x := by omega
    rw [hv]
    clear h hv
    rcases h' with h | h
    · by_cases hn : T < 0
      · rw [if_pos hn]
        go_enter Try.func12, Try.ntmps12
        go_wp2
        go_ret
        exact ⟨ret_int (by omega), rfl⟩
      · rw [if_neg hn]
        go_enter Try.func12, Try.ntmps12
        go_wp2
        go_ret
        exact ⟨ret_int (by omega), rfl⟩
    · have h0 : lo ≤ x := by omega
      by_cases hn : T < 0
      · rw [if_pos hn]
        go_enter Try.func12, Try.ntmps12
        go_wp2
        go_ret
        exact ⟨ret_int (by omega), rfl⟩
      · rw [if_neg hn]
        go_enter Try.func12, Try.ntmps12
        go_wp2
        go_ret
        exact ⟨ret_int (by omega), rfl⟩

end Go.Proofs.Ytopepgifhnfbiaa

namespace Go.Proofs.Ytopepgifhnfbiaa
open Go Go.RowKit
open M

/-- The first n places from the end on backwards; from place k on round. -/
def backN (ps : List Pt) (n : Nat) : List Pt := (List.range n).map fun i => pt ps (ps.length - 1 - i)
def roundN (ps : List Pt) (k n : Nat) : List Pt := (List.range n).map fun i => pt ps ((i + k) % ps.length)
theorem backN_length (ps : List Pt) (n : Nat) : (backN ps n).length = n := by simp [backN]
theorem roundN_length (ps : List Pt) (k n : Nat) : (roundN ps k n).length = n := by simp [roundN]
theorem backN_succ (ps : List Pt) (n : Nat) : backN ps (n + 1) = backN ps n ++ [pt ps (ps.length - 1 - n)] := by simp [backN, List.range_succ]
theorem roundN_succ (ps : List Pt) (k n : Nat) : roundN ps k (n + 1) = roundN ps k n ++ [pt ps ((n + k) % ps.length)] := by simp [roundN, List.range_succ]
theorem backN_all (ps : List Pt) : backN ps ps.length = ps.reverse := by
  refine List.ext_getElem (by simp [backN_length]) fun i h1 h2 => ?_
  have h3 : i < ps.length := by simpa [backN_length] using h1
  simp [backN, pt, List.getD, show ps.length - 1 - i < ps.length by omega]
theorem roundN_at {ps : List Pt} {k i : Nat} (h : i < ps.length) : pt (roundN ps k ps.length) i = pt ps ((i + k) % ps.length) := by
  unfold roundN pt
  simp [List.getD, h]
theorem cov_back {rule x y : Int} {c d : Bool} {l k : Value} (ps : List Pt) : covY rule x y [⟨d, k, backN ps ps.length⟩] = covY rule x y [⟨c, l, ps⟩] :=
  covY_cong rfl rfl fun _ _ i _ => by rw [windY_one, windY_one, backN_all, windP_reverse, countB_neg]
theorem cov_round {rule x y : Int} {c d : Bool} {l v : Value} {ps : List Pt} {k : Nat} (hk : k < ps.length) : covY rule x y [⟨d, v, roundN ps k ps.length⟩] = covY rule x y [⟨c, l, ps⟩] :=
  covY_cong rfl rfl fun _ _ i _ => by rw [windY_one, windY_one, windP_turn (roundN_length _ _ _) hk (fun i hi => roundN_at hi)]

set_option maxRecDepth 100000 in
set_option maxHeartbeats 8000000 in
theorem coverBacks_walk {w : World} (l : Value) (_ : Unit) (x y fr : Int) (hN : Nums w l) :
    Calls Try.prog 6 #[l, .int .i64 x, .int .i64 y, .int .i64 fr] w fun e w' => e = .returned (.bool true) ∧ Below w.heap.size w w' := by
  obtain ⟨B, hB⟩ : ∃ B, w.heap.size = B := ⟨_, rfl⟩
  obtain ⟨T, hT⟩ : ∃ T, w.alloc (.cells #[l, .int .i64 0] 35) = T := ⟨_, rfl⟩
  have bT : Below w.heap.size w T := by rw [← hT]; exact (Below.refl _ _).alloc (Nat.le_refl _) _
  have tp := tp_start hN (show Has T B #[l, .int .i64 0] 35 by rw [← hT]; exact has_new hB) bT (by omega)
  have TP := Lib.hid tp
  have BT := Lib.hid bT
  have GL : Hid (w.heap.size ≤ B) := Lib.hid (by omega)
  have HT := Lib.hid hT
  obtain ⟨al, nl, cl, rfl⟩ := hN.shape
  clear hN hT bT tp
  go_enter Try.func6, Try.ntmps6
  go_upto_region 2 with fail
  rw [HT.out]
  clear hB
  go_wp2_with fail
  refine (t_next B _ 4 _ (by omega) (by omega) TP.out).mono ?_
  rintro e w1 ⟨z, rfl, z0, z1, ht, hg⟩
  obtain ⟨m, rfl⟩ : ∃ m : Nat, z = m := ⟨z.toNat, by omega⟩
  have T1 := Lib.hid ht
  have G1 := Lib.hid hg
  clear ht hg
  go_wp2_with fail
  rw [show (1 : Int) + (m : Int) = ((m + 1 : Nat) : Int) by omega]
  refine (t_path B _ (m + 1) true _ (by omega) T1.out).mono ?_
  rintro e w2 ⟨lp, qs, rfl, hlen, hsm, ho, ht, hg⟩
  have G2 := Lib.hid (grownBy_trans G1.out hg)
  have PS := Lib.hid (ho.sl (by omega))
  have FF := Lib.hid (flat_few (c := true) hlen)
  obtain ⟨aq, cq, eq⟩ := ho.len
  obtain ⟨nq, hnq⟩ : ∃ k, qs.length = k := ⟨_, rfl⟩
  rw [hnq] at eq
  subst eq
  have RF := Lib.hid (r8_flat true PS.out)
  obtain ⟨ps, hF⟩ : ∃ F, flatL true qs = F := ⟨_, rfl⟩
  rw [hF] at FF RF
  clear ht hg hlen hsm ho hF hnq
  go_wp2_with fail
  refine RF.out.mono ?_
  rintro e w3 ⟨vf, rfl, hof, hb⟩
  have B3 := Lib.hid (show Below w.heap.size w w3 from (below_on BT.out G2.out GL.out BT.out.size).trans (hb.mono (below_on BT.out G2.out GL.out BT.out.size).size))
  have N64 : Hid (ps.length ≤ 50) := Lib.hid (by have := FF.out; omega)
  obtain ⟨N, hN⟩ : ∃ k, ps.length = k := ⟨_, rfl⟩
  obtain ⟨af, cf, ef⟩ := hof.len
  rw [hN] at ef
  subst ef
  obtain ⟨gp, hgp⟩ : ∃ k, w3.heap.size = k := ⟨_, rfl⟩
  obtain ⟨X, hX⟩ : ∃ X, w3.alloc (.cells #[.bool true, .slice af N cf] 31) = X := ⟨_, rfl⟩
  have bX : Below w3.heap.size w3 X := by rw [← hX]; exact (Below.refl _ _).alloc (Nat.le_refl _) _
  have kp : Has X gp #[.bool true, .slice af N cf] 31 := by rw [← hX]; exact has_new hgp
  have KP := Lib.hid kp
  have SP := Lib.hid ((hof.sl (by have := N64.out; omega)).below bX (Nat.le_refl _))
  have BX := Lib.hid (B3.out.trans (bX.mono B3.out.size))
  have HX := Lib.hid hX
  have HN := Lib.hid hN
  have hN50 : N ≤ 50 := by rw [← hN]; exact N64.out
  clear hof hb bX kp hX hN G1 G2 T1 PS RF FF TP BT GL HT B3 z0 z1
  go_upto_region 3 with fail
  rw [HX.out]
  clear hgp
  have c1 := KP.out.cell 1 _ rfl
  go_upto_region 4 with fail
  by_cases hz : N = 0
  · have o0 : (N : Int) = 0 := by omega
    clear c1
    go_wp2_with fail
    refine (known15 _).mono ?_
    rintro r X8 ⟨rfl, hq⟩
    have D8 := Lib.hid (BX.out.trans (hq.mono BX.out.size))
    clear hq
    go_wp2
    go_ret
    exact ⟨rfl, D8.out⟩
  · have o0 : ¬ (N : Int) = 0 := by omega
    have o1 : (N : Int) ≤ 50 := by omega
    have fi := winI_in fr (lo := 0) (hi := (N : Int) - 1) (by omega)
    clear c1
    go_wp2_with fail
    refine (b_win fr 0 ((N : Int) - 1) (by decide) (by omega) (by omega) _).mono ?_
    rintro r w' ⟨rfl, rfl⟩
    obtain ⟨k, hk⟩ : ∃ k : Nat, winI fr 0 ((N : Int) - 1) = k := ⟨(winI fr 0 ((N : Int) - 1)).toNat, by omega⟩
    rw [hk] at fi ⊢
    clear hk
    obtain ⟨g1, hg1⟩ : ∃ g, X.heap.size = g := ⟨_, rfl⟩
    obtain ⟨Y, hY⟩ : ∃ Y, (X.alloc (.cells #[.bool false, .slice none 0 0] 31)).alloc (.cells #[.bool false, .slice none 0 0] 31) = Y := ⟨_, rfl⟩
    obtain ⟨ka, kb, hbY⟩ := has_old hY
    have sY : Y.heap.size = g1 + 2 := by rw [← hY]; simp [hg1]
    have G0 : Hid (Gr2 X (g1 + 2) g1 (g1 + 1) (backN ps 0) (roundN ps k 0) (.slice none 0 0) (.slice none 0 0) Y) := Lib.hid
      ⟨Pown.nil _ _, Pown.nil _ _, hg1 ▸ ka, hg1 ▸ kb, fun _ h => (by simp [Value.ownBlock] at h), hbY, by omega, by omega, by omega, by omega, by omega, by omega⟩
    have HY := Lib.hid hY
    clear ka kb hbY sY hY
    go_upto_region 8 with fail
    rw [HY.out]
    clear hg1
    go_wp2_with fail
    go_loopw [15] (fun i wr => ∃ (n : Nat) (l1 l2 : Value), n ≤ N ∧ i = .int .i64 n ∧ Gr2 X (g1 + 2) g1 (g1 + 1) (backN ps n) (roundN ps k n) l1 l2 wr) (fun i _ => N - (intOf i).toNat)
    case atStart => exact ⟨0, _, _, by omega, rfl, G0.out⟩
    case round =>
      clear G0
      obtain ⟨n, l1, l2, hn, rfl, hG⟩ := hrel
      have GH := Lib.hid hG
      obtain ⟨a1, c1, e1⟩ := hG.o1.len
      obtain ⟨a2, c2, e2⟩ := hG.o2.len
      rw [backN_length] at e1
      rw [roundN_length] at e2
      subst e1
      subst e2
      clear hG
      by_cases hlt : n < N
      · have o3 : (n : Int) < N := by omega
        have LA := Lib.hid (backN_length ps n)
        have LB := Lib.hid (roundN_length ps k n)
        obtain ⟨j, hj⟩ : ∃ j, N - 1 - n = j := ⟨_, rfl⟩
        obtain ⟨m, hm⟩ : ∃ m, (n + k) % N = m := ⟨_, rfl⟩
        have hjl : j < N := by omega
        have hml : m < N := by rw [← hm]; exact Nat.mod_lt _ (by omega)
        obtain ⟨pa, hpa⟩ : ∃ p, pt ps j = p := ⟨_, rfl⟩
        obtain ⟨pb, hpb⟩ : ∃ p, pt ps m = p := ⟨_, rfl⟩
        have SA : Hid (backN ps n ++ [pa] = backN ps (n + 1)) := Lib.hid (by rw [backN_succ, HN.out, hj, hpa])
        have SB : Hid (roundN ps k n ++ [pb] = roundN ps k (n + 1)) := Lib.hid (by rw [roundN_succ, HN.out, hm, hpb])
        have LJ : Hid (j < ps.length ∧ m < ps.length) := Lib.hid (by rw [HN.out]; exact ⟨hjl, hml⟩)
        have HPA := Lib.hid hpa
        have HPB := Lib.hid hpb
        obtain ⟨gs, os, es, row0⟩ : ∃ g o, af = some ⟨g, o, none⟩ ∧ Prow X g o ps := by
          obtain ⟨g, o, e, r, -⟩ := SP.out.row (by omega)
          exact ⟨g, o, e, r⟩
        subst es
        have RW := Lib.hid (fun wz (hb : Below X.heap.size X wz) => row0.block (hb.block gs (row0.lt (by have := LJ.out; omega))))
        have ej : (N : Int) - 1 - (n : Int) = (j : Int) := by omega
        have oj : (j : Int) < N := by omega
        have ek : Int.tmod ((n : Int) + (k : Int)) (N : Int) = (m : Int) := by
          rw [Int.tmod_eq_emod_of_nonneg (by omega), ← hm]; rfl
        have om : (m : Int) < N := by omega
        clear hj hm hpa hpb row0
        go_upto_region 11 with fail
        refine wp_region_gen 11 [10] [] [0, 0, 0, 0, 0, 0, 0, 0, 0, 0, 1] (by kernel_rfl) (by kernel_rfl) (fun c a d v w h => by cases d <;> exact h) trivial (fun Gm w' => ∀ v, Gm 10 = some v → OneQ15 pa v w') (fun Gm w w' h hb v hv => (h v hv).stay hb) (fun v hv => by cases hv) ?_
        apply Exists.intro
        refine ⟨fun R hR hN => ?_, ?_, ?_⟩
        · have y1 := fun z => LaterR.read (R := R) GH.out.k1 1 _ rfl z
          have y2 := fun z => LaterR.read (R := R) (KP.out.below GH.out.below KP.out.lt) 1 _ rfl z
          have A0 := fun z => ((RW.out _ GH.out.below).laterR (R := R) LJ.out.1 HPA.out z).1
          have A1 := fun z => ((RW.out _ GH.out.below).laterR (R := R) LJ.out.1 HPA.out z).2
          simp only [quietL, takeA]
          repeat (go_big_quiet_step (fail))
          exact wpQuiet_nil rfl
        · intro i oo hi ho
          obtain rfl : i = 10 := by simpa using hi
          cases ho
          intro Gm w' hG hGn hdep hb hR
          refine ⟨rfl, gives_none (by kernel_rfl) hGn ?_⟩
          unfold gives
          simp [go_sem]
          refine ⟨hb.alloc hb.size _, fun v hv => ?_⟩
          rw [updV_eq] at hv
          cases hv
          exact ⟨_, rfl, has_new0⟩
        intro Gm w' hb hR hG hN
        obtain ⟨v9, e9⟩ := hG 10 (by simp)
        obtain ⟨gx, rfl, kx⟩ := hR v9 e9
        have nn : ∀ j, j < 10 → Gm j = none := fun j hj => hN j (by simp; omega)
        simp only [putV, dstAt, e9, nn 0 (by decide), nn 1 (by decide), nn 2 (by decide), nn 3 (by decide), nn 4 (by decide), nn 5 (by decide), nn 6 (by decide), nn 7 (by decide), nn 8 (by decide), nn 9 (by decide), List.drop_succ_cons, List.drop_zero, List.getElem?_cons_succ, List.getElem?_cons_zero, Option.bind_some]
        have GY := Lib.hid (GH.out.later hb)
        have PR : Hid (Prow w' gx 0 [pa]) := Lib.hid (prow_has (cs := pCells pa) (by simp) kx rfl)
        have L1 : Hid (n + 1 ≤ 8796093022208) := Lib.hid (by omega)
        clear hb hR hG hN nn e9 kx
        go_wp2_with (at_builtin; refine wpList_append_pl rfl _ _ rfl n LA.out rfl gx 0 1 1 rfl [pa] rfl (by decide) L1.out PR.out GY.out.o1 GY.out.big ?_)
        intro g' cap' w4 ho hg hat
        have f0 := (GY.out.fine hg).1
        have f1 := (GY.out.fine hg).2
        obtain ⟨w5, hw5⟩ : ∃ w5, w4.setCell ⟨g1, 1, none⟩ (.slice (some ⟨g', 0, none⟩) (n + 1) cap') = w5 := ⟨_, rfl⟩
        have GA := Lib.hid (GY.out.put ho hg hat)
        rw [hw5] at GA
        have HW5 := Lib.hid hw5
        clear ho hg hat hw5
        rw [SA.out] at GA
        have GS := Lib.hid GA.out.swap
        clear PR L1 GY
        go_upto_region 12 with fail
        rw [HW5.out]
        clear f0 f1
        go_upto_region 12 with fail
        refine wp_region_gen 12 [11] [] [0, 0, 0, 0, 0, 0, 0, 0, 0, 0, 0, 1] (by kernel_rfl) (by kernel_rfl) (fun c a d v w h => by cases d <;> exact h) trivial (fun Gm w' => ∀ v, Gm 11 = some v → OneQ15 pb v w') (fun Gm w w' h hb v hv => (h v hv).stay hb) (fun v hv => by cases hv) ?_
        apply Exists.intro
        refine ⟨fun R hR hN => ?_, ?_, ?_⟩
        · have y1 := fun z => LaterR.read (R := R) GS.out.k1 1 _ rfl z
          have y2 := fun z => LaterR.read (R := R) (KP.out.below GS.out.below KP.out.lt) 1 _ rfl z
          have A0 := fun z => ((RW.out _ GS.out.below).laterR (R := R) LJ.out.2 HPB.out z).1
          have A1 := fun z => ((RW.out _ GS.out.below).laterR (R := R) LJ.out.2 HPB.out z).2
          simp only [quietL, takeA]
          repeat (go_big_quiet_step (fail))
          exact wpQuiet_nil rfl
        · intro i oo hi ho
          obtain rfl : i = 11 := by simpa using hi
          cases ho
          intro Gm w' hG hGn hdep hb hR
          refine ⟨rfl, gives_none (by kernel_rfl) hGn ?_⟩
          unfold gives
          simp [go_sem]
          refine ⟨hb.alloc hb.size _, fun v hv => ?_⟩
          rw [updV_eq] at hv
          cases hv
          exact ⟨_, rfl, has_new0⟩
        intro Gm w' hb hR hG hN
        obtain ⟨v9, e9⟩ := hG 11 (by simp)
        obtain ⟨gx, rfl, kx⟩ := hR v9 e9
        have nn : ∀ j, j < 11 → Gm j = none := fun j hj => hN j (by simp; omega)
        simp only [putV, dstAt, e9, nn 0 (by decide), nn 1 (by decide), nn 2 (by decide), nn 3 (by decide), nn 4 (by decide), nn 5 (by decide), nn 6 (by decide), nn 7 (by decide), nn 8 (by decide), nn 9 (by decide), nn 10 (by decide), List.drop_succ_cons, List.drop_zero, List.getElem?_cons_succ, List.getElem?_cons_zero, Option.bind_some]
        have GY := Lib.hid (GS.out.later hb)
        have PR : Hid (Prow w' gx 0 [pb]) := Lib.hid (prow_has (cs := pCells pb) (by simp) kx rfl)
        have L1 : Hid (n + 1 ≤ 8796093022208) := Lib.hid (by omega)
        clear hb hR hG hN nn e9 kx
        go_wp2_with (at_builtin; refine wpList_append_pl rfl _ _ rfl n LB.out rfl gx 0 1 1 rfl [pb] rfl (by decide) L1.out PR.out GY.out.o1 GY.out.big ?_)
        intro g' cap' w4 ho hg hat
        have f0 := (GY.out.fine hg).1
        have f1 := (GY.out.fine hg).2
        obtain ⟨w5, hw5⟩ : ∃ w5, w4.setCell ⟨g1 + 1, 1, none⟩ (.slice (some ⟨g', 0, none⟩) (n + 1) cap') = w5 := ⟨_, rfl⟩
        have GB := Lib.hid (GY.out.put ho hg hat)
        rw [hw5] at GB
        have HW5 := Lib.hid hw5
        clear ho hg hat hw5
        rw [SB.out] at GB
        have GZ := Lib.hid GB.out.swap
        go_wp2_with fail
        rw [HW5.out]
        go_roundw
        case rel => exact ⟨n + 1, _, _, by omega, by go_num, GZ.out⟩
        case measure => simp [intOf]; omega
      · obtain rfl : n = N := by omega
        have o3 : ¬ (n : Int) < n := by omega
        have kn : k < ps.length := by rw [HN.out]; omega
        have QA := Lib.hid (GH.out.o1.sl (by rw [backN_length]; omega))
        have QB := Lib.hid (GH.out.o2.sl (by rw [roundN_length]; omega))
        have QP := Lib.hid (SP.out.below GH.out.below (Nat.le_refl _))
        have KA := Lib.hid GH.out.k1
        have KB := Lib.hid GH.out.k2
        have KQ := Lib.hid (KP.out.below GH.out.below KP.out.lt)
        have BW := Lib.hid (BX.out.trans (GH.out.below.mono BX.out.size))
        obtain ⟨Fa, hFa⟩ : ∃ F, backN ps n = F := ⟨_, rfl⟩
        obtain ⟨Fb, hFb⟩ : ∃ F, roundN ps k n = F := ⟨_, rfl⟩
        have EA : Hid (∀ (rule px py : Int) (l : Value), covY rule px py [⟨false, l, Fa⟩] = covY rule px py [⟨true, .slice af n cf, ps⟩]) := Lib.hid (fun rule px py l => by rw [← hFa, ← HN.out]; exact cov_back ps)
        have EB : Hid (∀ (rule px py : Int) (l : Value), covY rule px py [⟨false, l, Fb⟩] = covY rule px py [⟨true, .slice af n cf, ps⟩]) := Lib.hid (fun rule px py l => by rw [← hFb, ← HN.out]; exact cov_round kn)
        have FAL : Hid (Fa.length ≤ 50) := Lib.hid (by rw [← hFa, backN_length]; have := N64.out; have := HN.out; omega)
        have FBL : Hid (Fb.length ≤ 50) := Lib.hid (by rw [← hFb, roundN_length]; have := N64.out; have := HN.out; omega)
        rw [hFa] at QA
        rw [hFb] at QB
        clear hFa hFb GH
        go_upto_region 14 with (first | (go_at_call_of 12 x; refine (b_win x (-4) 16 (by decide) (by decide) (by decide) _).mono ?_; rintro e w' ⟨rfl, rfl⟩) | (go_at_call_of 12 y; refine (b_win y (-4) 16 (by decide) (by decide) (by decide) _).mono ?_; rintro e w' ⟨rfl, rfl⟩))
        obtain ⟨px, hpx⟩ : ∃ z, winI x (-4) 16 = z := ⟨_, rfl⟩
        obtain ⟨py, hpy⟩ : ∃ z, winI y (-4) 16 = z := ⟨_, rfl⟩
        rw [hpx, hpy]
        clear hpx hpy
        have CP := Lib.hid (fun (rule : Int) (wz : World) (hb : Below wr.heap.size wr wz) => c_at rule px py (ysl_one ((QP.out.below hb (Nat.le_refl _)).alloc (.cells #[.bool true, .slice af n cf] 31)) (has_new rfl)) (few_one N64.out))
        have CA := Lib.hid (fun (rule : Int) (wz : World) (hb : Below wr.heap.size wr wz) => c_at rule px py (ysl_one ((QA.out.below hb (Nat.le_refl _)).alloc (.cells #[.bool false, .slice a1 n c1] 31)) (has_new rfl)) (few_one FAL.out))
        have CB := Lib.hid (fun (rule : Int) (wz : World) (hb : Below wr.heap.size wr wz) => c_at rule px py (ysl_one ((QB.out.below hb (Nat.le_refl _)).alloc (.cells #[.bool false, .slice a2 n c2] 31)) (has_new rfl)) (few_one FBL.out))
        simp only [EA.out, EB.out] at CA CB
        go_wp2_with fail
        go_loopw [18] (fun i wz => ∃ r : Nat, r ≤ 2 ∧ i = .int .i64 r ∧ Below wr.heap.size wr wz) (fun i _ => 2 - (intOf i).toNat)
        case atStart => exact ⟨0, by omega, rfl, Below.refl _ _⟩
        case round =>
          obtain ⟨r, hr, rfl, hb⟩ := hrel
          have HB := Lib.hid hb
          clear hb
          by_cases hlt2 : r < 2
          · have o4 : (r : Int) < 2 := by omega
            have q4 := covY_le (r : Int) px py [⟨true, .slice af n cf, ps⟩]
            have E1 := Lib.hid (CP.out r)
            have E2 := Lib.hid (CA.out r)
            have E3 := Lib.hid (CB.out r)
            obtain ⟨C, hC⟩ : ∃ C : Nat, covY (r : Int) px py [⟨true, .slice af n cf, ps⟩] = C := ⟨_, rfl⟩
            rw [hC] at q4
            simp only [hC] at E1 E2 E3
            have HC := Lib.hid hC
            clear hC
            have k1 := KQ.out.below HB.out KQ.out.lt
            have c0 := k1.cell 0 _ rfl
            have c1' := k1.cell 1 _ rfl
            clear k1
            go_wp2_with fail
            refine (E1.out _ HB.out).mono ?_
            rintro e X1 ⟨rfl, hq⟩
            have D1 := Lib.hid ((HB.out.alloc HB.out.size _).trans (hq.mono (HB.out.alloc HB.out.size _).size))
            clear hq c0 c1'
            have k1 := KA.out.below D1.out KA.out.lt
            have c0 := k1.cell 0 _ rfl
            have c1' := k1.cell 1 _ rfl
            clear k1
            go_wp2_with fail
            refine (E2.out _ D1.out).mono ?_
            rintro e X2 ⟨rfl, hq⟩
            have D2 := Lib.hid ((D1.out.alloc D1.out.size _).trans (hq.mono (D1.out.alloc D1.out.size _).size))
            clear hq c0 c1'
            have k1 := KB.out.below D2.out KB.out.lt
            have c0 := k1.cell 0 _ rfl
            have c1' := k1.cell 1 _ rfl
            clear k1
            go_wp2_with fail
            refine (E3.out _ D2.out).mono ?_
            rintro e X3 ⟨rfl, hq⟩
            have D3 := Lib.hid ((D2.out.alloc D2.out.size _).trans (hq.mono (D2.out.alloc D2.out.size _).size))
            clear hq c0 c1'
            go_wp2
            go_roundw
            case rel => exact ⟨r + 1, by omega, by go_num, D3.out⟩
            case measure => simp [intOf]; omega
          · obtain rfl : r = 2 := by omega
            have o4 : ¬ ((2 : Nat) : Int) < 2 := by omega
            go_wp2_with fail
            refine (known15 _).mono ?_
            rintro e X8 ⟨rfl, hq⟩
            have D8 := Lib.hid (HB.out.trans (hq.mono HB.out.size))
            clear hq
            go_wp2
            go_ret
            exact ⟨rfl, BW.out.trans (D8.out.mono BW.out.size)⟩

end Go.Proofs.Ytopepgifhnfbiaa

namespace Go.Proofs.Ytopepgifhnfbiaa
open Go.RowKit Go.ChangeShapes Go.WideShapes Go.Deep
open M

section
variable {H : Type} {enc : TypeId × Value → H} {w : World} {base : Nat} {held : Bool}
theorem cell_int : Try.prog.cellsOf 3 = 1 := by kernel_rfl
set_option maxRecDepth 100000 in
theorem open_tape {r : Reach} {b0 : Nat} {v : Value} {d : DataW H} {p : List MemPlace} (hv : Value.okWide Try.prog w r b0 33 v) (h : DataW.Trod enc Try.prog w base (fun _ => true) held 33 v d p) : ∃ _ : Unit, Nums w v := by
  refine ⟨(), ?_⟩
  obtain ⟨a0, len0, cap0, rfl⟩ := okWide_slice Try.underlying33 hv
  obtain ⟨fuel, hf⟩ := h
  rcases open_slice1 Try.underlying33 cell_int hf with ⟨hc, _⟩ | ⟨a, len, cap, m, n, V, D, Pl, hc, _, hl, hm, hmm, _, hi⟩
  · simp [Value.cells] at hc
    obtain ⟨rfl, rfl, rfl⟩ := hc
    exact Or.inl ⟨_, _, rfl⟩
  · simp [Value.cells] at hc
    obtain ⟨rfl, rfl, rfl⟩ := hc
    rw [if_pos rfl] at hmm
    subst hmm
    by_cases h0 : len0 = 0
    · subst h0
      exact Or.inl ⟨_, _, rfl⟩
    · have hspot : a.spot = none := by
        have := (hi 0 (by omega)).1
        simpa [Addr.add] using World.cell?_spot this
      obtain ⟨b, o, sp⟩ := a
      simp only at hspot
      subst hspot
      have h63 : len0 ≤ 9223372036854775807 := by
        have h := hm
        simp [maxLen] at h
        omega
      refine Or.inr ⟨b, o, len0, _, rfl, by omega, h63, fun i hil => ?_⟩
      obtain ⟨h1, h2⟩ := hi i (by omega)
      obtain ⟨k, hk, _⟩ := DataW.trod_int Try.underlying3 h2
      rw [Addr.add_lit] at h1
      refine ⟨k, h1.trans ?_⟩
      simpa using hk
end

end Go.Proofs.Ytopepgifhnfbiaa

namespace Go.Proofs.Ytopepgifhnfbiaa.coverBacks
open Go.ChangeShapes Go.WideShapes Go.ChangeAt Go.RowKit

theorem post_below {H : Type} {enc : TypeId × Value → H} {P : Program} {f : Func} {s : ChangeSpec} {apart fresh handsOn : Bool} {W V : World} {args : Array Value} {v : Value} {ds gs : List (DataW H)} {before pa pv : List MemPlace}
    (hW : DataW.Whole enc P f.params.toList s.vars apart W args.toList ds gs before)
    (hres : ∀ (b : Nat) (sp : Nat → Bool) (hd : Bool), DataW.TrodAll enc P V b sp hd f.resultTypes.toList (v.resultList f.resultTypes.size) (s.fn H (ds ++ gs)).results [])
    (hargs : ∀ sp : Nat → Bool, (∀ p ∈ before, sp p.block = true) → DataW.TrodAll enc P V 0 sp true f.params.toList args.toList (s.fn H (ds ++ gs)).args pa)
    (hvars : ∀ sp : Nat → Bool, (∀ p ∈ before, sp p.block = true) → DataW.TrodVars enc P V sp s.vars (s.fn H (ds ++ gs)).vars pv)
    (hps : before = pa ++ pv) (hb : Below W.heap.size W V) : s.post enc P f apart fresh handsOn false W args v V := by
  have hl : ∀ p ∈ before, (fun b => decide (b < W.heap.size)) p.block = true := fun p hp => by simpa using hW.lt p hp
  refine ⟨ds, gs, before, [], pa, pv, hW, hres _ _ _, hargs _ hl, hvars _ hl, World.keptBut_mono (fun p hp => ⟨hp, ?_⟩) (hb.frame (· ∈ before)), fun h => by cases h⟩
  rw [hps, List.mem_append] at hp
  exact Or.inr hp

theorem own : ownKnob Try.prog.godebug = none := by kernel_rfl
theorem laid : laidOutB Try.prog = true := by kernel_rfl

set_option maxRecDepth 100000 in
theorem lifted (os : Os) (started : os.Started) (H : Type) (enc : TypeId × Value → H) :
    ReturnsInHanded {} Try.checked os 6 .any (Rows.coverBacksSpec.pre6 enc Try.prog Try.f6 Rows.coverBacksRow.domain false) (Rows.coverBacksSpec.post enc Try.prog Try.f6 false true false false) := by
  refine returnsInHanded_of_change (C := Try.checked) own started (by kernel_rfl) Try.func6
    (ChangeSpec.witness6 (enc := enc) (C := Try.checked) false ⟨#[], #[.slice none 0 0, .int .i64 0, .int .i64 0, .int .i64 0], []⟩ 8 (by kernel_rfl) (by kernel_rfl) (by kernel_rfl) (by kernel_rfl)) ?_
  intro W base args ds gs before hval0 hW hcnd _
  have hval : ∀ (j : Nat) t v, Try.f6.params[j]? = some t → args[j]? = some v → Value.okWide Try.prog W .any base t v := hval0
  have hW' := hW
  obtain ⟨p, q, hA0, hV, rfl, hfz, hnd⟩ := hW
  have hA : DataW.TrodAll enc Try.prog W 0 (fun _ => true) true Try.f6.params.toList args.toList ds p := hA0
  rw [Try.params6] at hA hval
  obtain ⟨v0, vs0, d0, ds0, p0, q0, hargs, rfl, rfl, h0, r0⟩ := trodAll_cons hA
  obtain ⟨v1, vs1, d1, ds1, p1, q1, rfl, rfl, rfl, h1, r1⟩ := trodAll_cons r0
  obtain ⟨v2, vs2, d2, ds2, p2, q2, rfl, rfl, rfl, h2, r2⟩ := trodAll_cons r1
  obtain ⟨v3, vs3, d3, ds3, p3, q3, rfl, rfl, rfl, h3, r3⟩ := trodAll_cons r2
  obtain ⟨rfl, rfl, rfl⟩ := trodAll_nil r3
  obtain rfl : args = #[v0, v1, v2, v3] := by cases args; simp_all
  obtain ⟨rfl, rfl⟩ := trodVars_none hV
  obtain ⟨a0, w0⟩ := open_tape (hval 0 33 v0 rfl rfl) h0
  obtain ⟨a1, rfl, rfl, rfl, w1⟩ := open_int Try.underlying3 (hval 1 3 v1 rfl rfl) h1
  obtain ⟨a2, rfl, rfl, rfl, w2⟩ := open_int Try.underlying3 (hval 2 3 v2 rfl rfl) h2
  obtain ⟨a3, rfl, rfl, rfl, w3⟩ := open_int Try.underlying3 (hval 3 3 v3 rfl rfl) h3
  clear hA0 hval0
  simp only [List.append_nil] at hW'
  refine (coverBacks_walk (w := W) v0 a0 a1 a2 a3 w0).mono fun e W' ⟨he, hg⟩ => ?_
  subst he
  exact ⟨_, rfl, post_below (pv := []) hW' (fun _ _ _ => (trodAll_cons_mk (shut_bool Try.underlying4 _) trodAll_mk0)) (fun sp hsp => (trodAll_cons_mk (WideElems.Trod_stays laid (by kernel_rfl) (of_decide_eq_true (by kernel_rfl)) h0 (fun x hx => hg.same (by simpa using hW'.lt x (by simp [hx]))) (fun x hx => hsp x (by simp [hx]))) (trodAll_cons_mk (shut_int Try.underlying3 w1) (trodAll_cons_mk (shut_int Try.underlying3 w2) (trodAll_cons_mk (shut_int Try.underlying3 w3) trodAll_mk0))))) (fun _ _ => rfl) (by simp) hg⟩

theorem over : Rows.coverBacksRow.holds Try.pinned (OpenSpec.ofChange Rows.coverBacksSpec) :=
  OpenClaim.holds_of_wide 6 Try.f6 rfl rfl rfl rfl rfl rfl rfl ⟨rfl, rfl, rfl, rfl, rfl⟩ rfl rfl rfl rfl rfl (by kernel_rfl) Try.func6 (by kernel_rfl)
    (of_decide_eq_true (by kernel_rfl)) (by unfold Func.isWrapper; first | (rw [if_pos (by decide +kernel)]; kernel_rfl) | (rw [if_neg (by decide +kernel)]; exact ⟨rfl, rfl⟩))
    (fun os started H enc _ => lifted os started H enc)

end Go.Proofs.Ytopepgifhnfbiaa.coverBacks
namespace Go.Proofs.Ytopepgifhnfbiaa
theorem coverBacks_holds : Rows.CoverBacksSaid := coverBacks.over
#print axioms coverBacks_holds
end Go.Proofs.Ytopepgifhnfbiaa
