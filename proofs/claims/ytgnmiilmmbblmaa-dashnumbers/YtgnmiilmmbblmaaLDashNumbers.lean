/- DashNumbers of the statements: whatever the numbers are, the call returns true and each argument reads as it did; no condition. -/
import Derived.Test.YtgnmiilmmbblmaaNMath
import Derived.Test.YtgnmiilmmbblmaaPB
import Derived.Test.YtgnmiilmmbblmaaX1
import Derived.Test.YtgnmiilmmbblmaaYO8
import Derived.BigRegion
import Derived.Test.YtgnmiilmmbblmaaY8
import Derived.Deep.AppendLies
import Derived.Test.YtgnmiilmmbblmaaQ8
import Derived.Test.YtgnmiilmmbblmaaWant
import Derived.Test.YtgnmiilmmbblmaaApp
import Derived.Test.YtgnmiilmmbblmaaTK5
import Derived.Test.YtgnmiilmmbblmaaAP8
import Derived.Test.YtgnmiilmmbblmaaTB7
import Derived.Test.YtgnmiilmmbblmaaPM
import Derived.Test.YtgnmiilmmbblmaaRows
import Derived.WalkKit
import Derived.ProofKit
import Derived.OpenShut
namespace Go.Proofs.Ytgnmiilmmbblmaa
namespace M

/-- Number i of a list. -/
def nm (ds : List Int) (i : Nat) : Int := ds.getD i 0
theorem nm_cons (d : Int) (ds : List Int) (i : Nat) : nm (d :: ds) (i + 1) = nm ds i := by simp [nm]
theorem nm_zero (d : Int) (ds : List Int) : nm (d :: ds) 0 = d := by simp [nm]
theorem nm_left {ds : List Int} {d : Int} {i : Nat} (h : i < ds.length) : nm (ds ++ [d]) i = nm ds i := by unfold nm; simp [List.getD, List.getElem?_append_left h]
theorem nm_last (ds : List Int) (d : Int) : nm (ds ++ [d]) ds.length = d := by unfold nm; simp [List.getD]
/-- Whether a dash, or a gap, may be so long. -/
def okN (d : Int) : Prop := 65536 ≤ d ∧ d ≤ 67108864
instance (d : Int) : Decidable (okN d) := by unfold okN; infer_instance
def okA (ds : List Int) : Prop := ∀ i, i < ds.length → okN (nm ds i)
instance (ds : List Int) : Decidable (okA ds) := by unfold okA; infer_instance
/-- Right. -/
def okD (ds : List Int) : Bool := decide (ds.length ≤ 8 ∧ okA ds)
theorem okD_many {ds : List Int} (h : 8 < ds.length) : okD ds = false := by unfold okD; rw [decide_eq_false]; omega
theorem okD_bad {ds : List Int} {i : Nat} (hi : i < ds.length) (h : ¬ okN (nm ds i)) : okD ds = false := by
  unfold okD
  rw [decide_eq_false]
  exact fun e => h (e.2 i hi)
theorem okD_yes {ds : List Int} (h8 : ds.length ≤ 8) (h : ∀ i, i < ds.length → okN (nm ds i)) : okD ds = true := by
  unfold okD
  rw [decide_eq_true]
  exact ⟨h8, h⟩
theorem okD_all {ds : List Int} (h : ∀ i, i < ds.length → okN (nm ds i)) : okD ds = decide ((ds.length : Int) ≤ 8) := by
  by_cases h8 : ds.length ≤ 8
  · rw [okD_yes h8 h, decide_eq_true]; omega
  · rw [okD_many (by omega), decide_eq_false]; omega
theorem okD_few {ds : List Int} (h : okD ds = true) : ds.length ≤ 8 ∧ okA ds := by
  unfold okD at h
  simpa using h

/-- Number i, gone through round and round. -/
def tn (ds : List Int) (i : Nat) : Int := nm ds (i % ds.length)
/-- Where dash or gap k begins. -/
def mk (ds : List Int) : Nat → Int
  | 0 => 0
  | k + 1 => mk ds k + tn ds k
theorem mk_zero (ds : List Int) : mk ds 0 = 0 := rfl
theorem mk_step (ds : List Int) (k : Nat) : mk ds (k + 1) = mk ds k + tn ds k := rfl
theorem tn_in {ds : List Int} (h : okD ds = true) (h0 : 0 < ds.length) (i : Nat) : 65536 ≤ tn ds i ∧ tn ds i ≤ 67108864 := (okD_few h).2 _ (Nat.mod_lt _ h0)
theorem mk_in {ds : List Int} (h : okD ds = true) (h0 : 0 < ds.length) : ∀ k : Nat, 0 ≤ mk ds k ∧ mk ds k ≤ k * 67108864
  | 0 => by simp [mk]
  | k + 1 => by
    have ih := mk_in h h0 k
    have t := tn_in h h0 k
    rw [mk_step]
    omega
theorem mk_up {ds : List Int} (h : okD ds = true) (h0 : 0 < ds.length) {i : Nat} : ∀ {j : Nat}, i ≤ j → mk ds i ≤ mk ds j
  | 0, hij => by
    obtain rfl : i = 0 := by omega
    exact Int.le_refl _
  | j + 1, hij => by
    by_cases e : i = j + 1
    · rw [e]; exact Int.le_refl _
    · have ih := mk_up h h0 (i := i) (j := j) (by omega)
      have t := tn_in h h0 j
      rw [mk_step]
      omega
theorem add_mk {ds : List Int} (h : okD ds = true) (h0 : 0 < ds.length) {k : Nat} (hk : k ≤ 200) : add (mk ds k) (tn ds k) = mk ds (k + 1) := by
  have a := mk_in h h0 k
  have t := tn_in h h0 k
  unfold add
  rw [hold_in (a := mk ds k) (by omega) (by omega), hold_in (a := tn ds k) (by omega) (by omega), hold_in (by omega) (by omega), mk_step]
theorem tn_mod {ds : List Int} (i : Nat) : Int.tmod (i : Int) (ds.length : Int) = ((i % ds.length : Nat) : Int) := by
  rw [Int.tmod_eq_emod_of_nonneg (by omega)]
  simp
/-- Dash n. -/
def dashP (c : Bool) (ps : List Pt) (ds : List Int) (n : Nat) : List Pt := cutL c ps (mk ds (2 * n)) (mk ds (2 * n + 1))
theorem dashP_length (c : Bool) (ps : List Pt) (ds : List Int) (n : Nat) : (dashP c ps ds n).length ≤ ps.length + 1 := cutL_length _ _ _ _
/-- The first n dashes. -/
def dashN (c : Bool) (ps : List Pt) (ds : List Int) : Nat → List (Bool × List Pt)
  | 0 => []
  | n + 1 => if mk ds (2 * n) < lengthL c ps ∧ 2 ≤ (dashP c ps ds n).length then dashN c ps ds n ++ [(false, dashP c ps ds n)] else dashN c ps ds n
theorem dashN_zero (c : Bool) (ps : List Pt) (ds : List Int) : dashN c ps ds 0 = [] := rfl
theorem dashN_yes {c : Bool} {ps : List Pt} {ds : List Int} {n : Nat} (h : mk ds (2 * n) < lengthL c ps) (h2 : 2 ≤ (dashP c ps ds n).length) : dashN c ps ds (n + 1) = dashN c ps ds n ++ [(false, dashP c ps ds n)] := if_pos ⟨h, h2⟩
theorem dashN_no {c : Bool} {ps : List Pt} {ds : List Int} {n : Nat} (h2 : ¬ 2 ≤ (dashP c ps ds n).length) : dashN c ps ds (n + 1) = dashN c ps ds n := if_neg fun h => h2 h.2
theorem dashN_off {c : Bool} {ps : List Pt} {ds : List Int} {n : Nat} (h : ¬ mk ds (2 * n) < lengthL c ps) : dashN c ps ds (n + 1) = dashN c ps ds n := if_neg fun e => h e.1
theorem dashN_length (c : Bool) (ps : List Pt) (ds : List Int) : ∀ n, (dashN c ps ds n).length ≤ n
  | 0 => by simp [dashN]
  | n + 1 => by
    have ih := dashN_length c ps ds n
    rw [dashN]
    split
    · simp; omega
    · omega
/-- From the first dash on that would begin at the line's end or behind it nothing comes. -/
theorem dashN_end {c : Bool} {ps : List Pt} {ds : List Int} (h : okD ds = true) (h0 : 0 < ds.length) {n : Nat} (hn : lengthL c ps ≤ mk ds (2 * n)) : ∀ {m : Nat}, n ≤ m → dashN c ps ds m = dashN c ps ds n
  | 0, hm => by
    obtain rfl : n = 0 := by omega
    rfl
  | m + 1, hm => by
    by_cases e : n = m + 1
    · rw [e]
    · have ih := dashN_end h h0 hn (m := m) (by omega)
      have u := mk_up h h0 (i := 2 * n) (j := 2 * m) (by omega)
      rw [dashN_off (by omega), ih]
/-- Of. -/
def dashL (c : Bool) (ps : List Pt) (ds : List Int) : List (Bool × List Pt) := if ds.length = 0 ∨ okD ds = false then [(c, ps)] else dashN c ps ds 64
theorem dashL_none {c : Bool} {ps : List Pt} {ds : List Int} (h : ds.length = 0) : dashL c ps ds = [(c, ps)] := if_pos (Or.inl h)
theorem dashL_bad {c : Bool} {ps : List Pt} {ds : List Int} (h : okD ds = false) : dashL c ps ds = [(c, ps)] := if_pos (Or.inr h)
theorem dashL_some {c : Bool} {ps : List Pt} {ds : List Int} (h0 : 0 < ds.length) (h : okD ds = true) : dashL c ps ds = dashN c ps ds 64 := if_neg fun e => by rcases e with e | e; omega; rw [h] at e; cases e
theorem dashL_length (c : Bool) (ps : List Pt) (ds : List Int) : (dashL c ps ds).length ≤ 64 := by
  unfold dashL
  split
  · simp
  · exact dashN_length _ _ _ _

end M
end Go.Proofs.Ytgnmiilmmbblmaa

namespace Go.Proofs.Ytgnmiilmmbblmaa
open Go Go.RowKit
open M

/-- The slice's value v holds just these numbers. -/
def Isl (w : World) (v : Value) (ds : List Int) : Prop := ∃ ao cap, v = .slice ao ds.length cap ∧ ds.length ≤ 1000 ∧ (0 < ds.length → ∃ g o, ao = some ⟨g, o, none⟩ ∧ ∀ i, i < ds.length → w.cell? ⟨g, o + i, none⟩ = some (.int .i64 (nm ds i)))
theorem Isl.few {w : World} {v : Value} {ds : List Int} (h : Isl w v ds) : ds.length ≤ 1000 := by
  obtain ⟨_, _, _, h, _⟩ := h
  exact h
theorem Isl.slice {w : World} {v : Value} {ds : List Int} (h : Isl w v ds) : ∃ ao cap, v = .slice ao ds.length cap := by
  obtain ⟨ao, cap, h, _⟩ := h
  exact ⟨ao, cap, h⟩
theorem Isl.blocks {w w' : World} {v : Value} {ds : List Int} (h : Isl w v ds) (hb : ∀ k, k < w.heap.size → v.ownBlock = some k → w'.heap[k]? = w.heap[k]?) : Isl w' v ds := by
  obtain ⟨ao, cap, rfl, hf, hr⟩ := h
  refine ⟨ao, cap, rfl, hf, fun h0 => ?_⟩
  obtain ⟨g, o, rfl, hr'⟩ := hr h0
  exact ⟨g, o, rfl, fun i hi => (World.cell?_of_block (a := ⟨g, _, _⟩) (hb g (World.block_lt_of_cell? w _ (hr' 0 h0)) rfl)).trans (hr' i hi)⟩
theorem Isl.below {w w' : World} {v : Value} {ds : List Int} (h : Isl w v ds) (hb : Below w.heap.size w w') : Isl w' v ds := h.blocks fun k hk _ => hb.block k hk
theorem Isl.alloc {w : World} {v : Value} {ds : List Int} (h : Isl w v ds) (o : Obj) : Isl (w.alloc o) v ds := h.blocks fun k hk _ => (MapKept.heap_alloc w o).2 k hk
theorem Isl.at {w : World} {ao : Option Addr} {N cap : Nat} {ds : List Int} (h : Isl w (.slice ao N cap) ds) (h0 : 0 < N) : ds.length = N ∧ ∃ g o, ao = some ⟨g, o, none⟩ ∧ ∀ i, i < N → w.cell? ⟨g, o + i, none⟩ = some (.int .i64 (nm ds i)) := by
  obtain ⟨ao', cap', e, hf, hr⟩ := h
  simp only [Value.slice.injEq] at e
  obtain ⟨rfl, rfl, rfl⟩ := e
  exact ⟨rfl, hr h0⟩
theorem isl_nil (w : World) (ao : Option Addr) (cap : Nat) : Isl w (.slice ao 0 cap) [] := ⟨ao, cap, rfl, by simp, fun h => by simp at h⟩
theorem isl_lit {w : World} {g n c : Nat} {ds : List Int} {cs : Array Value} {t : TypeId} (hn : ds.length = n) (hf : n ≤ 1000) (h : Has w g cs t) (hc : cs.toList = ds.map (Value.int .i64)) : Isl w (.slice (some ⟨g, 0, none⟩) n c) ds := by
  subst hn
  refine ⟨_, c, rfl, hf, fun _ => ⟨g, 0, rfl, fun i hi => ?_⟩⟩
  rw [Nat.zero_add]
  refine h.cell i _ ?_
  have : cs.toList[i]? = some (.int .i64 (nm ds i)) := by rw [hc]; simp [nm, List.getD, hi]
  simpa using this

theorem d_right {v : Value} {ds : List Int} {w : World} (h : Isl w v ds) : Calls Try.prog 17 #[v] w fun e w' => e = .returned (.bool (okD ds)) ∧ w = w' := by
  have hf := h.few
  obtain ⟨ao, cap, rfl⟩ := h.slice
  by_cases h8 : 8 < ds.length
  · rw [okD_many h8]
    have o1 : (8 : Int) < ds.length := by omega
    clear h
    go_enter Try.func17, Try.ntmps17
    go_wp2
    go_ret
    exact ⟨rfl, rfl⟩
  · have o1 : ¬ (8 : Int) < ds.length := by omega
    obtain ⟨N, hN⟩ : ∃ N, ds.length = N := ⟨_, rfl⟩
    have HN := Lib.hid hN
    rw [hN] at h hf h8 o1 ⊢
    have HS := Lib.hid h
    clear h hN
    go_enter Try.func17, Try.ntmps17
    go_wp2
    go_loop [10] (fun i => ∃ n : Nat, n ≤ N ∧ i = .int .i64 n ∧ ∀ j, j < n → okN (nm ds j)) (fun i => N - (intOf i).toNat)
    case atStart => exact ⟨0, by omega, rfl, fun j hj => by omega⟩
    case round =>
      obtain ⟨n, hn, rfl, ha⟩ := hrel
      have HA := Lib.hid ha
      clear ha
      by_cases hlt : n < N
      · obtain ⟨_, g, o, e1, hc⟩ := HS.out.at (by omega)
        subst e1
        have c0 := hc n hlt
        have o3 : (n : Int) < N := by omega
        have o4 : n < N := hlt
        obtain ⟨d, hd⟩ : ∃ d, nm ds n = d := ⟨_, rfl⟩
        rw [hd] at c0
        have HD := Lib.hid hd
        clear hd hc
        by_cases h1 : d < 65536
        · have E : Hid (okD ds = false) := Lib.hid (okD_bad (i := n) (by rw [HN.out]; exact hlt) (by rw [HD.out]; intro e; have := e.1; omega))
          go_wp2
          go_ret
          exact ⟨by rw [E.out]; rfl, rfl⟩
        · by_cases h2 : 67108864 < d
          · have E : Hid (okD ds = false) := Lib.hid (okD_bad (i := n) (by rw [HN.out]; exact hlt) (by rw [HD.out]; intro e; have := e.2; omega))
            go_wp2
            go_ret
            exact ⟨by rw [E.out]; rfl, rfl⟩
          · have E : Hid (okN d) := Lib.hid ⟨by omega, by omega⟩
            go_wp2
            go_round
            case rel => exact ⟨n + 1, by omega, by go_num, fun j hj => by
              by_cases e : j = n
              · rw [e, HD.out]; exact E.out
              · exact HA.out j (by omega)⟩
            case measure => simp [intOf]; omega
      · obtain rfl : n = N := by omega
        have E : Hid (okD ds = true) := Lib.hid (okD_yes (by rw [HN.out]; omega) (fun i hi => HA.out i (by rw [HN.out] at hi; exact hi)))
        have o3 : ¬ (n : Int) < n := by omega
        go_wp2
        go_ret
        exact ⟨by rw [E.out]; rfl, rfl⟩

theorem r9_dashes {v : Value} {ds : List Int} {w : World} (h : Isl w v ds) : Calls Try.prog 18 #[v] w fun e w' => e = .returned (.bool (okD ds)) ∧ w = w' := by
  have hf := h.few
  obtain ⟨ao, cap, rfl⟩ := h.slice
  obtain ⟨N, hN⟩ : ∃ N, ds.length = N := ⟨_, rfl⟩
  have HN := Lib.hid hN
  rw [hN] at h hf ⊢
  have HS := Lib.hid h
  clear h hN
  go_enter Try.func18, Try.ntmps18
  go_wp2
  go_loop [3] (fun i => ∃ n : Nat, n ≤ N ∧ i = .int .i64 n ∧ ∀ j, j < n → okN (nm ds j)) (fun i => N - (intOf i).toNat)
  case atStart => exact ⟨0, by omega, rfl, fun j hj => by omega⟩
  case round =>
    obtain ⟨n, hn, rfl, ha⟩ := hrel
    have HA := Lib.hid ha
    clear ha
    by_cases hlt : n < N
    · obtain ⟨_, g, o, e1, hc⟩ := HS.out.at (by omega)
      subst e1
      have c0 := hc n hlt
      have o3 : (n : Int) < N := by omega
      have o4 : n < N := hlt
      obtain ⟨d, hd⟩ : ∃ d, nm ds n = d := ⟨_, rfl⟩
      rw [hd] at c0
      have HD := Lib.hid hd
      clear hd hc
      by_cases h1 : d < 65536
      · have E : Hid (okD ds = false) := Lib.hid (okD_bad (i := n) (by rw [HN.out]; exact hlt) (by rw [HD.out]; intro e; have := e.1; omega))
        go_wp2
        go_ret
        exact ⟨by rw [E.out]; rfl, rfl⟩
      · by_cases h2 : 67108864 < d
        · have E : Hid (okD ds = false) := Lib.hid (okD_bad (i := n) (by rw [HN.out]; exact hlt) (by rw [HD.out]; intro e; have := e.2; omega))
          go_wp2
          go_ret
          exact ⟨by rw [E.out]; rfl, rfl⟩
        · have E : Hid (okN d) := Lib.hid ⟨by omega, by omega⟩
          go_wp2
          go_round
          case rel => exact ⟨n + 1, by omega, by go_num, fun j hj => by
            by_cases e : j = n
            · rw [e, HD.out]; exact E.out
            · exact HA.out j (by omega)⟩
          case measure => simp [intOf]; omega
    · obtain rfl : n = N := by omega
      have E : Hid (okD ds = decide ((n : Int) ≤ 8)) := Lib.hid (by rw [okD_all (fun i hi => HA.out i (by rw [HN.out] at hi; exact hi)), HN.out])
      have o3 : ¬ (n : Int) < n := by omega
      by_cases h8 : (n : Int) ≤ 8
      · go_wp2
        go_ret
        exact ⟨by rw [E.out]; simp [h8], rfl⟩
      · go_wp2
        go_ret
        exact ⟨by rw [E.out]; simp [h8], rfl⟩

theorem d_turn {v : Value} {ds : List Int} {w : World} (h : Isl w v ds) (h0 : 0 < ds.length) (i : Nat) (hi : i ≤ 200) : Calls Try.prog 23 #[v, .int .i64 (i : Int)] w fun e w' => e = .returned (.int .i64 (tn ds i)) ∧ w = w' := by
  have hf := h.few
  obtain ⟨ao, cap, rfl⟩ := h.slice
  have tm := tn_mod (ds := ds) i
  have lt := Nat.mod_lt i h0
  unfold tn
  obtain ⟨k, hk⟩ : ∃ k, i % ds.length = k := ⟨_, rfl⟩
  rw [hk] at tm lt ⊢
  obtain ⟨N, hN⟩ : ∃ N, ds.length = N := ⟨_, rfl⟩
  rw [hN] at h hf lt tm h0 ⊢
  obtain ⟨_, g, o, rfl, hc⟩ := h.at h0
  have c0 := hc k lt
  have o1 : (k : Int) < N := by omega
  have o2 : ¬ (N : Int) = 0 := by omega
  have tm' : (i : Int) % (N : Int) = k := by rw [← tm, Int.tmod_eq_emod_of_nonneg (by omega)]
  clear h hc hN hk
  go_enter Try.func23, Try.ntmps23
  go_wp2
  go_ret
  exact ⟨rfl, rfl⟩


end Go.Proofs.Ytgnmiilmmbblmaa

namespace Go.Proofs.Ytgnmiilmmbblmaa
open Go Go.RowKit

section
variable {P : Program}
theorem run_append_noth (w : World) (t ty e : TypeId) (i : TypeInfo) (ht : P.underlying t = some (.slice e)) (hi : P.info? e = some i) (base : Option Addr) (sLen sCap : Nat) (hle : sLen ≤ sCap) (ao : Option Addr) (cap : Nat) :
    (Builtin.append_ #[t, t] ty #[.slice base sLen sCap, .slice ao 0 cap]).run P w = .ok (.slice base sLen sCap) w := by
  have hlo : ∀ (x : Addr), (loadCells x 0).run P w = .ok #[] w := fun x => by simpa using run_loadCells_list (P := P) w x [] (by simp)
  cases ao <;> cases base <;> simp [Builtin.append_, run_underlying ht, sizeOf, typeInfo, hi, Builtin.lenOf, Builtin.firstCells, hle, hlo, storeCells]
theorem wp_append_noth {w : World} {o : Oper} {a : Act} {K : Act → World → Prop} {Q : Exit → Act → World → Prop} (s x : Operand) (t : TypeId)
    (ho : o.op = .call { callee := .builtin .append, args := #[s, x], argTypes := #[t, t] }) (e : TypeId) (i : TypeInfo) (ht : P.underlying t = some (.slice e)) (hi : P.info? e = some i) (base : Option Addr) (sLen sCap : Nat) (hle : sLen ≤ sCap) (hs : a.eval s = .slice base sLen sCap)
    (ao : Option Addr) (cap : Nat) (hx : a.eval x = .slice ao 0 cap) (h : K (a.put o.dst (.slice base sLen sCap)) w) : o.wp P a w K Q := by
  have hrun := run_append_noth (P := P) w t o.type e i ht hi base sLen sCap hle ao cap
  unfold Oper.wp
  simp [execOp, ho, resolve, invoke, builtin, hs, hx, hrun, Result.andThen]
  exact h
theorem wpList_append_noth {w : World} {ops : Array Oper} {rest : List Oper} {o : Oper} {a : Act} {Q : Exit → Act → World → Prop} (hgd : o.guard = none) (s x : Operand) (t : TypeId)
    (ho : o.op = .call { callee := .builtin .append, args := #[s, x], argTypes := #[t, t] }) (e : TypeId) (i : TypeInfo) (ht : P.underlying t = some (.slice e)) (hi : P.info? e = some i) (base : Option Addr) (sLen sCap : Nat) (hle : sLen ≤ sCap) (hs : a.eval s = .slice base sLen sCap)
    (ao : Option Addr) (cap : Nat) (hx : a.eval x = .slice ao 0 cap) (h : wpList P ops Q rest (a.put o.dst (.slice base sLen sCap)) w) : wpList P ops Q (o :: rest) a w :=
  wpList_plain hgd fun _ hK => wp_append_noth s x t ho e i ht hi base sLen sCap hle hs ao cap hx (hK _ _ h)
end

end Go.Proofs.Ytgnmiilmmbblmaa

namespace Go.Proofs.Ytgnmiilmmbblmaa
open Go Go.RowKit
open M

/-- A list of just these polys is returned. -/
def GivesL (w : World) (L : List (Bool × List Pt)) (e : Ending) (w' : World) : Prop := ∃ v zs, e = .returned v ∧ Ysl w' v zs ∧ zs.map bareY = L ∧ Below w.heap.size w w'
theorem Ysl.slice {w : World} {v : Value} {ys : List Po} (h : Ysl w v ys) : ∃ ao cap, v = .slice ao ys.length cap := by
  obtain ⟨ao, cap, e, _⟩ := h
  exact ⟨ao, cap, e⟩
theorem GivesL.on {w w1 w2 : World} {L : List (Bool × List Pt)} {e : Ending} (h : GivesL w1 L e w2) (hb : Below w.heap.size w w1) : GivesL w L e w2 := by
  obtain ⟨v, zs, he, hy, hz, hq⟩ := h
  exact ⟨v, zs, he, hy, hz, hb.trans (hq.mono hb.size)⟩
/-- The value v is a list of just these polys. -/
def LR (L : List (Bool × List Pt)) (v : Value) (w : World) : Prop := ∃ zs, Ysl w v zs ∧ zs.map bareY = L
theorem LR.stay {L : List (Bool × List Pt)} {v : Value} {w w' : World} (h : LR L v w) (hb : Below w.heap.size w w') : LR L v w' := by
  obtain ⟨zs, hy, hz⟩ := h
  exact ⟨zs, hy.below hb, hz⟩
theorem bares_of {zs : List Po} {N : Nat} {f : Nat → Bool × List Pt} (hl : zs.length = N) (h : ∀ j, j < N → bareY (po zs j) = f j) : zs.map bareY = (List.range N).map f := by
  apply List.ext_getElem?
  intro i
  by_cases hi : i < N
  · have := h i hi
    unfold po at this
    rw [List.getD_eq_getElem?_getD, List.getElem?_eq_getElem (by omega)] at this
    simp [hi, hl]
    simpa using this
  · rw [List.getElem?_eq_none (by simp; omega), List.getElem?_eq_none (by simp; omega)]
theorem grownBy_drew {a b : World} {r : Option Nat} (h : a.grownBy b r) : a.grownBy b.drew r := ⟨h.os, h.tape, h.output, h.size, h.block⟩
theorem Yfill.copied {w1 wr V : World} {gs N n : Nat} {f : Nat → Bool × List Pt} {zs : List Po} (h : Yfill w1 gs N f n zs wr) (hn : n < N) {c : Bool} {v : Value} {ps : List Pt} (hf : f n = (c, ps)) (hv : Psl V v ps) (hne : v.ownBlock ≠ some gs)
    (hk : ∀ k, k < wr.heap.size → k ≠ gs → V.heap[k]? = wr.heap[k]?) (hh : Has V gs (((yls zs).set (n * 2) (.bool c)).set (n * 2 + 1) v).toArray 24) (hb : Below w1.heap.size w1 V) : Yfill w1 gs N f (n + 1) (zs.set n ⟨c, v, ps⟩) V := by
  refine ⟨by rw [List.length_set]; exact h.len, ?_, fun j hj => ?_, hb, h.lo⟩
  · rw [yls_set (by rw [h.len]; exact hn)]
    exact hh
  · by_cases e : n = j
    · subst e
      rw [po_set_eq (by rw [h.len]; exact hn)]
      exact ⟨hf.symm, hv, hne⟩
    · rw [po_set_ne e]
      obtain ⟨a, b, c'⟩ := h.told j (by omega)
      exact ⟨a, b.blocks (fun k hkk e => hk k hkk (fun e2 => c' (by rw [e, e2]))), c'⟩

theorem gives_append {P : Program} {o : Oper} {e : Act} {w : World} {K : Value → World → Prop} (s x : Operand) (t : TypeId) (ho : o.op = .call { callee := .builtin .append, args := #[s, x], argTypes := #[t, t] })
    {v u : Value} (hs : e.eval s = v) (hx : e.eval x = u) {v' : Value} {w' : World} (hr : (Builtin.append_ #[t, t] o.type #[v, u]).run P w = .ok v' w') (h : K v' w') : gives P o e w K := by
  unfold gives execOp
  simp only [ho, resolve, invoke, builtin, Sem.run_bind, Sem.run_pure, Result.andThen_ok, List.map_toArray, List.map_cons, List.map_nil, hs, hx, hr]
  exact h
/-- A list of no places, in a block of the call's own, still bare where c says so. -/
def NoP (base : Nat) (c : Prop) (v : Value) (w : World) : Prop := ∃ g, v = .slice (some ⟨g, 0, none⟩) 0 0 ∧ base ≤ g ∧ g < w.heap.size ∧ (c → Has w g #[] 31)
theorem NoP.stay {base : Nat} {c : Prop} {v : Value} {w w' : World} (h : NoP base c v w) (hb : Below w.heap.size w w') : NoP base c v w' := by
  obtain ⟨g, e, l, s, k⟩ := h
  exact ⟨g, e, l, Nat.lt_of_lt_of_le s hb.size, fun hc => (k hc).below hb (k hc).lt⟩
/-- All places of a list appended to a list of none: what lies where. -/
theorem append_all {w : World} {B g : Nat} {ps : List Pt} {ao : Option Addr} {M cap : Nat} (hk : Has w g #[] 31) (hg : B ≤ g) (hs : Psl w (.slice ao M cap) ps) (hM : ps.length = M) (ty : TypeId) :
    ∃ v' w', (Builtin.append_ #[22, 22] ty #[.slice (some ⟨g, 0, none⟩) 0 0, .slice ao M cap]).run Try.prog w = .ok v' w' ∧ Pown w' B v' ps ∧ w.grownBy w' (some g) := by
  obtain ⟨i0, hi, hz0, hz1, hz2⟩ := info_parts Try.infoPt
  have hlt := hk.lt
  have ho : Pown w B (.slice (some ⟨g, 0, none⟩) 0 0) [] := ⟨rfl, Or.inr ⟨g, 0, #[], rfl, hg, hk, by simp, by simp, by simp, by simp [pls]⟩⟩
  have hf := hs.few
  by_cases h0 : M = 0
  · subst h0
    obtain rfl : ps = [] := List.eq_nil_of_length_eq_zero hM
    exact ⟨_, w, run_append_noth w _ ty _ i0 Try.underlying22 hi _ 0 0 (Nat.le_refl _) ao cap, ho, World.grownBy.refl _ _⟩
  · obtain ⟨ao', cap', hv, _, hrow⟩ := hs
    obtain ⟨gs, o, rfl, row⟩ := hrow (by omega)
    simp only [Value.slice.injEq] at hv
    obtain ⟨rfl, _, _⟩ := hv
    obtain ⟨g', cap2, w', hr, h2, h3, _, _⟩ := run_append_lies (P := Try.prog) w 22 ty B 31 i0 _ 2 16 Try.underlying22 hi hz0 hz1 hz2 rfl (by decide) (.slice (some ⟨g, 0, none⟩) 0 0) 0 [] ho ⟨gs, o, none⟩ M cap (pls ps) (by rw [pls_length, hM]) (fun j u hu => by rw [Addr.add_lit]; exact row.at j u hu) (ones_pls ps) (by omega) (by unfold maxLen; omega) (by omega) (by omega) _ rfl
    refine ⟨_, w', hr, ?_, h3⟩
    unfold Pown
    rw [hM]
    simpa using h2

set_option maxRecDepth 100000 in
set_option maxHeartbeats 2000000 in
theorem r9_copied (c : Bool) {v : Value} {ps : List Pt} {w : World} (h : Psl w v ps) :
    Calls Try.prog 33 #[.agg #[.bool c, v]] w (Gives w c ps) := by
  obtain ⟨B, hB⟩ : ∃ B, w.heap.size = B := ⟨_, rfl⟩
  obtain ⟨W, hW⟩ : ∃ W, (w.alloc (.cells #[.bool c, v] 24)).alloc (.cells #[.bool false, .slice none 0 0] 24) = W := ⟨_, rfl⟩
  have ha : Has W B #[.bool c, v] 24 := by rw [← hW]; exact (has_new hB).alloc _
  have hr : Has W (B + 1) #[.bool false, .slice none 0 0] 24 := by rw [← hW]; exact has_new (by simp [hB])
  have hbl : Below w.heap.size w W := by rw [← hW]; exact ((Below.refl _ _).alloc (Nat.le_refl _) _).alloc (by simp) _
  have hs := h.below hbl (Nat.le_refl _)
  obtain ⟨M, hM⟩ : ∃ M, ps.length = M := ⟨_, rfl⟩
  have hlen := h.few
  rw [hM] at hlen
  obtain ⟨ao, cap, ev⟩ : ∃ ao cap, v = .slice ao M cap := by obtain ⟨ao, cap, e, _⟩ := h; rw [hM] at e; exact ⟨_, _, e⟩
  subst ev
  have HA := Lib.hid ha
  have HR := Lib.hid hr
  have HBL := Lib.hid hbl
  have HW := Lib.hid hW
  have HB := Lib.hid hB
  have HS := Lib.hid hs
  have HM := Lib.hid hM
  clear ha hr hbl hs hW hM h
  go_enter Try.func33, Try.ntmps33
  go_upto_region 1 with fail
  rw [HW.out]
  clear hB
  refine wp_region_gen 6 [2, 5] [] [0, 0, 1, 0, 0, 1] (by kernel_rfl) (by kernel_rfl) (fun c a d v w h => by cases d <;> exact h) trivial (fun G w' => (∀ v, G 2 = some v → NoP W.heap.size (G 5 = none) v w') ∧ (∀ v, G 5 = some v → Pown w' W.heap.size v ps)) (fun G w w' h hb => ⟨fun v hv => (h.1 v hv).stay hb, fun v hv => (h.2 v hv).below hb (Nat.le_refl _)⟩) ⟨fun v hv => (by cases hv), fun v hv => (by cases hv)⟩ ?_
  apply Exists.intro
  refine ⟨fun R hR hN => ?_, ?_, ?_⟩
  · have A0 := fun z => LaterR.read (R := R) HA.out 0 _ rfl z
    have A1 := fun z => LaterR.read (R := R) HA.out 1 _ rfl z
    simp only [quietL, takeA]
    repeat (go_big_quiet_step (fail))
    exact wpQuiet_nil rfl
  · intro i oo hi ho
    have hi' : i = 2 ∨ i = 5 := by simpa using hi
    clear hi
    rcases hi' with rfl | rfl
    · cases ho
      intro G w' hG hGn hdep hb hR
      refine ⟨rfl, gives_none (by kernel_rfl) hGn ?_⟩
      unfold gives
      simp [go_sem]
      refine ⟨hb.alloc hb.size _, fun v hv => ?_, fun v hv => ?_⟩
      · rw [updV_eq] at hv; cases hv; exact ⟨_, rfl, hb.size, by simp, fun _ => has_new0⟩
      · rw [updV_ne G _ (by omega)] at hv; exact (hR.2 v hv).alloc _
    · cases ho
      intro G w' hG hGn hdep hb hR
      obtain ⟨v2, hv2⟩ := Option.ne_none_iff_exists'.1 (hdep 2 (by simp) (by kernel_rfl))
      obtain ⟨g, rfl, hg, hlt, hk⟩ := hR.1 v2 hv2
      refine ⟨rfl, gives_one (k := 2) (by kernel_rfl) hGn (by omega) hv2 ?_⟩
      obtain ⟨v', w'', hr, ho, hgr⟩ := append_all (hk hG) hg (HS.out.below hb (Nat.le_refl _)) HM.out 22
      refine gives_append (.tmp 5) (.tmp 7) 22 rfl rfl rfl hr ?_
      refine ⟨hb.grown hgr hb.size (fun k hk => by simp at hk; omega), fun v hv => ?_, fun v hv => ?_⟩
      · rw [updV_ne G _ (by omega)] at hv
        rw [hv2] at hv
        cases hv
        exact ⟨g, rfl, hg, Nat.lt_of_lt_of_le hlt hgr.size, fun e => by rw [updV_eq] at e; cases e⟩
      · rw [updV_eq] at hv; cases hv; exact ho
  · intro G w1 hb hR hG hN
    obtain ⟨v2, e2⟩ := hG 2 (by simp)
    obtain ⟨v5, e5⟩ := hG 5 (by simp)
    have ho := hR.2 v5 e5
    obtain ⟨al, cl, el⟩ := ho.len
    rw [HM.out] at el
    subst el
    simp only [putV, dstAt, e2, e5, hN 0 (by simp), hN 1 (by simp), hN 3 (by simp), hN 4 (by simp), List.drop_succ_cons, List.drop_zero, List.getElem?_cons_succ, List.getElem?_cons_zero, Option.bind_some]
    have kr := HR.out.below hb HR.out.lt
    have c0 := kr.cell 0 _ rfl
    have c1 := kr.cell 1 _ rfl
    have f0 := has_fro kr
    have G1 := Lib.hid (gives_put (w := w) (c := c) (r := B + 1) HB.out (ho.lower (by have := HBL.out.size; have := HB.out; omega)) (fun e => by have := (ho.base _ e).1; have := HR.out.lt; omega) (by omega) (HB.out ▸ HBL.out.trans (hb.mono HBL.out.size)) rfl (.bool c) _ rfl)
    have kz := has_set (has_set kr 0 (.bool c)) 1 (.slice al M cl)
    have u0 := kz.cell 0 _ rfl
    have u1 := kz.cell 1 _ rfl
    clear hR hG hN e2 e5 hb kr kz ho
    go_wp2
    refine bodyPost_ret (v := .agg #[.bool c, .slice al M cl]) (by simp [results, Try.results33, go_sem, u0, u1]) rfl ?_
    exact G1.out

end Go.Proofs.Ytgnmiilmmbblmaa

namespace Go.Proofs.Ytgnmiilmmbblmaa
open Go Go.RowKit
open M

/-- A poly is begun: its list of N zero places in block gs, the poly itself in block go. -/
structure OutZ (W : World) (B : Nat) (c : Bool) (N gs go : Nat) (V : World) : Prop where
  own : Pown V B (.slice (some ⟨gs, 0, none⟩) N N) (List.replicate N default)
  out : Has V go #[.bool c, .slice (some ⟨gs, 0, none⟩) N N] 24
  lg : W.heap.size ≤ gs
  lo : W.heap.size ≤ go
  ne : gs ≠ go
  below : Below W.heap.size W V
theorem outz_a {W : World} {B N : Nat} {c : Bool} (hB : B ≤ W.heap.size) (hN : N ≤ 8796093022208) : ∃ gs go V, ((W.alloc (.cells (zer N) 31)).alloc (.cells #[.bool c, .slice (some ⟨W.heap.size, 0, none⟩) N N] 24)).drew = V ∧ W.heap.size + 1 = go ∧ W.heap.size = gs ∧ OutZ W B c N gs go V :=
  ⟨_, _, _, rfl, rfl, rfl, (((own_made hN hB rfl).alloc _).drew), (has_new (by simp)).drew, Nat.le_refl _, by omega, by omega, below_drew (((Below.refl _ _).alloc (Nat.le_refl _) _).alloc (by simp) _)⟩
theorem outz_b {W : World} {B N : Nat} {c : Bool} (hB : B ≤ W.heap.size) (hN : N ≤ 8796093022208) : ∃ gs go V, ((W.alloc (.cells #[.bool c, .slice (some ⟨W.heap.size + 1, 0, none⟩) N N] 24)).alloc (.cells (zer N) 31)).drew = V ∧ W.heap.size + 1 = gs ∧ W.heap.size = go ∧ OutZ W B c N gs go V :=
  ⟨_, _, _, rfl, rfl, rfl, (own_made hN (by simp; omega) (by simp)).drew, ((has_new rfl).alloc _).drew, by omega, Nat.le_refl _, by omega, below_drew (((Below.refl _ _).alloc (Nat.le_refl _) _).alloc (by simp) _)⟩

set_option maxHeartbeats 1000000 in
theorem d_alone {v : Value} {ps : List Pt} {w : World} (c : Bool) (h : Psl w v ps) : Calls Try.prog 20 #[.agg #[.bool c, v]] w (GivesL w [(c, ps)]) := by
  have hs := h
  obtain ⟨ao, cap, rfl, hf, _⟩ := h
  obtain ⟨N, hN⟩ : ∃ N, ps.length = N := ⟨_, rfl⟩
  rw [hN] at hf hs ⊢
  have mk := make_pts (n := N) (by omega)
  obtain ⟨B, hB⟩ : ∃ B, w.heap.size = B := ⟨_, rfl⟩
  obtain ⟨W, hW⟩ : ∃ W, w.alloc (.cells #[.bool c, .slice ao N cap] 24) = W := ⟨_, rfl⟩
  have h0 : Has W B #[.bool c, .slice ao N cap] 24 := by rw [← hW]; exact has_new hB
  have hsz : W.heap.size = B + 1 := by rw [← hW]; simp [hB]
  have hbl : Below B w W := by rw [← hW]; exact (Below.refl _ _).alloc (by omega) _
  have hs' : Psl W (.slice ao N cap) ps := hs.below hbl (by omega)
  have a0 := h0.cell 0 _ rfl
  have a1 := h0.cell 1 _ rfl
  have a2 := fun o => (h0.alloc o).cell 0 _ rfl
  have a3 := fun o => (h0.alloc o).cell 1 _ rfl
  have a4 := fun o o' => ((h0.alloc o).alloc o').cell 0 _ rfl
  have a5 := fun o o' => ((h0.alloc o).alloc o').cell 1 _ rfl
  have HN := Lib.hid hN
  have HB := Lib.hid hB
  have HW := Lib.hid hW
  have H0 := Lib.hid h0
  have HBL := Lib.hid hbl
  have HS := Lib.hid hs'
  have HSZ := Lib.hid hsz
  have DON : Hid (∀ (gs go : Nat) (V : World), OutZ W B c N gs go V → ∃ V', (Builtin.copy_ #[22, 22] 3 #[.slice (some ⟨gs, 0, none⟩) N N, .slice ao N cap]).run Try.prog V = .ok (.int .i64 N) V' ∧ Has V' go #[.bool c, .slice (some ⟨gs, 0, none⟩) N N] 24 ∧ Has V B #[.bool c, .slice ao N cap] 24 ∧
      GivesL w [(c, ps)] (.returned (.slice (some ⟨V'.heap.size, 0, none⟩) 1 1)) (V'.alloc (.cells #[.bool c, .slice (some ⟨gs, 0, none⟩) N N] 24))) := Lib.hid (by
    intro gs go V D
    have l1 := D.lg
    have l2 := D.lo
    have l3 := HSZ.out
    obtain ⟨V', hcp, ho, hg⟩ := copy_pts D.own (by simp) ao cap (hs'.below D.below (Nat.le_refl _)) hN 3
    have q0 : Has V' go #[.bool c, .slice (some ⟨gs, 0, none⟩) N N] 24 := (hg.block go D.out.lt (by simpa using Ne.symm D.ne)).trans D.out
    have hb1 : Below B w V := hbl.trans (D.below.mono (by omega))
    have hb2 : Below B w V' := hb1.grown hg (by have := hb1.size; omega) (fun k hk => by simp at hk; omega)
    have hs2 : Psl V' (.slice (some ⟨gs, 0, none⟩) N N) ps := ho.sl (by rw [hN]; exact hf)
    refine ⟨V', hcp, q0, h0.below D.below h0.lt, _, [⟨c, .slice (some ⟨gs, 0, none⟩) N N, ps⟩], rfl, ysl_one (hs2.alloc _) (has_new rfl), rfl, ?_⟩
    rw [hB]
    exact hb2.alloc (by have := hb2.size; omega) _)
  clear hN hs hs' h0 hbl hW hsz
  go_enter Try.func20, Try.ntmps20
  go_wp2
  rw [HW.out]
  clear hB
  go_region
  · obtain ⟨gs, go, V, hV, hgo, hgs, D⟩ := outz_a (c := c) (B := B) (W := W) (N := N) (by have := HSZ.out; omega) hf
    rw [hV, hgo, hgs]
    obtain ⟨V', hcp, q0, k0, R⟩ := DON.out gs go V D
    have RH := Lib.hid R
    have b0 := k0.cell 0 _ rfl
    have b1 := k0.cell 1 _ rfl
    have o0 := D.out.cell 0 _ rfl
    have o1 := D.out.cell 1 _ rfl
    have p0 := q0.cell 0 _ rfl
    have p1 := q0.cell 1 _ rfl
    clear R k0 q0 D HS H0 HBL HSZ mk a0 a1 a2 a3 a4 a5 hV hgo hgs DON
    go_wp2
    go_ret
    exact RH.out
  · obtain ⟨gs, go, V, hV, hgs, hgo, D⟩ := outz_b (c := c) (B := B) (W := W) (N := N) (by have := HSZ.out; omega) hf
    rw [hV, hgs, hgo]
    obtain ⟨V', hcp, q0, k0, R⟩ := DON.out gs go V D
    have RH := Lib.hid R
    have b0 := k0.cell 0 _ rfl
    have b1 := k0.cell 1 _ rfl
    have o0 := D.out.cell 0 _ rfl
    have o1 := D.out.cell 1 _ rfl
    have p0 := q0.cell 0 _ rfl
    have p1 := q0.cell 1 _ rfl
    clear R k0 q0 D HS H0 HBL HSZ mk a0 a1 a2 a3 a4 a5 hV hgo hgs DON
    go_wp2
    go_ret
    exact RH.out

end Go.Proofs.Ytgnmiilmmbblmaa

namespace Go.Proofs.Ytgnmiilmmbblmaa
open Go Go.RowKit
open M

theorem ones_yls {ys : List Po} (h : ∀ i, i < ys.length → ∃ ao n cap, (po ys i).v = .slice ao n cap) : ∀ u ∈ yls ys, u.oneCell' = true := by
  induction ys with
  | nil => intro u hu; cases hu
  | cons y ys ih =>
    intro u hu
    rw [yls_cons] at hu
    rcases List.mem_append.1 hu with hu | hu
    · simp [yl] at hu
      obtain ⟨ao, n, cap, e⟩ := h 0 (by simp)
      rw [po_zero] at e
      rcases hu with rfl | rfl
      · rfl
      · rw [e]; rfl
    · exact ih (fun i hi => by have := h (i + 1) (by simpa using hi); rwa [po_cons] at this) u hu
/-- A list of polys of the call's own that grows. -/
structure Ygrow (w1 : World) (base : Nat) (f : Nat → Bool × List Pt) (n : Nat) (zs : List Po) (v : Value) (wr : World) : Prop where
  len : zs.length = n
  own : wr.ownsRow base 24 2 v n (yls zs)
  told : ∀ j, j < n → bareY (po zs j) = f j ∧ Psl wr (po zs j).v (po zs j).ps ∧ (∀ k, v.ownBlock = some k → (po zs j).v.ownBlock ≠ some k) ∧ (∃ ao n cap, (po zs j).v = .slice ao n cap) ∧ (∀ k, (po zs j).v.ownBlock = some k → k < wr.heap.size)
  below : Below w1.heap.size w1 wr
  lo : w1.heap.size ≤ base
theorem Ygrow.later {w1 wr w' : World} {base n : Nat} {f : Nat → Bool × List Pt} {zs : List Po} {v : Value} (h : Ygrow w1 base f n zs v wr) (hb : Below wr.heap.size wr w') : Ygrow w1 base f n zs v w' :=
  ⟨h.len, World.ownsRow.kept h.own (grownBy_below hb (Nat.le_refl _)) (by by_cases e : v.ownBlock = none; exact Or.inl e; exact Or.inr e), fun j hj => ⟨(h.told j hj).1, (h.told j hj).2.1.below hb (Nat.le_refl _), (h.told j hj).2.2.1, (h.told j hj).2.2.2.1, fun k hk => Nat.lt_of_lt_of_le ((h.told j hj).2.2.2.2 k hk) hb.size⟩, h.below.trans (hb.mono h.below.size), h.lo⟩
theorem Ygrow.sl {w1 wr : World} {base n : Nat} {f : Nat → Bool × List Pt} {zs : List Po} {v : Value} (h : Ygrow w1 base f n zs v wr) (hf : n ≤ 100) : Ysl wr v zs := by
  have hl := h.len
  rcases h.own.2 with ⟨rfl, hn⟩ | ⟨g, cap, cur, rfl, _, hg, _, _, _, ht⟩
  · exact ⟨none, 0, by rw [hl, hn], by omega, fun h0 => by omega⟩
  · refine ⟨_, cap, by rw [hl], by omega, fun _ => ⟨g, 0, rfl, yrow_of (by omega) (fun i hi => (h.told i (by omega)).2.1) fun j u hu => ?_⟩⟩
    rw [Nat.zero_add, cell_of_row wr g j cur _ _ hg]
    rw [← ht, List.getElem?_take] at hu
    split at hu
    · simpa using hu
    · cases hu
theorem Ygrow.shape {w1 wr : World} {base n : Nat} {f : Nat → Bool × List Pt} {zs : List Po} {v : Value} (h : Ygrow w1 base f n zs v wr) : ∃ ao cap, v = .slice ao n cap := by
  rcases h.own.2 with ⟨rfl, hn⟩ | ⟨g, cap, cur, rfl, _⟩
  · exact ⟨none, 0, by rw [hn]⟩
  · exact ⟨_, cap, rfl⟩
/-- One poly more: it lies in block H from cell o on. -/
theorem wp_append_yr {W w1 : World} {base n : Nat} {f : Nat → Bool × List Pt} {zs : List Po} {l : Value} {op : Oper} {a : Act} {K : Act → World → Prop} {Q : Exit → Act → World → Prop} (s x : Operand)
    (hop : op.op = .call { callee := .builtin .append, args := #[s, x], argTypes := #[37, 37] }) (hs : a.eval s = l) (H o c2 : Nat) (hx : a.eval x = .slice (some ⟨H, o, none⟩) 1 c2)
    (y : Po) (hc0 : W.cell? ⟨H, o, none⟩ = some (.bool y.cl)) (hc1 : W.cell? ⟨H, o + 1, none⟩ = some y.v) (hT : Ygrow w1 base f n zs l W) (hf : n ≤ 90) (hfy : bareY y = f n) (hy : Psl W y.v y.ps) (hyl : ∀ k, l.ownBlock = some k → y.v.ownBlock ≠ some k) (hyc : ∀ k, y.v.ownBlock = some k → k < W.heap.size) (hys : ∃ ao n cap, y.v = .slice ao n cap) (hb : base ≤ W.heap.size)
    (h : ∀ g' cap' w', Ygrow w1 base f (n + 1) (zs ++ [y]) (.slice (some ⟨g', 0, none⟩) (n + 1) cap') w' → K (a.put op.dst (.slice (some ⟨g', 0, none⟩) (n + 1) cap')) w') : op.wp Try.prog a W K Q := by
  obtain ⟨i0, hi, hz0, hz1, hz2⟩ := info_parts Try.infoPoly
  have h1 : ∀ u ∈ yl y, u.oneCell' = true := fun u hu => by
    simp [yl] at hu
    obtain ⟨ao, n, cap, e⟩ := hys
    rcases hu with rfl | rfl
    · rfl
    · rw [e]; rfl
  refine wp_append_lies W s x 37 hop base 24 i0 _ 2 32 Try.underlying37 hi hz0 hz1 hz2 rfl (by decide) l n (yls zs) hs hT.own ⟨H, o, none⟩ 1 c2 (yl y) hx rfl ?_ h1 (by decide) (by unfold maxLen; omega) (by omega) hb _ rfl ?_
  · intro j u hu
    rw [Addr.add_lit]
    have hj : j < 2 := by
      have := (List.getElem?_eq_some_iff.1 hu).1
      simpa [yl] using this
    rcases (show j = 0 ∨ j = 1 by omega) with rfl | rfl
    · simp [yl] at hu; rw [← hu]; exact hc0
    · simp [yl] at hu; rw [← hu]; exact hc1
  intro g' cap' w' hown' hg hat hlt
  have hgl : ∀ k, l.ownBlock = some k → k < W.heap.size ∧ base ≤ k := fun k hk => by
    have := World.ownsRow.lt hT.own k hk
    exact ⟨this.2, this.1⟩
  refine h g' cap' w' ⟨by simp [hT.len], ?_, fun j hj => ?_, ?_, hT.lo⟩
  · have e : yls (zs ++ [y]) = yls zs ++ yl y := by rw [yls_append]; simp [yls]
    rw [e]
    exact hown'
  · by_cases e : j = n
    · subst e
      have el : po (zs ++ [y]) j = y := by have := po_last zs y; rw [hT.len] at this; exact this
      rw [el]
      refine ⟨hfy, hy.grown hg (fun k hk e => hyl k hk e), fun k hk e2 => ?_, hys, fun k hk => Nat.lt_of_lt_of_le (hyc k hk) hg.size⟩
      have hk' : some g' = some k := hk
      simp at hk'
      subst hk'
      rcases hat with e3 | e3
      · exact hyl g' e3 e2
      · have := hyc g' e2; omega
    · rw [po_left (by rw [hT.len]; omega)]
      obtain ⟨a1, a2, a3, a4, a5⟩ := hT.told j (by omega)
      refine ⟨a1, a2.grown hg (fun k hk e => a3 k hk e), fun k hk e2 => ?_, a4, fun k hk => Nat.lt_of_lt_of_le (a5 k hk) hg.size⟩
      have hk' : some g' = some k := hk
      simp at hk'
      subst hk'
      rcases hat with e3 | e3
      · exact a3 g' e3 e2
      · have := a5 g' e2; omega
  · exact hT.below.grown hg hT.below.size (fun k hk => by have := (hgl k hk).2; have := hT.lo; omega)

/-- One poly more: it lies in a block H of its own. -/
theorem wp_append_y {W w1 : World} {base n : Nat} {f : Nat → Bool × List Pt} {zs : List Po} {l : Value} {op : Oper} {a : Act} {K : Act → World → Prop} {Q : Exit → Act → World → Prop} (s x : Operand)
    (hop : op.op = .call { callee := .builtin .append, args := #[s, x], argTypes := #[37, 37] }) (hs : a.eval s = l) (H : Nat) (hx : a.eval x = .slice (some ⟨H, 0, none⟩) 1 1)
    (y : Po) (hn : Has W H (yl y).toArray 24) (hT : Ygrow w1 base f n zs l W) (hf : n ≤ 90) (hfy : bareY y = f n) (hy : Psl W y.v y.ps) (hyl : ∀ k, l.ownBlock = some k → y.v.ownBlock ≠ some k) (hyc : ∀ k, y.v.ownBlock = some k → k < W.heap.size) (hys : ∃ ao n cap, y.v = .slice ao n cap) (hb : base ≤ W.heap.size)
    (h : ∀ g' cap' w', Ygrow w1 base f (n + 1) (zs ++ [y]) (.slice (some ⟨g', 0, none⟩) (n + 1) cap') w' → K (a.put op.dst (.slice (some ⟨g', 0, none⟩) (n + 1) cap')) w') : op.wp Try.prog a W K Q :=
  wp_append_yr s x hop hs H 0 1 hx y (hn.cell 0 _ (by simp [yl])) (hn.cell 1 _ (by simp [yl])) hT hf hfy hy hyl hyc hys hb h

theorem wpList_append_y {W w1 : World} {base n : Nat} {f : Nat → Bool × List Pt} {zs : List Po} {l : Value} {ops : Array Oper} {rest : List Oper} {op : Oper} {a : Act} {Q : Exit → Act → World → Prop} (hgd : op.guard = none) (s x : Operand)
    (hop : op.op = .call { callee := .builtin .append, args := #[s, x], argTypes := #[37, 37] }) (hs : a.eval s = l) (H : Nat) (hx : a.eval x = .slice (some ⟨H, 0, none⟩) 1 1)
    (y : Po) (hn : Has W H (yl y).toArray 24) (hT : Ygrow w1 base f n zs l W) (hf : n ≤ 90) (hfy : bareY y = f n) (hy : Psl W y.v y.ps) (hyl : ∀ k, l.ownBlock = some k → y.v.ownBlock ≠ some k) (hyc : ∀ k, y.v.ownBlock = some k → k < W.heap.size) (hys : ∃ ao n cap, y.v = .slice ao n cap) (hb : base ≤ W.heap.size)
    (h : ∀ g' cap' w', Ygrow w1 base f (n + 1) (zs ++ [y]) (.slice (some ⟨g', 0, none⟩) (n + 1) cap') w' → wpList Try.prog ops Q rest (a.put op.dst (.slice (some ⟨g', 0, none⟩) (n + 1) cap')) w') : wpList Try.prog ops Q (op :: rest) a W :=
  wpList_plain hgd fun _ hK => wp_append_y s x hop hs H hx y hn hT hf hfy hy hyl hyc hys hb fun g' cap' w' h1 => hK _ _ (h g' cap' w' h1)
/-- The value v is a list of places of the call's own. -/
def PtsV (base : Nat) (ps : List Pt) (v : Value) (w : World) : Prop := Psl w v ps ∧ (∀ k, v.ownBlock = some k → base ≤ k ∧ k < w.heap.size) ∧ ∃ ao n cap, v = .slice ao n cap
theorem PtsV.stay {base : Nat} {ps : List Pt} {v : Value} {w w' : World} (h : PtsV base ps v w) (hb : Below w.heap.size w w') : PtsV base ps v w' :=
  ⟨h.1.below hb (Nat.le_refl _), fun k hk => ⟨(h.2.1 k hk).1, Nat.lt_of_lt_of_le (h.2.1 k hk).2 hb.size⟩, h.2.2⟩


end Go.Proofs.Ytgnmiilmmbblmaa

namespace Go.Proofs.Ytgnmiilmmbblmaa
open Go Go.RowKit
open M

theorem Ygrow.re {w1 wr : World} {base n : Nat} {f f' : Nat → Bool × List Pt} {zs : List Po} {v : Value} (h : Ygrow w1 base f n zs v wr) (hf : ∀ j, j < n → bareY (po zs j) = f' j) : Ygrow w1 base f' n zs v wr :=
  ⟨h.len, h.own, fun j hj => ⟨hf j hj, (h.told j hj).2⟩, h.below, h.lo⟩
/-- A list of polys of the call's own: just these. -/
def Kp (w1 : World) (base : Nat) (L : List (Bool × List Pt)) (v : Value) (wr : World) : Prop := ∃ zs : List Po, zs.map bareY = L ∧ Ygrow w1 base (fun j => bareY (po zs j)) L.length zs v wr
theorem Kp.later {w1 wr w' : World} {base : Nat} {L : List (Bool × List Pt)} {v : Value} (h : Kp w1 base L v wr) (hb : Below wr.heap.size wr w') : Kp w1 base L v w' := by
  obtain ⟨zs, e, h⟩ := h
  exact ⟨zs, e, h.later hb⟩
theorem Kp.below {w1 wr : World} {base : Nat} {L : List (Bool × List Pt)} {v : Value} (h : Kp w1 base L v wr) : Below w1.heap.size w1 wr := by
  obtain ⟨zs, e, h⟩ := h
  exact h.below
theorem Kp.shape {w1 wr : World} {base : Nat} {L : List (Bool × List Pt)} {v : Value} (h : Kp w1 base L v wr) : ∃ ao cap, v = .slice ao L.length cap := by
  obtain ⟨zs, e, h⟩ := h
  exact h.shape
theorem Kp.start {w : World} {base : Nat} (hl : w.heap.size ≤ base) : Kp w base [] (.slice none 0 0) w := ⟨[], rfl, rfl, World.ownsRow_nil _ _ _ _, fun j hj => by simp at hj, Below.refl _ _, hl⟩
theorem Kp.gives {w wr : World} {base : Nat} {L : List (Bool × List Pt)} {v : Value} (h : Kp w base L v wr) (hf : L.length ≤ 100) : GivesL w L (.returned v) wr := by
  obtain ⟨zs, e, h⟩ := h
  exact ⟨v, zs, rfl, h.sl hf, e, h.below⟩
theorem Kp.young {w1 wr : World} {base : Nat} {L : List (Bool × List Pt)} {v : Value} (h : Kp w1 base L v wr) (k : Nat) (hk : v.ownBlock = some k) : k < wr.heap.size ∧ base ≤ k := by
  obtain ⟨zs, e, h⟩ := h
  have := World.ownsRow.lt h.own k hk
  exact ⟨this.2, this.1⟩
theorem wpList_append_k {W w1 : World} {base : Nat} {L : List (Bool × List Pt)} {l : Value} {ops : Array Oper} {rest : List Oper} {op : Oper} {a : Act} {Q : Exit → Act → World → Prop} (hgd : op.guard = none) (s x : Operand)
    (hop : op.op = .call { callee := .builtin .append, args := #[s, x], argTypes := #[37, 37] }) (hs : a.eval s = l) (H : Nat) (hx : a.eval x = .slice (some ⟨H, 0, none⟩) 1 1)
    (y : Po) (hn : Has W H (yl y).toArray 24) (hT : Kp w1 base L l W) (hf : L.length ≤ 90) (hy : Psl W y.v y.ps) (hyl : ∀ k, l.ownBlock = some k → y.v.ownBlock ≠ some k) (hyc : ∀ k, y.v.ownBlock = some k → k < W.heap.size) (hys : ∃ ao n cap, y.v = .slice ao n cap) (hb : base ≤ W.heap.size)
    (h : ∀ g' cap' w', Kp w1 base (L ++ [(y.cl, y.ps)]) (.slice (some ⟨g', 0, none⟩) (L.length + 1) cap') w' → wpList Try.prog ops Q rest (a.put op.dst (.slice (some ⟨g', 0, none⟩) (L.length + 1) cap')) w') : wpList Try.prog ops Q (op :: rest) a W := by
  obtain ⟨zs, e, hT⟩ := hT
  have hl := hT.len
  refine wpList_append_y hgd s x hop hs H hx y hn (hT.re (f' := fun j => bareY (po (zs ++ [y]) j)) (fun j hj => by rw [po_left (by omega)])) hf (by have := po_last zs y; rw [hl] at this; rw [this]) hy hyl hyc hys hb ?_
  intro g' cap' w' hY
  refine h g' cap' w' ⟨zs ++ [y], by rw [List.map_append, e]; rfl, ?_⟩
  rw [List.length_append]
  exact hY

end Go.Proofs.Ytgnmiilmmbblmaa

namespace Go.Proofs.Ytgnmiilmmbblmaa
open Go Go.RowKit
open M

set_option maxRecDepth 100000 in
set_option maxHeartbeats 2000000 in
theorem d_of (c : Bool) {v u : Value} {ps : List Pt} {ds : List Int} {w : World} (h : Psl w v ps) (hi : Isl w u ds) (h900 : ps.length ≤ 8796093022000) :
    Calls Try.prog 11 #[.agg #[.bool c, v], u] w (GivesL w (dashL c ps ds)) := by
  obtain ⟨B, hB⟩ : ∃ B, w.heap.size = B := ⟨_, rfl⟩
  obtain ⟨W, hW⟩ : ∃ W, w.alloc (.cells #[.bool c, v] 24) = W := ⟨_, rfl⟩
  have ha : Has W B #[.bool c, v] 24 := by rw [← hW]; exact has_new hB
  have hbl : Below w.heap.size w W := by rw [← hW]; exact (Below.refl _ _).alloc (Nat.le_refl _) _
  have hs := h.below hbl (Nat.le_refl _)
  have hiW := hi.below hbl
  have hf := hi.few
  obtain ⟨N, hN⟩ : ∃ N, ds.length = N := ⟨_, rfl⟩
  obtain ⟨au, cu, eu⟩ := hi.slice
  rw [hN] at eu hf
  subst eu
  obtain ⟨ao, n, cap, ev⟩ : ∃ ao n cap, v = .slice ao n cap := by obtain ⟨ao, cap, e, _⟩ := h; exact ⟨_, _, _, e⟩
  subst ev
  have HA := Lib.hid ha
  have HBL := Lib.hid hbl
  have HW := Lib.hid hW
  have HB := Lib.hid hB
  have HS := Lib.hid hs
  have HI := Lib.hid hiW
  have HN := Lib.hid hN
  have AL := Lib.hid (d_alone c hs)
  have RI := Lib.hid (d_right hiW)
  clear ha hbl hs hiW hW hN h hi
  by_cases h0 : N = 0
  · rw [dashL_none (by rw [HN.out]; exact h0)]
    have o1 : (N : Int) = 0 := by omega
    go_enter Try.func11, Try.ntmps11
    go_upto_region 1 with fail
    rw [HW.out]
    clear hB
    have a0 := HA.out.cell 0 _ rfl
    have a1 := HA.out.cell 1 _ rfl
    go_wp2_with fail
    refine AL.out.mono ?_
    rintro e w1 ⟨u, zs, rfl, hY, hz, hb1⟩
    obtain ⟨ao1, cap1, rfl⟩ := hY.slice
    have R : Hid (GivesL w [(c, ps)] (.returned (.slice ao1 zs.length cap1)) w1) := Lib.hid ⟨_, zs, rfl, hY, hz, HBL.out.trans (hb1.mono HBL.out.size)⟩
    clear hY hz hb1
    go_wp2
    go_ret
    exact R.out
  · have o1 : ¬ (N : Int) = 0 := by omega
    by_cases hok : okD ds = false
    · rw [dashL_bad hok]
      rw [hok] at RI
      clear hok
      go_enter Try.func11, Try.ntmps11
      go_upto_region 1 with fail
      rw [HW.out]
      clear hB
      have a0 := HA.out.cell 0 _ rfl
      have a1 := HA.out.cell 1 _ rfl
      go_wp2_with fail
      refine RI.out.mono ?_
      rintro e w' ⟨rfl, rfl⟩
      go_wp2_with fail
      refine AL.out.mono ?_
      rintro e w1 ⟨u, zs, rfl, hY, hz, hb1⟩
      obtain ⟨ao1, cap1, rfl⟩ := hY.slice
      have R : Hid (GivesL w [(c, ps)] (.returned (.slice ao1 zs.length cap1)) w1) := Lib.hid ⟨_, zs, rfl, hY, hz, HBL.out.trans (hb1.mono HBL.out.size)⟩
      clear hY hz hb1
      go_wp2
      go_ret
      exact R.out
    · have hok' : okD ds = true := by simpa using hok
      rw [dashL_some (by rw [HN.out]; omega) hok']
      rw [hok'] at RI
      have LE := Lib.hid (a_length c HS.out)
      have OK := Lib.hid hok'
      obtain ⟨L, hL⟩ : ∃ L, lengthL c ps = L := ⟨_, rfl⟩
      rw [hL] at LE
      have HL := Lib.hid hL
      clear hok hok' hL
      go_enter Try.func11, Try.ntmps11
      go_upto_region 1 with fail
      rw [HW.out]
      clear hB
      have a0 := HA.out.cell 0 _ rfl
      have a1 := HA.out.cell 1 _ rfl
      go_wp2_with fail
      refine RI.out.mono ?_
      rintro e w' ⟨rfl, rfl⟩
      go_wp2_with fail
      refine LE.out.mono ?_
      rintro e w1 ⟨rfl, hb1⟩
      have B1 := Lib.hid hb1
      clear hb1 a0 a1
      obtain ⟨S, hS⟩ : ∃ S, w1.heap.size = S := ⟨_, rfl⟩
      have HSS := Lib.hid hS
      have K0 : Hid (Kp w1 S (dashN c ps ds 0) (.slice none 0 0) w1) := Lib.hid (Kp.start (by omega))
      have M0 := Lib.hid (mk_zero ds)
      clear hS
      go_wp2_with fail
      go_loopw [5, 6, 8] (fun o f i wr => ∃ n : Nat, n ≤ 64 ∧ i = .int .i64 n ∧ f = .int .i64 (mk ds (2 * n)) ∧ Kp w1 S (dashN c ps ds n) o wr) (fun _ _ i _ => 64 - (intOf i).toNat)
      case atStart => exact ⟨0, by omega, rfl, rfl, K0.out⟩
      case round =>
        clear K0 M0
        obtain ⟨n, hn, rfl, ef, hk⟩ := hrel
        have HK := Lib.hid hk
        obtain ⟨aol, capl, rfl⟩ := hk.shape
        have hb := hk.below
        have F1 := mk_in OK.out (by have := HN.out; omega) (2 * n)
        obtain ⟨F, hF⟩ : ∃ F, mk ds (2 * n) = F := ⟨_, rfl⟩
        have FIN : Hid (¬ (n < 64 ∧ F < L) → dashN c ps ds 64 = dashN c ps ds n) := Lib.hid (fun hx => by
          by_cases e : n = 64
          · rw [e]
          · exact dashN_end OK.out (by have := HN.out; omega) (by rw [HL.out, hF]; omega) hn)
        rw [hF] at F1 ef
        subst ef
        have HFF := Lib.hid hF
        clear hF
        by_cases hlt : n < 64
        · have o3 : (n : Int) < 64 := by omega
          by_cases hFL : F < L
          · clear FIN
            have T1 : Hid (∀ w', Below W.heap.size W w' → Calls Try.prog 23 #[.slice au N cu, .int .i64 (2 * (n : Int))] w' fun e w'' => e = .returned (.int .i64 (tn ds (2 * n))) ∧ w' = w'') := Lib.hid (fun w' hq => by have := d_turn (HI.out.below hq) (by have := HN.out; omega) (2 * n) (by omega); rwa [show ((2 * n : Nat) : Int) = 2 * (n : Int) by omega] at this)
            have T2 : Hid (∀ w', Below W.heap.size W w' → Calls Try.prog 23 #[.slice au N cu, .int .i64 (2 * (n : Int) + 1)] w' fun e w'' => e = .returned (.int .i64 (tn ds (2 * n + 1))) ∧ w' = w'') := Lib.hid (fun w' hq => by have := d_turn (HI.out.below hq) (by have := HN.out; omega) (2 * n + 1) (by omega); rwa [show ((2 * n + 1 : Nat) : Int) = 2 * (n : Int) + 1 by omega] at this)
            have A1 : Hid (∀ w', Calls Try.prog 22 #[.int .i64 F, .int .i64 (tn ds (2 * n))] w' fun e w'' => e = .returned (.int .i64 (mk ds (2 * n + 1))) ∧ w' = w'') := Lib.hid (fun w' => by have := q_add F (tn ds (2 * n)) w'; rwa [← HFF.out, add_mk OK.out (by have := HN.out; omega) (by omega), HFF.out] at this)
            have A2 : Hid (∀ w', Calls Try.prog 22 #[.int .i64 (mk ds (2 * n + 1)), .int .i64 (tn ds (2 * n + 1))] w' fun e w'' => e = .returned (.int .i64 (mk ds (2 * (n + 1)))) ∧ w' = w'') := Lib.hid (fun w' => by have := q_add (mk ds (2 * n + 1)) (tn ds (2 * n + 1)) w'; rwa [add_mk OK.out (by have := HN.out; omega) (by omega), show 2 * n + 1 + 1 = 2 * (n + 1) by omega] at this)
            have BW := Lib.hid (B1.out.trans (hb.mono B1.out.size))
            have PT := Lib.hid (a_part c F (mk ds (2 * n + 1)) (HS.out.below BW.out (Nat.le_refl _)) h900)
            have KPP : Hid (∀ R, dashP c ps ds n = R → dashN c ps ds (n + 1) = if 2 ≤ R.length then dashN c ps ds n ++ [(false, R)] else dashN c ps ds n) := Lib.hid (fun R hR => by
              split
              · rw [dashN_yes (by rw [HL.out, HFF.out]; exact hFL) (by rw [hR]; assumption), hR]
              · rw [dashN_no (by rw [hR]; assumption)])
            have hpl := dashP_length c ps ds n
            have ecut : cutL c ps F (mk ds (2 * n + 1)) = dashP c ps ds n := by rw [← HFF.out]; rfl
            rw [ecut] at PT
            have KPQ := Lib.hid (KPP.out _ rfl)
            obtain ⟨R, hR⟩ : ∃ R, dashP c ps ds n = R := ⟨_, rfl⟩
            rw [hR] at PT KPQ hpl
            have HPL : Hid (R.length ≤ 8796093022208) := Lib.hid (by omega)
            have LL := Lib.hid (dashN_length c ps ds n)
            obtain ⟨x1, hx1⟩ : ∃ x, tn ds (2 * n) = x := ⟨_, rfl⟩
            obtain ⟨x2, hx2⟩ : ∃ x, tn ds (2 * n + 1) = x := ⟨_, rfl⟩
            obtain ⟨G, hG⟩ : ∃ x, mk ds (2 * n + 1) = x := ⟨_, rfl⟩
            obtain ⟨G2, hG2⟩ : ∃ x, mk ds (2 * (n + 1)) = x := ⟨_, rfl⟩
            rw [hx1] at T1 A1
            rw [hx2] at T2 A2
            rw [hG] at A1 A2 PT
            rw [hG2] at A2
            have HG2 := Lib.hid hG2
            have HAR := Lib.hid (HA.out.below BW.out HA.out.lt)
            clear hb hk hpl ecut hR hx1 hx2 hG hG2 KPP
            go_wp2_with fail
            refine (T1.out _ BW.out).mono ?_
            rintro e w' ⟨rfl, rfl⟩
            go_wp2_with fail
            refine (A1.out _).mono ?_
            rintro e w' ⟨rfl, rfl⟩
            have a0 := HAR.out.cell 0 _ rfl
            have a1 := HAR.out.cell 1 _ rfl
            go_wp2_with fail
            refine PT.out.mono ?_
            rintro e w2 ⟨l, rfl, hol, hb2⟩
            obtain ⟨rl, hrl⟩ : ∃ k, R.length = k := ⟨_, rfl⟩
            obtain ⟨al, cl, el⟩ := hol.len
            rw [hrl] at el
            subst el
            obtain ⟨gx, hgx⟩ : ∃ g, w2.heap.size = g := ⟨_, rfl⟩
            obtain ⟨X, hX⟩ : ∃ X, w2.alloc (.cells #[.bool false, .slice al rl cl] 24) = X := ⟨_, rfl⟩
            have bX : Below wr.heap.size wr X := by rw [← hX]; exact hb2.alloc hb2.size _
            have kx : Has X gx #[.bool false, .slice al rl cl] 24 := by rw [← hX]; exact has_new hgx
            have KX := Lib.hid (HK.out.later bX)
            have BX := Lib.hid (BW.out.trans (bX.mono BW.out.size))
            have OX : Hid (Pown X wr.heap.size (.slice al rl cl) R) := Lib.hid (by rw [← hX]; exact hol.alloc _)
            have HX := Lib.hid hX
            have KXX := Lib.hid kx
            have HRL := Lib.hid hrl
            clear hol hb2 hX hrl a0 a1 bX kx
            go_upto_region 11 with fail
            rw [HX.out]
            clear hgx
            have y0 := KXX.out.cell 0 _ rfl
            have y1 := KXX.out.cell 1 _ rfl
            by_cases h2 : 2 ≤ rl
            · have h2' : (2 : Int) ≤ rl := by omega
              have KE : Hid (dashN c ps ds (n + 1) = dashN c ps ds n ++ [(false, R)]) := Lib.hid (by rw [KPQ.out, if_pos (by rw [HRL.out]; exact h2)])
              have bA : Below X.heap.size X (X.alloc (.cells #[.bool false, .slice al rl cl] 24)) := (Below.refl _ _).alloc (Nat.le_refl _) _
              have KA := Lib.hid (KX.out.later bA)
              have PA := Lib.hid ((OX.out.sl HPL.out).alloc (.cells #[.bool false, .slice al rl cl] 24))
              have YL : Hid (∀ k, Value.ownBlock (.slice aol (dashN c ps ds n).length capl) = some k → Value.ownBlock (.slice al rl cl) ≠ some k) := Lib.hid (fun k hk1 hk2 => by have := (HK.out.young k hk1).1; have := (OX.out.base k hk2).1; omega)
              have YK : Hid (∀ k, Value.ownBlock (.slice al rl cl) = some k → k < (X.alloc (.cells #[.bool false, .slice al rl cl] 24)).heap.size) := Lib.hid (fun k hk1 => by have := (OX.out.base k hk1).2; simp; omega)
              have SB : Hid (S ≤ (X.alloc (.cells #[.bool false, .slice al rl cl] 24)).heap.size) := Lib.hid (by have := KX.out.below.size; have := HSS.out; simp; omega)
              have N90 : Hid ((dashN c ps ds n).length ≤ 90) := Lib.hid (by have := LL.out; omega)
              clear bA
              go_wp2_with (at_builtin; refine wpList_append_k rfl _ _ rfl rfl X.heap.size rfl ⟨false, .slice al rl cl, R⟩ (has_new rfl) KA.out N90.out PA.out YL.out YK.out ⟨_, _, _, rfl⟩ SB.out ?_)
              intro g' cap' w4 hY
              have SK := Lib.hid hY
              have B4 := Lib.hid (B1.out.trans (hY.below.mono B1.out.size))
              clear hY y0 y1
              go_wp2_with fail
              refine (T2.out _ B4.out).mono ?_
              rintro e w' ⟨rfl, rfl⟩
              go_wp2_with fail
              refine (A2.out _).mono ?_
              rintro e w' ⟨rfl, rfl⟩
              go_wp2
              go_roundw
              case rel => exact ⟨n + 1, by omega, by go_num, by rw [HG2.out], by rw [KE.out]; exact SK.out⟩
              case measure => simp [intOf]; omega
            · have h2' : ¬ (2 : Int) ≤ rl := by omega
              have KE : Hid (dashN c ps ds (n + 1) = dashN c ps ds n) := Lib.hid (by rw [KPQ.out, if_neg (by rw [HRL.out]; exact h2)])
              go_wp2_with fail
              refine (T2.out _ BX.out).mono ?_
              rintro e w' ⟨rfl, rfl⟩
              go_wp2_with fail
              refine (A2.out _).mono ?_
              rintro e w' ⟨rfl, rfl⟩
              go_wp2
              go_roundw
              case rel => exact ⟨n + 1, by omega, by go_num, by rw [HG2.out], by rw [KE.out]; exact KX.out⟩
              case measure => simp [intOf]; omega
          · have R : Hid (GivesL w (dashN c ps ds 64) (.returned (.slice aol (dashN c ps ds n).length capl)) wr) := Lib.hid (by
              rw [FIN.out (by omega)]
              exact (HK.out.gives (by have := dashN_length c ps ds n; omega)).on (HBL.out.trans (B1.out.mono HBL.out.size)))
            clear hk hb FIN
            go_wp2
            go_ret
            exact R.out
        · have R : Hid (GivesL w (dashN c ps ds 64) (.returned (.slice aol (dashN c ps ds n).length capl)) wr) := Lib.hid (by
            rw [FIN.out (by omega)]
            exact (HK.out.gives (by have := dashN_length c ps ds n; omega)).on (HBL.out.trans (B1.out.mono HBL.out.size)))
          have o3 : ¬ (n : Int) < 64 := by omega
          clear hk hb FIN
          go_wp2
          go_ret
          exact R.out

end Go.Proofs.Ytgnmiilmmbblmaa

namespace Go.Proofs.Ytgnmiilmmbblmaa
open Go Go.RowKit
open M

set_option maxRecDepth 100000 in
set_option maxHeartbeats 2000000 in
theorem r9_dash (c : Bool) {v u : Value} {ps : List Pt} {ds : List Int} {w : World} (h : Psl w v ps) (hi : Isl w u ds) (h900 : ps.length ≤ 8796093022000) :
    Calls Try.prog 19 #[.agg #[.bool c, v], u] w (GivesL w (dashL c ps ds)) := by
  obtain ⟨B, hB⟩ : ∃ B, w.heap.size = B := ⟨_, rfl⟩
  obtain ⟨W, hW⟩ : ∃ W, w.alloc (.cells #[.bool c, v] 24) = W := ⟨_, rfl⟩
  have ha : Has W B #[.bool c, v] 24 := by rw [← hW]; exact has_new hB
  have hbl : Below w.heap.size w W := by rw [← hW]; exact (Below.refl _ _).alloc (Nat.le_refl _) _
  have hs := h.below hbl (Nat.le_refl _)
  have hiW := hi.below hbl
  have hf := hi.few
  have hpf := h.few
  obtain ⟨N, hN⟩ : ∃ N, ds.length = N := ⟨_, rfl⟩
  obtain ⟨au, cu, eu⟩ := hi.slice
  rw [hN] at eu hf
  subst eu
  obtain ⟨ao, n, cap, ev⟩ : ∃ ao n cap, v = .slice ao n cap := by obtain ⟨ao, cap, e, _⟩ := h; exact ⟨_, _, _, e⟩
  subst ev
  have HA := Lib.hid ha
  have HBL := Lib.hid hbl
  have HW := Lib.hid hW
  have HB := Lib.hid hB
  have HS := Lib.hid hs
  have HI := Lib.hid hiW
  have HN := Lib.hid hN
  have AL := Lib.hid (r9_copied c hs)
  have RI := Lib.hid (r9_dashes hiW)
  clear ha hbl hs hiW hW hN h hi
  by_cases h0 : N = 0
  · rw [dashL_none (by rw [HN.out]; exact h0)]
    have o1 : (N : Int) = 0 := by omega
    go_enter Try.func19, Try.ntmps19
    go_upto_region 1 with fail
    rw [HW.out]
    clear hB
    have a0 := HA.out.cell 0 _ rfl
    have a1 := HA.out.cell 1 _ rfl
    go_wp2_with fail
    refine AL.out.mono ?_
    rintro e w1 ⟨u, rfl, ho1, hb1⟩
    obtain ⟨ao1, cap1, el⟩ := ho1.len
    obtain ⟨sl, hsl⟩ : ∃ k, ps.length = k := ⟨_, rfl⟩
    rw [hsl] at el
    subst el
    have R : Hid (GivesL w [(c, ps)] (.returned (.slice (some ⟨w1.heap.size, 0, none⟩) 1 1)) (w1.alloc (.cells #[.bool c, .slice ao1 sl cap1] 24))) := Lib.hid ⟨_, [⟨c, .slice ao1 sl cap1, ps⟩], rfl, ysl_one ((ho1.sl (by omega)).alloc _) (has_new rfl), rfl, (HBL.out.trans (hb1.mono HBL.out.size)).alloc (by have := HBL.out.size; have := hb1.size; omega) _⟩
    clear ho1 hb1 hsl
    go_wp2
    go_ret
    exact R.out
  · have o1 : ¬ (N : Int) = 0 := by omega
    by_cases hok : okD ds = false
    · rw [dashL_bad hok]
      rw [hok] at RI
      clear hok
      go_enter Try.func19, Try.ntmps19
      go_upto_region 1 with fail
      rw [HW.out]
      clear hB
      have a0 := HA.out.cell 0 _ rfl
      have a1 := HA.out.cell 1 _ rfl
      go_wp2_with fail
      refine RI.out.mono ?_
      rintro e w' ⟨rfl, rfl⟩
      go_wp2_with fail
      refine AL.out.mono ?_
      rintro e w1 ⟨u, rfl, ho1, hb1⟩
      obtain ⟨ao1, cap1, el⟩ := ho1.len
      obtain ⟨sl, hsl⟩ : ∃ k, ps.length = k := ⟨_, rfl⟩
      rw [hsl] at el
      subst el
      have R : Hid (GivesL w [(c, ps)] (.returned (.slice (some ⟨w1.heap.size, 0, none⟩) 1 1)) (w1.alloc (.cells #[.bool c, .slice ao1 sl cap1] 24))) := Lib.hid ⟨_, [⟨c, .slice ao1 sl cap1, ps⟩], rfl, ysl_one ((ho1.sl (by omega)).alloc _) (has_new rfl), rfl, (HBL.out.trans (hb1.mono HBL.out.size)).alloc (by have := HBL.out.size; have := hb1.size; omega) _⟩
      clear ho1 hb1 hsl
      go_wp2
      go_ret
      exact R.out
    · have hok' : okD ds = true := by simpa using hok
      rw [dashL_some (by rw [HN.out]; omega) hok']
      rw [hok'] at RI
      have LE := Lib.hid (r9_length c HS.out)
      have OK := Lib.hid hok'
      obtain ⟨L, hL⟩ : ∃ L, lengthL c ps = L := ⟨_, rfl⟩
      rw [hL] at LE
      have HL := Lib.hid hL
      clear hok hok' hL
      go_enter Try.func19, Try.ntmps19
      go_upto_region 1 with fail
      rw [HW.out]
      clear hB
      have a0 := HA.out.cell 0 _ rfl
      have a1 := HA.out.cell 1 _ rfl
      go_wp2_with fail
      refine RI.out.mono ?_
      rintro e w' ⟨rfl, rfl⟩
      go_wp2_with fail
      refine LE.out.mono ?_
      rintro e w1 ⟨rfl, hb1⟩
      have B1 := Lib.hid hb1
      clear hb1 a0 a1
      obtain ⟨S, hS⟩ : ∃ S, w1.heap.size = S := ⟨_, rfl⟩
      have HSS := Lib.hid hS
      have K0 : Hid (Kp w1 S (dashN c ps ds ((0 + 1) / 2)) (.slice none 0 0) w1) := Lib.hid (Kp.start (by omega))
      clear hS
      go_wp2_with fail
      go_loopw [5, 7, 8] (fun o f i wr => ∃ k : Nat, k ≤ 128 ∧ i = .int .i64 k ∧ f = .int .i64 (mk ds k) ∧ Kp w1 S (dashN c ps ds ((k + 1) / 2)) o wr) (fun _ _ i _ => 128 - (intOf i).toNat)
      case atStart => exact ⟨0, by omega, rfl, rfl, K0.out⟩
      case round =>
        clear K0
        obtain ⟨k, hn, rfl, ef, hk⟩ := hrel
        have HK := Lib.hid hk
        have hb := hk.below
        have F1 := mk_in OK.out (by have := HN.out; omega) k
        have X1 := tn_in OK.out (by have := HN.out; omega) k
        obtain ⟨F, hF⟩ : ∃ F, mk ds k = F := ⟨_, rfl⟩
        have FIN : Hid (¬ (k < 128 ∧ F < L) → dashN c ps ds 64 = dashN c ps ds ((k + 1) / 2)) := Lib.hid (fun hx => by
          by_cases e : k = 128
          · rw [e]
          · have up := mk_up OK.out (by have := HN.out; omega) (i := k) (j := 2 * ((k + 1) / 2)) (by omega)
            exact dashN_end OK.out (by have := HN.out; omega) (by rw [HL.out]; omega) (by omega))
        rw [hF] at F1 ef
        subst ef
        have F2 : F ≤ 8589934592 := by omega
        have F0 := F1.1
        have HFF := Lib.hid hF
        have LL := Lib.hid (dashN_length c ps ds ((k + 1) / 2))
        obtain ⟨Q, hQ⟩ : ∃ Q, dashN c ps ds ((k + 1) / 2) = Q := ⟨_, rfl⟩
        rw [hQ] at HK hk FIN LL
        obtain ⟨aol, capl, rfl⟩ := hk.shape
        have HQ := Lib.hid hQ
        have BW := Lib.hid (B1.out.trans (hb.mono B1.out.size))
        clear hF F1 hQ hk hb
        by_cases hlt : k < 128
        · have o3 : (k : Int) < 128 := by omega
          by_cases hFL : F < L
          · clear FIN
            obtain ⟨_, gi, oi, ei, hci⟩ := (HI.out.below BW.out).at (by omega)
            subst ei
            have tm := tn_mod (ds := ds) k
            have mlt := Nat.mod_lt k (show 0 < ds.length by have := HN.out; omega)
            obtain ⟨r, hr⟩ : ∃ r, k % ds.length = r := ⟨_, rfl⟩
            have ex : tn ds k = nm ds r := by rw [← hr]; rfl
            rw [hr] at tm mlt
            rw [HN.out] at tm mlt
            have c0 := hci r mlt
            rw [← ex] at c0
            obtain ⟨x1, hx1⟩ : ∃ x, tn ds k = x := ⟨_, rfl⟩
            have MS := Lib.hid (mk_step ds k)
            rw [hx1] at c0 X1 MS
            rw [HFF.out] at MS
            obtain ⟨X0, X9⟩ := X1
            have o4 : (r : Int) < N := by omega
            have tm' : (k : Int) % (N : Int) = r := by rw [← tm, Int.tmod_eq_emod_of_nonneg (by omega)]
            have HAR := Lib.hid (HA.out.below BW.out HA.out.lt)
            clear hci hr ex hx1
            by_cases hp : k % 2 = 0
            · obtain ⟨m, em⟩ : ∃ m, k = 2 * m := ⟨k / 2, by omega⟩
              have hQ2 : Hid (dashN c ps ds m = Q) := Lib.hid (by rw [← HQ.out, show (k + 1) / 2 = m by omega])
              have o5 : (k : Int) % 2 = 0 := by omega
              have PT := Lib.hid (r9_part c F (F + x1) (HS.out.below BW.out (Nat.le_refl _)) h900)
              have ecut : cutL c ps F (F + x1) = dashP c ps ds m := by
                unfold dashP
                rw [← em, HFF.out, MS.out]
              have KPP : Hid (∀ R, dashP c ps ds m = R → dashN c ps ds ((k + 1 + 1) / 2) = if 2 ≤ R.length then Q ++ [(false, R)] else Q) := Lib.hid (fun R hR => by
                rw [show (k + 1 + 1) / 2 = m + 1 by omega, ← hQ2.out]
                split
                · rw [dashN_yes (by rw [HL.out, ← em, HFF.out]; exact hFL) (by rw [hR]; assumption), hR]
                · rw [dashN_no (by rw [hR]; assumption)])
              have hpl := dashP_length c ps ds m
              rw [ecut] at PT
              have KPQ := Lib.hid (KPP.out _ rfl)
              obtain ⟨R, hR⟩ : ∃ R, dashP c ps ds m = R := ⟨_, rfl⟩
              rw [hR] at PT KPQ hpl
              have HPL : Hid (R.length ≤ 8796093022208) := Lib.hid (by omega)
              clear hpl ecut hR KPP hQ2 em
              have a0 := HAR.out.cell 0 _ rfl
              have a1 := HAR.out.cell 1 _ rfl
              go_wp2_with fail
              refine PT.out.mono ?_
              rintro e w2 ⟨l, rfl, hol, hb2⟩
              obtain ⟨rl, hrl⟩ : ∃ k, R.length = k := ⟨_, rfl⟩
              obtain ⟨al, cl, el⟩ := hol.len
              rw [hrl] at el
              subst el
              obtain ⟨gx, hgx⟩ : ∃ g, w2.heap.size = g := ⟨_, rfl⟩
              obtain ⟨X, hX⟩ : ∃ X, w2.alloc (.cells #[.bool false, .slice al rl cl] 24) = X := ⟨_, rfl⟩
              have bX : Below wr.heap.size wr X := by rw [← hX]; exact hb2.alloc hb2.size _
              have kx : Has X gx #[.bool false, .slice al rl cl] 24 := by rw [← hX]; exact has_new hgx
              have KX := Lib.hid (HK.out.later bX)
              have OX : Hid (Pown X wr.heap.size (.slice al rl cl) R) := Lib.hid (by rw [← hX]; exact hol.alloc _)
              have HX := Lib.hid hX
              have KXX := Lib.hid kx
              have HRL := Lib.hid hrl
              clear hol hb2 hX hrl a0 a1 bX kx c0
              go_upto_region 12 with fail
              rw [HX.out]
              clear hgx
              have y0 := KXX.out.cell 0 _ rfl
              have y1 := KXX.out.cell 1 _ rfl
              by_cases h2 : 2 ≤ rl
              · have h2' : (2 : Int) ≤ rl := by omega
                have KE : Hid (dashN c ps ds ((k + 1 + 1) / 2) = Q ++ [(false, R)]) := Lib.hid (by rw [KPQ.out, if_pos (by rw [HRL.out]; exact h2)])
                have bA : Below X.heap.size X (X.alloc (.cells #[.bool false, .slice al rl cl] 24)) := (Below.refl _ _).alloc (Nat.le_refl _) _
                have KA := Lib.hid (KX.out.later bA)
                have PA := Lib.hid ((OX.out.sl HPL.out).alloc (.cells #[.bool false, .slice al rl cl] 24))
                have YL : Hid (∀ k, Value.ownBlock (.slice aol Q.length capl) = some k → Value.ownBlock (.slice al rl cl) ≠ some k) := Lib.hid (fun k hk1 hk2 => by have := (HK.out.young k hk1).1; have := (OX.out.base k hk2).1; omega)
                have YK : Hid (∀ k, Value.ownBlock (.slice al rl cl) = some k → k < (X.alloc (.cells #[.bool false, .slice al rl cl] 24)).heap.size) := Lib.hid (fun k hk1 => by have := (OX.out.base k hk1).2; simp; omega)
                have SB : Hid (S ≤ (X.alloc (.cells #[.bool false, .slice al rl cl] 24)).heap.size) := Lib.hid (by have := KX.out.below.size; have := HSS.out; simp; omega)
                have N90 : Hid (Q.length ≤ 90) := Lib.hid (by have := LL.out; omega)
                clear bA
                go_wp2_with (at_builtin; refine wpList_append_k rfl _ _ rfl rfl X.heap.size rfl ⟨false, .slice al rl cl, R⟩ (has_new rfl) KA.out N90.out PA.out YL.out YK.out ⟨_, _, _, rfl⟩ SB.out ?_)
                intro g' cap' w4 hY
                have SK := Lib.hid hY
                clear hY y0 y1
                go_wp2
                go_roundw
                case rel => exact ⟨k + 1, by omega, by go_num, by rw [MS.out], by rw [KE.out]; exact SK.out⟩
                case measure => simp [intOf]; omega
              · have h2' : ¬ (2 : Int) ≤ rl := by omega
                have KE : Hid (dashN c ps ds ((k + 1 + 1) / 2) = Q) := Lib.hid (by rw [KPQ.out, if_neg (by rw [HRL.out]; exact h2)])
                go_wp2
                go_roundw
                case rel => exact ⟨k + 1, by omega, by go_num, by rw [MS.out], by rw [KE.out]; exact KX.out⟩
                case measure => simp [intOf]; omega
            · have o5 : ¬ (k : Int) % 2 = 0 := by omega
              have KE : Hid (dashN c ps ds ((k + 1 + 1) / 2) = Q) := Lib.hid (by rw [← HQ.out, show (k + 1 + 1) / 2 = (k + 1) / 2 by omega])
              go_wp2
              go_roundw
              case rel => exact ⟨k + 1, by omega, by go_num, by rw [MS.out], by rw [KE.out]; exact HK.out⟩
              case measure => simp [intOf]; omega
          · have R : Hid (GivesL w (dashN c ps ds 64) (.returned (.slice aol Q.length capl)) wr) := Lib.hid (by
              rw [FIN.out (by omega)]
              exact (HK.out.gives (by have := LL.out; omega)).on (HBL.out.trans (B1.out.mono HBL.out.size)))
            clear FIN
            go_wp2
            go_ret
            exact R.out
        · have R : Hid (GivesL w (dashN c ps ds 64) (.returned (.slice aol Q.length capl)) wr) := Lib.hid (by
            rw [FIN.out (by omega)]
            exact (HK.out.gives (by have := LL.out; omega)).on (HBL.out.trans (B1.out.mono HBL.out.size)))
          have o3 : ¬ (k : Int) < 128 := by omega
          clear FIN
          go_wp2
          go_ret
          exact R.out

end Go.Proofs.Ytgnmiilmmbblmaa

namespace Go.Proofs.Ytgnmiilmmbblmaa
open Go Go.RowKit
open M

set_option maxRecDepth 100000 in
set_option maxHeartbeats 2000000 in
theorem r8_polys {v u : Value} {ys zs : List Po} {w : World} (h : Ysl w v ys) (h2 : Ysl w u zs) (hl : ys.length = zs.length) (he : ∀ j, j < ys.length → bareY (po ys j) = bareY (po zs j)) :
    Calls Try.prog 13 #[v, u] w fun e w' => e = .returned (.bool true) ∧ Below w.heap.size w w' := by
  have hs := h
  have hs2 := h2
  obtain ⟨ao, cap, rfl, hf, _⟩ := h
  obtain ⟨ao2, cap2, rfl, hf2, _⟩ := h2
  obtain ⟨N, hN⟩ : ∃ N, ys.length = N := ⟨_, rfl⟩
  rw [hN] at hl he hf hs
  rw [← hl] at hs2 hf2 ⊢
  rw [hN]
  have HS := Lib.hid hs
  have HS2 := Lib.hid hs2
  have HE := Lib.hid he
  have HN := Lib.hid hN
  have HL := Lib.hid hl
  clear hs hs2 he hN hl hf2
  go_enter Try.func13, Try.ntmps13
  go_wp2
  go_loopw [5] (fun i wr => ∃ n : Nat, n ≤ N ∧ i = .int .i64 n ∧ Below w.heap.size w wr) (fun i _ => N - (intOf i).toNat)
  case atStart => exact ⟨0, by omega, rfl, Below.refl _ _⟩
  case round =>
    obtain ⟨n, hn, rfl, hb⟩ := hrel
    by_cases hlt : n < N
    · obtain ⟨g, o, e1, r, l1⟩ := (HS.out.below hb).row (by omega)
      obtain ⟨g2, o2, e2, r2, l2⟩ := (HS2.out.below hb).row (by omega)
      subst e1 e2
      have b0 := HE.out n hlt
      have sa := r.sl n (by omega)
      have sb := r2.sl n (by omega)
      have c0 := r.c0 n (by omega)
      have c1 := r.c1 n (by omega)
      have d0 := r2.c0 n (by omega)
      have d1 := r2.c1 n (by omega)
      obtain ⟨y, hy⟩ : ∃ y, po ys n = y := ⟨_, rfl⟩
      obtain ⟨z, hz⟩ : ∃ y, po zs n = y := ⟨_, rfl⟩
      rw [hy] at b0 sa c0 c1
      rw [hz] at b0 sb d0 d1
      obtain ⟨c, vy, ps⟩ := y
      obtain ⟨c', vz, qs⟩ := z
      simp only [bareY, Prod.mk.injEq] at b0
      obtain ⟨rfl, rfl⟩ := b0
      simp only at sa sb c0 c1 d0 d1
      have y0 := fun z : Later wr => (z.below.cell (p := ⟨g, _, _⟩) (World.block_lt_of_cell? wr _ c0)).trans c0
      have y1 := fun z : Later wr => (z.below.cell (p := ⟨g, _, _⟩) (World.block_lt_of_cell? wr _ c1)).trans c1
      have z0 := fun z : Later wr => (z.below.cell (p := ⟨g2, _, _⟩) (World.block_lt_of_cell? wr _ d0)).trans d0
      have z1 := fun z : Later wr => (z.below.cell (p := ⟨g2, _, _⟩) (World.block_lt_of_cell? wr _ d1)).trans d1
      have PT : Hid (∀ z : Later wr, Calls Try.prog 29 #[vy, vz] z.to fun e w' => e = .returned (.bool true) ∧ Below z.to.heap.size z.to w') := Lib.hid (fun z => by have := r8_points (sa.later z) (sb.later z); rw [decide_eq_true rfl] at this; exact this)
      obtain ⟨aoy, ny, capy, evy⟩ : ∃ ao n cap, vy = .slice ao n cap := by obtain ⟨ao, cap, hv, _⟩ := sa; exact ⟨_, _, _, hv⟩
      obtain ⟨aoz, nz, capz, evz⟩ : ∃ ao n cap, vz = .slice ao n cap := by obtain ⟨ao, cap, hv, _⟩ := sb; exact ⟨_, _, _, hv⟩
      subst evy evz
      have HBB := Lib.hid hb
      have o3 : (n : Int) < N := by omega
      have o4 : n < N := hlt
      clear r r2 l1 l2 hy hz hb sa sb c0 c1 d0 d1
      go_upto_region 6 with fail
      refine wp_region_class (C := fun w' => ∃ z : Later wr, w' = z.to) (by kernel_rfl) (by kernel_rfl) ⟨⟨_, below_drew (Below.refl _ _)⟩, rfl⟩ ?_
      repeat (go_big_quiet_step (first | (go_at_call 29; exact Later.calls (PT.out _))))
      refine wpQuiet_nil ?_
      rintro _ ⟨z, rfl⟩
      have BZ := Lib.hid (HBB.out.trans (z.below.mono HBB.out.size))
      clear y0 y1 z0 z1
      go_wp2
      go_roundw
      case rel => exact ⟨n + 1, by omega, by go_num, BZ.out⟩
      case measure => simp [intOf]; omega
    · obtain rfl : n = N := by omega
      have o3 : ¬ (n : Int) < n := by omega
      have HBB := Lib.hid hb
      clear hb
      go_wp2
      go_ret
      exact ⟨rfl, HBB.out⟩

end Go.Proofs.Ytgnmiilmmbblmaa

namespace Go.Proofs.Ytgnmiilmmbblmaa
open Go Go.RowKit
open M

theorem bares_len {ys zs : List Po} (h : ys.map bareY = zs.map bareY) : ys.length = zs.length := by simpa using congrArg List.length h
theorem bares_at {ys zs : List Po} (h : ys.map bareY = zs.map bareY) : ∀ j, j < ys.length → bareY (po ys j) = bareY (po zs j) := by
  intro j hj
  have hl := bares_len h
  have := congrArg (fun l => l[j]?) h
  simp [hj, show j < zs.length by omega] at this
  unfold po
  rw [List.getD_eq_getElem?_getD, List.getD_eq_getElem?_getD, List.getElem?_eq_getElem hj, List.getElem?_eq_getElem (by omega)]
  exact this
theorem bares_one {zs : List Po} {c : Bool} {ps : List Pt} (h : zs.map bareY = [(c, ps)]) : ∃ l, zs = [⟨c, l, ps⟩] := by
  match zs, h with
  | [⟨c', l, ps'⟩], h =>
    simp [bareY] at h
    obtain ⟨rfl, rfl⟩ := h
    exact ⟨l, rfl⟩

def kn10 : List Pt := [⟨0, 0⟩, ⟨655360, 0⟩]
theorem kn10_sa : sa kn10 0 = ⟨0, 0⟩ := by decide +kernel
theorem kn10_sb : sb kn10 0 = ⟨655360, 0⟩ := by decide +kernel
theorem kn10_side : sideL kn10 0 = 655360 := by
  unfold sideL longP
  rw [kn10_sa, kn10_sb]
  unfold hyp
  rw [show (wide ((655360 : Int) - 0) * wide (655360 - 0) + wide (0 - 0) * wide (0 - 0)).toNat = 429496729600 by decide +kernel, isq_eq (r := 655360) (by decide) (by decide)]
  rfl
theorem kn10_len : lengthL false kn10 = 655360 := by
  show add (lenN kn10 0) (sideL kn10 0) = 655360
  rw [kn10_side, lenN_zero]
  decide +kernel
theorem kn10_half : partP 0 32768 false kn10 = [⟨0, 0⟩, ⟨327680, 0⟩] := by
  unfold partP
  rw [kn10_len, show mul 655360 0 = 0 by decide +kernel, show mul 655360 32768 = 327680 by decide +kernel, cutL_yes (by decide +kernel), show hold 0 = 0 by decide +kernel, show hold 327680 = 327680 by decide +kernel]
  show cutN kn10 0 327680 (0 + 1) = _
  rw [cutN_first (by unfold hit; rw [kn10_side, lenN_zero]; decide) rfl]
  unfold fromP
  rw [kn10_side, lenN_zero, kn10_sa, kn10_sb]
  decide +kernel
theorem kn10_h : trim1 32768 0 false kn10 = [(false, [⟨0, 0⟩, ⟨327680, 0⟩])] := by
  unfold trim1
  rw [show spA 32768 0 = 0 by decide +kernel, show spB 32768 0 = 32768 by decide +kernel, if_neg (by decide), kn10_half]
  rfl
theorem kn10_a : trim1 0 65536 false kn10 = [(false, kn10)] := by
  unfold trim1
  rw [if_pos (by decide +kernel)]
theorem kn10_n : trim1 5 5 false kn10 = [] := by
  unfold trim1
  rw [show spA 5 5 = 5 by decide +kernel, show spB 5 5 = 5 by decide +kernel, if_neg (by decide)]
  unfold partP
  rw [cutL_no (Int.le_refl _)]
  rfl
theorem kn10_s : spA 9 (-1) = 0 ∧ spB 9 (-1) = 9 := by decide +kernel

end Go.Proofs.Ytgnmiilmmbblmaa

namespace Go.Proofs.Ytgnmiilmmbblmaa
open Go Go.RowKit
open M

set_option maxRecDepth 100000 in
set_option maxHeartbeats 2000000 in
theorem l11_same (c : Bool) {v u : Value} {ps : List Pt} {ds : List Int} {w : World} (h : Psl w v ps) (hi : Isl w u ds) (h900 : ps.length ≤ 8796093022000) :
    Calls Try.prog 9 #[.agg #[.bool c, v], u] w fun e w' => e = .returned (.bool true) ∧ Below w.heap.size w w' := by
  obtain ⟨B, hB⟩ : ∃ B, w.heap.size = B := ⟨_, rfl⟩
  obtain ⟨W, hW⟩ : ∃ W, w.alloc (.cells #[.bool c, v] 24) = W := ⟨_, rfl⟩
  have hp : Has W B #[.bool c, v] 24 := by rw [← hW]; exact has_new hB
  have hbl : Below w.heap.size w W := by rw [← hW]; exact (Below.refl _ _).alloc (Nat.le_refl _) _
  have hs := h.below hbl (Nat.le_refl _)
  have hiW := hi.below hbl
  obtain ⟨L, hL⟩ : ∃ L, dashL c ps ds = L := ⟨_, rfl⟩
  obtain ⟨b, hb⟩ : ∃ b, okD ds = b := ⟨_, rfl⟩
  have OF := Lib.hid (fun (W' : World) (hb : Below W.heap.size W W') => hL ▸ d_of c (hs.below hb (Nat.le_refl _)) (hiW.below hb) h900)
  have DA := Lib.hid (fun (W' : World) (hb : Below W.heap.size W W') => hL ▸ r9_dash c (hs.below hb (Nat.le_refl _)) (hiW.below hb) h900)
  have R1 := Lib.hid (fun (W' : World) (hq : Below W.heap.size W W') => hb ▸ d_right (hiW.below hq))
  have R2 := Lib.hid (fun (W' : World) (hq : Below W.heap.size W W') => hb ▸ r9_dashes (hiW.below hq))
  obtain ⟨au, cu, rfl⟩ := hi.slice
  obtain ⟨ao, n, cap, ev⟩ : ∃ ao n cap, v = .slice ao n cap := by obtain ⟨ao, cap, e, _⟩ := h; exact ⟨_, _, _, e⟩
  subst ev
  obtain ⟨N, hN⟩ : ∃ N, ds.length = N := ⟨_, rfl⟩
  rw [hN] at OF DA R1 R2 ⊢
  have HP := Lib.hid hp
  have HBL := Lib.hid hbl
  have HW := Lib.hid hW
  have eb : (b == b) = true := by simp
  clear hp hbl hW hs hiW hL hN h hi hb
  go_enter Try.func9, Try.ntmps9
  go_upto_region 1 with fail
  try rw [HW.out]
  clear hB
  refine wp_region_gen 12 [8, 11] [] [0, 0, 0, 0, 0, 0, 0, 0, 1, 0, 0, 1] (by kernel_rfl) (by kernel_rfl) (fun c a d v w h => by cases d <;> exact h) trivial (fun G w' => (∀ v, G 8 = some v → LR L v w') ∧ (∀ v, G 11 = some v → LR L v w')) (fun G w w' h hb => ⟨fun v hv => (h.1 v hv).stay hb, fun v hv => (h.2 v hv).stay hb⟩) ⟨fun v hv => (by cases hv), fun v hv => (by cases hv)⟩ ?_
  apply Exists.intro
  refine ⟨fun R hR hN => ?_, ?_, ?_⟩
  · have a0 := fun z => LaterR.read (R := R) HP.out 0 _ rfl z
    have a1 := fun z => LaterR.read (R := R) HP.out 1 _ rfl z
    simp only [quietL, takeA]
    repeat (go_big_quiet_step (first | (go_at_call 17; exact LaterR.calls hR (still (R1.out _ (LaterR.below _)))) | (go_at_call 18; exact LaterR.calls hR (still (R2.out _ (LaterR.below _))))))
    exact wpQuiet_nil rfl
  · intro i oo hi ho
    have hi' : i = 8 ∨ i = 11 := by simpa using hi
    clear hi
    rcases hi' with rfl | rfl
    · cases ho
      intro G w' hG hGn hdep hb hR
      refine ⟨wanted_put (by kernel_rfl) hGn rfl, gives_none (by kernel_rfl) hGn ?_⟩
      unfold gives
      simp [go_sem]
      refine (OF.out w' hb).mono ?_
      rintro r w'' ⟨l, zs, rfl, hy, hz, hbb⟩
      refine ⟨_, rfl, hb.trans (hbb.mono hb.size), fun v hv => ?_, fun v hv => ?_⟩
      · rw [updV_eq] at hv; cases hv; exact ⟨zs, hy, hz⟩
      · rw [updV_ne G _ (by omega)] at hv; exact (hR.2 v hv).stay hbb
    · cases ho
      intro G w' hG hGn hdep hb hR
      refine ⟨wanted_put (by kernel_rfl) hGn rfl, gives_none (by kernel_rfl) hGn ?_⟩
      unfold gives
      simp [go_sem]
      refine (DA.out w' hb).mono ?_
      rintro r w'' ⟨l, zs, rfl, hy, hz, hbb⟩
      refine ⟨_, rfl, hb.trans (hbb.mono hb.size), fun v hv => ?_, fun v hv => ?_⟩
      · rw [updV_ne G _ (by omega)] at hv; exact (hR.1 v hv).stay hbb
      · rw [updV_eq] at hv; cases hv; exact ⟨zs, hy, hz⟩
  · intro G w3 hb3 hR hG hN
    obtain ⟨v8, e8⟩ := hG 8 (by simp)
    obtain ⟨v11, e11⟩ := hG 11 (by simp)
    obtain ⟨za, ya, qa⟩ := hR.1 v8 e8
    obtain ⟨zb, yb, qb⟩ := hR.2 v11 e11
    have nn : ∀ j, j < 8 → G j = none := fun j hj => hN j (by simp; omega)
    have PY := Lib.hid (r8_polys ya yb (bares_len (qa.trans qb.symm)) (bares_at (qa.trans qb.symm)))
    have BB : Hid (Below w.heap.size w w3) := Lib.hid (HBL.out.trans (hb3.mono HBL.out.size))
    obtain ⟨aoa, capa, rfl⟩ := ya.slice
    obtain ⟨aob, capb, rfl⟩ := yb.slice
    simp only [putV, dstAt, e8, e11, nn 0 (by decide), nn 1 (by decide), nn 2 (by decide), nn 3 (by decide), nn 4 (by decide), nn 5 (by decide), nn 6 (by decide), nn 7 (by decide), hN 9 (by simp), hN 10 (by simp), List.drop_succ_cons, List.drop_zero, List.getElem?_cons_succ, List.getElem?_cons_zero, Option.bind_some]
    clear hb3 hR hG hN nn ya yb e8 e11 qa qb
    go_wp2_with fail
    refine PY.out.mono ?_
    rintro e w4 ⟨rfl, hq4⟩
    have B4 := Lib.hid (BB.out.trans (hq4.mono BB.out.size))
    clear hq4
    go_wp2
    go_ret
    exact ⟨rfl, B4.out⟩

end Go.Proofs.Ytgnmiilmmbblmaa

namespace Go.Proofs.Ytgnmiilmmbblmaa
open Go Go.RowKit
open M

def kn11 : List Pt := [⟨0, 0⟩, ⟨1048576, 0⟩]
def kd11 : List Int := [131072, 196608]
theorem kn11_sa : sa kn11 0 = ⟨0, 0⟩ := by decide +kernel
theorem kn11_sb : sb kn11 0 = ⟨1048576, 0⟩ := by decide +kernel
theorem kn11_side : sideL kn11 0 = 1048576 := by
  unfold sideL longP
  rw [kn11_sa, kn11_sb]
  unfold hyp
  rw [show (wide ((1048576 : Int) - 0) * wide (1048576 - 0) + wide (0 - 0) * wide (0 - 0)).toNat = 1099511627776 by decide +kernel, isq_eq (r := 1048576) (by decide) (by decide)]
  rfl
theorem kn11_len : lengthL false kn11 = 1048576 := by
  show add (lenN kn11 0) (sideL kn11 0) = 1048576
  rw [kn11_side, lenN_zero]
  decide +kernel
theorem kn11_cut {f t : Int} (h : hit kn11 f t 0) : cutN kn11 f t 1 = [onP ⟨0, 0⟩ ⟨1048576, 0⟩ (f - 0) 1048576] ++ [onP ⟨0, 0⟩ ⟨1048576, 0⟩ (t - 0) 1048576] := by
  rw [cutN_first h rfl]
  unfold fromP
  rw [kn11_side, lenN_zero, kn11_sa, kn11_sb]
theorem kn11_dash {n : Nat} {f t : Int} (h1 : mk kd11 (2 * n) = f) (h2 : mk kd11 (2 * n + 1) = t) (h3 : ¬ hold t ≤ hold f) (h4 : 0 < (1048576 : Int) ∧ hold f < 0 + (1048576 : Int) ∧ 0 < hold t) : dashP false kn11 kd11 n = [onP ⟨0, 0⟩ ⟨1048576, 0⟩ (hold f - 0) 1048576] ++ [onP ⟨0, 0⟩ ⟨1048576, 0⟩ (hold t - 0) 1048576] := by
  unfold dashP
  rw [h1, h2, cutL_yes h3]
  exact kn11_cut (by unfold hit; rw [kn11_side, lenN_zero]; exact h4)
theorem kn11_0 : dashP false kn11 kd11 0 = [⟨0, 0⟩, ⟨131072, 0⟩] := by
  rw [kn11_dash (f := 0) (t := 131072) (by decide +kernel) (by decide +kernel) (by decide +kernel) (by decide +kernel)]
  decide +kernel
theorem kn11_1 : dashP false kn11 kd11 1 = [⟨327680, 0⟩, ⟨458752, 0⟩] := by
  rw [kn11_dash (f := 327680) (t := 458752) (by decide +kernel) (by decide +kernel) (by decide +kernel) (by decide +kernel)]
  decide +kernel
theorem kn11_2 : dashP false kn11 kd11 2 = [⟨655360, 0⟩, ⟨786432, 0⟩] := by
  rw [kn11_dash (f := 655360) (t := 786432) (by decide +kernel) (by decide +kernel) (by decide +kernel) (by decide +kernel)]
  decide +kernel
theorem kn11_3 : dashP false kn11 kd11 3 = [⟨983040, 0⟩, ⟨1048576, 0⟩] := by
  rw [kn11_dash (f := 983040) (t := 1114112) (by decide +kernel) (by decide +kernel) (by decide +kernel) (by decide +kernel)]
  decide +kernel
theorem kn11_all : dashL false kn11 kd11 = [(false, [⟨0, 0⟩, ⟨131072, 0⟩]), (false, [⟨327680, 0⟩, ⟨458752, 0⟩]), (false, [⟨655360, 0⟩, ⟨786432, 0⟩]), (false, [⟨983040, 0⟩, ⟨1048576, 0⟩])] := by
  have ok : okD kd11 = true := by decide +kernel
  rw [dashL_some (by decide) ok, dashN_end (n := 4) ok (by decide) (by rw [kn11_len]; decide +kernel) (by decide)]
  rw [dashN_yes (n := 3) (by rw [kn11_len]; decide +kernel) (by rw [kn11_3]; decide), dashN_yes (n := 2) (by rw [kn11_len]; decide +kernel) (by rw [kn11_2]; decide), dashN_yes (n := 1) (by rw [kn11_len]; decide +kernel) (by rw [kn11_1]; decide), dashN_yes (n := 0) (by rw [kn11_len]; decide +kernel) (by rw [kn11_0]; decide), kn11_0, kn11_1, kn11_2, kn11_3, dashN_zero]
  rfl
theorem bares_four {zs : List Po} {p0 p1 p2 p3 : List Pt} (h : zs.map bareY = [(false, p0), (false, p1), (false, p2), (false, p3)]) : zs.length = 4 ∧ (po zs 0).ps = p0 ∧ (po zs 1).ps = p1 := by
  match zs, h with
  | [⟨c, l, ps⟩, ⟨c1, l1, ps1⟩, ⟨c2, l2, ps2⟩, ⟨c3, l3, ps3⟩], h =>
    simp [bareY] at h
    obtain ⟨⟨rfl, rfl⟩, ⟨rfl, rfl⟩, ⟨rfl, rfl⟩, rfl, rfl⟩ := h
    exact ⟨rfl, rfl, rfl⟩

set_option maxRecDepth 100000 in
set_option maxHeartbeats 2000000 in
theorem known11 (w : World) : Calls Try.prog 10 #[] w fun r w' => r = .returned (.bool true) ∧ Below w.heap.size w w' := by
  obtain ⟨B, hB⟩ : ∃ B, w.heap.size = B := ⟨_, rfl⟩
  obtain ⟨W, hW⟩ : ∃ W, ((w.alloc (.cells #[.int .i64 0, .int .i64 0, .int .i64 1048576, .int .i64 0] 31)).alloc (.cells #[.bool false, .slice (some ⟨B, 0, none⟩) 2 2] 24)).alloc (.cells #[.int .i64 131072, .int .i64 196608] 2) = W := ⟨_, rfl⟩
  have k0 : Has W B #[.int .i64 0, .int .i64 0, .int .i64 1048576, .int .i64 0] 31 := by rw [← hW]; exact ((has_new hB).alloc _).alloc _
  have k2 : Has W (B + 2) #[.int .i64 131072, .int .i64 196608] 2 := by rw [← hW]; exact has_new (by simp [hB])
  have hs : Psl W (.slice (some ⟨B, 0, none⟩) 2 2) kn11 := psl_lit (ps := kn11) 2 2 rfl (by decide) k0 rfl
  have hi : Isl W (.slice (some ⟨B + 2, 0, none⟩) 2 2) kd11 := isl_lit (ds := kd11) rfl (by decide) k2 rfl
  have bW : Below w.heap.size w W := by rw [← hW]; exact (((Below.refl _ _).alloc (by omega) _).alloc (by simp) _).alloc (by simp; omega) _
  have OF := Lib.hid (kn11_all ▸ d_of false hs hi (by decide))
  have BW := Lib.hid bW
  have HW := Lib.hid hW
  have RN := Lib.hid (fun (w' : World) => (show okD [] = true by decide +kernel) ▸ d_right (isl_nil w' none 0))
  have RZ := Lib.hid (fun (w' : World) => (show okD [0] = false by decide +kernel) ▸ d_right (isl_lit (ds := [0]) (n := 1) (c := 1) rfl (by decide) (has_new (w := w') (cs := #[.int .i64 0]) (t := 2) rfl) rfl))
  clear hs hi bW hW k0 k2
  go_enter Try.func10, Try.ntmps10
  go_wp2_with fail
  rw [HW.out]
  clear hB
  refine OF.out.mono ?_
  rintro e w1 ⟨v1, z1, rfl, hy1, hz1, hb1⟩
  obtain ⟨h4, p0, p1⟩ := bares_four hz1
  obtain ⟨ao1, cap1, rfl⟩ := hy1.slice
  rw [h4] at hy1 ⊢
  obtain ⟨g, o, e1, row, _⟩ := hy1.row (by decide)
  subst e1
  have c1 := row.c1 0 (by omega)
  have d1 := row.c1 1 (by omega)
  have s1 := row.sl 0 (by omega)
  have t1 := row.sl 1 (by omega)
  rw [p0] at s1
  rw [p1] at t1
  simp only [Nat.zero_mul, Nat.one_mul, Nat.add_zero] at c1 d1
  obtain ⟨ao4, cap4, ev, _, hr4⟩ := s1
  obtain ⟨g4, o4, e4, r4⟩ := hr4 (by decide)
  obtain ⟨ao5, cap5, ev5, _, hr5⟩ := t1
  obtain ⟨g5, o5, e5, r5⟩ := hr5 (by decide)
  subst e4
  subst e5
  rw [ev] at c1
  rw [ev5] at d1
  have x1 := r4.c0 1 (by decide)
  have x2 := r5.c0 0 (by decide)
  simp only [Nat.one_mul, Nat.zero_mul, Nat.add_zero, pt_cons, pt_zero] at x1 x2
  have B1 := Lib.hid (BW.out.trans (hb1.mono BW.out.size))
  clear hy1 hz1 hb1 row hr4 hr5 r4 r5 p0 p1 ev ev5
  go_wp2_with fail
  refine (RZ.out _).mono ?_
  rintro e w2 ⟨rfl, rfl⟩
  have B2 := Lib.hid (B1.out.alloc B1.out.size (.cells #[.int .i64 0] 2))
  go_wp2_with fail
  refine (RN.out _).mono ?_
  rintro e w3 ⟨rfl, rfl⟩
  go_wp2
  go_ret
  exact ⟨rfl, B2.out⟩

end Go.Proofs.Ytgnmiilmmbblmaa

namespace Go.Proofs.Ytgnmiilmmbblmaa
open Go Go.RowKit
open M

/-- Numbers of the call's own. -/
def Jown (w : World) (base : Nat) (v : Value) (xs : List Int) : Prop := w.ownsRow base 2 1 v xs.length (xs.map (Value.int .i64))
theorem Jown.sl {w : World} {B : Nat} {v : Value} {xs : List Int} (h : Jown w B v xs) (hf : xs.length ≤ 1000) : Isl w v xs := by
  rcases h.2 with ⟨rfl, hn⟩ | ⟨g, cap, cur, rfl, _, hg, _, _, _, ht⟩
  · exact ⟨none, 0, by rw [hn], hf, fun h0 => by omega⟩
  · refine ⟨_, cap, rfl, hf, fun _ => ⟨g, 0, rfl, fun i hi => ?_⟩⟩
    have hu : (xs.map (Value.int .i64))[i]? = some (.int .i64 (nm xs i)) := by simp [nm, List.getD, hi]
    rw [Nat.zero_add, cell_of_row w g i cur _ _ hg]
    rw [← ht, List.getElem?_take] at hu
    split at hu
    · simpa using hu
    · cases hu
theorem Jown.nil (w : World) (base : Nat) : Jown w base (.slice none 0 0) [] := World.ownsRow_nil _ _ _ _
theorem Jown.alloc {w : World} {B : Nat} {v : Value} {xs : List Int} (h : Jown w B v xs) (o : Obj) : Jown (w.alloc o) B v xs := World.ownsRow.alloc h o
theorem Jown.base {w : World} {B : Nat} {v : Value} {xs : List Int} (h : Jown w B v xs) (k : Nat) (hk : v.ownBlock = some k) : B ≤ k ∧ k < w.heap.size := World.ownsRow.lt h k hk
theorem Jown.below {w w' : World} {B : Nat} {v : Value} {xs : List Int} (h : Jown w B v xs) (hb : Below w.heap.size w w') : Jown w' B v xs := by
  refine World.ownsRow.kept h (grownBy_below hb (Nat.le_refl _)) ?_
  by_cases e : v.ownBlock = none
  · exact Or.inl e
  · exact Or.inr e
theorem Jown.len {w : World} {B : Nat} {v : Value} {xs : List Int} (h : Jown w B v xs) : ∃ ao cap, v = .slice ao xs.length cap := by
  rcases h.2 with ⟨rfl, hn⟩ | ⟨g, cap, cur, rfl, _⟩
  · exact ⟨none, 0, by rw [hn]⟩
  · exact ⟨_, cap, rfl⟩
theorem Try.infoI64 : (Try.prog.info? 2).map (fun i => (i.zero, i.size, i.bytes)) = some (some (.int .i64 0), 1, 8) := by kernel_rfl
/-- One number more. -/
theorem wpList_append_j {W : World} {B : Nat} {l : Value} {xs : List Int} {ops : Array Oper} {rest : List Oper} {op : Oper} {a : Act} {Q : Exit → Act → World → Prop} (hgd : op.guard = none) (s x : Operand)
    (hop : op.op = .call { callee := .builtin .append, args := #[s, x], argTypes := #[28, 28] }) (hs : a.eval s = l) (H : Nat) (hx : a.eval x = .slice (some ⟨H, 0, none⟩) 1 1) (y : Int) (hn : Has W H #[.int .i64 y] 2)
    (ho : Jown W B l xs) (hf : xs.length ≤ 900) (hb : B ≤ W.heap.size)
    (h : ∀ t' w', Jown w' B t' (xs ++ [y]) → W.grownBy w' l.ownBlock → wpList Try.prog ops Q rest (a.put op.dst t') w') : wpList Try.prog ops Q (op :: rest) a W := by
  obtain ⟨j0, hj, hy0, hy1, hy2⟩ := info_parts Try.infoI64
  refine wpList_append_near _ hgd s x 28 hop B 2 j0 (.int .i64 0) 1 8 Try.underlying28 hj hy0 hy1 hy2 rfl (by decide) l xs.length (xs.map (Value.int .i64)) hs ho ⟨H, 0, none⟩ 1 1 [.int .i64 y] hx rfl ?_ ?_ ?_ ?_ hb ?_
  · intro j u hu
    rw [Addr.add_lit, Nat.zero_add]
    exact hn.cell j u (by simpa using hu)
  · intro u hu
    simp at hu
    subst hu
    rfl
  · unfold maxLen; omega
  · omega
  · intro t' w' ho' hg _
    exact h t' w' (by unfold Jown; simpa using ho') hg

end Go.Proofs.Ytgnmiilmmbblmaa

namespace Go.Proofs.Ytgnmiilmmbblmaa
open Go Go.RowKit
open M

/-- Numbers of the call's own. -/
def Iown (w : World) (base : Nat) (v : Value) (xs : List Int) : Prop := w.ownsRow base 3 1 v xs.length (xs.map (Value.int .i64))
theorem Iown.nums {w : World} {B : Nat} {v : Value} {xs : List Int} (h : Iown w B v xs) (hf : xs.length ≤ 1000) : Nums w v := by
  rcases h.2 with ⟨rfl, hn⟩ | ⟨g, cap, cur, rfl, _, hg, _, _, _, ht⟩
  · exact Or.inl ⟨_, _, rfl⟩
  · by_cases h0 : xs.length = 0
    · rw [h0]; exact Or.inl ⟨_, _, rfl⟩
    · refine Or.inr ⟨g, 0, _, cap, rfl, by omega, by omega, fun i hi => ?_⟩
      have hu : (xs.map (Value.int .i64))[i]? = some (.int .i64 (xs.getD i 0)) := by simp [List.getD, hi]
      refine ⟨xs.getD i 0, ?_⟩
      rw [Nat.zero_add, cell_of_row w g i cur _ _ hg]
      rw [← ht, List.getElem?_take] at hu
      split at hu
      · simpa using hu
      · cases hu
theorem Try.infoInt : (Try.prog.info? 3).map (fun i => (i.zero, i.size, i.bytes)) = some (some (.int .i64 0), 1, 8) := by kernel_rfl

theorem Nums.on {w w' : World} {v : Value} (h : Nums w v) (hb : Below w.heap.size w w') : Nums w' v := by
  rcases h with h | ⟨b, o, n, cap, hv, h0, h1, hc⟩
  · exact Or.inl h
  · refine Or.inr ⟨b, o, n, cap, hv, h0, h1, fun i hi => ?_⟩
    obtain ⟨x, hx⟩ := hc i hi
    exact ⟨x, (hb.cell (p := ⟨b, _, _⟩) (World.block_lt_of_cell? w _ hx)).trans hx⟩
theorem new_one {w : World} {x : Value} {t : TypeId} {g : Nat} (hg : w.heap.size = g) : ∀ j u, [x][j]? = some u → (w.alloc (.cells #[x] t)).cell? ((⟨g, 0, none⟩ : Addr).add j) = some u := by
  intro j u hu
  rw [Addr.add_lit, Nat.zero_add]
  exact (has_new hg).cell j u (by simpa using hu)
theorem Iown.alloc {w : World} {B : Nat} {v : Value} {xs : List Int} (h : Iown w B v xs) (o : Obj) : Iown (w.alloc o) B v xs := World.ownsRow.alloc h o
theorem Iown.base {w : World} {B : Nat} {v : Value} {xs : List Int} (h : Iown w B v xs) (k : Nat) (hk : v.ownBlock = some k) : B ≤ k ∧ k < w.heap.size := World.ownsRow.lt h k hk
theorem ones_one (x : Int) : ∀ u ∈ [Value.int .i64 x], u.oneCell' = true := by
  intro u hu
  simp at hu
  subst hu
  rfl

end Go.Proofs.Ytgnmiilmmbblmaa

namespace Go.Proofs.Ytgnmiilmmbblmaa
open Go Go.RowKit
open M

/-- Places as a tape of layer 9 gives them. -/
def Small9 (ps : List Pt) : Prop := ∀ i, i < ps.length → -327680 ≤ (pt ps i).x ∧ (pt ps i).x ≤ 1376255 ∧ -327680 ≤ (pt ps i).y ∧ (pt ps i).y ≤ 1376255
theorem Small9.nil : Small9 [] := fun i hi => by simp at hi
theorem Small9.snoc {ps : List Pt} {p : Pt} (h : Small9 ps) (h1 : -327680 ≤ p.x) (h2 : p.x ≤ 1376255) (h3 : -327680 ≤ p.y) (h4 : p.y ≤ 1376255) : Small9 (ps ++ [p]) := by
  intro i hi
  by_cases e : i = ps.length
  · subst e; rw [pt_last]; exact ⟨h1, h2, h3, h4⟩
  · rw [pt_left (by simp at hi; omega)]; exact h i (by simp at hi; omega)
/-- A poly that a tape fills: it lies in block go, its list l in blocks behind it, the result's block is B. -/
structure Tpp (w : World) (g : Nat) (v : Value) (B go : Nat) (c : Bool) (ps : List Pt) (l : Value) (wr : World) : Prop where
  own : Pown wr (go + 1) l ps
  out : Has wr go #[.bool c, l] 24
  res : Has wr B #[.bool false, .slice none 0 0] 24
  tp : Tp wr g v
  grown : w.grownBy wr (some g)
  small : Small9 ps
  lo : B < go
  lg : g < B
  hB : w.heap.size = B
section
variable {w wr W w' w2 : World} {g B go : Nat} {v l l' : Value} {c : Bool} {ps qs : List Pt}
theorem Tpp.alloc (h : Tpp w g v B go c ps l wr) (o : Obj) : Tpp w g v B go c ps l (wr.alloc o) :=
  ⟨h.own.alloc o, h.out.alloc o, h.res.alloc o, tp_alloc h.tp o, grownBy_own h.grown (World.grownBy_alloc wr o none) (fun k hk => by cases hk), h.small, h.lo, h.lg, h.hB⟩
theorem Tpp.call (h : Tpp w g v B go c ps l wr) (ht : Tp w2 g v) (hg : wr.grownBy w2 (some g)) : Tpp w g v B go c ps l w2 :=
  ⟨h.own.young hg (by have := h.lg; have := h.lo; omega), has_grown h.out hg (by have := h.lg; have := h.lo; omega), has_grown h.res hg (by have := h.lg; omega), ht, grownBy_trans h.grown hg, h.small, h.lo, h.lg, h.hB⟩
theorem Tpp.away (h : Tpp w g v B go c ps l W) : l.ownBlock ≠ some go ∧ l.ownBlock ≠ some B := ⟨fun e => by have := (h.own.base go e).1; omega, fun e => by have := (h.own.base B e).1; have := h.lo; omega⟩
/-- The list has grown, and is stored. -/
theorem Tpp.put (ht0 : Tp w g v) (h : Tpp w g v B go c ps l W) (ho : Pown w' (go + 1) l' qs) (hg : W.grownBy w' l.ownBlock) (hs : Small9 qs) : Tpp w g v B go c qs l' (w'.setCell ⟨go, 1, none⟩ l') := by
  have b0 := h.hB
  have b1 := h.lo
  have b2 := h.lg
  have hset : w'.grownBy (w'.setCell ⟨go, 1, none⟩ l') (some go) := grownBy_set (World.grownBy.refl _ _) _ _
  have hl : ∀ k, l.ownBlock = some k → w.heap.size ≤ k := fun k hk => by have := (h.own.base k hk).1; omega
  have t1 : Tp w' g v := ht0.young h.tp hg hl
  have g1 : w.grownBy w' (some g) := grownBy_own h.grown hg hl
  have hk : Has w' go #[.bool c, l] 24 := (hg.block go h.out.lt (fun e => h.away.1 e.symm)).trans h.out
  have hr : Has w' B #[.bool false, .slice none 0 0] 24 := (hg.block B h.res.lt (fun e => h.away.2 e.symm)).trans h.res
  refine ⟨ho.kept hset (fun k hk e => by simp at hk; have := (ho.base k e).1; omega), ?_, has_grown hr hset (by omega), ht0.young t1 hset (fun k hk => by simp at hk; omega), grownBy_own g1 hset (fun k hk => by simp at hk; omega), hs, h.lo, h.lg, h.hB⟩
  have := has_set hk 1 l'
  simpa using this
theorem Tpp.fine (h : Tpp w g v B go c ps l W) (hg : W.grownBy w' l.ownBlock) : w'.cell? ⟨go, 1, none⟩ = some l ∧ w'.frozen? ⟨go, 1, none⟩ = false := by
  have hk : Has w' go #[.bool c, l] 24 := (hg.block go h.out.lt (fun e => h.away.1 e.symm)).trans h.out
  exact ⟨hk.cell 1 _ rfl, has_fro hk 1⟩
/-- A block that is neither the list's nor the poly's stays where the list grows. -/
theorem keep_put {k : Nat} {cs : Array Value} {t : TypeId} (hg : W.grownBy w' l.ownBlock) (hk : Has W k cs t) (hne : l.ownBlock ≠ some k) (hgo : k ≠ go) (l' : Value) : Has (w'.setCell ⟨go, 1, none⟩ l') k cs t :=
  has_grown ((hg.block k hk.lt (fun e => hne e.symm)).trans hk) (grownBy_set (World.grownBy.refl _ _) _ _) hgo
end

def Polyss (w : World) (g : Nat) (v : Value) (e : Ending) (w' : World) : Prop := ∃ (c : Bool) (l : Value) (ps : List Pt), e = .returned (.agg #[.bool c, l]) ∧ ps.length ≤ 12 ∧ Small9 ps ∧ Pown w' w.heap.size l ps ∧ Tp w' g v ∧ w.grownBy w' (some g)

set_option maxRecDepth 100000 in
set_option maxHeartbeats 4000000 in
theorem l9_poly (g : Nat) (v : Value) (w : World) (h : Tp w g v) : Calls Try.prog 7 #[.pointer (some ⟨g, 0, none⟩)] w (Polyss w g v) := by
  obtain ⟨B, hB⟩ : ∃ B, w.heap.size = B := ⟨_, rfl⟩
  have hgB : g < B := by rw [← hB]; exact h.lt
  have h0 : Tp (w.alloc (.cells #[.bool false, .slice none 0 0] 24)) g v := tp_alloc h _
  have g0 : w.grownBy (w.alloc (.cells #[.bool false, .slice none 0 0] 24)) (some g) := World.grownBy_alloc _ _ _
  have k0 : Has (w.alloc (.cells #[.bool false, .slice none 0 0] 24)) B #[.bool false, .slice none 0 0] 24 := has_new hB
  have HT := Lib.hid h
  have H0 := Lib.hid h0
  have G0 := Lib.hid g0
  have K0 := Lib.hid k0
  have HW := Lib.hid hB
  clear h h0 g0 k0
  go_enter Try.func7, Try.ntmps7
  go_wp2_with fail
  refine (t_next g v 2 _ (by omega) (by omega) H0.out).mono ?_
  rintro e w1 ⟨z, rfl, z0, z1, ht, hg⟩
  obtain ⟨c, hc⟩ : ∃ c : Bool, (z == 0) = c := ⟨_, rfl⟩
  have s1 : B < w1.heap.size := by have := hg.size; simp at this; omega
  obtain ⟨go, hgo⟩ : ∃ k, w1.heap.size = k := ⟨_, rfl⟩
  obtain ⟨W, hW⟩ : ∃ W, w1.alloc (.cells #[.bool c, .slice none 0 0] 24) = W := ⟨_, rfl⟩
  have T0 : Tpp w g v B go c [] (.slice none 0 0) W := by
    rw [← hW]
    exact ⟨Pown.nil _ _, has_new hgo, (has_grown K0.out hg (by omega)).alloc _, tp_alloc ht _, grownBy_own (grownBy_trans G0.out hg) (World.grownBy_alloc _ _ none) (fun k hk => by cases hk), Small9.nil, by omega, hgB, HW.out⟩
  have T := Lib.hid T0
  have HWW := Lib.hid hW
  have HC := Lib.hid hc
  clear T0 hW ht hg H0 G0 K0 s1 hB
  go_upto_region 2 with fail
  rw [HWW.out]
  clear hgo hc z0 z1
  go_wp2_with fail
  refine (t_next g v 7 _ (by omega) (by omega) T.out.tp).mono ?_
  rintro e w2 ⟨x, rfl, x0, x1, ht, hg⟩
  have T2 := Lib.hid (T.out.call ht hg)
  obtain ⟨n0, rfl⟩ : ∃ n : Nat, x = n := ⟨x.toNat, by omega⟩
  clear ht hg T HWW
  go_wp2_with fail
  go_loopw [4] (fun i wr => ∃ (m : Nat) (l : Value) (ps : List Pt), i = .int .i64 m ∧ m ≤ 6 ∧ ps.length + 2 * m ≤ 12 ∧ Tpp w g v B go c ps l wr) (fun i _ => (intOf i).toNat)
  case atStart => exact ⟨n0, _, _, rfl, by omega, by simp; omega, T2.out⟩
  case round =>
    obtain ⟨m, l, ps, rfl, hm, hl, hT⟩ := hrel
    clear T2
    by_cases hm0 : m = 0
    · subst hm0
      have c0 := hT.out.cell 0 _ rfl
      have c1 := hT.out.cell 1 _ rfl
      have v0 := hT.res.cell 0 _ rfl
      have v1 := hT.res.cell 1 _ rfl
      have fz := has_fro hT.res
      obtain ⟨aol, capl, hv⟩ := hT.own.len
      obtain ⟨ln, hln⟩ : ∃ k, ps.length = k := ⟨_, rfl⟩
      rw [hln] at hv
      subst hv
      have RR : Polyss w g v (.returned (.agg #[.bool c, .slice aol ln capl])) ((wr.setCell ⟨B, 0, none⟩ (.bool c)).setCell ⟨B, 1, none⟩ (.slice aol ln capl)) := by
        have hset : wr.grownBy ((wr.setCell ⟨B, 0, none⟩ (.bool c)).setCell ⟨B, 1, none⟩ (.slice aol ln capl)) (some B) := grownBy_set (grownBy_set (World.grownBy.refl _ _) _ _) _ _
        have q1 := hT.hB
        have q2 := hT.lo
        refine ⟨c, _, ps, rfl, by omega, hT.small, ?_, HT.out.young hT.tp hset (fun k hk => by simp at hk; omega), grownBy_own hT.grown hset (fun k hk => by simp at hk; omega)⟩
        exact (hT.own.lower (by omega)).kept hset (fun k hk e => hT.away.2 (by rw [e]; exact hk.symm))
      have RRH := Lib.hid RR
      clear RR hT hln
      go_wp2
      refine bodyPost_ret (v := .agg #[.bool c, .slice aol ln capl]) (by simp [results, Try.results7, go_sem, v0, v1]) rfl ?_
      exact RRH.out
    · obtain ⟨m', rfl⟩ : ∃ k, m = k + 1 := ⟨m - 1, by omega⟩
      have om : (m' : Int) ≤ 5 := by omega
      have T3 := Lib.hid hT
      clear hT
      go_wp2_with fail
      refine (t_number g v (-5) 20 _ (by omega) (by omega) (by omega) T3.out.tp).mono ?_
      rintro e w3 ⟨x, rfl, x0, x1, ht, hg⟩
      have T4 := Lib.hid (T3.out.call ht hg)
      clear ht hg T3
      go_wp2_with fail
      refine (t_number g v (-5) 20 _ (by omega) (by omega) (by omega) T4.out.tp).mono ?_
      rintro e w4 ⟨y, rfl, y0, y1, ht, hg⟩
      have T5 := T4.out.call ht hg
      clear ht hg T4
      obtain ⟨gx, hgx⟩ : ∃ k, w4.heap.size = k := ⟨_, rfl⟩
      obtain ⟨V, hV⟩ : ∃ V, w4.alloc (.cells (pCells ⟨x, y⟩) 31) = V := ⟨_, rfl⟩
      have T6 : Tpp w g v B go c ps l V := by rw [← hV]; exact T5.alloc _
      have kx : Has V gx (pCells ⟨x, y⟩) 31 := by rw [← hV]; exact has_new hgx
      have nx : l.ownBlock ≠ some gx := fun e => by have := (T5.own.base gx e).2; omega
      have ngo : go < gx := by have := T5.out.lt; omega
      obtain ⟨N, hN⟩ : ∃ k, ps.length = k := ⟨_, rfl⟩
      obtain ⟨aol, capl, hv⟩ := T6.own.len
      rw [hN] at hv hl
      subst hv
      have HN := Lib.hid hN
      have HV := Lib.hid hV
      have K6 := Lib.hid kx
      have T6H := Lib.hid T6
      have NX := Lib.hid nx
      have c1 := T6.out.cell 1 _ rfl
      have p0 := kx.cell 0 _ rfl
      have p1 := kx.cell 1 _ rfl
      have SM : Hid (Small9 (ps ++ [⟨x, y⟩])) := Lib.hid (T6.small.snoc (by show -327680 ≤ x; omega) (by show x ≤ 1376255; omega) (by show -327680 ≤ y; omega) (by show y ≤ 1376255; omega))
      have TA := Lib.hid (T6.alloc (.cells (pCells ⟨x, y⟩) 31))
      have KXA := Lib.hid (kx.alloc (.cells (pCells ⟨x, y⟩) 31))
      have SB : Hid (go + 1 ≤ (V.alloc (.cells (pCells ⟨x, y⟩) 31)).heap.size) := Lib.hid (by have := T6.out.lt; simp; omega)
      have N1 : Hid (N + 1 ≤ 8796093022208) := Lib.hid (by omega)
      have SM2 : Hid (Small9 (ps ++ [⟨x, y⟩, ⟨x, y⟩])) := Lib.hid (by have q := (SM.out.snoc (p := ⟨x, y⟩) (by show -327680 ≤ x; omega) (by show x ≤ 1376255; omega) (by show -327680 ≤ y; omega) (by show y ≤ 1376255; omega)); simpa using q)
      clear hV T5 T6 kx nx hN x0 x1 y0 y1
      go_upto_region 6 with fail
      rw [HV.out]
      clear hgx
      go_wp2_with (at_builtin; refine wpList_append_pl rfl _ _ rfl N HN.out rfl V.heap.size 0 1 1 rfl [⟨x, y⟩] rfl (by decide) N1.out (prow_one ⟨x, y⟩ _) TA.out.own SB.out ?_)
      intro g' cap' w5 ho hg hat
      have f0 := (TA.out.fine hg).1
      have f1 := (TA.out.fine hg).2
      obtain ⟨w6, hw6⟩ : ∃ w6, w5.setCell ⟨go, 1, none⟩ (.slice (some ⟨g', 0, none⟩) (N + 1) cap') = w6 := ⟨_, rfl⟩
      have T7 := Tpp.put HT.out TA.out ho hg SM.out
      have KX7 := keep_put (go := go) hg KXA.out NX.out (by omega) (.slice (some ⟨g', 0, none⟩) (N + 1) cap')
      rw [hw6] at T7 KX7
      have T7H := Lib.hid T7
      have K7 := Lib.hid KX7
      have HW6 := Lib.hid hw6
      clear ho hg hat hw6 T7 KX7 TA KXA SB p0 p1 c1
      go_upto_region 7 with fail
      rw [HW6.out]
      clear f0 f1
      go_wp2_with fail
      refine (t_next g v 6 _ (by omega) (by omega) T7H.out.tp).mono ?_
      rintro e w7 ⟨z, rfl, z0, z1, ht, hg⟩
      have T8 := Lib.hid (T7H.out.call ht hg)
      have K8 := Lib.hid (has_grown K7.out hg (by have := T7H.out.lg; have := T7H.out.lo; omega))
      clear ht hg T7H K7
      by_cases hz : z = 0
      · subst hz
        have c1 := T8.out.out.cell 1 _ rfl
        have p0 := K8.out.cell 0 _ rfl
        have p1 := K8.out.cell 1 _ rfl
        have TA := Lib.hid (T8.out.alloc (.cells (pCells ⟨x, y⟩) 31))
        have SB : Hid (go + 1 ≤ (w7.alloc (.cells (pCells ⟨x, y⟩) 31)).heap.size) := Lib.hid (by have := T8.out.out.lt; simp; omega)
        have N2 : Hid (N + 1 + 1 ≤ 8796093022208) := Lib.hid (by omega)
        have HN2 : Hid ((ps ++ [(⟨x, y⟩ : Pt)]).length = N + 1) := Lib.hid (by rw [List.length_append, HN.out]; rfl)
        clear z0 z1
        go_wp2_with (at_builtin; refine wpList_append_pl rfl _ _ rfl (N + 1) HN2.out rfl w7.heap.size 0 1 1 rfl [⟨x, y⟩] rfl (by decide) N2.out (prow_one ⟨x, y⟩ _) TA.out.own SB.out ?_)
        intro g2 cap2 w8 ho hg hat
        have f0 := (TA.out.fine hg).1
        have f1 := (TA.out.fine hg).2
        have T9 := Lib.hid (Tpp.put HT.out TA.out ho hg SM2.out)
        have LL : Hid ((ps ++ [(⟨x, y⟩ : Pt), ⟨x, y⟩]).length + 2 * m' ≤ 12) := Lib.hid (by simp [HN.out]; omega)
        clear ho hg hat TA SB c1 p0 p1
        go_wp2
        go_roundw
        case rel => exact ⟨m', _, _, by go_num, by omega, LL.out, T9.out⟩
        case measure => simp [intOf]
      · have LL : Hid ((ps ++ [(⟨x, y⟩ : Pt)]).length + 2 * m' ≤ 12) := Lib.hid (by simp [HN.out]; omega)
        clear z0 z1
        go_wp2
        go_roundw
        case rel => exact ⟨m', _, _, by go_num, by omega, LL.out, T8.out⟩
        case measure => simp [intOf]

end Go.Proofs.Ytgnmiilmmbblmaa

namespace Go.Proofs.Ytgnmiilmmbblmaa
open Go Go.RowKit
open M

def Tapess (w : World) (e : Ending) (w' : World) : Prop := ∃ (g : Nat) (v : Value), e = .returned (.pointer (some ⟨g, 0, none⟩)) ∧ Tp w' g v ∧ w.heap.size ≤ g ∧ Below w.heap.size w w'

set_option maxRecDepth 100000 in
set_option maxHeartbeats 2000000 in
theorem l9_tapes (k : Nat) (hk : k ≤ 40) (w : World) : Calls Try.prog 8 #[.int .i64 (k : Int)] w (Tapess w) := by
  obtain ⟨j0, hj, hy0, hy1, hy2⟩ := info_parts Try.infoInt
  obtain ⟨B, hB⟩ : ∃ B, w.heap.size = B := ⟨_, rfl⟩
  have HB := Lib.hid hB
  clear hB
  have ok : (k : Int) ≤ 40 := by omega
  go_enter Try.func8, Try.ntmps8
  go_wp2_with fail
  go_loopw [3, 4] (fun t i wr => ∃ (q : Nat) (xs : List Int), q ≤ 60 ∧ i = .int .i64 q ∧ xs.length = q ∧ Iown wr B t xs ∧ Below B w wr ∧ B ≤ wr.heap.size) (fun _ i _ => 60 - (intOf i).toNat)
  case atStart => exact ⟨0, [], by omega, rfl, rfl, World.ownsRow_nil _ _ _ _, Below.refl _ _, by have := HB.out; omega⟩
  case round =>
    obtain ⟨q, xs, hq, rfl, hl, ho, hb, hs⟩ := hrel
    by_cases hlt : q < 60
    · have o2 : (q : Int) < 60 := by omega
      have HO := Lib.hid ho
      have HL := Lib.hid hl
      have B5 := Lib.hid hb
      have s5 := Lib.hid hs
      clear ho hl hb hs
      go_wp2_with (at_builtin; refine wpList_append_near _ rfl _ _ 33 rfl B 3 j0 (.int .i64 0) 1 8 Try.underlying33 hj hy0 hy1 hy2 rfl (by decide) _ xs.length (xs.map (Value.int .i64)) rfl (HO.out.alloc _) ⟨wr.heap.size, 0, none⟩ 1 1 [.int .i64 _] rfl rfl (new_one rfl) (ones_one _) ?c3 ?c4 ?c5 ?_)
      case c3 => have := HL.out; unfold maxLen; omega
      case c4 => have := HL.out; omega
      case c5 => have := s5.out; simp; omega
      intro t' w6 hown' hg' hnear
      have R : Hid (∃ ys : List Int, ys.length = q + 1 ∧ Iown w6 B t' ys) := Lib.hid ⟨xs ++ [_], by simp [HL.out], by unfold Iown; simpa using hown'⟩
      have B6 : Hid (Below B w w6 ∧ B ≤ w6.heap.size) := Lib.hid ⟨(B5.out.alloc s5.out _).grown hg' (by have := s5.out; simp; omega) (fun k hk => (HO.out.base k hk).1), by have := hg'.size; have := s5.out; simp at *; omega⟩
      clear hown' hg' hnear HO B5 s5
      go_wp2
      go_roundw
      case rel => obtain ⟨ys, y1, y2⟩ := R.out; exact ⟨q + 1, ys, by omega, by go_num, y1, y2, B6.out.1, B6.out.2⟩
      case measure => simp [intOf]; omega
    · have oq : ¬ (q : Int) < 60 := by omega
      have NU := ho.nums (by omega)
      obtain ⟨at_, nt, ct, ev⟩ := NU.shape
      subst ev
      have RR : Tapess w (.returned (.pointer (some ⟨wr.heap.size, 0, none⟩))) (wr.alloc (.cells #[.slice at_ nt ct, .int .i64 0] 35)) := by
        refine ⟨wr.heap.size, _, rfl, tp_start NU (has_new rfl) ((Below.refl _ _).alloc (Nat.le_refl _) _) (Nat.le_refl _), by have := HB.out; omega, ?_⟩
        rw [HB.out]
        exact hb.alloc hs _
      have RRH := Lib.hid RR
      clear RR NU ho hl hb hs
      go_wp2
      go_ret
      exact RRH.out

end Go.Proofs.Ytgnmiilmmbblmaa

namespace Go.Proofs.Ytgnmiilmmbblmaa
open Go Go.RowKit
open M

/-- What stays in the loop over the patterns: what was there, and a pattern that grows. -/
structure Nj (W : World) (t : Value) (xs : List Int) (wr : World) : Prop where
  on : Below W.heap.size W wr
  own : Jown wr W.heap.size t xs
theorem Nj.later {W wr w' : World} {t : Value} {xs : List Int} (h : Nj W t xs wr) (hb : Below wr.heap.size wr w') : Nj W t xs w' := ⟨h.on.trans (hb.mono h.on.size), h.own.below hb⟩
theorem Nj.put {W wr w' : World} {t t' : Value} {xs ys : List Int} {o : Obj} (h : Nj W t xs wr) (ho : Jown w' W.heap.size t' ys) (hg : (wr.alloc o).grownBy w' t.ownBlock) : Nj W t' ys w' :=
  ⟨(h.on.alloc h.on.size _).grown hg (by have := h.on.size; simp; omega) (fun k hk => (h.own.base k hk).1), ho⟩
def lng11 : List Pt := [⟨0, 0⟩, ⟨67108864, 0⟩, ⟨67108864, 67108864⟩]
def bds11 : List Int := [-1, 0, 65535, 65536, 65537, 67108864, 67108865]

set_option maxRecDepth 100000 in
set_option maxHeartbeats 4000000 in
theorem dashNumbers_walk (w : World) :
    Calls Try.prog 3 #[] w fun r w' => r = .returned (.bool true) ∧ Below w.heap.size w w' := by
  obtain ⟨B, hB⟩ : ∃ B, w.heap.size = B := ⟨_, rfl⟩
  have HB := Lib.hid hB
  clear hB
  go_enter Try.func3, Try.ntmps3
  go_wp2_with fail
  go_loopw [1] (fun i wr => ∃ k : Nat, k ≤ 30 ∧ i = .int .i64 k ∧ Below B w wr ∧ B ≤ wr.heap.size) (fun i _ => 30 - (intOf i).toNat)
  case atStart => exact ⟨0, by omega, rfl, Below.refl _ _, by have := HB.out; omega⟩
  case round =>
    obtain ⟨k, hk, rfl, hb, hs⟩ := hrel
    rename World => v4
    have B4 := Lib.hid hb
    have s4 := Lib.hid hs
    clear hb hs
    by_cases hk30 : k < 30
    · have o1 : (k : Int) < 30 := by omega
      go_wp2_with fail
      refine (l9_tapes k (by omega) v4).mono ?_
      rintro e w1 ⟨g, v, rfl, tp1, lg1, hb1⟩
      have P1 := Lib.hid (l9_poly g v w1 tp1)
      have B1 : Hid (Below B w w1 ∧ B ≤ g ∧ B ≤ w1.heap.size) := Lib.hid ⟨B4.out.trans (hb1.mono s4.out), by have := s4.out; omega, by have := hb1.size; have := s4.out; omega⟩
      have LG : Hid (g < w1.heap.size) := Lib.hid tp1.lt
      clear tp1 lg1 hb1 B4 s4
      go_wp2_with fail
      refine P1.out.mono ?_
      rintro e w2 ⟨c, l, ps, rfl, h12, _, ho, tp2, hg2⟩
      obtain ⟨ao, cap, hv⟩ := ho.len
      obtain ⟨N, hN⟩ : ∃ N, ps.length = N := ⟨_, rfl⟩
      rw [hN] at hv
      subst hv
      obtain ⟨gp, hgp⟩ : ∃ g, w2.heap.size = g := ⟨_, rfl⟩
      obtain ⟨W, hW⟩ : ∃ W, w2.alloc (.cells #[.bool c, .slice ao N cap] 24) = W := ⟨_, rfl⟩
      have kp : Has W gp #[.bool c, .slice ao N cap] 24 := by rw [← hW]; exact has_new hgp
      have sp : Psl W (.slice ao N cap) ps := by rw [← hW]; exact (ho.sl (by omega)).alloc _
      have bW : Below B w W ∧ B ≤ W.heap.size := by
        have q := hg2.size
        have q2 := B1.out.2.2
        rw [← hW]
        exact ⟨(below_on B1.out.1 hg2 B1.out.2.1 B1.out.2.2).alloc (by omega) _, by simp; omega⟩
      have KP := Lib.hid kp
      have SP := Lib.hid sp
      have BW := Lib.hid bW
      have HW := Lib.hid hW
      have L12 : Hid (ps.length ≤ 8796093022000) := Lib.hid (by omega)
      clear kp sp bW hW ho tp2 hg2 h12 hN P1 B1 LG
      go_upto_region 5 with fail
      rw [HW.out]
      clear hgp
      go_wp2_with fail
      go_loopw [3, 4] (fun t i wr => ∃ (q : Nat) (xs : List Int), q ≤ 10 ∧ i = .int .i64 q ∧ xs.length = q ∧ Nj W t xs wr) (fun _ i _ => 10 - (intOf i).toNat)
      case atStart => exact ⟨0, [], by omega, rfl, rfl, Below.refl _ _, Jown.nil _ _⟩
      case round =>
        obtain ⟨q, xs, hq, rfl, hl, hN5⟩ := hrel
        rename World => v5
        have N5 := Lib.hid hN5
        have HL := Lib.hid hl
        obtain ⟨aox, capx, ex⟩ := hN5.own.len
        rw [hl] at ex
        subst ex
        clear hN5 hl
        by_cases hq10 : q < 10
        · have o2 : (q : Int) < 10 := by omega
          have SM := Lib.hid (l11_same c (SP.out.below N5.out.on (Nat.le_refl _)) (N5.out.own.sl (by have := HL.out; omega)) L12.out)
          have kp5 := KP.out.below N5.out.on KP.out.lt
          have p0 := kp5.cell 0 _ rfl
          have p1 := kp5.cell 1 _ rfl
          clear kp5
          go_wp2_with fail
          refine SM.out.mono ?_
          rintro e w6 ⟨rfl, hq6⟩
          have N6 := Lib.hid (N5.out.later hq6)
          clear hq6 p0 p1 SM
          go_wp2_with (at_builtin; refine wpList_append_j rfl _ _ rfl rfl w6.heap.size rfl _ (has_new rfl) (N6.out.own.alloc _) ?c3 ?c5 ?_)
          case c3 => have := HL.out; omega
          case c5 => have := N6.out.on.size; simp; omega
          intro t' w7 hown' hg'
          have R : Hid (∃ ys : List Int, ys.length = q + 1 ∧ Nj W t' ys w7) := Lib.hid ⟨_, by simp [HL.out], N6.out.put hown' hg'⟩
          clear hown' hg'
          go_wp2
          go_roundw
          case rel => obtain ⟨ys, y1, y2⟩ := R.out; exact ⟨q + 1, ys, by omega, by go_num, y1, y2⟩
          case measure => simp [intOf]; omega
        · have oq : ¬ (q : Int) < 10 := by omega
          have E : Hid (Below B w v5 ∧ B ≤ v5.heap.size) := Lib.hid ⟨BW.out.1.trans (N5.out.on.mono BW.out.2), by have := N5.out.on.size; have := BW.out.2; omega⟩
          go_wp2
          go_roundw
          case rel => exact ⟨k + 1, by omega, by go_num, E.out.1, E.out.2⟩
          case measure => simp [intOf]; omega
    · have ok : ¬ (k : Int) < 30 := by omega
      obtain ⟨G, hG⟩ : ∃ G, v4.heap.size = G := ⟨_, rfl⟩
      obtain ⟨W, hW⟩ : ∃ W, ((v4.alloc (.cells #[.int .i64 0, .int .i64 0, .int .i64 67108864, .int .i64 0, .int .i64 67108864, .int .i64 67108864] 31)).alloc (.cells #[.bool false, .slice (some ⟨G, 0, none⟩) 3 3] 24)).alloc (.cells #[.int .i64 (-1), .int .i64 0, .int .i64 65535, .int .i64 65536, .int .i64 65537, .int .i64 67108864, .int .i64 67108865] 2) = W := ⟨_, rfl⟩
      have k0 : Has W G #[.int .i64 0, .int .i64 0, .int .i64 67108864, .int .i64 0, .int .i64 67108864, .int .i64 67108864] 31 := by rw [← hW]; exact ((has_new hG).alloc _).alloc _
      have k1 : Has W (G + 1) #[.bool false, .slice (some ⟨G, 0, none⟩) 3 3] 24 := by rw [← hW]; exact (has_new (by simp [hG])).alloc _
      have k2 : Has W (G + 2) #[.int .i64 (-1), .int .i64 0, .int .i64 65535, .int .i64 65536, .int .i64 65537, .int .i64 67108864, .int .i64 67108865] 2 := by rw [← hW]; exact has_new (by simp [hG])
      have sp : Psl W (.slice (some ⟨G, 0, none⟩) 3 3) lng11 := psl_lit (ps := lng11) 3 3 rfl (by decide) k0 rfl
      have il : Isl W (.slice (some ⟨G + 2, 0, none⟩) 7 7) bds11 := isl_lit (ds := bds11) rfl (by decide) k2 rfl
      have bW : Below B w W ∧ B ≤ W.heap.size := by
        have := s4.out
        rw [← hW]
        exact ⟨((B4.out.alloc (by omega) _).alloc (by simp; omega) _).alloc (by simp; omega) _, by simp; omega⟩
      have KP := Lib.hid k1
      have SP := Lib.hid sp
      have IL := Lib.hid il
      have BW := Lib.hid bW
      have HW := Lib.hid hW
      clear k0 k1 k2 sp il bW hW B4 s4
      go_wp2_with fail
      rw [HW.out]
      clear hG
      go_loopw [41] (fun i wr => ∃ j : Nat, j ≤ 7 ∧ i = .int .i64 j ∧ Below W.heap.size W wr) (fun i _ => 7 - (intOf i).toNat)
      case atStart => exact ⟨0, by omega, rfl, Below.refl _ _⟩
      case round =>
        obtain ⟨j, hj, rfl, hb⟩ := hrel
        rename World => v5
        have B5 := Lib.hid hb
        clear hb
        by_cases hj7 : j < 7
        · obtain ⟨_, gi, oi, ei, hci⟩ := (IL.out.below B5.out).at (by decide)
          simp only [Option.some.injEq, Addr.mk.injEq, and_true] at ei
          obtain ⟨rfl, rfl⟩ := ei
          have c0 := hci j hj7
          rw [Nat.zero_add] at c0
          obtain ⟨x, hx⟩ : ∃ x, nm bds11 j = x := ⟨_, rfl⟩
          rw [hx] at c0
          have o1 : (j : Int) < 7 := by omega
          have kp5 := KP.out.below B5.out KP.out.lt
          have p0 := kp5.cell 0 _ rfl
          have p1 := kp5.cell 1 _ rfl
          have bA : Below v5.heap.size v5 (v5.alloc (.cells #[.int .i64 x] 2)) := (Below.refl _ _).alloc (Nat.le_refl _) _
          have bB := B5.out.trans (bA.mono B5.out.size)
          have SM := Lib.hid (l11_same false (SP.out.below bB (Nat.le_refl _)) (isl_lit (ds := [x]) (n := 1) (c := 1) rfl (by decide) (has_new (w := v5) (cs := #[.int .i64 x]) (t := 2) rfl) rfl) (by decide))
          have BB := Lib.hid bB
          clear hci hx kp5 bA bB
          go_wp2_with fail
          refine SM.out.mono ?_
          rintro e w6 ⟨rfl, hq6⟩
          have B6 := Lib.hid (BB.out.trans (hq6.mono BB.out.size))
          clear hq6 p0 p1 c0 SM
          have kp6 := KP.out.below B6.out KP.out.lt
          have p0 := kp6.cell 0 _ rfl
          have p1 := kp6.cell 1 _ rfl
          have bA : Below w6.heap.size w6 (w6.alloc (.cells #[.int .i64 65536, .int .i64 x] 2)) := (Below.refl _ _).alloc (Nat.le_refl _) _
          have bB := B6.out.trans (bA.mono B6.out.size)
          have SM := Lib.hid (l11_same false (SP.out.below bB (Nat.le_refl _)) (isl_lit (ds := [65536, x]) (n := 2) (c := 2) rfl (by decide) (has_new (w := w6) (cs := #[.int .i64 65536, .int .i64 x]) (t := 2) rfl) rfl) (by decide))
          have BC := Lib.hid bB
          clear kp6 bA bB
          go_wp2_with fail
          refine SM.out.mono ?_
          rintro e w7 ⟨rfl, hq7⟩
          have B7 := Lib.hid (BC.out.trans (hq7.mono BC.out.size))
          clear hq7 p0 p1 SM
          go_wp2
          go_roundw
          case rel => exact ⟨j + 1, by omega, by go_num, B7.out⟩
          case measure => simp [intOf]; omega
        · have oj : ¬ (j : Int) < 7 := by omega
          go_wp2_with fail
          refine (known11 _).mono ?_
          rintro e w6 ⟨rfl, hq6⟩
          have B6 : Hid (Below B w w6) := Lib.hid (BW.out.1.trans ((B5.out.trans (hq6.mono B5.out.size)).mono BW.out.2))
          clear hq6
          go_wp2
          go_ret
          exact ⟨rfl, by rw [HB.out]; exact B6.out⟩

end Go.Proofs.Ytgnmiilmmbblmaa

namespace Go.Proofs.Ytgnmiilmmbblmaa.dashNumbers
open Go.ChangeShapes Go.WideShapes Go.ChangeAt Go.RowKit

theorem post_below {H : Type} {enc : TypeId × Value → H} {P : Program} {f : Func} {s : ChangeSpec} {apart fresh handsOn : Bool} {W V : World} {args : Array Value} {v : Value} {ds gs : List (DataW H)} {before pa pv : List MemPlace}
    (hW : DataW.Whole enc P f.params.toList s.vars apart W args.toList ds gs before)
    (hres : ∀ (b : Nat) (sp : Nat → Bool) (hd : Bool), DataW.TrodAll enc P V b sp hd f.resultTypes.toList (v.resultList f.resultTypes.size) (s.fn H (ds ++ gs)).results [])
    (hargs : ∀ sp : Nat → Bool, (∀ p ∈ before, sp p.block = true) → DataW.TrodAll enc P V 0 sp true f.params.toList args.toList (s.fn H (ds ++ gs)).args pa)
    (hvars : ∀ sp : Nat → Bool, (∀ p ∈ before, sp p.block = true) → DataW.TrodVars enc P V sp s.vars (s.fn H (ds ++ gs)).vars pv)
    (hps : before = pa ++ pv) (hb : Below W.heap.size W V) : s.post enc P f apart fresh handsOn false W args v V := by
  have hl : ∀ p ∈ before, (fun b => decide (b < W.heap.size)) p.block = true := fun p hp => by simpa using hW.lt p hp
  refine ⟨ds, gs, before, [], pa, pv, hW, hres _ _ _, hargs _ hl, hvars _ hl, World.keptBut_mono (fun p hp => ⟨hp, ?_⟩) (hb.frame (· ∈ before)), fun h => by cases h⟩
  rw [hps, List.mem_append] at hp
  exact Or.inr hp

theorem own : ownKnob Try.prog.godebug = none := by kernel_rfl

set_option maxRecDepth 100000 in
theorem lifted (os : Os) (started : os.Started) (H : Type) (enc : TypeId × Value → H) :
    ReturnsInHanded {} Try.checked os 3 .any (Rows.dashNumbersSpec.pre6 enc Try.prog Try.f3 Rows.dashNumbersRow.domain false) (Rows.dashNumbersSpec.post enc Try.prog Try.f3 false true false false) := by
  refine returnsInHanded_of_change (C := Try.checked) own started (by kernel_rfl) Try.func3
    (ChangeSpec.witness6 (enc := enc) (C := Try.checked) false ⟨#[], #[], []⟩ 8 (by kernel_rfl) (by kernel_rfl) (by kernel_rfl) (by kernel_rfl)) ?_
  intro W base args ds gs before hval0 hW hcnd _
  have hval : ∀ (j : Nat) t v, Try.f3.params[j]? = some t → args[j]? = some v → Value.okWide Try.prog W .any base t v := hval0
  have hW' := hW
  obtain ⟨p, q, hA0, hV, rfl, hfz, hnd⟩ := hW
  have hA : DataW.TrodAll enc Try.prog W 0 (fun _ => true) true Try.f3.params.toList args.toList ds p := hA0
  rw [Try.params3] at hA hval
  obtain ⟨rfl, rfl, rfl⟩ := trodAll_none hA
  obtain ⟨rfl, rfl⟩ := trodVars_none hV
  clear hA0 hval0
  simp only [List.append_nil] at hW'
  refine (dashNumbers_walk W).mono fun e W' ⟨he, hg⟩ => ?_
  subst he
  exact ⟨_, rfl, post_below (pa := []) (pv := []) hW' (fun _ _ _ => (trodAll_cons_mk (shut_bool Try.underlying4 _) trodAll_mk0)) (fun sp _ => rfl) (fun _ _ => rfl) rfl hg⟩

theorem over : Rows.dashNumbersRow.holds Try.pinned (OpenSpec.ofChange Rows.dashNumbersSpec) :=
  OpenClaim.holds_of_wide 3 Try.f3 rfl rfl rfl rfl rfl rfl rfl ⟨rfl, rfl, rfl, rfl, rfl⟩ rfl rfl rfl rfl rfl (by kernel_rfl) Try.func3 (by kernel_rfl)
    (of_decide_eq_true (by kernel_rfl)) (by unfold Func.isWrapper; first | (rw [if_pos (by decide +kernel)]; kernel_rfl) | (rw [if_neg (by decide +kernel)]; exact ⟨rfl, rfl⟩))
    (fun os started H enc _ => lifted os started H enc)

end Go.Proofs.Ytgnmiilmmbblmaa.dashNumbers
namespace Go.Proofs.Ytgnmiilmmbblmaa
theorem dashNumbers_holds : Rows.DashNumbersSaid := dashNumbers.over
#print axioms dashNumbers_holds
end Go.Proofs.Ytgnmiilmmbblmaa
