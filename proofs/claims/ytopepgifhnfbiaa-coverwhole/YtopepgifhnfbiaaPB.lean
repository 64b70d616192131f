/- Lists of places in memory: 'Psl' (a slice that holds just these places, a thousand at most), 'Pown' (one that lies in blocks of the call's own); what keeps them; make, copy, append of such lists. Conditions: those that each theorem names. -/
import Derived.Test.YtopepgifhnfbiaaPMath
import Derived.Test.YtopepgifhnfbiaaT5
import Derived.Laws.CopyOwn
import Derived.Deep.AppendLies
namespace Go.Proofs.Ytopepgifhnfbiaa
open Go Go.RowKit
open M

/-- A place's cells. -/
abbrev pCells (p : Pt) : Array Value := #[.int .i64 p.x, .int .i64 p.y]
/-- A row of places lies in block g from cell o on. -/
structure Prow (w : World) (g o : Nat) (ps : List Pt) : Prop where
  few : ps.length ≤ 8796093022208
  c0 : ∀ i, i < ps.length → w.cell? ⟨g, o + i * 2, none⟩ = some (.int .i64 (pt ps i).x)
  c1 : ∀ i, i < ps.length → w.cell? ⟨g, o + i * 2 + 1, none⟩ = some (.int .i64 (pt ps i).y)
theorem Prow.lt {w : World} {g o : Nat} {ps : List Pt} (h : Prow w g o ps) (hn : 0 < ps.length) : g < w.heap.size := World.block_lt_of_cell? w _ (h.c0 0 hn)
theorem Prow.block {w w' : World} {g o : Nat} {ps : List Pt} (h : Prow w g o ps) (hb : w'.heap[g]? = w.heap[g]?) : Prow w' g o ps :=
  ⟨h.few, fun i hi => (World.cell?_of_block (a := ⟨g, _, _⟩) hb).trans (h.c0 i hi), fun i hi => (World.cell?_of_block (a := ⟨g, _, _⟩) hb).trans (h.c1 i hi)⟩
/-- The slice's value v holds just these places. -/
def Psl (w : World) (v : Value) (ps : List Pt) : Prop := ∃ ao cap, v = .slice ao ps.length cap ∧ ps.length ≤ 8796093022208 ∧ (0 < ps.length → ∃ g o, ao = some ⟨g, o, none⟩ ∧ Prow w g o ps)
theorem Psl.few {w : World} {v : Value} {ps : List Pt} (h : Psl w v ps) : ps.length ≤ 8796093022208 := by
  obtain ⟨_, _, _, h, _⟩ := h
  exact h
theorem Psl.blocks {w w' : World} {v : Value} {ps : List Pt} (h : Psl w v ps) (hb : ∀ k, k < w.heap.size → v.ownBlock = some k → w'.heap[k]? = w.heap[k]?) : Psl w' v ps := by
  obtain ⟨ao, cap, rfl, hf, hr⟩ := h
  refine ⟨ao, cap, rfl, hf, fun h0 => ?_⟩
  obtain ⟨g, o, rfl, hr'⟩ := hr h0
  exact ⟨g, o, rfl, hr'.block (hb g (hr'.lt h0) rfl)⟩
theorem Psl.below {w w' : World} {v : Value} {ps : List Pt} {B : Nat} (h : Psl w v ps) (hb : Below B w w') (hB : w.heap.size ≤ B) : Psl w' v ps := h.blocks fun k hk _ => hb.block k (by omega)
theorem Psl.grown {w w' : World} {v : Value} {ps : List Pt} {row : Option Nat} (h : Psl w v ps) (hg : w.grownBy w' row) (hr : ∀ k, row = some k → v.ownBlock ≠ some k) : Psl w' v ps :=
  h.blocks fun k hk hv => hg.block k hk fun e => hr k e.symm hv
theorem Psl.alloc {w : World} {v : Value} {ps : List Pt} (h : Psl w v ps) (o : Obj) : Psl (w.alloc o) v ps := h.blocks fun k hk _ => (MapKept.heap_alloc w o).2 k hk
theorem Psl.later {W : World} {v : Value} {ps : List Pt} (h : Psl W v ps) (z : Later W) : Psl z.to v ps := h.below z.below (Nat.le_refl _)
theorem Psl.drewN {w : World} {v : Value} {ps : List Pt} (h : Psl w v ps) (n : Nat) : Psl (w.drewN n) v ps := h.blocks fun _ _ _ => rfl
theorem Psl.drew {w : World} {v : Value} {ps : List Pt} (h : Psl w v ps) : Psl w.drew v ps := h.blocks fun _ _ _ => rfl

/-- A place's cells, as a list; a list of places' cells. -/
def pl (p : Pt) : List Value := [.int .i64 p.x, .int .i64 p.y]
def pls (ps : List Pt) : List Value := ps.flatMap pl
theorem pls_cons (p : Pt) (ps : List Pt) : pls (p :: ps) = pl p ++ pls ps := by simp [pls]
theorem pls_append (ps qs : List Pt) : pls (ps ++ qs) = pls ps ++ pls qs := by simp [pls]
theorem pls_length (ps : List Pt) : (pls ps).length = ps.length * 2 := by
  induction ps with
  | nil => rfl
  | cons p ps ih => rw [pls_cons, List.length_append, ih]; simp [pl]; omega
theorem pls_at {ps : List Pt} {i j : Nat} (hi : i < ps.length) (hj : j < 2) : (pls ps)[i * 2 + j]? = (pl (pt ps i))[j]? := by
  induction ps generalizing i with
  | nil => simp at hi
  | cons p ps ih =>
    rw [pls_cons]
    cases i with
    | zero => rw [pt_zero, Nat.zero_mul, Nat.zero_add, List.getElem?_append_left (by simpa [pl] using hj)]
    | succ i =>
      rw [pt_cons, List.getElem?_append_right (by simp [pl]; omega)]
      rw [← ih (by simpa using hi)]
      congr 1
      simp [pl]; omega
theorem ones_pls (ps : List Pt) : ∀ u ∈ pls ps, u.oneCell' = true := by
  intro u hu
  obtain ⟨p, _, hp⟩ := List.mem_flatMap.1 hu
  simp [pl] at hp
  rcases hp with rfl | rfl <;> rfl
theorem prow_of {w : World} {g o : Nat} {ps : List Pt} (hf : ps.length ≤ 8796093022208) (h : ∀ j u, (pls ps)[j]? = some u → w.cell? ⟨g, o + j, none⟩ = some u) : Prow w g o ps := by
  have key : ∀ i j u, i < ps.length → j < 2 → (pl (pt ps i))[j]? = some u → w.cell? ⟨g, o + i * 2 + j, none⟩ = some u := by
    intro i j u hi hj hu
    rw [Nat.add_assoc]
    exact h _ _ ((pls_at hi hj).trans hu)
  exact ⟨hf, fun i hi => key i 0 _ hi (by omega) rfl, fun i hi => key i 1 _ hi (by omega) rfl⟩
theorem Prow.at {w : World} {g o : Nat} {ps : List Pt} (h : Prow w g o ps) : ∀ j u, (pls ps)[j]? = some u → w.cell? ⟨g, o + j, none⟩ = some u := by
  intro j u hu
  have hj : j < ps.length * 2 := by
    have := (List.getElem?_eq_some_iff.1 hu).1
    rwa [pls_length] at this
  have e1 : j = j / 2 * 2 + j % 2 := by omega
  have hi : j / 2 < ps.length := by omega
  rw [e1, pls_at hi (by omega)] at hu
  rcases (show j % 2 = 0 ∨ j % 2 = 1 by omega) with e | e
  · rw [e] at hu e1
    simp [pl] at hu
    rw [e1, ← hu]
    exact h.c0 _ hi
  · rw [e] at hu e1
    simp [pl] at hu
    rw [e1, ← Nat.add_assoc, ← hu]
    exact h.c1 _ hi
theorem prow_has {w : World} {g : Nat} {ps : List Pt} {cs : Array Value} {t : TypeId} (hf : ps.length ≤ 8796093022208) (h : Has w g cs t) (hc : cs.toList = pls ps) : Prow w g 0 ps := by
  refine prow_of hf fun j u hu => ?_
  rw [Nat.zero_add]
  refine h.cell j u ?_
  rw [← hc] at hu
  simpa using hu
theorem psl_lit {w : World} {g : Nat} {ps : List Pt} {cs : Array Value} {t : TypeId} (n c : Nat) (hn : ps.length = n) (hf : n ≤ 8796093022208) (h : Has w g cs t) (hc : cs.toList = pls ps) : Psl w (.slice (some ⟨g, 0, none⟩) n c) ps := by
  subst hn
  exact ⟨_, c, rfl, hf, fun _ => ⟨g, 0, rfl, prow_has hf h hc⟩⟩
theorem psl_nil (w : World) (ao : Option Addr) (cap : Nat) : Psl w (.slice ao 0 cap) [] := ⟨ao, cap, rfl, by simp, fun h => by simp at h⟩

/-- The value v of a call's own holds just these places, in its own blocks from 'base' on. -/
def Pown (w : World) (base : Nat) (v : Value) (ps : List Pt) : Prop := w.ownsRow base 28 2 v ps.length (pls ps)
theorem Pown.sl {w : World} {base : Nat} {v : Value} {ps : List Pt} (h : Pown w base v ps) (hf : ps.length ≤ 8796093022208) : Psl w v ps := by
  rcases h.2 with ⟨rfl, hn⟩ | ⟨g, cap, cur, rfl, _, hg, _, _, _, ht⟩
  · exact ⟨none, 0, by rw [hn], hf, fun h0 => by omega⟩
  · refine ⟨_, cap, rfl, hf, fun _ => ⟨g, 0, rfl, prow_of hf fun j u hu => ?_⟩⟩
    rw [Nat.zero_add, cell_of_row w g j cur _ _ hg]
    rw [← ht, List.getElem?_take] at hu
    split at hu
    · simpa using hu
    · cases hu
theorem Pown.nil (w : World) (base : Nat) : Pown w base (.slice none 0 0) [] := World.ownsRow_nil _ _ _ _
theorem Pown.alloc {w : World} {base : Nat} {v : Value} {ps : List Pt} (h : Pown w base v ps) (o : Obj) : Pown (w.alloc o) base v ps := World.ownsRow.alloc h o
theorem Pown.kept {w w' : World} {B : Nat} {v : Value} {ps : List Pt} {row : Option Nat} (h : Pown w B v ps) (hg : w.grownBy w' row) (hr : ∀ k, row = some k → v.ownBlock ≠ some k) : Pown w' B v ps := by
  refine World.ownsRow.kept h hg ?_
  by_cases e : v.ownBlock = none
  · exact Or.inl e
  · refine Or.inr fun e2 => ?_
    cases hrow : row with
    | none => rw [hrow] at e2; exact e e2
    | some k => rw [hrow] at e2; exact hr k hrow e2
theorem Pown.base {w : World} {B : Nat} {v : Value} {ps : List Pt} (h : Pown w B v ps) (k : Nat) (hk : v.ownBlock = some k) : B ≤ k ∧ k < w.heap.size := World.ownsRow.lt h k hk
theorem Pown.young {w w' : World} {B g : Nat} {v : Value} {ps : List Pt} (h : Pown w B v ps) (hg : w.grownBy w' (some g)) (hB : g < B) : Pown w' B v ps := h.kept hg fun k hk e => by simp at hk; have := (h.base k e).1; omega
theorem grownBy_below {w w' : World} {B : Nat} (h : Below B w w') (hB : w.heap.size ≤ B) : w.grownBy w' none := ⟨h.os, h.tape, h.output, h.size, fun k hk _ => h.block k (by omega)⟩
theorem Pown.below {w w' : World} {B B' : Nat} {v : Value} {ps : List Pt} (h : Pown w B v ps) (hb : Below B' w w') (hB : w.heap.size ≤ B') : Pown w' B v ps := h.kept (grownBy_below hb hB) fun k hk => by cases hk
theorem Pown.lower {w : World} {B B' : Nat} {v : Value} {ps : List Pt} (h : Pown w B v ps) (hB : B' ≤ B) : Pown w B' v ps := by
  refine ⟨h.1, ?_⟩
  rcases h.2 with h | ⟨g, cap, cur, a, b, r⟩
  · exact Or.inl h
  · exact Or.inr ⟨g, cap, cur, a, by omega, r⟩
theorem Pown.shape {w : World} {B : Nat} {v : Value} {ps : List Pt} (h : Pown w B v ps) (h0 : 0 < ps.length) : ∃ g cap, v = .slice (some ⟨g, 0, none⟩) ps.length cap := by
  rcases h.2 with ⟨_, hn⟩ | ⟨g, cap, cur, rfl, _⟩
  · omega
  · exact ⟨g, cap, rfl⟩
theorem Pown.len {w : World} {B : Nat} {v : Value} {ps : List Pt} (h : Pown w B v ps) : ∃ ao cap, v = .slice ao ps.length cap := by
  rcases h.2 with ⟨rfl, hn⟩ | ⟨g, cap, cur, rfl, _⟩
  · exact ⟨none, 0, by rw [hn]⟩
  · exact ⟨_, cap, rfl⟩
theorem Pown.row {w : World} {B g cap N : Nat} {ps : List Pt} (h : Pown w B (.slice (some ⟨g, 0, none⟩) N cap) ps) (hf : ps.length ≤ 8796093022208) (h0 : 0 < ps.length) : Prow w g 0 ps := by
  obtain ⟨ao, cap', hv, _, hr⟩ := h.sl hf
  simp at hv
  obtain ⟨rfl, _, _⟩ := hv
  obtain ⟨g', o, e, hr⟩ := hr h0
  simp at e
  obtain ⟨rfl, rfl⟩ := e
  exact hr
theorem Pown.fro {w : World} {B g cap N : Nat} {ps : List Pt} (h : Pown w B (.slice (some ⟨g, 0, none⟩) N cap) ps) (hN : ps.length = N) (j : Nat) : w.frozen? ⟨g, j, none⟩ = false := by
  unfold Pown at h
  rw [hN] at h
  exact World.ownsRow.frozenAt h j
/-- Place n of a list stored: both its cells. -/
theorem pls_set {ps : List Pt} {n : Nat} (hn : n < ps.length) (p : Pt) : pls (ps.set n p) = ((pls ps).set (n * 2) (.int .i64 p.x)).set (n * 2 + 1) (.int .i64 p.y) := by
  induction ps generalizing n with
  | nil => simp at hn
  | cons q ps ih =>
    cases n with
    | zero => simp [pls_cons, pl]
    | succ n =>
      rw [List.set_cons_succ, pls_cons, pls_cons, ih (by simpa using hn), List.set_append_right _ _ (by simp [pl]; omega), List.set_append_right _ _ (by simp [pl]; omega)]
      congr 2
      · congr 1; simp [pl]; omega
      · simp [pl]; omega
theorem Pown.put {w : World} {B g cap N n : Nat} {ps : List Pt} (h : Pown w B (.slice (some ⟨g, 0, none⟩) N cap) ps) (hN : ps.length = N) (hn : n < N) (p : Pt) :
    Pown ((w.setCell ⟨g, n * 2, none⟩ (.int .i64 p.x)).setCell ⟨g, n * 2 + 1, none⟩ (.int .i64 p.y)) B (.slice (some ⟨g, 0, none⟩) N cap) (ps.set n p) := by
  subst hN
  unfold Pown at h ⊢
  rw [pls_set hn, List.length_set]
  exact (World.ownsRow.stored (World.ownsRow.stored h _ _).1 _ _).1

/-- What make lays. -/
def zer (n : Nat) : Array Value := madeCells #[.int .i64 0, .int .i64 0] (n * 2)
theorem zer_pls (n : Nat) : (zer n).toList = pls (List.replicate n default) := by
  apply List.ext_getElem?
  intro j
  by_cases h : j < n * 2
  · have e1 : j = j / 2 * 2 + j % 2 := by omega
    have h2 : j % 2 < 2 := by omega
    have e2 : pt (List.replicate n default) (j / 2) = default := by
      unfold pt
      rw [List.getD_eq_getElem?_getD, List.getElem?_replicate]
      split <;> rfl
    have e3 : (pls (List.replicate n default))[j]? = some (.int .i64 0) := by
      rw [e1, pls_at (by simp; omega) h2, e2]
      rcases (show j % 2 = 0 ∨ j % 2 = 1 by omega) with e | e <;> rw [e] <;> rfl
    rw [e3]
    have e4 : (#[.int .i64 0, .int .i64 0] : Array Value)[j % 2]! = .int .i64 0 := by
      rcases (show j % 2 = 0 ∨ j % 2 = 1 by omega) with e | e <;> rw [e] <;> rfl
    have e5 : (zer n)[j]? = some (.int .i64 0) := by
      unfold zer madeCells
      rw [Array.getElem?_map, Array.getElem?_eq_getElem (by simpa using h)]
      simp only [Array.getElem_range, Option.map_some]
      exact congrArg some e4
    simpa using e5
  · rw [List.getElem?_eq_none (by simp [zer, size_madeCells]; omega), List.getElem?_eq_none (by rw [pls_length]; simp; omega)]
theorem Try.infoPt : (Try.prog.info? 28).map (fun i => (i.zero, i.size, i.bytes)) = some (some (.agg #[.int .i64 0, .int .i64 0]), 2, 16) := by kernel_rfl
theorem make_pts {n : Nat} (hn : n ≤ 8796093022208) (w : World) : (Instr.makeSlice 29 (.int .i64 (n : Int)) (.int .i64 (n : Int))).run Try.prog w = .ok (.slice (some ⟨w.heap.size, 0, none⟩) n n) (w.alloc (.cells (zer n) 28)) := by
  obtain ⟨i0, hi, hz0, hz1, hz2⟩ := info_parts Try.infoPt
  have h := run_make (P := Try.prog) w 29 28 i0 _ Try.underlying29 hi hz0 .i64 .i64 n n (by omega) (Int.le_refl _) (by rw [hz2]; omega) (by omega)
  rw [hz1] at h
  simp only [Int.toNat_natCast] at h
  exact h
theorem own_made {w : World} {B n : Nat} (hn : n ≤ 8796093022208) (hb : B ≤ w.heap.size) {H : Nat} (hH : w.heap.size = H) : Pown (w.alloc (.cells (zer n) 28)) B (.slice (some ⟨H, 0, none⟩) n n) (List.replicate n default) := by
  subst hH
  have h := World.ownsRow_lit (e := 28) (size := 2) w (zer n) n hb (by unfold maxLen; omega) (by simp [zer, size_madeCells])
  unfold Pown
  rw [List.length_replicate, ← zer_pls]
  exact h

section
variable {P : Program}
/-- 'copy' of elements of 's' cells into a row of the call's own, from its head: as many cells as both have. -/
theorem run_copy_wide (w : World) (dT sT ty elem : TypeId) (g dLen dCap : Nat) (a : Addr) (sLen sCap s : Nat) (cur : Array Value) (t : TypeId) (cs : List Value)
    (hu : P.underlying dT = some (.slice elem)) (hs : (P.info? elem).map (·.size) = some s)
    (hg : w.heap[g]? = some (.cells cur t (0, 0))) (hn : cs.length = Nat.min sLen dLen * s)
    (hsrc : ∀ j v, cs[j]? = some v → w.cell? (a.add j) = some v) (hfit : cs.length ≤ cur.size) (h1 : ∀ v ∈ cs, v.oneCell' = true) :
    (Builtin.copy_ #[dT, sT] ty #[.slice (some ⟨g, 0, none⟩) dLen dCap, .slice (some a) sLen sCap]).run P w =
      .ok (goInt (Nat.min sLen dLen)) (w.setRow g (cs ++ cur.toList.drop cs.length).toArray) := by
  have hl := run_loadCells_list (P := P) w a cs hsrc
  have hst := run_storeCells_at P g 0 t cs 0 cur w hg (by simpa using hfit) h1
  simp only [Nat.zero_add, List.take_zero, List.nil_append] at hst
  cases hq : P.info? elem with
  | none => simp [hq] at hs
  | some i =>
    have hi : i.size = s := by simpa [hq] using hs
    simp [Builtin.copy_, run_underlying hu, Builtin.lenOf, Builtin.firstCells, sizeOf, typeInfo, hq, hi, ← hn, hl, hst]
end
/-- All places of a list copied into a row of the call's own of as many. -/
theorem copy_pts {w : World} {B g cap n : Nat} {qs ps : List Pt} (ho : Pown w B (.slice (some ⟨g, 0, none⟩) n cap) qs) (hq : qs.length = n) (ao : Option Addr) (c2 : Nat) (hp : Psl w (.slice ao n c2) ps) (hl : ps.length = n) (ty : TypeId) :
    ∃ w', (Builtin.copy_ #[29, 29] ty #[.slice (some ⟨g, 0, none⟩) n cap, .slice ao n c2]).run Try.prog w = .ok (.int .i64 n) w' ∧ Pown w' B (.slice (some ⟨g, 0, none⟩) n cap) ps ∧ w.grownBy w' (some g) := by
  have hsz : (Try.prog.info? 28).map (·.size) = some 2 := by kernel_rfl
  obtain ⟨ao', c', hv, hf, hr⟩ := hp
  simp at hv
  obtain ⟨rfl, _, _⟩ := hv
  rcases ho.2 with ⟨hv, _⟩ | ⟨g', cap', cur, hv, hb, hh, hnc, hcm, hcs, ht⟩
  · simp at hv
  simp at hv
  obtain ⟨rfl, _, rfl⟩ := hv
  have hcl : (pls ps).length = n * 2 := by rw [pls_length, hl]
  by_cases h0 : n = 0
  · subst h0
    have hps : ps = [] := List.eq_nil_of_length_eq_zero hl
    have hqs : qs = [] := List.eq_nil_of_length_eq_zero hq
    subst hps hqs
    refine ⟨w, ?_, ho, World.grownBy.refl _ _⟩
    cases hq : Try.prog.info? 28 with
    | none => simp [hq] at hsz
    | some i =>
      have hlo : ∀ (x : Addr), (loadCells x 0).run Try.prog w = .ok #[] w := fun x => by simpa using run_loadCells_list (P := Try.prog) w x [] (by simp)
      cases ao <;> simp [Builtin.copy_, run_underlying Try.underlying29, Builtin.lenOf, Builtin.firstCells, sizeOf, typeInfo, hq, storeCells, hlo, goInt]
  · obtain ⟨gs, o, rfl, hr'⟩ := hr (by omega)
    have hsize : n * 2 ≤ cur.size := by rw [hcs]; rw [hq] at hnc; exact Nat.mul_le_mul_right 2 hnc
    have hrun := run_copy_wide (P := Try.prog) w 29 29 ty 28 g n cap ⟨gs, o, none⟩ n c2 2 cur 28 (pls ps) Try.underlying29 hsz hh (by rw [hcl]; simp)
      (fun j v hj => by rw [Addr.add_lit]; exact hr'.at j v hj) (by omega) (ones_pls ps)
    rw [show n.min n = n from Nat.min_self n] at hrun
    refine ⟨_, hrun, ⟨pls_length ps, Or.inr ⟨g, cap, _, by rw [hl], hb, setRow_heap w g cur _ _ _ hh, by omega, hcm, ?_, ?_⟩⟩, ?_⟩
    · simp [hcl]; omega
    · rw [hl, ← hcl]; simp
    · exact ⟨rfl, rfl, rfl, by simp [World.setRow], fun k hk hne => setRow_other w g k _ (by simpa using Ne.symm (fun e => hne (by rw [e])))⟩

end Go.Proofs.Ytopepgifhnfbiaa
