/- Contract of mutoscopelaw7.made: for every tape keys of paths of its own, four at most, as 'Mkd' says; of the memory nothing that was there turns. -/
import Derived.Test.YtglbfpjjnboeaaaRK7
import Derived.Test.YtglbfpjjnboeaaaTB7
namespace Go.Proofs.Ytglbfpjjnboeaaa
open Go Go.RowKit
open M

def pkl (k : Pk) : List Value := [.int .i64 k.t, .bool k.cl, k.v, .int .i64 k.h, .int .i64 k.a, .int .i64 k.b, .int .i64 k.c, .int .i64 k.d]
def pkls (ks : List Pk) : List Value := ks.flatMap pkl
theorem pkls_cons (k : Pk) (ks : List Pk) : pkls (k :: ks) = pkl k ++ pkls ks := by simp [pkls]
theorem pkls_snoc (ks : List Pk) (k : Pk) : pkls (ks ++ [k]) = pkls ks ++ pkl k := by simp [pkls]
theorem pkls_at {ks : List Pk} {i j : Nat} (hi : i < ks.length) (hj : j < 8) : (pkls ks)[i * 8 + j]? = (pkl (pk ks i))[j]? := by
  induction ks generalizing i with
  | nil => simp at hi
  | cons k ks ih =>
    rw [pkls_cons]
    cases i with
    | zero => rw [pk_zero, Nat.zero_mul, Nat.zero_add, List.getElem?_append_left (by simpa [pkl] using hj)]
    | succ i =>
      rw [pk_cons, List.getElem?_append_right (by simp [pkl]; omega)]
      rw [← ih (by simpa using hi)]
      congr 1
      simp [pkl]; omega
def Kown (w : World) (base : Nat) (v : Value) (ks : List Pk) : Prop := w.ownsRow base 57 8 v ks.length (pkls ks)
theorem Kown.base {w : World} {B : Nat} {v : Value} {ks : List Pk} (h : Kown w B v ks) (k : Nat) (hk : v.ownBlock = some k) : B ≤ k ∧ k < w.heap.size := World.ownsRow.lt h k hk
theorem Kown.kept {w w' : World} {B : Nat} {v : Value} {ks : List Pk} {row : Option Nat} (h : Kown w B v ks) (hg : w.grownBy w' row) (hr : ∀ k, row = some k → v.ownBlock ≠ some k) : Kown w' B v ks := by
  refine World.ownsRow.kept h hg ?_
  by_cases e : v.ownBlock = none
  · exact Or.inl e
  · refine Or.inr fun e2 => ?_
    cases hrow : row with
    | none => rw [hrow] at e2; exact e e2
    | some k => rw [hrow] at e2; exact hr k hrow e2
theorem Kown.kl {w : World} {B : Nat} {v : Value} {ks : List Pk} (h : Kown w B v ks) (hf : ks.length ≤ 100) (hp : ∀ i, i < ks.length → Psl w (pk ks i).v (pk ks i).ps) : Kl w v ks := by
  rcases h.2 with ⟨rfl, hn⟩ | ⟨g, cap, cur, rfl, _, hg, _, _, _, ht⟩
  · exact ⟨none, 0, by rw [hn], hf, fun h0 => by omega⟩
  · refine ⟨_, cap, rfl, hf, fun _ => ⟨g, 0, rfl, ?_⟩⟩
    have key : ∀ i j u, i < ks.length → j < 8 → (pkl (pk ks i))[j]? = some u → w.cell? ⟨g, 0 + i * 8 + j, none⟩ = some u := by
      intro i j u hi hj hu
      have hu := (pkls_at hi hj).trans hu
      rw [Nat.zero_add, cell_of_row w g _ cur _ _ hg]
      rw [← ht, List.getElem?_take] at hu
      split at hu
      · simpa using hu
      · cases hu
    exact ⟨hf, hp, fun i hi => key i 0 _ hi (by omega) rfl, fun i hi => key i 1 _ hi (by omega) rfl, fun i hi => key i 2 _ hi (by omega) rfl, fun i hi => key i 3 _ hi (by omega) rfl, fun i hi => key i 4 _ hi (by omega) rfl, fun i hi => key i 5 _ hi (by omega) rfl, fun i hi => key i 6 _ hi (by omega) rfl, fun i hi => key i 7 _ hi (by omega) rfl⟩
theorem Try.infoPk : (Try.prog.info? 57).map (fun i => (i.zero, i.size, i.bytes)) = some (some (.agg #[.int .i64 0, .bool false, .slice none 0 0, .int .i64 0, .int .i64 0, .int .i64 0, .int .i64 0, .int .i64 0]), 8, 80) := by kernel_rfl

/-- The keys so far: the list lv, each path's own list, the tape in block B, all ticks ahead of A. -/
structure Mad (w : World) (B : Nat) (tp : Value) (A : Int) (ks : List Pk) (lv : Value) (wr : World) : Prop where
  own : Kown wr (B + 1) lv ks
  paths : ∀ i, i < ks.length → Pown wr (B + 1) (pk ks i).v (pk ks i).ps
  ne : ∀ i, i < ks.length → ∀ k, (pk ks i).v.ownBlock = some k → lv.ownBlock ≠ some k
  tape : Tp wr B tp
  below : Below B w wr
  sz : B + 1 ≤ wr.heap.size
  made : Mkd ks
  last : ∀ i, i < ks.length → (pk ks i).t < A
  a0 : 0 ≤ A
  a1 : A ≤ 3 + 5 * ks.length
theorem Mad.call {w wr w2 : World} {B : Nat} {tp lv : Value} {A : Int} {ks : List Pk} (h : Mad w B tp A ks lv wr) (ht : Tp w2 B tp) (hg : wr.grownBy w2 (some B)) : Mad w B tp A ks lv w2 :=
  ⟨h.own.kept hg (fun k hk e => by simp at hk; have := (h.own.base k e).1; omega), fun i hi => (h.paths i hi).young hg (by omega), h.ne, ht, below_on h.below hg (Nat.le_refl _) (by have := h.sz; omega), by have := hg.size; have := h.sz; omega, h.made, h.last, h.a0, h.a1⟩
theorem Mad.alloc {w wr : World} {B : Nat} {tp lv : Value} {A : Int} {ks : List Pk} (h : Mad w B tp A ks lv wr) (o : Obj) : Mad w B tp A ks lv (wr.alloc o) :=
  ⟨h.own.kept (World.grownBy_alloc wr o none) (fun k hk => by cases hk), fun i hi => (h.paths i hi).alloc o, h.ne, tp_alloc h.tape o, h.below.alloc (by have := h.sz; omega) o, by have := h.sz; simp; omega, h.made, h.last, h.a0, h.a1⟩
theorem Mad.set {w w0 wr : World} {B : Nat} {tp lv : Value} {A : Int} {ks : List Pk} (h0 : Mad w B tp A ks lv w0) (h : Mad w B tp A ks lv wr) {k : Nat} (hk : w0.heap.size ≤ k) (j : Nat) (u : Value) : Mad w B tp A ks lv (wr.setCell ⟨k, j, none⟩ u) := by
  have hs : wr.grownBy (wr.setCell ⟨k, j, none⟩ u) (some k) := grownBy_set (World.grownBy.refl _ _) _ _
  have hz := h0.sz
  exact ⟨h.own.kept hs (fun i hi e => by simp at hi; have := (h0.own.base i e).2; omega), fun i hi => (h.paths i hi).kept hs (fun q hq e => by simp at hq; have := ((h0.paths i hi).base q e).2; omega), h.ne, h0.tape.young h.tape hs (fun i hi => by simp at hi; omega), h.below.setCell (by show B ≤ k; omega) _, by have := h.sz; simpa using this, h.made, h.last, h.a0, h.a1⟩
theorem Mkd.snoc {ks : List Pk} (h : Mkd ks) {x : Pk} {A : Int} (hl : ks.length ≤ 3) (hA : ∀ i, i < ks.length → (pk ks i).t < A) (ht : x.t = A) (a0 : 0 ≤ A) (a1 : A ≤ 100) (hh : x.h = 0 ∨ x.h = 1) (hp : x.a = 0 ∧ x.b = 0 ∧ x.c = 0 ∧ x.d = 0) (hs : Small x.ps) (hf : ∃ n, 1 ≤ n ∧ n ≤ 6 ∧ x.ps.length = 3 * n + 1) : Mkd (ks ++ [x]) := by
  have each : ∀ (P : Pk → Prop), (∀ i, i < ks.length → P (pk ks i)) → P x → ∀ i, i < (ks ++ [x]).length → P (pk (ks ++ [x]) i) := by
    intro P h1 h2 i hi
    simp at hi
    by_cases e : i < ks.length
    · rw [pk_left e]; exact h1 i e
    · obtain rfl : i = ks.length := by omega
      rw [pk_last]; exact h2
  refine ⟨by simp; omega, each (fun k => k.h = 0 ∨ k.h = 1) h.how hh, each (fun k => k.a = 0 ∧ k.b = 0 ∧ k.c = 0 ∧ k.d = 0) h.plain hp, each (fun k => 0 ≤ k.t ∧ k.t ≤ 100) h.tick (by omega), ?_, each (fun k => Small k.ps) h.small hs, each (fun k => ∃ n, 1 ≤ n ∧ n ≤ 6 ∧ k.ps.length = 3 * n + 1) h.form hf⟩
  intro i hi
  simp at hi
  by_cases e : i + 1 < ks.length
  · rw [pk_left e, pk_left (by omega)]; exact h.up i e
  · have e2 : i + 1 = ks.length := by omega
    rw [pk_left (by omega), e2, pk_last, ht]
    exact hA i (by omega)
theorem Mad.snoc {w W w' : World} {B g' cap' : Nat} {tp lv : Value} {A A' : Int} {ks : List Pk} {x : Pk} (hT : ∃ wb, Tp wb B tp ∧ wb.heap.size = B + 1) (h : Mad w B tp A ks lv W) (hl : ks.length ≤ 3) (ht : x.t = A) (hh : x.h = 0 ∨ x.h = 1) (hp : x.a = 0 ∧ x.b = 0 ∧ x.c = 0 ∧ x.d = 0) (hs : Small x.ps) (hf : ∃ n, 1 ≤ n ∧ n ≤ 6 ∧ x.ps.length = 3 * n + 1)
    (hx : Pown W (B + 1) x.v x.ps) (hne : ∀ k, x.v.ownBlock = some k → lv.ownBlock ≠ some k) (A1 : A + 1 ≤ A') (A2 : A' ≤ A + 5)
    (ho : w'.ownsRow (B + 1) 57 8 (.slice (some ⟨g', 0, none⟩) (ks.length + 1) cap') (ks.length + 1) (pkls ks ++ pkl x)) (hg : W.grownBy w' lv.ownBlock) (hat : lv.ownBlock = some g' ∨ g' = W.heap.size) :
    Mad w B tp A' (ks ++ [x]) (.slice (some ⟨g', 0, none⟩) (ks.length + 1) cap') w' := by
  have b0 := h.a0
  have b1 := h.a1
  have hsz := h.sz
  have hrow : ∀ k, lv.ownBlock = some k → B + 1 ≤ k := fun k hk => (h.own.base k hk).1
  obtain ⟨wb, hwb, hwz⟩ := hT
  have each : ∀ (P : Pk → Prop), (∀ i, i < ks.length → P (pk ks i)) → P x → ∀ i, i < (ks ++ [x]).length → P (pk (ks ++ [x]) i) := by
    intro P h1 h2 i hi
    simp at hi
    by_cases e : i < ks.length
    · rw [pk_left e]; exact h1 i e
    · obtain rfl : i = ks.length := by omega
      rw [pk_last]; exact h2
  refine ⟨?_, ?_, ?_, hwb.young h.tape hg (fun k hk => by rw [hwz]; exact hrow k hk), h.below.grown hg (by omega) (fun k hk => by have := hrow k hk; omega), by have := hg.size; omega, h.made.snoc hl h.last ht b0 (by omega) hh hp hs hf, ?_, by omega, by simp; omega⟩
  · unfold Kown
    rw [pkls_snoc, List.length_append]
    exact ho
  · refine each (fun k => Pown w' (B + 1) k.v k.ps) (fun i hi => (h.paths i hi).kept hg (fun k hk e => h.ne i hi k e hk)) (hx.kept hg (fun k hk e => hne k e hk))
  · refine each (fun q => ∀ k, q.v.ownBlock = some k → Value.ownBlock (.slice (some ⟨g', 0, none⟩) (ks.length + 1) cap') ≠ some k) (fun i hi k hk e => ?_) (fun k hk e => ?_)
    · have e' : some g' = some k := e
      simp at e'
      rcases hat with hat | hat
      · exact h.ne i hi k hk (by rw [hat, e'])
      · have := ((h.paths i hi).base k hk).2; omega
    · have e' : some g' = some k := e
      simp at e'
      rcases hat with hat | hat
      · exact hne k hk (by rw [hat, e'])
      · have := (hx.base k hk).2; omega
  · exact each (fun k => k.t < A') (fun i hi => by have := h.last i hi; omega) (by omega)
theorem ones_pkl {x : Pk} (hv : ∃ ao n cap, x.v = .slice ao n cap) : ∀ u ∈ pkl x, u.oneCell' = true := by
  obtain ⟨ao, n, cap, hv⟩ := hv
  intro u hu
  simp [pkl] at hu
  rcases hu with rfl | rfl | rfl | rfl | rfl | rfl | rfl | rfl <;> first | rfl | (rw [hv]; rfl)
/-- An append of a key of a path that lies in a block of its own. -/
theorem wpList_append_pk {W : World} {base : Nat} {l : Value} {ks : List Pk} {ops : Array Oper} {rest : List Oper} {o : Oper} {a : Act} {Q : Exit → Act → World → Prop} (hgd : o.guard = none) (s x : Operand)
    (ho : o.op = .call { callee := .builtin .append, args := #[s, x], argTypes := #[27, 27] }) (hf : ks.length ≤ 100) (hs : a.eval s = l) (H : Nat) (hx : a.eval x = .slice (some ⟨H, 0, none⟩) 1 1)
    (p : Pk) (hv : ∃ ao n cap, p.v = .slice ao n cap) (hn : Has W H (pkCells p) 57) (hT : Kown W base l ks) (hb : base ≤ W.heap.size)
    (h : ∀ g' cap' w', w'.ownsRow base 57 8 (.slice (some ⟨g', 0, none⟩) (ks.length + 1) cap') (ks.length + 1) (pkls ks ++ pkl p) → W.grownBy w' l.ownBlock → (l.ownBlock = some g' ∨ g' = W.heap.size) → wpList Try.prog ops Q rest (a.put o.dst (.slice (some ⟨g', 0, none⟩) (ks.length + 1) cap')) w') : wpList Try.prog ops Q (o :: rest) a W := by
  obtain ⟨i0, hi, hz0, hz1, hz2⟩ := info_parts Try.infoPk
  refine wpList_append_lies W hgd s x 27 ho base 57 i0 _ 8 80 Try.underlying27 hi hz0 hz1 hz2 rfl (by decide) l ks.length (pkls ks) hs hT ⟨H, 0, none⟩ 1 1 (pkl p) hx rfl ?_ (ones_pkl hv) (by decide) (by unfold maxLen; omega) (by omega) hb _ rfl ?_
  · intro j u hu
    rw [Addr.add_lit, Nat.zero_add]
    exact hn.cell j u (by simpa [pkl] using hu)
  intro g' cap' w' hown' hg hat _
  exact h g' cap' w' hown' hg hat

def Mades (w : World) (e : Ending) (w' : World) : Prop := ∃ (v : Value) (ks : List Pk), e = .returned v ∧ Mkd ks ∧ Kl w' v ks ∧ Below w.heap.size w w'

end Go.Proofs.Ytglbfpjjnboeaaa
