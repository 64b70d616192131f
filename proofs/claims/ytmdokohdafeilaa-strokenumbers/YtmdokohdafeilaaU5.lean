/- Lists of lines (eight numbers each) in memory: 'Lsl' (a slice that holds just these lines), 'Lown' (one that lies in blocks of the call's own); what keeps them; append of a line. Conditions: those that each theorem names. -/
import Derived.Test.YtmdokohdafeilaaU4
namespace Go.Proofs.Ytmdokohdafeilaa
open Go Go.RowKit
open M

/-- A line's cells. -/
abbrev lCells (l : Ln) : Array Value := #[.int .i64 l.a.x, .int .i64 l.a.y, .int .i64 l.b.x, .int .i64 l.b.y, .int .i64 l.way.x, .int .i64 l.way.y, .int .i64 l.off.x, .int .i64 l.off.y]
def ll (l : Ln) : List Value := [.int .i64 l.a.x, .int .i64 l.a.y, .int .i64 l.b.x, .int .i64 l.b.y, .int .i64 l.way.x, .int .i64 l.way.y, .int .i64 l.off.x, .int .i64 l.off.y]
def lls (ls : List Ln) : List Value := ls.flatMap ll
theorem lls_cons (l : Ln) (ls : List Ln) : lls (l :: ls) = ll l ++ lls ls := by simp [lls]
theorem lls_append (ls ms : List Ln) : lls (ls ++ ms) = lls ls ++ lls ms := by simp [lls]
theorem ll_length (l : Ln) : (ll l).length = 8 := rfl
theorem lls_length (ls : List Ln) : (lls ls).length = ls.length * 8 := by
  induction ls with
  | nil => rfl
  | cons l ls ih => rw [lls_cons, List.length_append, ih, ll_length, List.length_cons]; omega
theorem lls_at {ls : List Ln} {i j : Nat} (hi : i < ls.length) (hj : j < 8) : (lls ls)[i * 8 + j]? = (ll (ln ls i))[j]? := by
  induction ls generalizing i with
  | nil => simp at hi
  | cons l ls ih =>
    rw [lls_cons]
    cases i with
    | zero => rw [ln_zero, Nat.zero_mul, Nat.zero_add, List.getElem?_append_left (by rw [ll_length]; exact hj)]
    | succ i =>
      rw [ln_cons, List.getElem?_append_right (by rw [ll_length]; omega)]
      rw [← ih (by simpa using hi)]
      congr 1
      rw [ll_length]; omega
theorem ones_ll (l : Ln) : ∀ u ∈ ll l, u.oneCell' = true := by
  intro u hu
  simp [ll] at hu
  rcases hu with rfl | rfl | rfl | rfl | rfl | rfl | rfl | rfl <;> rfl
/-- A row of lines lies in block g from cell o on. -/
structure Lrow (w : World) (g o : Nat) (ls : List Ln) : Prop where
  c0 : ∀ i, i < ls.length → w.cell? ⟨g, o + i * 8, none⟩ = some (.int .i64 (ln ls i).a.x)
  c1 : ∀ i, i < ls.length → w.cell? ⟨g, o + i * 8 + 1, none⟩ = some (.int .i64 (ln ls i).a.y)
  c2 : ∀ i, i < ls.length → w.cell? ⟨g, o + i * 8 + 2, none⟩ = some (.int .i64 (ln ls i).b.x)
  c3 : ∀ i, i < ls.length → w.cell? ⟨g, o + i * 8 + 3, none⟩ = some (.int .i64 (ln ls i).b.y)
  c4 : ∀ i, i < ls.length → w.cell? ⟨g, o + i * 8 + 4, none⟩ = some (.int .i64 (ln ls i).way.x)
  c5 : ∀ i, i < ls.length → w.cell? ⟨g, o + i * 8 + 5, none⟩ = some (.int .i64 (ln ls i).way.y)
  c6 : ∀ i, i < ls.length → w.cell? ⟨g, o + i * 8 + 6, none⟩ = some (.int .i64 (ln ls i).off.x)
  c7 : ∀ i, i < ls.length → w.cell? ⟨g, o + i * 8 + 7, none⟩ = some (.int .i64 (ln ls i).off.y)
theorem Lrow.lt {w : World} {g o : Nat} {ls : List Ln} (h : Lrow w g o ls) (hn : 0 < ls.length) : g < w.heap.size := World.block_lt_of_cell? w _ (h.c0 0 hn)
theorem lrow_of {w : World} {g o : Nat} {ls : List Ln} (h : ∀ j u, (lls ls)[j]? = some u → w.cell? ⟨g, o + j, none⟩ = some u) : Lrow w g o ls := by
  have key : ∀ i j u, i < ls.length → j < 8 → (ll (ln ls i))[j]? = some u → w.cell? ⟨g, o + i * 8 + j, none⟩ = some u := by
    intro i j u hi hj hu
    rw [Nat.add_assoc]
    exact h _ _ ((lls_at hi hj).trans hu)
  exact ⟨fun i hi => key i 0 _ hi (by omega) rfl, fun i hi => key i 1 _ hi (by omega) rfl, fun i hi => key i 2 _ hi (by omega) rfl, fun i hi => key i 3 _ hi (by omega) rfl, fun i hi => key i 4 _ hi (by omega) rfl, fun i hi => key i 5 _ hi (by omega) rfl, fun i hi => key i 6 _ hi (by omega) rfl, fun i hi => key i 7 _ hi (by omega) rfl⟩
theorem Lrow.block {w w' : World} {g o : Nat} {ls : List Ln} (h : Lrow w g o ls) (hb : w'.heap[g]? = w.heap[g]?) : Lrow w' g o ls := by
  have key : ∀ j, w'.cell? ⟨g, j, none⟩ = w.cell? ⟨g, j, none⟩ := fun j => World.cell?_of_block (a := ⟨g, _, _⟩) hb
  exact ⟨fun i hi => (key _).trans (h.c0 i hi), fun i hi => (key _).trans (h.c1 i hi), fun i hi => (key _).trans (h.c2 i hi), fun i hi => (key _).trans (h.c3 i hi), fun i hi => (key _).trans (h.c4 i hi), fun i hi => (key _).trans (h.c5 i hi), fun i hi => (key _).trans (h.c6 i hi), fun i hi => (key _).trans (h.c7 i hi)⟩
/-- The slice's value v holds just these lines. -/
def Lsl (w : World) (v : Value) (ls : List Ln) : Prop := ∃ ao cap, v = .slice ao ls.length cap ∧ (0 < ls.length → ∃ g o, ao = some ⟨g, o, none⟩ ∧ Lrow w g o ls)
theorem Lsl.below {w w' : World} {v : Value} {ls : List Ln} (h : Lsl w v ls) (hb : Below w.heap.size w w') : Lsl w' v ls := by
  obtain ⟨ao, cap, rfl, hr⟩ := h
  refine ⟨ao, cap, rfl, fun h0 => ?_⟩
  obtain ⟨g, o, e, hr'⟩ := hr h0
  exact ⟨g, o, e, hr'.block (hb.block g (hr'.lt h0))⟩
theorem Lsl.row {w : World} {ao : Option Addr} {N cap : Nat} {ls : List Ln} (h : Lsl w (.slice ao N cap) ls) (hn : 0 < N) : ∃ g o, ao = some ⟨g, o, none⟩ ∧ Lrow w g o ls ∧ ls.length = N := by
  obtain ⟨ao', cap', hv, hr⟩ := h
  simp at hv
  obtain ⟨rfl, hl, rfl⟩ := hv
  obtain ⟨g, o, e, hr⟩ := hr (by omega)
  exact ⟨g, o, e, hr, hl.symm⟩
theorem Lsl.slice {w : World} {v : Value} {ls : List Ln} (h : Lsl w v ls) : ∃ ao cap, v = .slice ao ls.length cap := by
  obtain ⟨ao, cap, e, _⟩ := h
  exact ⟨ao, cap, e⟩
/-- The value v of a call's own holds just these lines, in its own blocks from 'base' on. -/
def Lown (t : TypeId) (w : World) (base : Nat) (v : Value) (ls : List Ln) : Prop := w.ownsRow base t 8 v ls.length (lls ls)
theorem Lown.sl {t : TypeId} {w : World} {base : Nat} {v : Value} {ls : List Ln} (h : Lown t w base v ls) : Lsl w v ls := by
  rcases h.2 with ⟨rfl, hn⟩ | ⟨g, cap, cur, rfl, _, hg, _, _, _, ht⟩
  · exact ⟨none, 0, by rw [hn], fun h0 => by omega⟩
  · refine ⟨_, cap, rfl, fun _ => ⟨g, 0, rfl, lrow_of fun j u hu => ?_⟩⟩
    rw [Nat.zero_add, cell_of_row w g j cur _ _ hg]
    rw [← ht, List.getElem?_take] at hu
    split at hu
    · simpa using hu
    · cases hu
theorem Lown.nil (t : TypeId) (w : World) (base : Nat) : Lown t w base (.slice none 0 0) [] := World.ownsRow_nil _ _ _ _
theorem Lown.below {t : TypeId} {w w' : World} {B B' : Nat} {v : Value} {ls : List Ln} (h : Lown t w B v ls) (hb : Below B' w w') (hB : w.heap.size ≤ B') : Lown t w' B v ls :=
  World.ownsRow.kept h (grownBy_below hb hB) (by by_cases e : v.ownBlock = none; exact Or.inl e; exact Or.inr e)
theorem Lown.base {t : TypeId} {w : World} {B : Nat} {v : Value} {ls : List Ln} (h : Lown t w B v ls) (k : Nat) (hk : v.ownBlock = some k) : B ≤ k ∧ k < w.heap.size := World.ownsRow.lt h k hk
theorem Lown.lower {t : TypeId} {w : World} {B B' : Nat} {v : Value} {ls : List Ln} (h : Lown t w B v ls) (hB : B' ≤ B) : Lown t w B' v ls := by
  refine ⟨h.1, ?_⟩
  rcases h.2 with h | ⟨g, cap, cur, a, b, r⟩
  · exact Or.inl h
  · exact Or.inr ⟨g, cap, cur, a, by omega, r⟩
theorem Lown.len {t : TypeId} {w : World} {B : Nat} {v : Value} {ls : List Ln} (h : Lown t w B v ls) : ∃ ao cap, v = .slice ao ls.length cap := by
  rcases h.2 with ⟨rfl, hn⟩ | ⟨g, cap, cur, rfl, _⟩
  · exact ⟨none, 0, by rw [hn]⟩
  · exact ⟨_, cap, rfl⟩
/-- What is told of a type of lines. -/
def LnInfo (t st : TypeId) : Prop := (Try.prog.info? t).map (fun i => (i.zero, i.size, i.bytes)) = some (some (.agg #[.int .i64 0, .int .i64 0, .int .i64 0, .int .i64 0, .int .i64 0, .int .i64 0, .int .i64 0, .int .i64 0]), 8, 64) ∧ Try.prog.underlying st = some (.slice t)
theorem wpList_append_ln {W : World} {base : Nat} {t st : TypeId} (hI : LnInfo t st) {l : Value} {ls : List Ln} {ops : Array Oper} {rest : List Oper} {op : Oper} {a : Act} {Q : Exit → Act → World → Prop} (hgd : op.guard = none) (s x : Operand)
    (hop : op.op = .call { callee := .builtin .append, args := #[s, x], argTypes := #[st, st] }) (N : Nat) (hN : ls.length = N) (hs : a.eval s = l) (H : Nat) (hx : a.eval x = .slice (some ⟨H, 0, none⟩) 1 1)
    (y : Ln) (cs : Array Value) (hn : Has W H cs t) (hcs : cs.toList = ll y) (hT : Lown t W base l ls) (hf : N ≤ 1000000) (hb : base ≤ W.heap.size)
    (h : ∀ g' cap' w', Lown t w' base (.slice (some ⟨g', 0, none⟩) (N + 1) cap') (ls ++ [y]) → W.grownBy w' l.ownBlock → wpList Try.prog ops Q rest (a.put op.dst (.slice (some ⟨g', 0, none⟩) (N + 1) cap')) w') : wpList Try.prog ops Q (op :: rest) a W := by
  obtain ⟨i0, hi, hz0, hz1, hz2⟩ := info_parts hI.1
  subst hN
  refine wpList_plain hgd fun _ hK => wp_append_lies W s x st hop base t i0 _ 8 64 hI.2 hi hz0 hz1 hz2 rfl (by decide) l ls.length (lls ls) hs hT ⟨H, 0, none⟩ 1 1 (ll y) hx rfl ?_ (ones_ll y) (by decide) (by unfold maxLen; omega) (by omega) hb _ rfl ?_
  · intro j u hu
    rw [Addr.add_lit, Nat.zero_add]
    refine hn.cell j u ?_
    rw [← hcs] at hu
    simpa using hu
  intro g' cap' w' hown' hg _ _
  refine hK _ _ (h g' cap' w' ?_ hg)
  unfold Lown
  rw [List.length_append, lls_append]
  have e : lls [y] = ll y := by simp [lls]
  rw [e]
  exact hown'
/-- The value v is a list of this line alone, in a block of the call's own. -/
def OneL (t : TypeId) (base : Nat) (l : Ln) (v : Value) (w : World) : Prop := ∃ g, v = .slice (some ⟨g, 0, none⟩) 1 1 ∧ base ≤ g ∧ Has w g (lCells l) t
theorem OneL.stay {t : TypeId} {base : Nat} {l : Ln} {v : Value} {w w' : World} (h : OneL t base l v w) (hb : Below w.heap.size w w') : OneL t base l v w' := by
  obtain ⟨g, e, l, k⟩ := h
  exact ⟨g, e, l, k.below hb k.lt⟩
/-- A list of just these lines, of the call's own, is returned. -/
def GivesLn (t : TypeId) (w : World) (ls : List Ln) (e : Ending) (w' : World) : Prop := ∃ u, e = .returned u ∧ Lown t w' w.heap.size u ls ∧ Below w.heap.size w w'

end Go.Proofs.Ytmdokohdafeilaa
