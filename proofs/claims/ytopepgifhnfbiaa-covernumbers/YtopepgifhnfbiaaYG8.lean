/- Lists of polys of the call's own that grow by one poly (append). Conditions: those that each theorem names. (Taken out of LY8.) -/
import Derived.Test.YtopepgifhnfbiaaY8
import Derived.Deep.AppendLies
namespace Go.Proofs.Ytopepgifhnfbiaa
open Go Go.RowKit
open M

theorem ones_yls {ys : List Po} (h : ∀ i, i < ys.length → ∃ ao n cap, (po ys i).v = .slice ao n cap) : ∀ u ∈ yls ys, u.oneCell' = true := by
  induction ys with
  | nil => intro u hu; cases hu
  | cons y ys ih =>
    intro u hu
    rw [yls_cons] at hu
    rcases List.mem_append.1 hu with hu | hu
    · simp [yl] at hu
      obtain ⟨ao, n, cap, e⟩ := h 0 (by simp)
      rw [po_zero] at e
      rcases hu with rfl | rfl
      · rfl
      · rw [e]; rfl
    · exact ih (fun i hi => by have := h (i + 1) (by simpa using hi); rwa [po_cons] at this) u hu
/-- A list of polys of the call's own that grows. -/
structure Ygrow (w1 : World) (base : Nat) (f : Nat → Bool × List Pt) (n : Nat) (zs : List Po) (v : Value) (wr : World) : Prop where
  len : zs.length = n
  own : wr.ownsRow base 31 2 v n (yls zs)
  told : ∀ j, j < n → bareY (po zs j) = f j ∧ Psl wr (po zs j).v (po zs j).ps ∧ (∀ k, v.ownBlock = some k → (po zs j).v.ownBlock ≠ some k) ∧ (∃ ao n cap, (po zs j).v = .slice ao n cap) ∧ (∀ k, (po zs j).v.ownBlock = some k → k < wr.heap.size)
  below : Below w1.heap.size w1 wr
  lo : w1.heap.size ≤ base
theorem Ygrow.later {w1 wr w' : World} {base n : Nat} {f : Nat → Bool × List Pt} {zs : List Po} {v : Value} (h : Ygrow w1 base f n zs v wr) (hb : Below wr.heap.size wr w') : Ygrow w1 base f n zs v w' :=
  ⟨h.len, World.ownsRow.kept h.own (grownBy_below hb (Nat.le_refl _)) (by by_cases e : v.ownBlock = none; exact Or.inl e; exact Or.inr e), fun j hj => ⟨(h.told j hj).1, (h.told j hj).2.1.below hb (Nat.le_refl _), (h.told j hj).2.2.1, (h.told j hj).2.2.2.1, fun k hk => Nat.lt_of_lt_of_le ((h.told j hj).2.2.2.2 k hk) hb.size⟩, h.below.trans (hb.mono h.below.size), h.lo⟩
theorem Ygrow.sl {w1 wr : World} {base n : Nat} {f : Nat → Bool × List Pt} {zs : List Po} {v : Value} (h : Ygrow w1 base f n zs v wr) (hf : n ≤ 1000) : Ysl wr v zs := by
  have hl := h.len
  rcases h.own.2 with ⟨rfl, hn⟩ | ⟨g, cap, cur, rfl, _, hg, _, _, _, ht⟩
  · exact ⟨none, 0, by rw [hl, hn], by omega, fun h0 => by omega⟩
  · refine ⟨_, cap, by rw [hl], by omega, fun _ => ⟨g, 0, rfl, yrow_of (by omega) (fun i hi => (h.told i (by omega)).2.1) fun j u hu => ?_⟩⟩
    rw [Nat.zero_add, cell_of_row wr g j cur _ _ hg]
    rw [← ht, List.getElem?_take] at hu
    split at hu
    · simpa using hu
    · cases hu
theorem Ygrow.shape {w1 wr : World} {base n : Nat} {f : Nat → Bool × List Pt} {zs : List Po} {v : Value} (h : Ygrow w1 base f n zs v wr) : ∃ ao cap, v = .slice ao n cap := by
  rcases h.own.2 with ⟨rfl, hn⟩ | ⟨g, cap, cur, rfl, _⟩
  · exact ⟨none, 0, by rw [hn]⟩
  · exact ⟨_, cap, rfl⟩
/-- One poly more: it lies in block H from cell o on. -/
theorem wp_append_yr {W w1 : World} {base n : Nat} {f : Nat → Bool × List Pt} {zs : List Po} {l : Value} {op : Oper} {a : Act} {K : Act → World → Prop} {Q : Exit → Act → World → Prop} (s x : Operand)
    (hop : op.op = .call { callee := .builtin .append, args := #[s, x], argTypes := #[22, 22] }) (hs : a.eval s = l) (H o c2 : Nat) (hx : a.eval x = .slice (some ⟨H, o, none⟩) 1 c2)
    (y : Po) (hc0 : W.cell? ⟨H, o, none⟩ = some (.bool y.cl)) (hc1 : W.cell? ⟨H, o + 1, none⟩ = some y.v) (hT : Ygrow w1 base f n zs l W) (hf : n ≤ 990) (hfy : bareY y = f n) (hy : Psl W y.v y.ps) (hyl : ∀ k, l.ownBlock = some k → y.v.ownBlock ≠ some k) (hyc : ∀ k, y.v.ownBlock = some k → k < W.heap.size) (hys : ∃ ao n cap, y.v = .slice ao n cap) (hb : base ≤ W.heap.size)
    (h : ∀ g' cap' w', Ygrow w1 base f (n + 1) (zs ++ [y]) (.slice (some ⟨g', 0, none⟩) (n + 1) cap') w' → K (a.put op.dst (.slice (some ⟨g', 0, none⟩) (n + 1) cap')) w') : op.wp Try.prog a W K Q := by
  obtain ⟨i0, hi, hz0, hz1, hz2⟩ := info_parts Try.infoPoly
  have h1 : ∀ u ∈ yl y, u.oneCell' = true := fun u hu => by
    simp [yl] at hu
    obtain ⟨ao, n, cap, e⟩ := hys
    rcases hu with rfl | rfl
    · rfl
    · rw [e]; rfl
  refine wp_append_lies W s x 22 hop base 31 i0 _ 2 32 Try.underlying22 hi hz0 hz1 hz2 rfl (by decide) l n (yls zs) hs hT.own ⟨H, o, none⟩ 1 c2 (yl y) hx rfl ?_ h1 (by decide) (by unfold maxLen; omega) (by omega) hb _ rfl ?_
  · intro j u hu
    rw [Addr.add_lit]
    have hj : j < 2 := by
      have := (List.getElem?_eq_some_iff.1 hu).1
      simpa [yl] using this
    rcases (show j = 0 ∨ j = 1 by omega) with rfl | rfl
    · simp [yl] at hu; rw [← hu]; exact hc0
    · simp [yl] at hu; rw [← hu]; exact hc1
  intro g' cap' w' hown' hg hat hlt
  have hgl : ∀ k, l.ownBlock = some k → k < W.heap.size ∧ base ≤ k := fun k hk => by
    have := World.ownsRow.lt hT.own k hk
    exact ⟨this.2, this.1⟩
  refine h g' cap' w' ⟨by simp [hT.len], ?_, fun j hj => ?_, ?_, hT.lo⟩
  · have e : yls (zs ++ [y]) = yls zs ++ yl y := by rw [yls_append]; simp [yls]
    rw [e]
    exact hown'
  · by_cases e : j = n
    · subst e
      have el : po (zs ++ [y]) j = y := by have := po_last zs y; rw [hT.len] at this; exact this
      rw [el]
      refine ⟨hfy, hy.grown hg (fun k hk e => hyl k hk e), fun k hk e2 => ?_, hys, fun k hk => Nat.lt_of_lt_of_le (hyc k hk) hg.size⟩
      have hk' : some g' = some k := hk
      simp at hk'
      subst hk'
      rcases hat with e3 | e3
      · exact hyl g' e3 e2
      · have := hyc g' e2; omega
    · rw [po_left (by rw [hT.len]; omega)]
      obtain ⟨a1, a2, a3, a4, a5⟩ := hT.told j (by omega)
      refine ⟨a1, a2.grown hg (fun k hk e => a3 k hk e), fun k hk e2 => ?_, a4, fun k hk => Nat.lt_of_lt_of_le (a5 k hk) hg.size⟩
      have hk' : some g' = some k := hk
      simp at hk'
      subst hk'
      rcases hat with e3 | e3
      · exact a3 g' e3 e2
      · have := a5 g' e2; omega
  · exact hT.below.grown hg hT.below.size (fun k hk => by have := (hgl k hk).2; have := hT.lo; omega)

/-- One poly more: it lies in a block H of its own. -/
theorem wp_append_y {W w1 : World} {base n : Nat} {f : Nat → Bool × List Pt} {zs : List Po} {l : Value} {op : Oper} {a : Act} {K : Act → World → Prop} {Q : Exit → Act → World → Prop} (s x : Operand)
    (hop : op.op = .call { callee := .builtin .append, args := #[s, x], argTypes := #[22, 22] }) (hs : a.eval s = l) (H : Nat) (hx : a.eval x = .slice (some ⟨H, 0, none⟩) 1 1)
    (y : Po) (hn : Has W H (yl y).toArray 31) (hT : Ygrow w1 base f n zs l W) (hf : n ≤ 990) (hfy : bareY y = f n) (hy : Psl W y.v y.ps) (hyl : ∀ k, l.ownBlock = some k → y.v.ownBlock ≠ some k) (hyc : ∀ k, y.v.ownBlock = some k → k < W.heap.size) (hys : ∃ ao n cap, y.v = .slice ao n cap) (hb : base ≤ W.heap.size)
    (h : ∀ g' cap' w', Ygrow w1 base f (n + 1) (zs ++ [y]) (.slice (some ⟨g', 0, none⟩) (n + 1) cap') w' → K (a.put op.dst (.slice (some ⟨g', 0, none⟩) (n + 1) cap')) w') : op.wp Try.prog a W K Q :=
  wp_append_yr s x hop hs H 0 1 hx y (hn.cell 0 _ (by simp [yl])) (hn.cell 1 _ (by simp [yl])) hT hf hfy hy hyl hyc hys hb h

theorem wpList_append_y {W w1 : World} {base n : Nat} {f : Nat → Bool × List Pt} {zs : List Po} {l : Value} {ops : Array Oper} {rest : List Oper} {op : Oper} {a : Act} {Q : Exit → Act → World → Prop} (hgd : op.guard = none) (s x : Operand)
    (hop : op.op = .call { callee := .builtin .append, args := #[s, x], argTypes := #[22, 22] }) (hs : a.eval s = l) (H : Nat) (hx : a.eval x = .slice (some ⟨H, 0, none⟩) 1 1)
    (y : Po) (hn : Has W H (yl y).toArray 31) (hT : Ygrow w1 base f n zs l W) (hf : n ≤ 990) (hfy : bareY y = f n) (hy : Psl W y.v y.ps) (hyl : ∀ k, l.ownBlock = some k → y.v.ownBlock ≠ some k) (hyc : ∀ k, y.v.ownBlock = some k → k < W.heap.size) (hys : ∃ ao n cap, y.v = .slice ao n cap) (hb : base ≤ W.heap.size)
    (h : ∀ g' cap' w', Ygrow w1 base f (n + 1) (zs ++ [y]) (.slice (some ⟨g', 0, none⟩) (n + 1) cap') w' → wpList Try.prog ops Q rest (a.put op.dst (.slice (some ⟨g', 0, none⟩) (n + 1) cap')) w') : wpList Try.prog ops Q (op :: rest) a W :=
  wpList_plain hgd fun _ hK => wp_append_y s x hop hs H hx y hn hT hf hfy hy hyl hyc hys hb fun g' cap' w' h1 => hK _ _ (h g' cap' w' h1)
/-- The value v is a list of places of the call's own. -/
def PtsV (base : Nat) (ps : List Pt) (v : Value) (w : World) : Prop := Psl w v ps ∧ (∀ k, v.ownBlock = some k → base ≤ k ∧ k < w.heap.size) ∧ ∃ ao n cap, v = .slice ao n cap
theorem PtsV.stay {base : Nat} {ps : List Pt} {v : Value} {w w' : World} (h : PtsV base ps v w) (hb : Below w.heap.size w w') : PtsV base ps v w' :=
  ⟨h.1.below hb (Nat.le_refl _), fun k hk => ⟨(h.2.1 k hk).1, Nat.lt_of_lt_of_le (h.2.1 k hk).2 hb.size⟩, h.2.2⟩


end Go.Proofs.Ytopepgifhnfbiaa
