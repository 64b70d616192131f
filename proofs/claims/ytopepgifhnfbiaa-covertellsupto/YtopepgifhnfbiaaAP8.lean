/- Lists of places appended to a list of the call's own: where the new list lies. Conditions: those that each theorem names. -/
import Derived.Test.YtopepgifhnfbiaaPM
namespace Go.Proofs.Ytopepgifhnfbiaa
open Go Go.RowKit
open M

theorem wp_append_pl {W : World} {base : Nat} {l : Value} {rs : List Pt} {op : Oper} {a : Act} {K : Act → World → Prop} {Q : Exit → Act → World → Prop} (s x : Operand)
    (hop : op.op = .call { callee := .builtin .append, args := #[s, x], argTypes := #[29, 29] }) (N : Nat) (hN : rs.length = N) (hs : a.eval s = l) (H o m c2 : Nat) (hx : a.eval x = .slice (some ⟨H, o, none⟩) m c2)
    (news : List Pt) (hm : news.length = m) (hm0 : 0 < m) (hf : N + m ≤ 8796093022208) (hr : Prow W H o news) (hT : Pown W base l rs) (hb : base ≤ W.heap.size)
    (h : ∀ g' cap' w', Pown w' base (.slice (some ⟨g', 0, none⟩) (N + m) cap') (rs ++ news) → W.grownBy w' l.ownBlock → (l.ownBlock = some g' ∨ W.heap.size ≤ g') → K (a.put op.dst (.slice (some ⟨g', 0, none⟩) (N + m) cap')) w') : op.wp Try.prog a W K Q := by
  obtain ⟨i0, hi, hz0, hz1, hz2⟩ := info_parts Try.infoPt
  subst hN
  refine wp_append_lies W s x 29 hop base 28 i0 _ 2 16 Try.underlying29 hi hz0 hz1 hz2 rfl (by decide) l rs.length (pls rs) hs hT ⟨H, o, none⟩ m c2 (pls news) hx (by rw [pls_length, hm]) ?_ (ones_pls news) hm0 (by unfold maxLen; omega) (by omega) hb _ rfl ?_
  · intro j u hu
    rw [Addr.add_lit]
    exact hr.at j u hu
  intro g' cap' w' hown' hg hat _
  refine h g' cap' w' ?_ hg (hat.imp id (fun e => by omega))
  unfold Pown
  rw [List.length_append, hm, pls_append]
  exact hown'
theorem wpList_append_pl {W : World} {base : Nat} {l : Value} {rs : List Pt} {ops : Array Oper} {rest : List Oper} {op : Oper} {a : Act} {Q : Exit → Act → World → Prop} (hgd : op.guard = none) (s x : Operand)
    (hop : op.op = .call { callee := .builtin .append, args := #[s, x], argTypes := #[29, 29] }) (N : Nat) (hN : rs.length = N) (hs : a.eval s = l) (H o m c2 : Nat) (hx : a.eval x = .slice (some ⟨H, o, none⟩) m c2)
    (news : List Pt) (hm : news.length = m) (hm0 : 0 < m) (hf : N + m ≤ 8796093022208) (hr : Prow W H o news) (hT : Pown W base l rs) (hb : base ≤ W.heap.size)
    (h : ∀ g' cap' w', Pown w' base (.slice (some ⟨g', 0, none⟩) (N + m) cap') (rs ++ news) → W.grownBy w' l.ownBlock → (l.ownBlock = some g' ∨ W.heap.size ≤ g') → wpList Try.prog ops Q rest (a.put op.dst (.slice (some ⟨g', 0, none⟩) (N + m) cap')) w') : wpList Try.prog ops Q (op :: rest) a W :=
  wpList_plain hgd fun _ hK => wp_append_pl s x hop N hN hs H o m c2 hx news hm hm0 hf hr hT hb fun g' cap' w' h1 h2 h3 => hK _ _ (h g' cap' w' h1 h2 h3)
theorem step_append_pl {W : World} {base : Nat} {l : Value} {rs : List Pt} {ops : Array Oper} {op : Oper} {a : Act} {K : Act → World → Prop} {Q : Exit → Act → World → Prop} {E : Prop} (hw : Region.wanted op (yielded ops a.tmps) = true) (s x : Operand)
    (hop : op.op = .call { callee := .builtin .append, args := #[s, x], argTypes := #[29, 29] }) (N : Nat) (hN : rs.length = N) (hs : a.eval s = l) (H o m c2 : Nat) (hx : a.eval x = .slice (some ⟨H, o, none⟩) m c2)
    (news : List Pt) (hm : news.length = m) (hm0 : 0 < m) (hf : N + m ≤ 8796093022208) (hr : Prow W H o news) (hT : Pown W base l rs) (hb : base ≤ W.heap.size)
    (h : ∀ g' cap' w', Pown w' base (.slice (some ⟨g', 0, none⟩) (N + m) cap') (rs ++ news) → W.grownBy w' l.ownBlock → (l.ownBlock = some g' ∨ W.heap.size ≤ g') → K (a.put op.dst (.slice (some ⟨g', 0, none⟩) (N + m) cap')) w') :
    if Region.wanted op (yielded ops a.tmps) = true then Oper.wp Try.prog op a W K Q else E := by
  rw [if_pos hw]
  exact wp_append_pl s x hop N hN hs H o m c2 hx news hm hm0 hf hr hT hb h
theorem prow_one {w : World} (p : Pt) (t : TypeId) : Prow (w.alloc (.cells (pCells p) t)) w.heap.size 0 [p] := prow_has (cs := pCells p) (by simp) (has_new rfl) rfl

end Go.Proofs.Ytopepgifhnfbiaa
