/- ShapeNumbers of the statements: whatever the numbers are, the call returns true and each argument reads as it did; no condition. -/
import Derived.Test.YtglbfpjjnboeaaaGreatRh4
import Derived.Laws.Rows
import Derived.Test.YtglbfpjjnboeaaaGreatPM
import Derived.Test.YtglbfpjjnboeaaaGreatPC
import Derived.Test.YtglbfpjjnboeaaaGreatTK5
import Derived.Deep.DeepCutAuto
import Derived.BigRegion
import Derived.Test.YtglbfpjjnboeaaaGreatC
import Derived.Test.YtglbfpjjnboeaaaGreatT
import Derived.Test.YtglbfpjjnboeaaaGreatE4
import Derived.Test.YtglbfpjjnboeaaaGreatMake
import Derived.Test.YtglbfpjjnboeaaaGreatJ
import Derived.Test.YtglbfpjjnboeaaaGreatR2
import Derived.Test.YtglbfpjjnboeaaaGreatRK5
import Derived.Test.YtglbfpjjnboeaaaGreatRA7
import Derived.Test.YtglbfpjjnboeaaaGreatQ8
import Derived.Test.YtglbfpjjnboeaaaGreatTail
import Derived.Laws.Tables
import Derived.Test.YtglbfpjjnboeaaaGreatApp
import Derived.Test.YtglbfpjjnboeaaaGreatL5
import Derived.Test.YtglbfpjjnboeaaaGreatTP
import Derived.Test.YtglbfpjjnboeaaaGreatRows
import Derived.WalkKit
import Derived.ProofKit
import Derived.OpenShut
namespace Go.Proofs.YtglbfpjjnboeaaaGreat
open Go Go.RowKit
open M

set_option maxRecDepth 100000 in
set_option maxHeartbeats 4000000 in
theorem sh_right {w : World} {s : Shp} (h : ShIn w s) : Calls Tryz.prog 9 #[.agg (shC s)] w fun e w' => e = .returned (.bool (okS s)) ∧ Below w.heap.size w w' := by
  obtain ⟨B, hB⟩ : ∃ B, w.heap.size = B := ⟨_, rfl⟩
  obtain ⟨W, hW⟩ : ∃ W, w.alloc (.cells (shC s) 34) = W := ⟨_, rfl⟩
  obtain ⟨hi, hk, hb⟩ := h.start hB hW
  have HBB := Lib.hid hB
  have HW := Lib.hid hW
  obtain ⟨y1, hy1⟩ : ∃ x, formOk s = x := ⟨_, rfl⟩
  obtain ⟨y2, hy2⟩ : ∃ x, lineOk s = x := ⟨_, rfl⟩
  obtain ⟨y3, hy3⟩ : ∃ x, fillOk s = x := ⟨_, rfl⟩
  obtain ⟨y4, hy4⟩ : ∃ x, drawOk s = x := ⟨_, rfl⟩
  have C1 : Hid (∀ w', Below W.heap.size W w' → Calls Tryz.prog 27 #[.agg (shC s)] w' fun e w'' => e = .returned (.bool y1) ∧ Below w'.heap.size w' w'') := Lib.hid (fun w' h' => by rw [← hy1]; exact sh_form (hi.below h'))
  have C2 : Hid (∀ w', Below W.heap.size W w' → Calls Tryz.prog 28 #[.agg (shC s)] w' fun e w'' => e = .returned (.bool y2) ∧ Below w'.heap.size w' w'') := Lib.hid (fun w' h' => by rw [← hy2]; exact sh_outline (hi.below h'))
  have C3 : Hid (∀ w', Below W.heap.size W w' → Calls Tryz.prog 29 #[.agg (shC s)] w' fun e w'' => e = .returned (.bool y3) ∧ Below w'.heap.size w' w'') := Lib.hid (fun w' h' => by rw [← hy3]; exact sh_fill (hi.below h'))
  have C4 : Hid (∀ w', Below W.heap.size W w' → Calls Tryz.prog 30 #[.agg (shC s)] w' fun e w'' => e = .returned (.bool y4) ∧ Below w'.heap.size w' w'') := Lib.hid (fun w' h' => by rw [← hy4]; exact sh_line (hi.below h'))
  have E : okS s = (y1 && y2 && y3 && y4) := by unfold okS; rw [hy1, hy2, hy3, hy4]
  rw [E]
  clear E
  have HG := Lib.hid (show ∀ w', Below W.heap.size W w' → Has w' B (shC s) 34 from fun w' h' => hk.below h' hk.lt)
  have R0 : Hid (Below W.heap.size W W) := Lib.hid (Below.refl _ _)
  have hFin : ∀ w', Below W.heap.size W w' → Below w.heap.size w w' := fun w' h' => by rw [hB]; exact hb.trans (h'.mono (by have := hk.lt; omega))
  have FIN := Lib.hid hFin
  clear hi hk hb hW hy1 hy2 hy3 hy4 h hFin
  go_enter Tryz.func9, Tryz.ntmps9
  go_upto_region 1 with fail
  rw [HW.out]
  clear hB
  have hg := HG.out W R0.out
  go_wp2_with (first | (refine wpList_load_row rfl 34 _ rfl B rfl 34 _ (0, 0) _ hg Tryz.underlying34 rfl (by kernel_rfl) ?_) | (refine BigFrame.wpList_want (by rfl) (fun K hK => wp_load_row 34 _ rfl B rfl 34 _ (0, 0) _ hg Tryz.underlying34 rfl (by kernel_rfl) (hK _ _ ?_))))
  refine (C1.out _ R0.out).mono ?_
  rintro e w1 ⟨rfl, q1⟩
  have R1 := Lib.hid (R0.out.trans (q1.mono R0.out.size))
  clear q1 hg
  cases y1
  · go_wp2
    go_ret
    exact ⟨rfl, FIN.out _ R1.out⟩
  have hg := HG.out w1 R1.out
  go_wp2_with (first | (refine wpList_load_row rfl 34 _ rfl B rfl 34 _ (0, 0) _ hg Tryz.underlying34 rfl (by kernel_rfl) ?_) | (refine BigFrame.wpList_want (by rfl) (fun K hK => wp_load_row 34 _ rfl B rfl 34 _ (0, 0) _ hg Tryz.underlying34 rfl (by kernel_rfl) (hK _ _ ?_))))
  refine (C2.out _ R1.out).mono ?_
  rintro e w2 ⟨rfl, q2⟩
  have R2 := Lib.hid (R1.out.trans (q2.mono R1.out.size))
  clear q2 hg
  cases y2
  · go_wp2
    go_ret
    exact ⟨rfl, FIN.out _ R2.out⟩
  have hg := HG.out w2 R2.out
  go_wp2_with (first | (refine wpList_load_row rfl 34 _ rfl B rfl 34 _ (0, 0) _ hg Tryz.underlying34 rfl (by kernel_rfl) ?_) | (refine BigFrame.wpList_want (by rfl) (fun K hK => wp_load_row 34 _ rfl B rfl 34 _ (0, 0) _ hg Tryz.underlying34 rfl (by kernel_rfl) (hK _ _ ?_))))
  refine (C3.out _ R2.out).mono ?_
  rintro e w3 ⟨rfl, q3⟩
  have R3 := Lib.hid (R2.out.trans (q3.mono R2.out.size))
  clear q3 hg
  cases y3
  · go_wp2
    go_ret
    exact ⟨rfl, FIN.out _ R3.out⟩
  have hg := HG.out w3 R3.out
  go_wp2_with (first | (refine wpList_load_row rfl 34 _ rfl B rfl 34 _ (0, 0) _ hg Tryz.underlying34 rfl (by kernel_rfl) ?_) | (refine BigFrame.wpList_want (by rfl) (fun K hK => wp_load_row 34 _ rfl B rfl 34 _ (0, 0) _ hg Tryz.underlying34 rfl (by kernel_rfl) (hK _ _ ?_))))
  refine (C4.out _ R3.out).mono ?_
  rintro e w4 ⟨rfl, q4⟩
  have R4 := Lib.hid (R3.out.trans (q4.mono R3.out.size))
  clear q4 hg
  go_wp2
  go_ret
  exact ⟨by simp, FIN.out _ R4.out⟩

end Go.Proofs.YtglbfpjjnboeaaaGreat

namespace Go.Proofs.YtglbfpjjnboeaaaGreat
open Go Go.RowKit
open M

theorem wp_append_pl {W : World} {base : Nat} {l : Value} {rs : List Pt} {op : Oper} {a : Act} {K : Act → World → Prop} {Q : Exit → Act → World → Prop} (s x : Operand)
    (hop : op.op = .call { callee := .builtin .append, args := #[s, x], argTypes := #[39, 39] }) (N : Nat) (hN : rs.length = N) (hs : a.eval s = l) (H o m c2 : Nat) (hx : a.eval x = .slice (some ⟨H, o, none⟩) m c2)
    (news : List Pt) (hm : news.length = m) (hm0 : 0 < m) (hf : N + m ≤ 8796093022208) (hr : Prow W H o news) (hT : Pown W base l rs) (hb : base ≤ W.heap.size)
    (h : ∀ g' cap' w', Pown w' base (.slice (some ⟨g', 0, none⟩) (N + m) cap') (rs ++ news) → W.grownBy w' l.ownBlock → (l.ownBlock = some g' ∨ W.heap.size ≤ g') → K (a.put op.dst (.slice (some ⟨g', 0, none⟩) (N + m) cap')) w') : op.wp Tryz.prog a W K Q := by
  obtain ⟨i0, hi, hz0, hz1, hz2⟩ := info_parts Tryz.infoPt
  subst hN
  refine wp_append_lies W s x 39 hop base 29 i0 _ 2 16 Tryz.underlying39 hi hz0 hz1 hz2 rfl (by decide) l rs.length (pls rs) hs hT ⟨H, o, none⟩ m c2 (pls news) hx (by rw [pls_length, hm]) ?_ (ones_pls news) hm0 (by unfold maxLen; omega) (by omega) hb _ rfl ?_
  · intro j u hu
    rw [Addr.add_lit]
    exact hr.at j u hu
  intro g' cap' w' hown' hg hat _
  refine h g' cap' w' ?_ hg (hat.imp id (fun e => by omega))
  unfold Pown
  rw [List.length_append, hm, pls_append]
  exact hown'
theorem wpList_append_pl {W : World} {base : Nat} {l : Value} {rs : List Pt} {ops : Array Oper} {rest : List Oper} {op : Oper} {a : Act} {Q : Exit → Act → World → Prop} (hgd : op.guard = none) (s x : Operand)
    (hop : op.op = .call { callee := .builtin .append, args := #[s, x], argTypes := #[39, 39] }) (N : Nat) (hN : rs.length = N) (hs : a.eval s = l) (H o m c2 : Nat) (hx : a.eval x = .slice (some ⟨H, o, none⟩) m c2)
    (news : List Pt) (hm : news.length = m) (hm0 : 0 < m) (hf : N + m ≤ 8796093022208) (hr : Prow W H o news) (hT : Pown W base l rs) (hb : base ≤ W.heap.size)
    (h : ∀ g' cap' w', Pown w' base (.slice (some ⟨g', 0, none⟩) (N + m) cap') (rs ++ news) → W.grownBy w' l.ownBlock → (l.ownBlock = some g' ∨ W.heap.size ≤ g') → wpList Tryz.prog ops Q rest (a.put op.dst (.slice (some ⟨g', 0, none⟩) (N + m) cap')) w') : wpList Tryz.prog ops Q (op :: rest) a W :=
  wpList_plain hgd fun _ hK => wp_append_pl s x hop N hN hs H o m c2 hx news hm hm0 hf hr hT hb fun g' cap' w' h1 h2 h3 => hK _ _ (h g' cap' w' h1 h2 h3)
theorem step_append_pl {W : World} {base : Nat} {l : Value} {rs : List Pt} {ops : Array Oper} {op : Oper} {a : Act} {K : Act → World → Prop} {Q : Exit → Act → World → Prop} {E : Prop} (hw : Region.wanted op (yielded ops a.tmps) = true) (s x : Operand)
    (hop : op.op = .call { callee := .builtin .append, args := #[s, x], argTypes := #[39, 39] }) (N : Nat) (hN : rs.length = N) (hs : a.eval s = l) (H o m c2 : Nat) (hx : a.eval x = .slice (some ⟨H, o, none⟩) m c2)
    (news : List Pt) (hm : news.length = m) (hm0 : 0 < m) (hf : N + m ≤ 8796093022208) (hr : Prow W H o news) (hT : Pown W base l rs) (hb : base ≤ W.heap.size)
    (h : ∀ g' cap' w', Pown w' base (.slice (some ⟨g', 0, none⟩) (N + m) cap') (rs ++ news) → W.grownBy w' l.ownBlock → (l.ownBlock = some g' ∨ W.heap.size ≤ g') → K (a.put op.dst (.slice (some ⟨g', 0, none⟩) (N + m) cap')) w') :
    if Region.wanted op (yielded ops a.tmps) = true then Oper.wp Tryz.prog op a W K Q else E := by
  rw [if_pos hw]
  exact wp_append_pl s x hop N hN hs H o m c2 hx news hm hm0 hf hr hT hb h
theorem prow_one {w : World} (p : Pt) (t : TypeId) : Prow (w.alloc (.cells (pCells p) t)) w.heap.size 0 [p] := prow_has (cs := pCells p) (by simp) (has_new rfl) rfl

end Go.Proofs.YtglbfpjjnboeaaaGreat

namespace Go.Proofs.YtglbfpjjnboeaaaGreat
open Go Go.RowKit
open M

/-- A path that grows: in block go, its list in other blocks behind r; the result's block is r. -/
structure Grp3 (w1 : World) (r go : Nat) (c : Bool) (rs : List Pt) (l : Value) (wr : World) : Prop where
  own : Pown wr (r + 1) l rs
  out : Has wr go #[.bool c, l] 41
  res : Has wr r #[.bool false, .slice none 0 0] 41
  ne : ∀ k, l.ownBlock = some k → k ≠ go
  below : Below w1.heap.size w1 wr
  lr : w1.heap.size ≤ r
  lo : r < go
section
variable {w1 W w' : World} {r go : Nat} {c : Bool} {rs qs : List Pt} {l l' : Value}
theorem Grp3.later (h : Grp3 w1 r go c rs l W) (hq : Below W.heap.size W w') : Grp3 w1 r go c rs l w' :=
  ⟨h.own.below hq (Nat.le_refl _), h.out.below hq h.out.lt, h.res.below hq h.res.lt, h.ne, h.below.trans (hq.mono h.below.size), h.lr, h.lo⟩
theorem Grp3.away (h : Grp3 w1 r go c rs l W) : l.ownBlock ≠ some go ∧ l.ownBlock ≠ some r := ⟨fun e => h.ne _ e rfl, fun e => by have := (h.own.base r e).1; omega⟩
/-- The list has grown, and is stored. -/
theorem Grp3.put {g' n cap' : Nat} (h : Grp3 w1 r go c rs l W) (ho : Pown w' (r + 1) (.slice (some ⟨g', 0, none⟩) n cap') qs) (hg : W.grownBy w' l.ownBlock) (hat : l.ownBlock = some g' ∨ W.heap.size ≤ g') : Grp3 w1 r go c qs (.slice (some ⟨g', 0, none⟩) n cap') (w'.setCell ⟨go, 1, none⟩ (.slice (some ⟨g', 0, none⟩) n cap')) := by
  have hk : Has w' go #[.bool c, l] 41 := (hg.block go h.out.lt (fun e => h.away.1 e.symm)).trans h.out
  have hr : Has w' r #[.bool false, .slice none 0 0] 41 := (hg.block r h.res.lt (fun e => h.away.2 e.symm)).trans h.res
  have hs := h.below.size
  have h1 := h.lr
  have h2 := h.lo
  have hne : ∀ k, Value.ownBlock (.slice (some ⟨g', 0, none⟩) n cap') = some k → k ≠ go := fun k hk => by
    have e : some g' = some k := hk
    simp at e
    rcases hat with ha | ha
    · rw [← e]; exact h.ne _ ha
    · have := h.out.lt; omega
  refine ⟨ho.kept (grownBy_set (World.grownBy.refl _ _) _ _) (fun k hk e => by simp at hk; exact hne k e hk.symm), ?_, has_grown hr (grownBy_set (World.grownBy.refl _ _) _ _) (by omega), hne, ?_, h1, h2⟩
  · have := has_set hk 1 (.slice (some ⟨g', 0, none⟩) n cap')
    simpa using this
  · exact (h.below.grown hg (by omega) (fun k e => by have := (h.own.base k e).1; omega)).setCell (show w1.heap.size ≤ go by omega) _
theorem Grp3.alloc (h : Grp3 w1 r go c rs l W) (o : Obj) : Grp3 w1 r go c rs l (W.alloc o) := h.later ((Below.refl _ _).alloc (Nat.le_refl _) _)
theorem Grp3.big (h : Grp3 w1 r go c rs l W) : r + 1 ≤ W.heap.size := by have := h.out.lt; have := h.lo; omega
theorem Grp3.gives (h : Grp3 w1 r go c rs l W) (hB : w1.heap.size = r) : Gives w1 c rs (.returned (.agg #[.bool c, l])) ((W.setCell ⟨r, 0, none⟩ (.bool c)).setCell ⟨r, 1, none⟩ l) := by
  have hs : W.grownBy ((W.setCell ⟨r, 0, none⟩ (.bool c)).setCell ⟨r, 1, none⟩ l) (some r) := grownBy_set (grownBy_set (World.grownBy.refl _ _) _ _) _ _
  have lr := h.lr
  refine ⟨_, rfl, ?_, ?_⟩
  · exact (h.own.kept hs (fun k hk e => by simp at hk; exact h.away.2 (by rw [e, hk]))).lower (by omega)
  · exact (h.below.setCell (by simp; omega) _).setCell (by simp; omega) _
theorem Grp3.fine (h : Grp3 w1 r go c rs l W) (hg : W.grownBy w' l.ownBlock) : w'.cell? ⟨go, 1, none⟩ = some l ∧ w'.frozen? ⟨go, 1, none⟩ = false := by
  have hk : Has w' go #[.bool c, l] 41 := (hg.block go h.out.lt (fun e => h.away.1 e.symm)).trans h.out
  exact ⟨hk.cell 1 _ rfl, has_fro hk 1⟩
end

theorem psl_row {w : World} {g o n c : Nat} {ps : List Pt} (h : Psl w (.slice (some ⟨g, o, none⟩) n c) ps) (h0 : 0 < ps.length) : Prow w g o ps := by
  obtain ⟨_, _, hv, _, hr⟩ := h
  simp at hv
  obtain ⟨rfl, _, _⟩ := hv
  obtain ⟨_, _, e, r⟩ := hr h0
  simp at e
  obtain ⟨rfl, rfl⟩ := e
  exact r

set_option maxRecDepth 100000 in
set_option maxHeartbeats 2000000 in
theorem sh_straight {v : Value} {ps : List Pt} {w : World} (h : Psl w v ps) (h0 : 0 < ps.length) (h1 : ps.length ≤ 100) : Calls Tryz.prog 37 #[v] w (Gives w true (straightL ps)) := by
  obtain ⟨B, hB⟩ : ∃ B, w.heap.size = B := ⟨_, rfl⟩
  obtain ⟨W, hW⟩ : ∃ W, w.alloc (.cells #[.bool false, .slice none 0 0] 41) = W := ⟨_, rfl⟩
  have hr0 : Has W B #[.bool false, .slice none 0 0] 41 := by rw [← hW]; exact has_new hB
  have hb0 : Below B w W := by rw [← hW]; exact (Below.refl _ _).alloc (by omega) _
  have hz0 : W.heap.size = B + 1 := by rw [← hW]; simp [hB]
  have HS := Lib.hid h
  have hs := h.below hb0 (by omega)
  obtain ⟨ao, cap, rfl, hf, hr⟩ := hs
  obtain ⟨g, o, rfl, r⟩ := hr h0
  obtain ⟨N, hN⟩ : ∃ N, ps.length = N := ⟨_, rfl⟩
  have HR := Lib.hid r
  have HN := Lib.hid hN
  have HB := Lib.hid hB
  have HW := Lib.hid hW
  have p0 := r.c0 0 h0
  have p1 := r.c1 0 h0
  rw [hN] at h0 h1 ⊢
  simp only [Nat.zero_mul, Nat.add_zero] at p0 p1
  obtain ⟨p, hp⟩ : ∃ p, pt ps 0 = p := ⟨_, rfl⟩
  rw [hp] at p0 p1
  obtain ⟨V, hV⟩ : ∃ V, (W.alloc (.cells (pCells p) 29)).alloc (.cells #[.bool true, .slice (some ⟨B + 1, 0, none⟩) 1 1] 41) = V := ⟨_, rfl⟩
  have G0 : Hid (Grp3 w B (B + 1 + 1) true (strN ps 0) (.slice (some ⟨B + 1, 0, none⟩) 1 1) V) := Lib.hid (by
    have ho : Pown (W.alloc (.cells (pCells p) 29)) (B + 1) (.slice (some ⟨B + 1, 0, none⟩) 1 1) [p] := by
      have := World.ownsRow_lit (e := 29) (size := 2) (base := B + 1) W (pCells p) 1 (by omega) (by unfold maxLen; omega) rfl
      rw [hz0] at this
      exact this
    show Grp3 w B (B + 1 + 1) true [pt ps 0] _ V
    rw [hp, ← hV]
    exact ⟨ho.alloc _, has_new (by simp [hz0]), (hr0.alloc _).alloc _, fun k hk e => by have e' : some (B + 1) = some k := hk; simp at e'; omega, by rw [hB]; exact (hb0.alloc (by omega) _).alloc (by simp; omega) _, by omega, by omega⟩)
  have HV := Lib.hid hV
  have HZ := Lib.hid hz0
  have o1 : (0 : Int) < N := by omega
  have o2 : (N : Int) ≤ 100 := by omega
  clear hf r hr hN hb0 hr0 hW hV h hp
  obtain ⟨px, py⟩ := p
  simp only at p0 p1
  go_enter Tryz.func37, Tryz.ntmps37
  go_upto_region 1 with fail
  rw [HW.out]
  clear hB
  go_upto_region 2 with fail
  rw [HV.out]
  clear p0 p1 hz0
  go_wp2
  go_loopw [14] (fun i wr => ∃ (n : Nat) (l : Value), n ≤ N ∧ i = .int .i64 n ∧ Grp3 w B (B + 1 + 1) true (strN ps n) l wr) (fun i _ => N - (intOf i).toNat)
  case atStart => exact ⟨0, _, by omega, rfl, G0.out⟩
  case round =>
    clear G0
    obtain ⟨n, l, hn, rfl, hG⟩ := hrel
    have GH := Lib.hid hG
    have bw := Lib.hid hG.below
    by_cases hlt : n < N
    · have o3 : (n : Int) < N := by omega
      obtain ⟨m, hm⟩ : ∃ m : Nat, (n + 1) % N = m := ⟨_, rfl⟩
      have hmN : m < N := by rw [← hm]; exact Nat.mod_lt _ h0
      have e1 : ((n : Int) + 1) % (N : Int) = (m : Int) := by rw [← hm]; rfl
      have o4 : (m : Int) < N := by omega
      have o5 : ¬ (N : Int) = 0 := by omega
      have o6 : ¬ N = 0 := by omega
      obtain ⟨V1, hV1⟩ : ∃ V1, wr.alloc (.cells (pCells (pt ps n)) 29) = V1 := ⟨_, rfl⟩
      have rr : Prow wr g o ps := psl_row (HS.out.below bw.out (Nat.le_refl _)) (by have := HN.out; omega)
      have r1 : Prow V1 g o ps := psl_row ((HS.out.below bw.out (Nat.le_refl _)).below (B := wr.heap.size) (w' := V1) (by rw [← hV1]; exact (Below.refl _ _).alloc (Nat.le_refl _) _) (Nat.le_refl _)) (by have := HN.out; omega)
      have c0 := rr.c0 n (by have := HN.out; omega)
      have c1 := rr.c1 n (by have := HN.out; omega)
      have d0 := r1.c0 m (by have := HN.out; omega)
      have d1 := r1.c1 m (by have := HN.out; omega)
      have HM := Lib.hid hm
      obtain ⟨q, hq⟩ : ∃ q, pt ps n = q := ⟨_, rfl⟩
      obtain ⟨t, ht⟩ : ∃ q, pt ps m = q := ⟨_, rfl⟩
      rw [hq] at c0 c1 hV1
      rw [ht] at d0 d1
      have HQ := Lib.hid hq
      have HT := Lib.hid ht
      obtain ⟨V2, hV2⟩ : ∃ V2, V1.alloc (.cells (pCells t) 29) = V2 := ⟨_, rfl⟩
      obtain ⟨A, hA⟩ : ∃ A, wr.heap.size = A := ⟨_, rfl⟩
      have hA1 : V1.heap.size = A + 1 := by rw [← hV1]; simp [hA]
      have kA : Has V2 A (pCells q) 29 := by rw [← hV2, ← hV1]; exact (has_new hA).alloc _
      have kB : Has V2 (A + 1) (pCells t) 29 := by rw [← hV2]; exact has_new hA1
      have b2 : Below wr.heap.size wr V2 := by rw [← hV2, ← hV1]; exact ((Below.refl _ _).alloc (Nat.le_refl _) _).alloc (by simp) _
      have G2 := Lib.hid (hG.later b2)
      have f1 := (hG.later b2).out.cell 1 _ rfl
      have a0 := kA.cell 0 _ rfl
      have a1 := kA.cell 1 _ rfl
      have b0 := kB.cell 0 _ rfl
      have b1 := kB.cell 1 _ rfl
      have HV1 := Lib.hid hV1
      have HV2 := Lib.hid hV2
      have HA1 := Lib.hid hA1
      obtain ⟨gl, cl, hl⟩ := hG.own.shape (by rw [strN_length]; omega)
      obtain ⟨LN, hLN⟩ : ∃ LN, (strN ps n).length = LN := ⟨_, rfl⟩
      rw [hLN] at hl
      subst hl
      have HLN := Lib.hid hLN
      have BN : Hid (LN + 3 ≤ 8796093022208) := Lib.hid (by rw [← hLN, strN_length]; omega)
      have ST : Hid (strN ps n ++ [q, t, t] = strN ps (n + 1)) := Lib.hid (by rw [← hq, ← ht, ← hm, ← HN.out]; rfl)
      clear hm hq ht rr r1 hG hV1 hV2 b2 kA kB hA1 hLN
      obtain ⟨qx, qy⟩ := q
      obtain ⟨tx, ty⟩ := t
      simp only at c0 c1 d0 d1 a0 a1 b0 b1
      go_upto_region 5 with fail
      rw [HV1.out]
      clear hA
      go_upto_region 6 with fail
      rw [HA1.out, HV2.out]
      clear c0 c1 d0 d1
      go_wp2_with (at_builtin; refine wpList_append_pl rfl _ _ rfl LN HLN.out rfl V2.heap.size 0 3 3 rfl [⟨qx, qy⟩, ⟨tx, ty⟩, ⟨tx, ty⟩] rfl (by decide) BN.out (prow_has (cs := #[.int .i64 qx, .int .i64 qy, .int .i64 tx, .int .i64 ty, .int .i64 tx, .int .i64 ty]) (by simp) (has_new rfl) rfl) (G2.out.alloc _).own (G2.out.alloc _).big ?_)
      intro g' cap' w4 ho hg hat
      have fi := (G2.out.alloc _).fine hg
      have f0 := fi.1
      have f2 := fi.2
      have G4 := Lib.hid ((G2.out.alloc _).put ho hg (hat.imp id (fun h => by simpa using h)))
      rw [ST.out] at G4
      clear ho hg hat fi f1 a0 a1 b0 b1
      go_wp2
      go_roundw
      case rel => exact ⟨n + 1, _, by omega, by go_num, G4.out⟩
      case measure => simp [intOf]; omega
    · obtain rfl : n = N := by omega
      have R := Lib.hid (hG.gives HB.out)
      have q0 := hG.out.cell 0 _ rfl
      have q1 := hG.out.cell 1 _ rfl
      have r0 := hG.res.cell 0 _ rfl
      have r1 := hG.res.cell 1 _ rfl
      have fz := has_fro hG.res
      have e1 : strN ps n = straightL ps := by unfold straightL; rw [HN.out]
      rw [e1] at R
      obtain ⟨ao, cp, rfl⟩ := hG.own.len
      have HL := Lib.hid (strN_length ps n)
      have o3 : (n : Int) ≤ n := by omega
      clear hG GH bw e1
      go_wp2
      refine bodyPost_ret (v := .agg #[.bool true, .slice ao (strN ps n).length cp]) (by simp [results, Tryz.results37, go_sem, r0, r1]) rfl ?_
      exact R.out

end Go.Proofs.YtglbfpjjnboeaaaGreat

namespace Go.Proofs.YtglbfpjjnboeaaaGreat
open Go Go.RowKit
open M

theorem sh_point (x y : Int) (w : World) : Calls Tryz.prog 38 #[.int .i64 x, .int .i64 y] w fun e w' => e = .returned (.agg (pCells ⟨x, y⟩)) ∧ Below w.heap.size w w' := by
  go_enter Tryz.func38, Tryz.ntmps38
  go_wp2
  refine bodyPost_ret (v := .agg (pCells ⟨x, y⟩)) (by simp [results, Tryz.results38, go_sem]) rfl ⟨rfl, ?_⟩
  exact (Below.refl _ _).alloc (Nat.le_refl _) _
/-- What a call has answered is a call's own answer, put into the block of its result. -/
theorem gives_tail {w w1 w2 : World} {B : Nat} {c : Bool} {ps : List Pt} {v : Value} (hB : w.heap.size = B) (hr : Has w1 B #[.bool false, .slice none 0 0] 41) (hb : Below B w w1) (ho : Pown w2 w1.heap.size v ps) (hq : Below w1.heap.size w1 w2) :
    Gives w c ps (.returned (.agg #[.bool c, v])) ((w2.setCell ⟨B, 0, none⟩ (.bool c)).setCell ⟨B, 1, none⟩ v) ∧ Has w2 B #[.bool false, .slice none 0 0] 41 := by
  have lt := hr.lt
  exact ⟨gives_put (w := w) hB (ho.lower (by omega)) (fun e => by have := (ho.base _ e).1; omega) (Nat.le_refl _) (hb.trans (hq.mono (by omega))) rfl _ _ rfl, hr.below hq hr.lt⟩

set_option maxRecDepth 100000 in
set_option maxHeartbeats 2000000 in
theorem sh_rect (x y : Int) (w : World) (wx : -9223372036854775808 ≤ x ∧ x ≤ 9223372036854775807) (wy : -9223372036854775808 ≤ y ∧ y ≤ 9223372036854775807) : Calls Tryz.prog 12 #[.int .i64 x, .int .i64 y] w (Gives w true (rectL x y)) := by
  obtain ⟨B, hB⟩ : ∃ B, w.heap.size = B := ⟨_, rfl⟩
  obtain ⟨W, hW⟩ : ∃ W, w.alloc (.cells #[.bool false, .slice none 0 0] 41) = W := ⟨_, rfl⟩
  have hr0 : Has W B #[.bool false, .slice none 0 0] 41 := by rw [← hW]; exact has_new hB
  have hb0 : Below B w W := by rw [← hW]; exact (Below.refl _ _).alloc (by omega) _
  have HR := Lib.hid hr0
  have HB := Lib.hid hB
  have HW := Lib.hid hW
  have HBW := Lib.hid hb0
  have SZ : Hid (B ≤ W.heap.size) := Lib.hid (Nat.le_of_lt hr0.lt)
  have ER : Hid (rectL x y = straightL [⟨-(x / 2), -(y / 2)⟩, ⟨x - x / 2, -(y / 2)⟩, ⟨x - x / 2, y - y / 2⟩, ⟨-(x / 2), y - y / 2⟩]) := Lib.hid rfl
  obtain ⟨R, hR⟩ : ∃ R, rectL x y = R := ⟨_, rfl⟩
  rw [hR] at ER ⊢
  clear hr0 hb0 hW hR
  go_enter Tryz.func12, Tryz.ntmps12
  go_wp2_with fail
  rw [HW.out]
  clear hB
  refine (sh_point _ _ _).mono ?_
  rintro e w1 ⟨rfl, q1⟩
  have Q1 := Lib.hid q1
  clear q1
  go_wp2_with fail
  refine (sh_point _ _ _).mono ?_
  rintro e w2 ⟨rfl, q2⟩
  have Q2 := Lib.hid (Q1.out.trans (q2.mono Q1.out.size))
  clear q2 Q1
  go_wp2_with fail
  refine (sh_point _ _ _).mono ?_
  rintro e w3 ⟨rfl, q3⟩
  have Q3 := Lib.hid (Q2.out.trans (q3.mono Q2.out.size))
  clear q3 Q2
  go_wp2_with fail
  refine (sh_point _ _ _).mono ?_
  rintro e w4 ⟨rfl, q4⟩
  have Q4 := Lib.hid (Q3.out.trans (q4.mono Q3.out.size))
  clear q4 Q3
  go_wp2_with fail
  obtain ⟨V, hV⟩ : ∃ V, w4.alloc (.cells #[.int .i64 (-(x / 2)), .int .i64 (-(y / 2)), .int .i64 (x - x / 2), .int .i64 (-(y / 2)), .int .i64 (x - x / 2), .int .i64 (y - y / 2), .int .i64 (-(x / 2)), .int .i64 (y - y / 2)] 29) = V := ⟨_, rfl⟩
  have PS : Psl V (.slice (some ⟨w4.heap.size, 0, none⟩) 4 4) [⟨-(x / 2), -(y / 2)⟩, ⟨x - x / 2, -(y / 2)⟩, ⟨x - x / 2, y - y / 2⟩, ⟨-(x / 2), y - y / 2⟩] := by rw [← hV]; exact psl_lit 4 4 rfl (by decide) (has_new rfl) rfl
  have QV : Below W.heap.size W V := by rw [← hV]; exact Q4.out.alloc Q4.out.size _
  have QW := Lib.hid QV
  rw [hV]
  have ST := sh_straight PS (by simp) (by simp)
  rw [← ER.out] at ST
  clear hV Q4 PS QV
  refine ST.mono ?_
  rintro e w5 ⟨v, rfl, ho, hq⟩
  obtain ⟨G, K⟩ := gives_tail (c := true) HB.out (HR.out.below QW.out HR.out.lt) (HBW.out.trans (QW.out.mono SZ.out)) ho hq
  have GG := Lib.hid G
  obtain ⟨ao, cp, rfl⟩ := ho.len
  obtain ⟨LN, hLN⟩ : ∃ n, R.length = n := ⟨_, rfl⟩
  rw [hLN] at GG ⊢
  have r0 := K.cell 0 _ rfl
  have r1 := K.cell 1 _ rfl
  have fz := has_fro K
  clear ST G K ho hq hLN
  go_wp2
  refine bodyPost_ret (v := .agg #[.bool true, .slice ao LN cp]) (by simp [results, Tryz.results12, go_sem, r0, r1]) rfl ?_
  exact GG.out

end Go.Proofs.YtglbfpjjnboeaaaGreat

namespace Go.Proofs.YtglbfpjjnboeaaaGreat
open Go Go.RowKit
open M

/-- A literal of places in a block of its own. -/
theorem pown_new {w : World} {B n : Nat} {cs : Array Value} {ps : List Pt} (hb : B ≤ w.heap.size) (hn : ps.length = n) (hm : n ≤ 1000) (hcs : cs.toList = pls ps) : Pown (w.alloc (.cells cs 29)) B (.slice (some ⟨w.heap.size, 0, none⟩) n n) ps := by
  subst hn
  have hsz : cs.size = ps.length * 2 := by rw [← Array.length_toList, hcs, pls_length]
  have := World.ownsRow_lit (e := 29) (size := 2) (base := B) w cs ps.length hb (by unfold maxLen; omega) hsz
  unfold Pown
  rw [← hcs]
  exact this

set_option maxRecDepth 100000 in
set_option maxHeartbeats 4000000 in
theorem sh_oval (x y : Int) (w : World) (wx : -9223372036854775808 ≤ x ∧ x ≤ 9223372036854775807) (wy : -9223372036854775808 ≤ y ∧ y ≤ 9223372036854775807) : Calls Tryz.prog 14 #[.int .i64 x, .int .i64 y] w (Gives w true (ovalL x y)) := by
  obtain ⟨B, hB⟩ : ∃ B, w.heap.size = B := ⟨_, rfl⟩
  obtain ⟨W, hW⟩ : ∃ W, w.alloc (.cells #[.bool false, .slice none 0 0] 41) = W := ⟨_, rfl⟩
  have hr0 : Has W B #[.bool false, .slice none 0 0] 41 := by rw [← hW]; exact has_new hB
  have hb0 : Below B w W := by rw [← hW]; exact (Below.refl _ _).alloc (by omega) _
  have HR := Lib.hid hr0
  have HB := Lib.hid hB
  have HW := Lib.hid hW
  have HBW := Lib.hid hb0
  have SZ : Hid (B ≤ W.heap.size) := Lib.hid (Nat.le_of_lt hr0.lt)
  obtain ⟨R, hR⟩ : ∃ R, ovalL x y = R := ⟨_, rfl⟩
  have ER : Hid (ovalN (x / 2) (y / 2) (mul (x / 2) 36195) (mul (y / 2) 36195) = R) := Lib.hid hR
  rw [hR]
  obtain ⟨a, ha⟩ : ∃ a, x / 2 = a := ⟨_, rfl⟩
  obtain ⟨b, hb⟩ : ∃ b, y / 2 = b := ⟨_, rfl⟩
  have a0 : -4611686018427387904 ≤ a ∧ a ≤ 4611686018427387903 := by omega
  have b0 : -4611686018427387904 ≤ b ∧ b ≤ 4611686018427387903 := by omega
  have M1 : Hid (∀ w : World, Calls Tryz.prog 40 #[.int .i64 a, .int .i64 36195] w fun e w' => e = .returned (.int .i64 (mul a 36195)) ∧ w = w') := Lib.hid (fun w => q_mul a 36195 w)
  have M2 : Hid (∀ w : World, Calls Tryz.prog 40 #[.int .i64 b, .int .i64 36195] w fun e w' => e = .returned (.int .i64 (mul b 36195)) ∧ w = w') := Lib.hid (fun w => q_mul b 36195 w)
  have k0 : -1099511627776 ≤ mul a 36195 ∧ mul a 36195 ≤ 1099511627776 := ⟨hold_lo _, hold_hi _⟩
  have l0 : -1099511627776 ≤ mul b 36195 ∧ mul b 36195 ≤ 1099511627776 := ⟨hold_lo _, hold_hi _⟩
  rw [ha, hb] at ER
  obtain ⟨k, hk⟩ : ∃ k, mul a 36195 = k := ⟨_, rfl⟩
  obtain ⟨l, hl⟩ : ∃ l, mul b 36195 = l := ⟨_, rfl⟩
  rw [hk] at M1 k0 ER
  rw [hl] at M2 l0 ER
  clear hr0 hb0 hW hR hk hl
  go_enter Tryz.func14, Tryz.ntmps14
  go_wp2_with fail
  rw [HW.out]
  clear hB
  clear ha hb wx wy
  refine (M1.out _).mono ?_
  rintro e w' ⟨rfl, rfl⟩
  go_wp2_with fail
  refine (M2.out _).mono ?_
  rintro e w' ⟨rfl, rfl⟩
  clear M1 M2
  have M2 : Hid (Below W.heap.size W W) := Lib.hid (Below.refl _ _)
  go_wp2_with fail
  refine (sh_point _ _ _).mono ?_
  rintro e w1 ⟨rfl, q1⟩
  have Q1 := Lib.hid (M2.out.trans (q1.mono M2.out.size))
  clear q1 M2
  go_wp2_with fail
  refine (sh_point _ _ _).mono ?_
  rintro e w2 ⟨rfl, q2⟩
  have Q2 := Lib.hid (Q1.out.trans (q2.mono Q1.out.size))
  clear q2 Q1
  go_wp2_with fail
  refine (sh_point _ _ _).mono ?_
  rintro e w3 ⟨rfl, q3⟩
  have Q3 := Lib.hid (Q2.out.trans (q3.mono Q2.out.size))
  clear q3 Q2
  go_wp2_with fail
  refine (sh_point _ _ _).mono ?_
  rintro e w4 ⟨rfl, q4⟩
  have Q4 := Lib.hid (Q3.out.trans (q4.mono Q3.out.size))
  clear q4 Q3
  go_wp2_with fail
  refine (sh_point _ _ _).mono ?_
  rintro e w5 ⟨rfl, q5⟩
  have Q5 := Lib.hid (Q4.out.trans (q5.mono Q4.out.size))
  clear q5 Q4
  go_wp2_with fail
  refine (sh_point _ _ _).mono ?_
  rintro e w6 ⟨rfl, q6⟩
  have Q6 := Lib.hid (Q5.out.trans (q6.mono Q5.out.size))
  clear q6 Q5
  go_wp2_with fail
  refine (sh_point _ _ _).mono ?_
  rintro e w7 ⟨rfl, q7⟩
  have Q7 := Lib.hid (Q6.out.trans (q7.mono Q6.out.size))
  clear q7 Q6
  go_wp2_with fail
  refine (sh_point _ _ _).mono ?_
  rintro e w8 ⟨rfl, q8⟩
  have Q8 := Lib.hid (Q7.out.trans (q8.mono Q7.out.size))
  clear q8 Q7
  go_wp2_with fail
  refine (sh_point _ _ _).mono ?_
  rintro e w9 ⟨rfl, q9⟩
  have Q9 := Lib.hid (Q8.out.trans (q9.mono Q8.out.size))
  clear q9 Q8
  go_wp2_with fail
  refine (sh_point _ _ _).mono ?_
  rintro e w10 ⟨rfl, q10⟩
  have Q10 := Lib.hid (Q9.out.trans (q10.mono Q9.out.size))
  clear q10 Q9
  go_wp2_with fail
  refine (sh_point _ _ _).mono ?_
  rintro e w11 ⟨rfl, q11⟩
  have Q11 := Lib.hid (Q10.out.trans (q11.mono Q10.out.size))
  clear q11 Q10
  go_wp2_with fail
  refine (sh_point _ _ _).mono ?_
  rintro e w12 ⟨rfl, q12⟩
  have Q12 := Lib.hid (Q11.out.trans (q12.mono Q11.out.size))
  clear q12 Q11
  go_wp2_with fail
  refine (sh_point _ _ _).mono ?_
  rintro e w13 ⟨rfl, q13⟩
  have Q13 := Lib.hid (Q12.out.trans (q13.mono Q12.out.size))
  clear q13 Q12
  obtain ⟨V, hV⟩ : ∃ V, w13.alloc (.cells #[.int .i64 a, .int .i64 0, .int .i64 a, .int .i64 l, .int .i64 k, .int .i64 b, .int .i64 0, .int .i64 b, .int .i64 (-k), .int .i64 b, .int .i64 (-a), .int .i64 l, .int .i64 (-a), .int .i64 0, .int .i64 (-a), .int .i64 (-l), .int .i64 (-k), .int .i64 (-b), .int .i64 0, .int .i64 (-b), .int .i64 k, .int .i64 (-b), .int .i64 a, .int .i64 (-l), .int .i64 a, .int .i64 0] 29) = V := ⟨_, rfl⟩
  have QV : Below W.heap.size W V := by rw [← hV]; exact Q13.out.alloc Q13.out.size _
  have K := HR.out.below QV HR.out.lt
  have PO : Pown V B (.slice (some ⟨w13.heap.size, 0, none⟩) 13 13) R := by rw [← hV, ← ER.out]; exact pown_new (Nat.le_trans SZ.out Q13.out.size) rfl (by decide) rfl
  have G := Lib.hid (gives_put (w := w) (r := B) (c := true) HB.out PO (fun e => by have e' : some w13.heap.size = some B := e; simp at e'; have := HR.out.lt; have := Q13.out.size; omega) (Nat.le_refl _) (HBW.out.trans (QV.mono SZ.out)) rfl (.bool true) _ rfl)
  have K13 := HR.out.below Q13.out HR.out.lt
  have r0 := fun o => (K13.alloc o).cell 0 _ rfl
  have r1 := fun o => (K13.alloc o).cell 1 _ rfl
  have fz := fun o j => has_fro (K13.alloc o) j
  rw [← hV] at G
  clear hV QV K PO Q13 K13
  go_wp2
  refine bodyPost_ret (v := .agg #[.bool true, .slice (some ⟨w13.heap.size, 0, none⟩) 13 13]) (by simp [results, Tryz.results14, go_sem, r0, r1]) rfl ?_
  exact G.out

end Go.Proofs.YtglbfpjjnboeaaaGreat

namespace Go.Proofs.YtglbfpjjnboeaaaGreat
open Go Go.RowKit
open M

set_option maxRecDepth 100000 in
theorem sh_around (a f : Int) (w : World) : Calls Tryz.prog 43 #[.int .i64 a, .int .i64 f] w fun e w' => e = .returned (.agg (pCells ⟨mul f (cos a), mul f (sin a)⟩)) ∧ Below w.heap.size w w' := by
  obtain ⟨c, hc⟩ : ∃ c, cos a = c := ⟨_, rfl⟩
  obtain ⟨d, hd⟩ : ∃ d, sin a = d := ⟨_, rfl⟩
  have TC : Hid (∀ w, Calls Tryz.prog 69 #[.int .i64 a] w (Drawn (.int .i64 c) w)) := Lib.hid (fun w => by have := t_cos a w; rw [hc] at this; exact this)
  have TS : Hid (∀ w, Calls Tryz.prog 70 #[.int .i64 a] w (Drawn (.int .i64 d) w)) := Lib.hid (fun w => by have := t_sin a w; rw [hd] at this; exact this)
  rw [hc, hd]
  clear hc hd
  go_enter Tryz.func43, Tryz.ntmps43
  obtain ⟨B, hB⟩ : ∃ B, w.heap.size = B := ⟨_, rfl⟩
  obtain ⟨W, hW⟩ : ∃ W, w.alloc (.cells #[.int .i64 0, .int .i64 0] 29) = W := ⟨_, rfl⟩
  have hr0 : Has W B #[.int .i64 0, .int .i64 0] 29 := by rw [← hW]; exact has_new hB
  have hb0 : Below B w W := by rw [← hW]; exact (Below.refl _ _).alloc (by omega) _
  have HR := Lib.hid hr0
  have HB := Lib.hid hB
  have HW := Lib.hid hW
  have HBW := Lib.hid hb0
  have SZ : Hid (B ≤ W.heap.size) := Lib.hid (Nat.le_of_lt hr0.lt)
  clear hr0 hb0 hW
  go_wp2_with fail
  rw [HW.out]
  clear hB
  refine (TC.out _).mono ?_
  rintro e w1 ⟨rfl, n1, rfl⟩
  go_wp2_with fail
  refine (q_mul _ _ _).mono ?_
  rintro e w' ⟨rfl, rfl⟩
  go_wp2_with fail
  refine (TS.out _).mono ?_
  rintro e w2 ⟨rfl, n2, rfl⟩
  go_wp2_with fail
  refine (q_mul _ _ _).mono ?_
  rintro e w' ⟨rfl, rfl⟩
  obtain ⟨V, hV⟩ : ∃ V, W.drewN (n1 + n2) = V := ⟨_, rfl⟩
  have bV : Below W.heap.size W V := by rw [← hV]; exact below_drewN (Below.refl _ _) _
  have BV := Lib.hid bV
  clear bV
  rw [hV]
  clear hV
  go_wp2_with fail
  refine (sh_point _ _ _).mono ?_
  rintro e w3 ⟨rfl, q3⟩
  have Q3 := BV.out.trans (q3.mono BV.out.size)
  have K := HR.out.below Q3 HR.out.lt
  have r0 := K.cell 0 _ rfl
  have r1 := K.cell 1 _ rfl
  have fz := has_fro K
  have QQ : Hid (Below w.heap.size w w3) := Lib.hid (by rw [HB.out]; exact HBW.out.trans (Q3.mono SZ.out))
  have HBB : Hid (w.heap.size ≤ B) := Lib.hid (by rw [HB.out]; exact Nat.le_refl _)
  clear K Q3 q3
  go_wp2
  refine bodyPost_ret (v := .agg (pCells ⟨mul f c, mul f d⟩)) (by simp [results, Tryz.results43, go_sem, r0, r1]) rfl ⟨rfl, ?_⟩
  exact (QQ.out.setCell HBB.out _).setCell HBB.out _

theorem angle_of {c : Int} {j : Nat} (c0 : 2 ≤ c) (c1 : c ≤ 16) (hj : j ≤ 32) : -5898240 ≤ angle c j ∧ angle c j ≤ 400000000 := by
  unfold angle
  have h0 : 0 ≤ ((j : Int) * 11796480) / c := Int.ediv_nonneg (by omega) (by omega)
  have h1 : ((j : Int) * 11796480) / c ≤ (j : Int) * 11796480 := Int.ediv_le_self _ (by omega)
  omega

set_option maxRecDepth 100000 in
set_option maxHeartbeats 2000000 in
theorem sh_star (n r s : Int) (w : World) : Calls Tryz.prog 16 #[.int .i64 n, .int .i64 r, .int .i64 s] w (Gives w true (starL n r s)) := by
  obtain ⟨c, hc⟩ : ∃ c, points n = c := ⟨_, rfl⟩
  have QC : Hid (∀ w, Calls Tryz.prog 42 #[.int .i64 n, .int .i64 2, .int .i64 16] w fun e w' => e = .returned (.int .i64 c) ∧ w = w') := Lib.hid (fun w => by have := q_clamp n 2 16 w; unfold points at hc; rw [hc] at this; exact this)
  have c2 : 2 ≤ c ∧ c ≤ 16 := by rw [← hc]; unfold points clamp; split <;> (try split) <;> omega
  obtain ⟨C, rfl⟩ : ∃ C : Nat, c = (C : Int) := ⟨c.toNat, by omega⟩
  have ES : Hid (straightL (starN C r s (2 * C)) = starL n r s) := Lib.hid (by unfold starL; rw [hc, Int.toNat_natCast])
  obtain ⟨R, hR⟩ : ∃ R, starL n r s = R := ⟨_, rfl⟩
  rw [hR] at ES ⊢
  obtain ⟨B, hB⟩ : ∃ B, w.heap.size = B := ⟨_, rfl⟩
  obtain ⟨W, hW⟩ : ∃ W, w.alloc (.cells #[.bool false, .slice none 0 0] 41) = W := ⟨_, rfl⟩
  have hr0 : Has W B #[.bool false, .slice none 0 0] 41 := by rw [← hW]; exact has_new hB
  have hb0 : Below B w W := by rw [← hW]; exact (Below.refl _ _).alloc (by omega) _
  have HR := Lib.hid hr0
  have HB := Lib.hid hB
  have HW := Lib.hid hW
  have HBW := Lib.hid hb0
  have SZ : Hid (B ≤ W.heap.size) := Lib.hid (Nat.le_of_lt hr0.lt)
  have o1 : (2 : Int) ≤ C := c2.1
  have o2 : (C : Int) ≤ 16 := c2.2
  have o3 : ¬ (C : Int) = 0 := by omega
  have o4 : ¬ C = 0 := by omega
  have o5 : wrap64 (2 * (C : Int)) = 2 * (C : Int) := by unfold wrap64; omega
  clear hr0 hb0 hW hR hc c2
  go_enter Tryz.func16, Tryz.ntmps16
  go_wp2_with fail
  rw [HW.out]
  clear hB
  refine (QC.out _).mono ?_
  rintro e w' ⟨rfl, rfl⟩
  go_wp2_with fail
  go_loopw [8, 15] (fun lv i wr => ∃ (m : Nat), m ≤ 2 * C ∧ i = .int .i64 m ∧ Pown wr W.heap.size lv (starN C r s m) ∧ Below W.heap.size W wr) (fun _ i _ => 2 * C - (intOf i).toNat)
  case atStart => exact ⟨0, by omega, rfl, Pown.nil _ _, Below.refl _ _⟩
  case round =>
    obtain ⟨m, hm, rfl, ho, hb⟩ := hrel
    by_cases hlt : m < 2 * C
    · obtain ⟨A, hA, A0, A1⟩ : ∃ A, angle C m = A ∧ -5898240 ≤ A ∧ A ≤ 400000000 := ⟨_, rfl, angle_of o1 o2 (by omega)⟩
      have HA : Hid ((m : Int) * 11796480 / C - 5898240 = A) := Lib.hid hA
      have oA : (m : Int) * 11796480 / C = A + 5898240 := by have := HA.out; omega
      have o6 : (m : Int) < 2 * C := by omega
      have o7 : (m : Int) ≤ 32 := by omega
      have o8 : 0 ≤ (m : Int) * 11796480 := by omega
      have HO := Lib.hid ho
      have HQ := Lib.hid hb
      have NX := Lib.hid (starN_snoc C r s m)
      obtain ⟨p, hp⟩ : ∃ p, starP C r s m = p := ⟨_, rfl⟩
      rw [hp] at NX
      obtain ⟨f, hf⟩ : ∃ f, (if m % 2 = 1 then s else r) = f := ⟨_, rfl⟩
      have EP : Hid (p = ⟨mul f (cos A), mul f (sin A)⟩) := Lib.hid (by rw [← hp]; unfold starP; rw [hf, hA])
      obtain ⟨rs, hrs⟩ : ∃ rs, starN C r s m = rs := ⟨_, rfl⟩
      have HN : Hid (rs.length = m) := Lib.hid (by rw [← hrs, starN_length])
      rw [hrs] at HO NX
      have FF : Hid (∀ w, Calls Tryz.prog 43 #[.int .i64 A, .int .i64 f] w fun e w' => e = .returned (.agg (pCells p)) ∧ Below w.heap.size w w') := Lib.hid (fun w => by rw [EP.out]; exact sh_around A f w)
      obtain ⟨aol, capl, el⟩ := ho.len
      rw [hrs, HN.out] at el
      clear hA hp hrs ho hb
      subst el
      rcases (show m % 2 = 0 ∨ m % 2 = 1 by omega) with hm2 | hm2
      all_goals
        first | rw [if_neg (by omega)] at hf | rw [if_pos hm2] at hf
        subst hf
        have om : (m : Int) % 2 = ((m % 2 : Nat) : Int) := by omega
        rw [hm2] at om
        clear hm2
        go_wp2_with fail
        refine (FF.out _).mono ?_
        rintro e w3 ⟨rfl, q3⟩
        have Q3 := Lib.hid (HQ.out.trans (q3.mono HQ.out.size))
        have O3 := Lib.hid (HO.out.below q3 (Nat.le_refl _))
        clear q3
        go_wp2_with (at_builtin; refine wpList_append_pl rfl _ _ rfl m HN.out rfl w3.heap.size 0 1 1 rfl [p] rfl (by decide) (by omega) (prow_one _ _) (O3.out.alloc _) (Nat.le_trans Q3.out.size (by simp)) ?_)
        intro g' cap' w4 ho4 hg4 _
        have B4 : Below W.heap.size W w4 := ((Q3.out.alloc Q3.out.size _).grown hg4 (by have := Q3.out.size; simp; omega) (fun k hk => (O3.out.base k hk).1))
        have HB4 := Lib.hid B4
        rw [← NX.out] at ho4
        have HO4 := Lib.hid ho4
        clear ho4 hg4 B4
        go_wp2
        go_roundw
        case rel => exact ⟨m + 1, by omega, by go_num, HO4.out, HB4.out⟩
        case measure => simp [intOf]; omega
    · obtain rfl : m = 2 * C := by omega
      have o6 : ((2 * C : Nat) : Int) = 2 * (C : Int) := by omega
      have HL : Hid ((starN C r s (2 * C)).length = 2 * C) := Lib.hid (starN_length _ _ _ _)
      have ST := sh_straight (ho.sl (by rw [HL.out]; omega)) (by rw [HL.out]; omega) (by rw [HL.out]; omega)
      rw [ES.out] at ST
      have HS := Lib.hid ST
      have HQ := Lib.hid hb
      obtain ⟨aol, capl, rfl⟩ := ho.len
      clear ho hb ST
      go_wp2_with fail
      refine HS.out.mono ?_
      rintro e w5 ⟨v, rfl, ho, hq⟩
      obtain ⟨G, K⟩ := gives_tail (c := true) HB.out (HR.out.below HQ.out HR.out.lt) (HBW.out.trans (HQ.out.mono SZ.out)) ho hq
      have GG := Lib.hid G
      obtain ⟨ao, cp, rfl⟩ := ho.len
      obtain ⟨LN, hLN⟩ : ∃ n, R.length = n := ⟨_, rfl⟩
      rw [hLN] at GG ⊢
      have r0 := K.cell 0 _ rfl
      have r1 := K.cell 1 _ rfl
      have fz := has_fro K
      clear G K ho hq hLN
      go_wp2
      refine bodyPost_ret (v := .agg #[.bool true, .slice ao LN cp]) (by simp [results, Tryz.results16, go_sem, r0, r1]) rfl ?_
      exact GG.out

end Go.Proofs.YtglbfpjjnboeaaaGreat

namespace Go.Proofs.YtglbfpjjnboeaaaGreat
open Go Go.RowKit
open M

set_option maxRecDepth 100000 in
set_option maxHeartbeats 4000000 in
theorem sh_at {w : World} {s : Shp} (h : ShIn w s) (t : Int) (bW : -9223372036854775808 ≤ atk s.W t 0 ∧ atk s.W t 0 ≤ 9223372036854775807) (bH : -9223372036854775808 ≤ atk s.H t 0 ∧ atk s.H t 0 ≤ 9223372036854775807) :
    Calls Tryz.prog 18 #[.agg (shC s), .int .i64 t] w (Gives w (shCl s t) (shAt s t)) := by
  obtain ⟨B, hB⟩ : ∃ B, w.heap.size = B := ⟨_, rfl⟩
  obtain ⟨W0, hW0⟩ : ∃ W, w.alloc (.cells (shC s) 34) = W := ⟨_, rfl⟩
  obtain ⟨hi0, hk0, hb0⟩ := h.start hB hW0
  obtain ⟨W, hW⟩ : ∃ W, W0.alloc (.cells #[.bool false, .slice none 0 0] 41) = W := ⟨_, rfl⟩
  have hz0 : W0.heap.size = B + 1 := by rw [← hW0]; simp [hB]
  have hbW : Below W0.heap.size W0 W := by rw [← hW]; exact (Below.refl _ _).alloc (Nat.le_refl _) _
  have hi := hi0.below hbW
  have hk := hk0.below hbW hk0.lt
  have hr : Has W (B + 1) #[.bool false, .slice none 0 0] 41 := by rw [← hW]; exact has_new hz0
  have hb : Below B w W := hb0.trans (hbW.mono (by omega))
  obtain ⟨vw, hvw⟩ : ∃ v, s.vW = v := ⟨_, rfl⟩
  obtain ⟨vh, hvh⟩ : ∃ v, s.vH = v := ⟨_, rfl⟩
  have HVW := Lib.hid hvw
  have HVH := Lib.hid hvh
  clear hvw hvh
  obtain ⟨x, hx⟩ : ∃ x, atk s.W t 0 = x := ⟨_, rfl⟩
  obtain ⟨y, hy⟩ : ∃ x, atk s.H t 0 = x := ⟨_, rfl⟩
  have C1 : Hid (∀ w', Below W.heap.size W w' → Calls Tryz.prog 46 #[vw, .int .i64 t, .int .i64 0] w' fun e w'' => e = .returned (.int .i64 x) ∧ Below w'.heap.size w' w'') := Lib.hid (fun w' h' => by rw [← hx, ← HVW.out]; exact k_at (hi.below h').W t 0)
  have C2 : Hid (∀ w', Below W.heap.size W w' → Calls Tryz.prog 46 #[vh, .int .i64 t, .int .i64 0] w' fun e w'' => e = .returned (.int .i64 y) ∧ Below w'.heap.size w' w'') := Lib.hid (fun w' h' => by rw [← hy, ← HVH.out]; exact k_at (hi.below h').H t 0)
  have C3 : Hid (∀ w', Below W.heap.size W w' → Calls Tryz.prog 47 #[s.vP, .int .i64 t] w' (Gives w' (atcl s.P t) (atps s.P t))) := Lib.hid (fun w' h' => p_at (hi.below h').P t)
  have A0 : Hid (s.form = 0 → shAt s t = rectL x y ∧ shCl s t = true) := Lib.hid (fun e => by unfold shAt shCl; rw [hx, hy, e]; exact ⟨rfl, rfl⟩)
  have A1 : Hid (s.form = 1 → shAt s t = ovalL x y ∧ shCl s t = true) := Lib.hid (fun e => by unfold shAt shCl; rw [hx, hy, e]; exact ⟨rfl, rfl⟩)
  have A2 : Hid (s.form = 2 → shAt s t = starL s.n x y ∧ shCl s t = true) := Lib.hid (fun e => by unfold shAt shCl; rw [hx, hy, e]; exact ⟨rfl, rfl⟩)
  have A3 : Hid (s.form = 3 → shAt s t = atps s.P t ∧ shCl s t = atcl s.P t) := Lib.hid (fun e => by unfold shAt shCl; rw [e]; exact ⟨rfl, rfl⟩)
  have A4 : Hid (¬ s.form = 0 → ¬ s.form = 1 → ¬ s.form = 2 → ¬ s.form = 3 → shAt s t = [] ∧ shCl s t = false) := Lib.hid (fun a b c d => by unfold shAt shCl; rw [if_neg a, if_neg b, if_neg c, if_neg d, if_neg (by omega), if_neg d]; exact ⟨rfl, rfl⟩)
  rw [hx] at bW
  rw [hy] at bH
  have BW := Lib.hid bW
  have BH := Lib.hid bH
  have HBB := Lib.hid hB
  have HW0 := Lib.hid hW0
  have HW := Lib.hid hW
  have HR := Lib.hid hr
  have HBW := Lib.hid hb
  have R0 : Hid (Below W.heap.size W W) := Lib.hid (Below.refl _ _)
  have SZ : Hid (B ≤ W.heap.size) := Lib.hid (by have := hr.lt; omega)
  have HF := Lib.hid (show ∀ w', Below W.heap.size W w' → ∀ j u, (shC s)[j]? = some u → w'.cell? ⟨B, j, none⟩ = some u from fun w' h' j u hu => (hk.below h' hk.lt).cell j u hu)
  obtain ⟨R, hR⟩ : ∃ R, shAt s t = R := ⟨_, rfl⟩
  obtain ⟨c, hc⟩ : ∃ c, shCl s t = c := ⟨_, rfl⟩
  rw [hR, hc] at A0 A1 A2 A3 A4
  rw [hR, hc]
  clear hi0 hk0 hb0 hW0 hW hbW hi hk hr hb hx hy hR hc h bW bH
  by_cases e0 : s.form = 0
  · obtain ⟨er, ec⟩ := A0.out e0
    rw [er, ec]
    clear A0 A1 A2 A3 A4 er ec
    go_enter Tryz.func18, Tryz.ntmps18
    go_upto_region 1 with fail
    rw [HW0.out, HW.out]
    clear hB
    have f0 := HF.out W R0.out 0 _ rfl
    go_upto_region 3 with fail
    refine wp_region_make0 8 (by kernel_rfl) (by kernel_rfl) (by kernel_rfl) ?_
    apply Exists.intro
    refine ⟨fun R hR hN => ?_, ?_⟩
    · have A2 : ∀ z : LaterR W R, z.to.cell? ⟨B, 2, none⟩ = some vw := fun z => by rw [← HVW.out]; exact HF.out z.to z.below 2 _ rfl
      have A3 : ∀ z : LaterR W R, z.to.cell? ⟨B, 3, none⟩ = some vh := fun z => by rw [← HVH.out]; exact HF.out z.to z.below 3 _ rfl
      have DD1 := Lib.hid (fun (z : LaterR W R) => C1.out z.to z.below)
      have DD2 := Lib.hid (fun (z : LaterR W R) => C2.out z.to z.below)
      simp only [List.take_succ_cons, List.take_zero]
      repeat (go_big_quiet_step (first | (go_at_call_of 46 vw; exact LaterR.calls hR (DD1.out _)) | (go_at_call_of 46 vh; exact LaterR.calls hR (DD2.out _))))
      exact wpQuiet_nil rfl
    intro w2 hb2
    simp only [List.drop_succ_cons, List.drop_zero]
    have R2 := Lib.hid hb2
    clear hb2
    go_wp2_with fail
    refine (sh_rect x y _ BW.out BH.out).mono ?_
    rintro e w9 ⟨v, rfl, ho, hq⟩
    have GG := Lib.hid (gives_put (w := w) (r := B + 1) (c := true) HBB.out (ho.lower (B' := B) (by have := SZ.out; have := R2.out.size; omega)) (fun e => by have := (ho.base _ e).1; have := HR.out.lt; have := R2.out.size; omega) (by omega) (HBW.out.trans ((R2.out.trans (hq.mono R2.out.size)).mono SZ.out)) rfl (.bool true) _ rfl)
    have K := HR.out.below (R2.out.trans (hq.mono R2.out.size)) HR.out.lt
    obtain ⟨ao, cp, rfl⟩ := ho.len
    obtain ⟨LN, hLN⟩ : ∃ n, (rectL x y).length = n := ⟨_, rfl⟩
    rw [hLN] at GG ⊢
    have r0 := K.cell 0 _ rfl
    have r1 := K.cell 1 _ rfl
    have fz := has_fro K
    clear K ho hq hLN
    go_wp2
    refine bodyPost_ret (v := .agg #[.bool true, .slice ao LN cp]) (by simp [results, Tryz.results18, go_sem, r0, r1]) rfl ?_
    exact GG.out
  by_cases e1 : s.form = 1
  · obtain ⟨er, ec⟩ := A1.out e1
    rw [er, ec]
    clear A0 A1 A2 A3 A4 er ec
    go_enter Tryz.func18, Tryz.ntmps18
    go_upto_region 1 with fail
    rw [HW0.out, HW.out]
    clear hB
    have f0 := HF.out W R0.out 0 _ rfl
    go_upto_region 5 with fail
    refine wp_region_make0 8 (by kernel_rfl) (by kernel_rfl) (by kernel_rfl) ?_
    apply Exists.intro
    refine ⟨fun R hR hN => ?_, ?_⟩
    · have A2 : ∀ z : LaterR W R, z.to.cell? ⟨B, 2, none⟩ = some vw := fun z => by rw [← HVW.out]; exact HF.out z.to z.below 2 _ rfl
      have A3 : ∀ z : LaterR W R, z.to.cell? ⟨B, 3, none⟩ = some vh := fun z => by rw [← HVH.out]; exact HF.out z.to z.below 3 _ rfl
      have DD1 := Lib.hid (fun (z : LaterR W R) => C1.out z.to z.below)
      have DD2 := Lib.hid (fun (z : LaterR W R) => C2.out z.to z.below)
      simp only [List.take_succ_cons, List.take_zero]
      repeat (go_big_quiet_step (first | (go_at_call_of 46 vw; exact LaterR.calls hR (DD1.out _)) | (go_at_call_of 46 vh; exact LaterR.calls hR (DD2.out _))))
      exact wpQuiet_nil rfl
    intro w2 hb2
    simp only [List.drop_succ_cons, List.drop_zero]
    have R2 := Lib.hid hb2
    clear hb2
    go_wp2_with fail
    refine (sh_oval x y _ BW.out BH.out).mono ?_
    rintro e w9 ⟨v, rfl, ho, hq⟩
    have GG := Lib.hid (gives_put (w := w) (r := B + 1) (c := true) HBB.out (ho.lower (B' := B) (by have := SZ.out; have := R2.out.size; omega)) (fun e => by have := (ho.base _ e).1; have := HR.out.lt; have := R2.out.size; omega) (by omega) (HBW.out.trans ((R2.out.trans (hq.mono R2.out.size)).mono SZ.out)) rfl (.bool true) _ rfl)
    have K := HR.out.below (R2.out.trans (hq.mono R2.out.size)) HR.out.lt
    obtain ⟨ao, cp, rfl⟩ := ho.len
    obtain ⟨LN, hLN⟩ : ∃ n, (ovalL x y).length = n := ⟨_, rfl⟩
    rw [hLN] at GG ⊢
    have r0 := K.cell 0 _ rfl
    have r1 := K.cell 1 _ rfl
    have fz := has_fro K
    clear K ho hq hLN
    go_wp2
    refine bodyPost_ret (v := .agg #[.bool true, .slice ao LN cp]) (by simp [results, Tryz.results18, go_sem, r0, r1]) rfl ?_
    exact GG.out
  by_cases e2 : s.form = 2
  · obtain ⟨er, ec⟩ := A2.out e2
    rw [er, ec]
    clear A0 A1 A2 A3 A4 er ec
    go_enter Tryz.func18, Tryz.ntmps18
    go_upto_region 1 with fail
    rw [HW0.out, HW.out]
    clear hB
    have f0 := HF.out W R0.out 0 _ rfl
    go_upto_region 7 with fail
    refine wp_region_make0 10 (by kernel_rfl) (by kernel_rfl) (by kernel_rfl) ?_
    apply Exists.intro
    refine ⟨fun R hR hN => ?_, ?_⟩
    · have A2 : ∀ z : LaterR W R, z.to.cell? ⟨B, 2, none⟩ = some vw := fun z => by rw [← HVW.out]; exact HF.out z.to z.below 2 _ rfl
      have A3 : ∀ z : LaterR W R, z.to.cell? ⟨B, 3, none⟩ = some vh := fun z => by rw [← HVH.out]; exact HF.out z.to z.below 3 _ rfl
      have A1 := fun (z : LaterR W R) => HF.out z.to z.below 1 _ rfl
      have DD1 := Lib.hid (fun (z : LaterR W R) => C1.out z.to z.below)
      have DD2 := Lib.hid (fun (z : LaterR W R) => C2.out z.to z.below)
      simp only [List.take_succ_cons, List.take_zero]
      repeat (go_big_quiet_step (first | (go_at_call_of 46 vw; exact LaterR.calls hR (DD1.out _)) | (go_at_call_of 46 vh; exact LaterR.calls hR (DD2.out _))))
      exact wpQuiet_nil rfl
    intro w2 hb2
    simp only [List.drop_succ_cons, List.drop_zero]
    have R2 := Lib.hid hb2
    clear hb2
    go_wp2_with fail
    refine (sh_star s.n x y _).mono ?_
    rintro e w9 ⟨v, rfl, ho, hq⟩
    have GG := Lib.hid (gives_put (w := w) (r := B + 1) (c := true) HBB.out (ho.lower (B' := B) (by have := SZ.out; have := R2.out.size; omega)) (fun e => by have := (ho.base _ e).1; have := HR.out.lt; have := R2.out.size; omega) (by omega) (HBW.out.trans ((R2.out.trans (hq.mono R2.out.size)).mono SZ.out)) rfl (.bool true) _ rfl)
    have K := HR.out.below (R2.out.trans (hq.mono R2.out.size)) HR.out.lt
    obtain ⟨ao, cp, rfl⟩ := ho.len
    obtain ⟨LN, hLN⟩ : ∃ n, (starL s.n x y).length = n := ⟨_, rfl⟩
    rw [hLN] at GG ⊢
    have r0 := K.cell 0 _ rfl
    have r1 := K.cell 1 _ rfl
    have fz := has_fro K
    clear K ho hq hLN
    go_wp2
    refine bodyPost_ret (v := .agg #[.bool true, .slice ao LN cp]) (by simp [results, Tryz.results18, go_sem, r0, r1]) rfl ?_
    exact GG.out
  by_cases e3 : s.form = 3
  · obtain ⟨er, ec⟩ := A3.out e3
    rw [er, ec]
    clear A0 A1 A2 A3 A4 er ec
    go_enter Tryz.func18, Tryz.ntmps18
    go_upto_region 1 with fail
    rw [HW0.out, HW.out]
    clear hB
    have f0 := HF.out W R0.out 0 _ rfl
    have f4 := HF.out W R0.out 4 _ rfl
    go_wp2_with fail
    refine (C3.out _ R0.out).mono ?_
    rintro e w9 ⟨v, rfl, ho, hq⟩
    have GG := Lib.hid (gives_put (w := w) (r := B + 1) (c := (atcl s.P t)) HBB.out (ho.lower (B' := B) (by have := SZ.out; have := R0.out.size; omega)) (fun e => by have := (ho.base _ e).1; have := HR.out.lt; have := R0.out.size; omega) (by omega) (HBW.out.trans ((R0.out.trans (hq.mono R0.out.size)).mono SZ.out)) rfl (.bool (atcl s.P t)) _ rfl)
    have K := HR.out.below (R0.out.trans (hq.mono R0.out.size)) HR.out.lt
    obtain ⟨ao, cp, rfl⟩ := ho.len
    obtain ⟨LN, hLN⟩ : ∃ n, (atps s.P t).length = n := ⟨_, rfl⟩
    rw [hLN] at GG ⊢
    have r0 := K.cell 0 _ rfl
    have r1 := K.cell 1 _ rfl
    have fz := has_fro K
    clear K ho hq hLN
    go_wp2
    refine bodyPost_ret (v := .agg #[.bool (atcl s.P t), .slice ao LN cp]) (by simp [results, Tryz.results18, go_sem, r0, r1]) rfl ?_
    exact GG.out
  obtain ⟨er, ec⟩ := A4.out e0 e1 e2 e3
  rw [er, ec]
  clear A0 A1 A2 A3 A4 er ec
  have n0 : (s.form == 0) = false := by simp; omega
  have n1 : (s.form == 1) = false := by simp; omega
  have n2 : (s.form == 2) = false := by simp; omega
  have n3 : (s.form == 3) = false := by simp; omega
  go_enter Tryz.func18, Tryz.ntmps18
  go_upto_region 1 with fail
  rw [HW0.out, HW.out]
  clear hB
  have f0 := HF.out W R0.out 0 _ rfl
  have K := HR.out.below R0.out HR.out.lt
  have G := Lib.hid (gives_put (w := w) (r := B + 1) (c := false) HBB.out (Pown.nil W B) (by simp [Value.ownBlock]) (by omega) (HBW.out.trans (R0.out.mono SZ.out)) rfl (.bool false) _ rfl)
  have r0 := K.cell 0 _ rfl
  have r1 := K.cell 1 _ rfl
  have fz := has_fro K
  clear K
  go_wp2
  refine bodyPost_ret (v := .agg #[.bool false, .slice none 0 0]) (by simp [results, Tryz.results18, go_sem, r0, r1]) rfl ?_
  exact G.out

end Go.Proofs.YtglbfpjjnboeaaaGreat

namespace Go.Proofs.YtglbfpjjnboeaaaGreat
open Go Go.RowKit
open M

def sh0 (f : Int) : Shp := ⟨f, 0, [], .slice none 0 0, [], .slice none 0 0, [], .slice none 0 0, false, 0, 0, ⟨0, 0, 0, 0⟩, ⟨0, 0, 0, 0⟩, ⟨0, 0⟩, ⟨0, 0⟩, 0, [], .slice none 0 0, false, [], .slice none 0 0, ⟨0, 0, 0, 0⟩, 0, [], .slice none 0 0, [], .slice none 0 0, [], .slice none 0 0⟩
theorem sh0_in (f : Int) (w : World) : ShIn w (sh0 f) :=
  ⟨Or.inl ⟨rfl, _, _, rfl⟩, Or.inl ⟨rfl, _, _, rfl⟩, ⟨none, 0, rfl, by simp [sh0], fun h => by simp [sh0] at h⟩, Or.inl ⟨rfl, _, _, rfl⟩, Or.inl ⟨rfl, _, _, rfl⟩, ⟨none, 0, rfl, by simp [sh0], fun h => by simp [sh0] at h⟩, Or.inl ⟨rfl, _, _, rfl⟩, Or.inl ⟨rfl, _, _, rfl⟩⟩
theorem sh0_ok : okS (sh0 0) = true := by decide
theorem sh4_ok : okS (sh0 4) = false := by decide
theorem star99 : (starL 99 5 6).length = 97 := by unfold starL; rw [straightL_length, starN_length]; rfl
theorem oval_length (w h : Int) : (ovalL w h).length = 13 := rfl
theorem rect_length (w h : Int) : (rectL w h).length = 13 := by unfold rectL; rw [straightL_length]; rfl
theorem rect_first : pt (rectL 131072 131072) 0 = ⟨-65536, -65536⟩ := by decide

set_option maxRecDepth 100000 in
set_option maxHeartbeats 4000000 in
theorem known13 (w : World) : Calls Tryz.prog 7 #[] w fun e w' => e = .returned (.bool true) ∧ Below w.heap.size w w' := by
  go_enter Tryz.func7, Tryz.ntmps7
  go_wp2_with fail
  refine (sh_rect 131072 131072 w ⟨by decide, by decide⟩ ⟨by decide, by decide⟩).mono ?_
  rintro e w1 ⟨v, rfl, ho, hq⟩
  obtain ⟨g, cap, rfl⟩ := ho.shape (by rw [rect_length]; decide)
  rw [rect_length]
  have row := (ho.sl (by rw [rect_length]; decide))
  obtain ⟨V, hV⟩ : ∃ V, w1.alloc (.cells #[.bool true, .slice (some ⟨g, 0, none⟩) 13 cap] 41) = V := ⟨_, rfl⟩
  have bV : Below w1.heap.size w1 V := by rw [← hV]; exact (Below.refl _ _).alloc (Nat.le_refl _) _
  have kV : Has V w1.heap.size #[.bool true, .slice (some ⟨g, 0, none⟩) 13 cap] 41 := by rw [← hV]; exact has_new rfl
  rw [rect_length] at row
  have rV := psl_row (row.below bV (Nat.le_refl _)) (by rw [rect_length]; decide)
  have p0 := rV.c0 0 (by rw [rect_length]; decide)
  have p1 := rV.c1 0 (by rw [rect_length]; decide)
  rw [rect_first] at p0 p1
  simp only [Nat.zero_mul, Nat.add_zero] at p0 p1
  obtain ⟨B, hB⟩ : ∃ B, w1.heap.size = B := ⟨_, rfl⟩
  rw [hB] at kV
  have a0 := kV.cell 0 _ rfl
  have a1 := kV.cell 1 _ rfl
  have QV := Lib.hid (hq.trans (bV.mono hq.size))
  have HV := Lib.hid hV
  clear ho hq row bV kV rV hV
  go_upto_region 2 with fail
  rw [HV.out]
  go_wp2_with fail
  refine (sh_star 99 5 6 _).mono ?_
  rintro e w2 ⟨v2, rfl, ho2, hq2⟩
  obtain ⟨ao, cp, rfl⟩ := ho2.len
  rw [star99]
  have fd : ∀ w, (Instr.field 41 (.agg #[.bool true, .slice ao 97 cp]) 1).run Tryz.prog w = .ok (.slice ao 97 cp) w := fun _ => by kernel_rfl
  have Q2 := Lib.hid (QV.out.trans (hq2.mono QV.out.size))
  clear ho2 hq2 p0 p1 a0 a1 QV hB HV
  go_wp2_with fail
  refine (sh_oval 1 1 _ ⟨by decide, by decide⟩ ⟨by decide, by decide⟩).mono ?_
  rintro e w3 ⟨v3, rfl, ho3, hq3⟩
  obtain ⟨ao3, cp3, rfl⟩ := ho3.len
  rw [oval_length]
  have fd3 : ∀ w, (Instr.field 41 (.agg #[.bool true, .slice ao3 13 cp3]) 1).run Tryz.prog w = .ok (.slice ao3 13 cp3) w := fun _ => by kernel_rfl
  have Q3 := Lib.hid (Q2.out.trans (hq3.mono Q2.out.size))
  clear ho3 hq3 Q2 fd
  go_wp2_with fail
  refine (sh_right (sh0_in 0 _)).mono ?_
  rw [sh0_ok]
  rintro e w4 ⟨rfl, hq4⟩
  have Q4 := Lib.hid (Q3.out.trans (hq4.mono Q3.out.size))
  clear hq4 Q3 fd3
  go_wp2_with fail
  refine (sh_right (sh0_in 4 _)).mono ?_
  rw [sh4_ok]
  rintro e w5 ⟨rfl, hq5⟩
  have Q5 := Lib.hid (Q4.out.trans (hq5.mono Q4.out.size))
  clear hq5 Q4
  go_wp2
  go_ret
  exact ⟨rfl, Q5.out⟩

end Go.Proofs.YtglbfpjjnboeaaaGreat

namespace Go.Proofs.YtglbfpjjnboeaaaGreat
open Go Go.RowKit
open M

set_option maxRecDepth 100000 in
set_option maxHeartbeats 2000000 in
theorem rh_straight {v : Value} {ps : List Pt} {w : World} (h : Psl w v ps) (h0 : 0 < ps.length) (h1 : ps.length ≤ 100) : Calls Tryz.prog 39 #[v] w (Gives w true (straightL ps)) := by
  obtain ⟨B, hB⟩ : ∃ B, w.heap.size = B := ⟨_, rfl⟩
  obtain ⟨W, hW⟩ : ∃ W, w.alloc (.cells #[.bool false, .slice none 0 0] 41) = W := ⟨_, rfl⟩
  have hr0 : Has W B #[.bool false, .slice none 0 0] 41 := by rw [← hW]; exact has_new hB
  have hb0 : Below B w W := by rw [← hW]; exact (Below.refl _ _).alloc (by omega) _
  have hz0 : W.heap.size = B + 1 := by rw [← hW]; simp [hB]
  have HS := Lib.hid h
  have hs := h.below hb0 (by omega)
  obtain ⟨ao, cap, rfl, hf, hr⟩ := hs
  obtain ⟨g, o, rfl, r⟩ := hr h0
  obtain ⟨N, hN⟩ : ∃ N, ps.length = N := ⟨_, rfl⟩
  have HR := Lib.hid r
  have HN := Lib.hid hN
  have HB := Lib.hid hB
  have HW := Lib.hid hW
  have p0 := r.c0 0 h0
  have p1 := r.c1 0 h0
  rw [hN] at h0 h1 ⊢
  simp only [Nat.zero_mul, Nat.add_zero] at p0 p1
  obtain ⟨p, hp⟩ : ∃ p, pt ps 0 = p := ⟨_, rfl⟩
  rw [hp] at p0 p1
  obtain ⟨V, hV⟩ : ∃ V, (W.alloc (.cells (pCells p) 29)).alloc (.cells #[.bool true, .slice (some ⟨B + 1, 0, none⟩) 1 1] 41) = V := ⟨_, rfl⟩
  have G0 : Hid (Grp3 w B (B + 1 + 1) true (strN ps 0) (.slice (some ⟨B + 1, 0, none⟩) 1 1) V) := Lib.hid (by
    have ho : Pown (W.alloc (.cells (pCells p) 29)) (B + 1) (.slice (some ⟨B + 1, 0, none⟩) 1 1) [p] := by
      have := World.ownsRow_lit (e := 29) (size := 2) (base := B + 1) W (pCells p) 1 (by omega) (by unfold maxLen; omega) rfl
      rw [hz0] at this
      exact this
    show Grp3 w B (B + 1 + 1) true [pt ps 0] _ V
    rw [hp, ← hV]
    exact ⟨ho.alloc _, has_new (by simp [hz0]), (hr0.alloc _).alloc _, fun k hk e => by have e' : some (B + 1) = some k := hk; simp at e'; omega, by rw [hB]; exact (hb0.alloc (by omega) _).alloc (by simp; omega) _, by omega, by omega⟩)
  have HV := Lib.hid hV
  have HZ := Lib.hid hz0
  have o1 : (0 : Int) < N := by omega
  have o2 : (N : Int) ≤ 100 := by omega
  clear hf r hr hN hb0 hr0 hW hV h hp
  obtain ⟨px, py⟩ := p
  simp only at p0 p1
  go_enter Tryz.func39, Tryz.ntmps39
  go_upto_region 1 with fail
  rw [HW.out]
  clear hB
  go_upto_region 2 with fail
  rw [HV.out]
  clear p0 p1 hz0
  go_wp2
  go_loopw [4] (fun i wr => ∃ (n : Nat) (l : Value), n ≤ N ∧ i = .int .i64 n ∧ Grp3 w B (B + 1 + 1) true (strN ps n) l wr) (fun i _ => N - (intOf i).toNat)
  case atStart => exact ⟨0, _, by omega, rfl, G0.out⟩
  case round =>
    clear G0
    obtain ⟨n, l, hn, rfl, hG⟩ := hrel
    have GH := Lib.hid hG
    have bw := Lib.hid hG.below
    by_cases hlt : n < N
    · have o3 : (n : Int) < N := by omega
      obtain ⟨m, hm⟩ : ∃ m : Nat, (n + 1) % N = m := ⟨_, rfl⟩
      have hmN : m < N := by rw [← hm]; exact Nat.mod_lt _ h0
      have e1 : ((n : Int) + 1) % (N : Int) = (m : Int) := by rw [← hm]; rfl
      have o4 : (m : Int) < N := by omega
      have o5 : ¬ (N : Int) = 0 := by omega
      have o6 : ¬ N = 0 := by omega
      have RW := Lib.hid (psl_row (HS.out.below bw.out (Nat.le_refl _)) (by have := HN.out; omega) : Prow wr g o ps)
      obtain ⟨q, hq⟩ : ∃ q, pt ps n = q := ⟨_, rfl⟩
      obtain ⟨t, ht⟩ : ∃ q, pt ps m = q := ⟨_, rfl⟩
      have HQ := Lib.hid hq
      have HT := Lib.hid ht
      have GW := Lib.hid hG
      obtain ⟨gl, cl, hl⟩ := hG.own.shape (by rw [strN_length]; omega)
      obtain ⟨LN, hLN⟩ : ∃ LN, (strN ps n).length = LN := ⟨_, rfl⟩
      rw [hLN] at hl
      subst hl
      have HLN := Lib.hid hLN
      have BN : Hid (LN + 3 ≤ 8796093022208) := Lib.hid (by rw [← hLN, strN_length]; omega)
      have ST : Hid (strN ps n ++ [q, t, t] = strN ps (n + 1)) := Lib.hid (by rw [← hq, ← ht, ← hm, ← HN.out]; rfl)
      have LNN : Hid (n < ps.length ∧ m < ps.length) := Lib.hid ⟨by have := HN.out; omega, by have := HN.out; omega⟩
      clear hm hq ht hG hLN
      go_upto_region 5 with fail
      refine wp_region_gen 15 [12, 13, 14] [] [0, 0, 0, 0, 0, 0, 0, 0, 0, 0, 0, 0, 1, 1, 1] (by kernel_rfl) (by kernel_rfl) (fun c a d v w h => by cases d <;> exact h) trivial (fun G w' => Vars wr.heap.size 29 zc2 [(12, 14, pCells q), (13, 15, pCells t)] G w') (fun G w w' h hb => h.stay hb) Vars.start ?_
      apply Exists.intro
      refine ⟨fun R hR hN => ?_, ?_, ?_⟩
      · have A0 := fun z => (RW.out.laterR (R := R) LNN.out.1 HQ.out z).1
        have A1 := fun z => (RW.out.laterR (R := R) LNN.out.1 HQ.out z).2
        have B0 := fun z => (RW.out.laterR (R := R) LNN.out.2 HT.out z).1
        have B1 := fun z => (RW.out.laterR (R := R) LNN.out.2 HT.out z).2
        simp only [quietL, takeA]
        repeat (go_big_quiet_step (fail))
        exact wpQuiet_nil rfl
      · intro i oo hi ho
        have hi' : i = 12 ∨ i = 13 ∨ i = 14 := by simpa using hi
        clear hi
        rcases hi' with rfl | rfl | rfl
        · cases ho
          intro G w' hG hGn hdep hb hR
          refine ⟨rfl, gives_none (by kernel_rfl) hGn ?_⟩
          unfold gives
          simp [go_sem]
          exact ⟨hb.alloc hb.size _, hR.alloc (i := 12) (s := 14) (cs := pCells q) rfl (by simp) (by intro y hy he; simp at hy; rcases hy with rfl | rfl <;> simp at he ⊢) hG hb.size⟩
        · cases ho
          intro G w' hG hGn hdep hb hR
          refine ⟨rfl, gives_none (by kernel_rfl) hGn ?_⟩
          unfold gives
          simp [go_sem]
          exact ⟨hb.alloc hb.size _, hR.alloc (i := 13) (s := 15) (cs := pCells t) rfl (by simp) (by intro y hy he; simp at hy; rcases hy with rfl | rfl <;> simp at he ⊢) hG hb.size⟩
        · cases ho
          intro G w' hG hGn hdep hb hR
          obtain ⟨v, hv⟩ := Option.ne_none_iff_exists'.1 (hdep 12 (by simp) (by kernel_rfl))
          obtain ⟨gx, rfl, hgx, hhx⟩ := hR.has (12, 14, pCells q) (by simp) v hv
          rw [if_pos hG] at hhx
          refine ⟨rfl, gives_one (k := 12) (by kernel_rfl) hGn (by omega) hv ?_⟩
          have cx0 := hhx.cell 0 _ rfl
          have cx1 := hhx.cell 1 _ rfl
          have fx := has_fro hhx
          unfold gives
          simp [go_sem, dstAt, Act.put, cx0, cx1, fx]
          exact ⟨(hb.setCell hgx _).setCell hgx _, hR.store (i := 12) (s := 14) (za := .int .i64 0) (zb := .int .i64 0) rfl rfl (by simp) (by intro y hy he; simp at hy; rcases hy with rfl | rfl <;> simp at he ⊢) hv hG⟩
      · intro G w3 hb3 hR hG hN
        obtain ⟨v0, e0⟩ := hG 12 (by simp)
        obtain ⟨v1, e1'⟩ := hG 13 (by simp)
        obtain ⟨s0, t0⟩ := hG 14 (by simp)
        obtain ⟨g0, rfl, l0, k0⟩ := hR.has (12, 14, pCells q) (by simp) v0 e0
        obtain ⟨g1, rfl, l1, k1⟩ := hR.has (13, 15, pCells t) (by simp) v1 e1'
        rw [if_neg (by simp [t0])] at k0
        rw [if_pos (hN 15 (by simp))] at k1
        have n01 : g0 ≠ g1 := fun e => hR.ne (12, 14, pCells q) (by simp) (13, 15, pCells t) (by simp) (by simp) _ e0 (by rw [e1', e])
        have nn : ∀ j, j < 12 → G j = none := fun j hj => hN j (by simp; omega)
        simp only [putV, dstAt, e0, e1', t0, nn 0 (by decide), nn 1 (by decide), nn 2 (by decide), nn 3 (by decide), nn 4 (by decide), nn 5 (by decide), nn 6 (by decide), nn 7 (by decide), nn 8 (by decide), nn 9 (by decide), nn 10 (by decide), nn 11 (by decide), List.drop_succ_cons, List.drop_zero, List.getElem?_cons_succ, List.getElem?_cons_zero, Option.bind_some]
        have c30 := k1.cell 0 _ rfl
        have c31 := k1.cell 1 _ rfl
        have f3 := has_fro k1
        obtain ⟨V2, hV2⟩ : ∃ V, (w3.setCell ⟨g1, 0, none⟩ (.int .i64 t.x)).setCell ⟨g1, 1, none⟩ (.int .i64 t.y) = V := ⟨_, rfl⟩
        have b2 : Below wr.heap.size wr V2 := by rw [← hV2]; exact hb3.trans (below_two l1 _ _)
        have kA : Has V2 g0 (pCells q) 29 := by rw [← hV2]; exact two_off k0 (Ne.symm n01) _ _
        have kB : Has V2 g1 (pCells t) 29 := by rw [← hV2]; exact two_set k1 _ _
        have G2 := Lib.hid (GW.out.later b2)
        have f1 := (GW.out.later b2).out.cell 1 _ rfl
        have a0 := kA.cell 0 _ rfl
        have a1 := kA.cell 1 _ rfl
        have b0 := kB.cell 0 _ rfl
        have b1 := kB.cell 1 _ rfl
        have HV2 := Lib.hid hV2
        clear k0 k1 kA kB b2 hb3 hV2 hR hG hN nn e0 e1' t0 n01 l0 l1
        obtain ⟨qx, qy⟩ := q
        obtain ⟨tx, ty⟩ := t
        try simp only at a0 a1 b0 b1
        go_upto_region 6 with fail
        rw [HV2.out]
        clear c30 c31 f3
        go_wp2_with (at_builtin; refine wpList_append_pl rfl _ _ rfl LN HLN.out rfl V2.heap.size 0 3 3 rfl [⟨qx, qy⟩, ⟨tx, ty⟩, ⟨tx, ty⟩] rfl (by decide) BN.out (prow_has (cs := #[.int .i64 qx, .int .i64 qy, .int .i64 tx, .int .i64 ty, .int .i64 tx, .int .i64 ty]) (by simp) (has_new rfl) rfl) (G2.out.alloc _).own (G2.out.alloc _).big ?_)
        intro g' cap' w4 ho hg hat
        have fi := (G2.out.alloc _).fine hg
        have f0 := fi.1
        have f2 := fi.2
        have G4 := Lib.hid ((G2.out.alloc _).put ho hg (hat.imp id (fun h => by simpa using h)))
        rw [ST.out] at G4
        clear ho hg hat fi f1 a0 a1 b0 b1
        go_wp2
        go_roundw
        case rel => exact ⟨n + 1, _, by omega, by go_num, G4.out⟩
        case measure => simp [intOf]; omega
    · obtain rfl : n = N := by omega
      have R := Lib.hid (hG.gives HB.out)
      have q0 := hG.out.cell 0 _ rfl
      have q1 := hG.out.cell 1 _ rfl
      have r0 := hG.res.cell 0 _ rfl
      have r1 := hG.res.cell 1 _ rfl
      have fz := has_fro hG.res
      have e1 : strN ps n = straightL ps := by unfold straightL; rw [HN.out]
      rw [e1] at R
      obtain ⟨ao, cp, rfl⟩ := hG.own.len
      have HL := Lib.hid (strN_length ps n)
      have o3 : (n : Int) ≤ n := by omega
      clear hG GH bw e1
      go_wp2
      refine bodyPost_ret (v := .agg #[.bool true, .slice ao (strN ps n).length cp]) (by simp [results, Tryz.results39, go_sem, r0, r1]) rfl ?_
      exact R.out

end Go.Proofs.YtglbfpjjnboeaaaGreat

namespace Go.Proofs.YtglbfpjjnboeaaaGreat
open Go Go.RowKit
open M

set_option maxRecDepth 100000 in
set_option maxHeartbeats 2000000 in
theorem rh_rect (x y : Int) (w : World) (wx : -9223372036854775808 ≤ x ∧ x ≤ 9223372036854775807) (wy : -9223372036854775808 ≤ y ∧ y ≤ 9223372036854775807) : Calls Tryz.prog 13 #[.int .i64 x, .int .i64 y] w (Gives w true (rectL x y)) := by
  obtain ⟨B, hB⟩ : ∃ B, w.heap.size = B := ⟨_, rfl⟩
  obtain ⟨W, hW⟩ : ∃ W, w.alloc (.cells #[.bool false, .slice none 0 0] 41) = W := ⟨_, rfl⟩
  have hr0 : Has W B #[.bool false, .slice none 0 0] 41 := by rw [← hW]; exact has_new hB
  have hb0 : Below B w W := by rw [← hW]; exact (Below.refl _ _).alloc (by omega) _
  have HR := Lib.hid hr0
  have HB := Lib.hid hB
  have HW := Lib.hid hW
  have HBW := Lib.hid hb0
  have SB : Hid (W.heap.size = B + 1) := Lib.hid (by rw [← HW.out]; simp [HB.out])
  have SZ : Hid (B ≤ W.heap.size) := Lib.hid (Nat.le_of_lt hr0.lt)
  have ER : Hid (rectL x y = straightL [⟨-(x / 2), -(y / 2)⟩, ⟨x - x / 2, -(y / 2)⟩, ⟨x - x / 2, y - y / 2⟩, ⟨-(x / 2), y - y / 2⟩]) := Lib.hid rfl
  obtain ⟨R, hR⟩ : ∃ R, rectL x y = R := ⟨_, rfl⟩
  rw [hR] at ER ⊢
  clear hr0 hb0 hW hR
  go_enter Tryz.func13, Tryz.ntmps13
  go_wp2_with fail
  rw [HW.out]
  clear hB
  obtain ⟨V, hV⟩ : ∃ V, W.alloc (.cells #[.int .i64 (-(x / 2)), .int .i64 (-(y / 2)), .int .i64 (x + -(x / 2)), .int .i64 (-(y / 2)), .int .i64 (x + -(x / 2)), .int .i64 (y + -(y / 2)), .int .i64 (-(x / 2)), .int .i64 (y + -(y / 2))] 29) = V := ⟨_, rfl⟩
  rw [show x - x / 2 = x + -(x / 2) by omega, show y - y / 2 = y + -(y / 2) by omega] at ER
  have PS : Psl V (.slice (some ⟨B + 1, 0, none⟩) 4 4) [⟨-(x / 2), -(y / 2)⟩, ⟨x + -(x / 2), -(y / 2)⟩, ⟨x + -(x / 2), y + -(y / 2)⟩, ⟨-(x / 2), y + -(y / 2)⟩] := by rw [← hV, ← SB.out]; exact psl_lit 4 4 rfl (by decide) (has_new rfl) rfl
  have QV : Below W.heap.size W V := by rw [← hV]; exact (Below.refl _ _).alloc (Nat.le_refl _) _
  have QW := Lib.hid QV
  rw [hV]
  have ST := rh_straight PS (by simp) (by simp)
  rw [← ER.out] at ST
  clear hV PS QV
  refine ST.mono ?_
  rintro e w5 ⟨v, rfl, ho, hq⟩
  obtain ⟨G, K⟩ := gives_tail (c := true) HB.out (HR.out.below QW.out HR.out.lt) (HBW.out.trans (QW.out.mono SZ.out)) ho hq
  have GG := Lib.hid G
  obtain ⟨ao, cp, rfl⟩ := ho.len
  obtain ⟨LN, hLN⟩ : ∃ n, R.length = n := ⟨_, rfl⟩
  rw [hLN] at GG ⊢
  have r0 := K.cell 0 _ rfl
  have r1 := K.cell 1 _ rfl
  have fz := has_fro K
  clear ST G K ho hq hLN
  go_wp2
  refine bodyPost_ret (v := .agg #[.bool true, .slice ao LN cp]) (by simp [results, Tryz.results13, go_sem, r0, r1]) rfl ?_
  exact GG.out

set_option maxRecDepth 100000 in
set_option maxHeartbeats 4000000 in
theorem rh_oval (x y : Int) (w : World) (wx : -9223372036854775808 ≤ x ∧ x ≤ 9223372036854775807) (wy : -9223372036854775808 ≤ y ∧ y ≤ 9223372036854775807) : Calls Tryz.prog 15 #[.int .i64 x, .int .i64 y] w (Gives w true (ovalL x y)) := by
  obtain ⟨B, hB⟩ : ∃ B, w.heap.size = B := ⟨_, rfl⟩
  obtain ⟨W, hW⟩ : ∃ W, w.alloc (.cells #[.bool false, .slice none 0 0] 41) = W := ⟨_, rfl⟩
  have hr0 : Has W B #[.bool false, .slice none 0 0] 41 := by rw [← hW]; exact has_new hB
  have hb0 : Below B w W := by rw [← hW]; exact (Below.refl _ _).alloc (by omega) _
  have HR := Lib.hid hr0
  have HB := Lib.hid hB
  have HW := Lib.hid hW
  have HBW := Lib.hid hb0
  have SZ : Hid (B ≤ W.heap.size) := Lib.hid (Nat.le_of_lt hr0.lt)
  obtain ⟨R, hR⟩ : ∃ R, ovalL x y = R := ⟨_, rfl⟩
  have ER : Hid (ovalN (x / 2) (y / 2) (mul (x / 2) 36195) (mul (y / 2) 36195) = R) := Lib.hid hR
  rw [hR]
  obtain ⟨a, ha⟩ : ∃ a, x / 2 = a := ⟨_, rfl⟩
  obtain ⟨b, hb⟩ : ∃ b, y / 2 = b := ⟨_, rfl⟩
  have a0 : -4611686018427387904 ≤ a ∧ a ≤ 4611686018427387903 := by omega
  have b0 : -4611686018427387904 ≤ b ∧ b ≤ 4611686018427387903 := by omega
  have M1 : Hid (∀ w : World, Calls Tryz.prog 41 #[.int .i64 a, .int .i64 36195] w (Drawn (.int .i64 (mul a 36195)) w)) := Lib.hid (fun w => r_mul a 36195 w)
  have M2 : Hid (∀ w : World, Calls Tryz.prog 41 #[.int .i64 b, .int .i64 36195] w (Drawn (.int .i64 (mul b 36195)) w)) := Lib.hid (fun w => r_mul b 36195 w)
  have k0 : -1099511627776 ≤ mul a 36195 ∧ mul a 36195 ≤ 1099511627776 := ⟨hold_lo _, hold_hi _⟩
  have l0 : -1099511627776 ≤ mul b 36195 ∧ mul b 36195 ≤ 1099511627776 := ⟨hold_lo _, hold_hi _⟩
  rw [ha, hb] at ER
  obtain ⟨k, hk⟩ : ∃ k, mul a 36195 = k := ⟨_, rfl⟩
  obtain ⟨l, hl⟩ : ∃ l, mul b 36195 = l := ⟨_, rfl⟩
  rw [hk] at M1 k0 ER
  rw [hl] at M2 l0 ER
  clear hr0 hb0 hW hR hk hl
  go_enter Tryz.func15, Tryz.ntmps15
  go_wp2_with fail
  rw [HW.out]
  clear hB
  clear ha hb wx wy
  refine (M1.out _).mono ?_
  rintro e w' ⟨rfl, n1, rfl⟩
  go_wp2_with fail
  refine (M2.out _).mono ?_
  rintro e w' ⟨rfl, n2, rfl⟩
  clear M1 M2
  obtain ⟨X, hX⟩ : ∃ X, (W.drewN n1).drewN n2 = X := ⟨_, rfl⟩
  have QX : Hid (Below W.heap.size W X) := Lib.hid (by rw [← hX]; exact below_drewN (below_drewN (Below.refl _ _) _) _)
  rw [hX]
  clear hX
  obtain ⟨V, hV⟩ : ∃ V, X.alloc (.cells #[.int .i64 a, .int .i64 0, .int .i64 a, .int .i64 l, .int .i64 k, .int .i64 b, .int .i64 0, .int .i64 b, .int .i64 (-k), .int .i64 b, .int .i64 (-a), .int .i64 l, .int .i64 (-a), .int .i64 0, .int .i64 (-a), .int .i64 (-l), .int .i64 (-k), .int .i64 (-b), .int .i64 0, .int .i64 (-b), .int .i64 k, .int .i64 (-b), .int .i64 a, .int .i64 (-l), .int .i64 a, .int .i64 0] 29) = V := ⟨_, rfl⟩
  have QV : Below W.heap.size W V := by rw [← hV]; exact QX.out.alloc QX.out.size _
  have K := HR.out.below QV HR.out.lt
  have PO : Pown V B (.slice (some ⟨X.heap.size, 0, none⟩) 13 13) R := by rw [← hV, ← ER.out]; exact pown_new (Nat.le_trans SZ.out QX.out.size) rfl (by decide) rfl
  have G := Lib.hid (gives_put (w := w) (r := B) (c := true) HB.out PO (fun e => by have e' : some X.heap.size = some B := e; simp at e'; have := HR.out.lt; have := QX.out.size; omega) (Nat.le_refl _) (HBW.out.trans (QV.mono SZ.out)) rfl (.bool true) _ rfl)
  have KX := HR.out.below QX.out HR.out.lt
  have r0 := fun o => (KX.alloc o).cell 0 _ rfl
  have r1 := fun o => (KX.alloc o).cell 1 _ rfl
  have fz := fun o j => has_fro (KX.alloc o) j
  rw [← hV] at G
  clear hV QV K PO QX KX
  go_wp2
  refine bodyPost_ret (v := .agg #[.bool true, .slice (some ⟨X.heap.size, 0, none⟩) 13 13]) (by simp [results, Tryz.results15, go_sem, r0, r1]) rfl ?_
  exact G.out

end Go.Proofs.YtglbfpjjnboeaaaGreat

namespace Go.Proofs.YtglbfpjjnboeaaaGreat
open Go Go.RowKit
open M

set_option maxRecDepth 100000 in
set_option maxHeartbeats 2000000 in
theorem rh_star (n r s : Int) (w : World) : Calls Tryz.prog 17 #[.int .i64 n, .int .i64 r, .int .i64 s] w (Gives w true (starL n r s)) := by
  obtain ⟨c, hc⟩ : ∃ c, points n = c := ⟨_, rfl⟩
  have c2 : 2 ≤ c ∧ c ≤ 16 := by rw [← hc]; unfold points clamp; split <;> (try split) <;> omega
  obtain ⟨C, rfl⟩ : ∃ C : Nat, c = (C : Int) := ⟨c.toNat, by omega⟩
  have ES : Hid (straightL (starN C r s (2 * C)) = starL n r s) := Lib.hid (by unfold starL; rw [hc, Int.toNat_natCast])
  obtain ⟨R, hR⟩ : ∃ R, starL n r s = R := ⟨_, rfl⟩
  rw [hR] at ES ⊢
  obtain ⟨B, hB⟩ : ∃ B, w.heap.size = B := ⟨_, rfl⟩
  obtain ⟨W, hW⟩ : ∃ W, w.alloc (.cells #[.bool false, .slice none 0 0] 41) = W := ⟨_, rfl⟩
  have hr0 : Has W B #[.bool false, .slice none 0 0] 41 := by rw [← hW]; exact has_new hB
  have hb0 : Below B w W := by rw [← hW]; exact (Below.refl _ _).alloc (by omega) _
  have HR := Lib.hid hr0
  have HB := Lib.hid hB
  have HW := Lib.hid hW
  have HBW := Lib.hid hb0
  have SZ : Hid (B ≤ W.heap.size) := Lib.hid (Nat.le_of_lt hr0.lt)
  have o1 : (2 : Int) ≤ C := c2.1
  have o2 : (C : Int) ≤ 16 := c2.2
  have o3 : ¬ (C : Int) = 0 := by omega
  have o4 : ¬ C = 0 := by omega
  have o5 : wrap64 (2 * (C : Int)) = 2 * (C : Int) := by unfold wrap64; omega
  have hc' := hc
  clear hr0 hb0 hW hR hc c2
  go_enter Tryz.func17, Tryz.ntmps17
  go_wp2_with fail
  have EM : max (min n 16) 2 = (C : Int) := by rw [← hc']; unfold points clamp; split <;> (try split) <;> omega
  rw [HW.out, EM]
  clear hB EM hc'
  go_loopw [7, 8] (fun lv i wr => ∃ (m : Nat), m ≤ 2 * C ∧ i = .int .i64 m ∧ Pown wr W.heap.size lv (starN C r s m) ∧ Below W.heap.size W wr) (fun _ i _ => 2 * C - (intOf i).toNat)
  case atStart => exact ⟨0, by omega, rfl, Pown.nil _ _, Below.refl _ _⟩
  case round =>
    obtain ⟨m, hm, rfl, ho, hb⟩ := hrel
    by_cases hlt : m < 2 * C
    · obtain ⟨A, hA, A0, A1⟩ : ∃ A, angle C m = A ∧ -5898240 ≤ A ∧ A ≤ 400000000 := ⟨_, rfl, angle_of o1 o2 (by omega)⟩
      have HA : Hid ((m : Int) * 11796480 / C - 5898240 = A) := Lib.hid hA
      have oA : (m : Int) * 180 * 65536 / C = A + 5898240 := by have := HA.out; rw [show (m : Int) * 180 * 65536 = m * 11796480 by omega]; omega
      have o6 : (m : Int) < 2 * C := by omega
      have o7 : (m : Int) ≤ 32 := by omega
      have o8 : 0 ≤ (m : Int) * 180 * 65536 := by omega
      have HO := Lib.hid ho
      have HQ := Lib.hid hb
      have NX := Lib.hid (starN_snoc C r s m)
      obtain ⟨p, hp⟩ : ∃ p, starP C r s m = p := ⟨_, rfl⟩
      rw [hp] at NX
      obtain ⟨f, hf⟩ : ∃ f, (if m % 2 = 1 then s else r) = f := ⟨_, rfl⟩
      have EP : Hid (p = ⟨mul f (cos A), mul f (sin A)⟩) := Lib.hid (by rw [← hp]; unfold starP; rw [hf, hA])
      obtain ⟨rs, hrs⟩ : ∃ rs, starN C r s m = rs := ⟨_, rfl⟩
      have HN : Hid (rs.length = m) := Lib.hid (by rw [← hrs, starN_length])
      rw [hrs] at HO NX
      obtain ⟨ca, hca⟩ : ∃ c, cos A = c := ⟨_, rfl⟩
      obtain ⟨sa, hsa⟩ : ∃ c, sin A = c := ⟨_, rfl⟩
      have TC : Hid (∀ w, Calls Tryz.prog 44 #[.int .i64 A] w fun e w' => e = .returned (.int .i64 ca) ∧ w = w') := Lib.hid (fun w => by have := r2_cos A w; rw [hca] at this; exact this)
      have TS : Hid (∀ w, Calls Tryz.prog 45 #[.int .i64 A] w fun e w' => e = .returned (.int .i64 sa) ∧ w = w') := Lib.hid (fun w => by have := r2_sin A w; rw [hsa] at this; exact this)
      rw [hca, hsa] at EP
      clear hca hsa
      have PR : Hid (∀ w : World, Prow (w.alloc (.cells #[.int .i64 (mul f ca), .int .i64 (mul f sa)] 29)) w.heap.size 0 [p]) := Lib.hid (fun w => by rw [EP.out]; exact prow_one ⟨mul f ca, mul f sa⟩ _)
      obtain ⟨aol, capl, el⟩ := ho.len
      rw [hrs, HN.out] at el
      clear hA hp hrs ho hb
      subst el
      rcases (show m % 2 = 0 ∨ m % 2 = 1 by omega) with hm2 | hm2
      all_goals
        first | rw [if_neg (by omega)] at hf | rw [if_pos hm2] at hf
        subst hf
        have om : (m : Int) % 2 = ((m % 2 : Nat) : Int) := by omega
        rw [hm2] at om
        clear hm2
        go_wp2_with fail
        refine (TC.out _).mono ?_
        rintro e w1 ⟨rfl, rfl⟩
        go_wp2_with fail
        refine (r_mul _ _ _).mono ?_
        rintro e w1 ⟨rfl, n2, rfl⟩
        go_wp2_with fail
        refine (TS.out _).mono ?_
        rintro e w1 ⟨rfl, rfl⟩
        go_wp2_with fail
        refine (r_mul _ _ _).mono ?_
        rintro e w1 ⟨rfl, n4, rfl⟩
        obtain ⟨w3, hw3⟩ : ∃ w3, (wr.drewN n2).drewN n4 = w3 := ⟨_, rfl⟩
        have Q3 := Lib.hid (show Below W.heap.size W w3 by rw [← hw3]; exact below_drewN (below_drewN HQ.out _) _)
        have O3 := Lib.hid (show Pown w3 W.heap.size _ rs by rw [← hw3]; exact HO.out.below (below_drewN (below_drewN (Below.refl _ _) _) _) (Nat.le_refl _))
        have hz3 : w3.heap.size = wr.heap.size := by rw [← hw3]; rfl
        rw [hw3]
        clear hw3
        clear hz3
        go_wp2_with (at_builtin; refine wpList_append_pl rfl _ _ rfl m HN.out rfl w3.heap.size 0 1 1 rfl [p] rfl (by decide) (by omega) (PR.out _) (O3.out.alloc _) (Nat.le_trans Q3.out.size (by simp)) ?_)
        intro g' cap' w4 ho4 hg4 _
        have B4 : Below W.heap.size W w4 := ((Q3.out.alloc Q3.out.size _).grown hg4 (by have := Q3.out.size; simp; omega) (fun k hk => (O3.out.base k hk).1))
        have HB4 := Lib.hid B4
        rw [← NX.out] at ho4
        have HO4 := Lib.hid ho4
        clear ho4 hg4 B4
        go_wp2
        go_roundw
        case rel => exact ⟨m + 1, by omega, by go_num, HO4.out, HB4.out⟩
        case measure => simp [intOf]; omega
    · obtain rfl : m = 2 * C := by omega
      have o6 : ((2 * C : Nat) : Int) = 2 * (C : Int) := by omega
      have HL : Hid ((starN C r s (2 * C)).length = 2 * C) := Lib.hid (starN_length _ _ _ _)
      have ST := rh_straight (ho.sl (by rw [HL.out]; omega)) (by rw [HL.out]; omega) (by rw [HL.out]; omega)
      rw [ES.out] at ST
      have HS := Lib.hid ST
      have HQ := Lib.hid hb
      obtain ⟨aol, capl, rfl⟩ := ho.len
      clear ho hb ST
      go_wp2_with fail
      refine HS.out.mono ?_
      rintro e w5 ⟨v, rfl, ho, hq⟩
      obtain ⟨G, K⟩ := gives_tail (c := true) HB.out (HR.out.below HQ.out HR.out.lt) (HBW.out.trans (HQ.out.mono SZ.out)) ho hq
      have GG := Lib.hid G
      obtain ⟨ao, cp, rfl⟩ := ho.len
      obtain ⟨LN, hLN⟩ : ∃ n, R.length = n := ⟨_, rfl⟩
      rw [hLN] at GG ⊢
      have r0 := K.cell 0 _ rfl
      have r1 := K.cell 1 _ rfl
      have fz := has_fro K
      clear G K ho hq hLN
      go_wp2
      refine bodyPost_ret (v := .agg #[.bool true, .slice ao LN cp]) (by simp [results, Tryz.results17, go_sem, r0, r1]) rfl ?_
      exact GG.out

end Go.Proofs.YtglbfpjjnboeaaaGreat

namespace Go.Proofs.YtglbfpjjnboeaaaGreat
open Go Go.RowKit
open M

/-- The path at the tick t, of Drawn as the document's own answer has it. -/
def shAtR (s : Shp) (t : Int) : List Pt :=
  if s.form = 0 then rectL (atk s.W t 0) (atk s.H t 0) else if s.form = 1 then ovalL (atk s.W t 0) (atk s.H t 0)
  else if s.form = 2 then starL s.n (atk s.W t 0) (atk s.H t 0) else if s.form = 3 then ratps s.P t else []

set_option maxRecDepth 100000 in
set_option maxHeartbeats 4000000 in
theorem rh_at {w : World} {s : Shp} (h : ShIn w s) (t : Int) (bW : -9223372036854775808 ≤ atk s.W t 0 ∧ atk s.W t 0 ≤ 9223372036854775807) (bH : -9223372036854775808 ≤ atk s.H t 0 ∧ atk s.H t 0 ≤ 9223372036854775807) :
    Calls Tryz.prog 19 #[.agg (shC s), .int .i64 t] w (Gives w (shCl s t) (shAtR s t)) := by
  obtain ⟨B, hB⟩ : ∃ B, w.heap.size = B := ⟨_, rfl⟩
  obtain ⟨W0, hW0⟩ : ∃ W, w.alloc (.cells (shC s) 34) = W := ⟨_, rfl⟩
  obtain ⟨hi0, hk0, hb0⟩ := h.start hB hW0
  obtain ⟨W, hW⟩ : ∃ W, W0.alloc (.cells #[.bool false, .slice none 0 0] 41) = W := ⟨_, rfl⟩
  have hz0 : W0.heap.size = B + 1 := by rw [← hW0]; simp [hB]
  have hbW : Below W0.heap.size W0 W := by rw [← hW]; exact (Below.refl _ _).alloc (Nat.le_refl _) _
  have hi := hi0.below hbW
  have hk := hk0.below hbW hk0.lt
  have hr : Has W (B + 1) #[.bool false, .slice none 0 0] 41 := by rw [← hW]; exact has_new hz0
  have hb : Below B w W := hb0.trans (hbW.mono (by omega))
  obtain ⟨vw, hvw⟩ : ∃ v, s.vW = v := ⟨_, rfl⟩
  obtain ⟨vh, hvh⟩ : ∃ v, s.vH = v := ⟨_, rfl⟩
  have HVW := Lib.hid hvw
  have HVH := Lib.hid hvh
  clear hvw hvh
  obtain ⟨x, hx⟩ : ∃ x, atk s.W t 0 = x := ⟨_, rfl⟩
  obtain ⟨y, hy⟩ : ∃ x, atk s.H t 0 = x := ⟨_, rfl⟩
  have C1 : Hid (∀ w', Below W.heap.size W w' → Calls Tryz.prog 48 #[vw, .int .i64 t, .int .i64 0] w' fun e w'' => e = .returned (.int .i64 x) ∧ Below w'.heap.size w' w'') := Lib.hid (fun w' h' => by rw [← hx, ← HVW.out]; exact r5_atk (hi.below h').W t 0)
  have C2 : Hid (∀ w', Below W.heap.size W w' → Calls Tryz.prog 48 #[vh, .int .i64 t, .int .i64 0] w' fun e w'' => e = .returned (.int .i64 y) ∧ Below w'.heap.size w' w'') := Lib.hid (fun w' h' => by rw [← hy, ← HVH.out]; exact r5_atk (hi.below h').H t 0)
  have C3 : Hid (∀ w', Below W.heap.size W w' → Calls Tryz.prog 49 #[s.vP, .int .i64 t] w' (Gives w' (atcl s.P t) (ratps s.P t))) := Lib.hid (fun w' h' => r8_at (hi.below h').P t)
  have A0 : Hid (s.form = 0 → shAtR s t = rectL x y ∧ shCl s t = true) := Lib.hid (fun e => by unfold shAtR shCl; rw [hx, hy, e]; exact ⟨rfl, rfl⟩)
  have A1 : Hid (s.form = 1 → shAtR s t = ovalL x y ∧ shCl s t = true) := Lib.hid (fun e => by unfold shAtR shCl; rw [hx, hy, e]; exact ⟨rfl, rfl⟩)
  have A2 : Hid (s.form = 2 → shAtR s t = starL s.n x y ∧ shCl s t = true) := Lib.hid (fun e => by unfold shAtR shCl; rw [hx, hy, e]; exact ⟨rfl, rfl⟩)
  have A3 : Hid (s.form = 3 → shAtR s t = ratps s.P t ∧ shCl s t = atcl s.P t) := Lib.hid (fun e => by unfold shAtR shCl; rw [e]; exact ⟨rfl, rfl⟩)
  have A4 : Hid (¬ s.form = 0 → ¬ s.form = 1 → ¬ s.form = 2 → ¬ s.form = 3 → shAtR s t = [] ∧ shCl s t = false) := Lib.hid (fun a b c d => by unfold shAtR shCl; rw [if_neg a, if_neg b, if_neg c, if_neg d, if_neg (by omega), if_neg d]; exact ⟨rfl, rfl⟩)
  rw [hx] at bW
  rw [hy] at bH
  have BW := Lib.hid bW
  have BH := Lib.hid bH
  have HBB := Lib.hid hB
  have HW0 := Lib.hid hW0
  have HW := Lib.hid hW
  have HR := Lib.hid hr
  have HBW := Lib.hid hb
  have R0 : Hid (Below W.heap.size W W) := Lib.hid (Below.refl _ _)
  have SZ : Hid (B ≤ W.heap.size) := Lib.hid (by have := hr.lt; omega)
  have HF := Lib.hid (show ∀ w', Below W.heap.size W w' → ∀ j u, (shC s)[j]? = some u → w'.cell? ⟨B, j, none⟩ = some u from fun w' h' j u hu => (hk.below h' hk.lt).cell j u hu)
  obtain ⟨R, hR⟩ : ∃ R, shAtR s t = R := ⟨_, rfl⟩
  obtain ⟨c, hc⟩ : ∃ c, shCl s t = c := ⟨_, rfl⟩
  rw [hR, hc] at A0 A1 A2 A3 A4
  rw [hR, hc]
  clear hi0 hk0 hb0 hW0 hW hbW hi hk hr hb hx hy hR hc h bW bH
  go_enter Tryz.func19, Tryz.ntmps19
  go_upto_region 1 with fail
  rw [HW0.out, HW.out]
  clear hB
  have A2 : ∀ z : Later W, z.to.cell? ⟨B, 2, none⟩ = some vw := fun z => by rw [← HVW.out]; exact HF.out z.to z.below 2 _ rfl
  have A3' : ∀ z : Later W, z.to.cell? ⟨B, 3, none⟩ = some vh := fun z => by rw [← HVH.out]; exact HF.out z.to z.below 3 _ rfl
  have DD1 := Lib.hid (fun (z : Later W) => C1.out z.to z.below)
  have DD2 := Lib.hid (fun (z : Later W) => C2.out z.to z.below)
  refine wp_region_class (C := fun w' => ∃ z : Later W, w' = z.to) (by kernel_rfl) (by kernel_rfl) ⟨⟨_, below_drew (Below.refl _ _)⟩, rfl⟩ ?_
  repeat (go_big_quiet_step (first | (go_at_call_of 48 vw; exact Later.calls (DD1.out _)) | (go_at_call_of 48 vh; exact Later.calls (DD2.out _))))
  refine wpQuiet_nil ?_
  rintro _ ⟨z, rfl⟩
  have R2 := Lib.hid z.below
  obtain ⟨w2, hw2⟩ : ∃ w2, z.to = w2 := ⟨_, rfl⟩
  rw [hw2] at R2 ⊢
  clear hw2 A2 A3' DD1 DD2
  have f0 := HF.out w2 R2.out 0 _ rfl
  by_cases e0 : s.form = 0
  · obtain ⟨rfl, rfl⟩ := A0.out e0
    clear A0 A1 A2 A3 A4
    go_wp2_with fail
    refine (rh_rect x y _ BW.out BH.out).mono ?_
    rintro e w9 ⟨v, rfl, ho, hq⟩
    have GG := Lib.hid (gives_put (w := w) (r := B + 1) (c := true) HBB.out (ho.lower (B' := B) (by have := SZ.out; have := R2.out.size; omega)) (fun e => by have := (ho.base _ e).1; have := HR.out.lt; have := R2.out.size; omega) (by omega) (HBW.out.trans ((R2.out.trans (hq.mono R2.out.size)).mono SZ.out)) rfl (.bool true) _ rfl)
    have K := HR.out.below (R2.out.trans (hq.mono R2.out.size)) HR.out.lt
    obtain ⟨ao, cp, rfl⟩ := ho.len
    obtain ⟨LN, hLN⟩ : ∃ n, (rectL x y).length = n := ⟨_, rfl⟩
    rw [hLN] at GG ⊢
    have r0 := K.cell 0 _ rfl
    have r1 := K.cell 1 _ rfl
    have fz := has_fro K
    clear K ho hq hLN
    go_wp2
    refine bodyPost_ret (v := .agg #[.bool true, .slice ao LN cp]) (by simp [results, Tryz.results19, go_sem, r0, r1]) rfl ?_
    exact GG.out
  by_cases e1 : s.form = 1
  · obtain ⟨rfl, rfl⟩ := A1.out e1
    clear A0 A1 A2 A3 A4
    go_wp2_with fail
    refine (rh_oval x y _ BW.out BH.out).mono ?_
    rintro e w9 ⟨v, rfl, ho, hq⟩
    have GG := Lib.hid (gives_put (w := w) (r := B + 1) (c := true) HBB.out (ho.lower (B' := B) (by have := SZ.out; have := R2.out.size; omega)) (fun e => by have := (ho.base _ e).1; have := HR.out.lt; have := R2.out.size; omega) (by omega) (HBW.out.trans ((R2.out.trans (hq.mono R2.out.size)).mono SZ.out)) rfl (.bool true) _ rfl)
    have K := HR.out.below (R2.out.trans (hq.mono R2.out.size)) HR.out.lt
    obtain ⟨ao, cp, rfl⟩ := ho.len
    obtain ⟨LN, hLN⟩ : ∃ n, (ovalL x y).length = n := ⟨_, rfl⟩
    rw [hLN] at GG ⊢
    have r0 := K.cell 0 _ rfl
    have r1 := K.cell 1 _ rfl
    have fz := has_fro K
    clear K ho hq hLN
    go_wp2
    refine bodyPost_ret (v := .agg #[.bool true, .slice ao LN cp]) (by simp [results, Tryz.results19, go_sem, r0, r1]) rfl ?_
    exact GG.out
  by_cases e2 : s.form = 2
  · obtain ⟨rfl, rfl⟩ := A2.out e2
    clear A0 A1 A2 A3 A4
    have f1 := HF.out w2 R2.out 1 _ rfl
    go_wp2_with fail
    refine (rh_star s.n x y _).mono ?_
    rintro e w9 ⟨v, rfl, ho, hq⟩
    have GG := Lib.hid (gives_put (w := w) (r := B + 1) (c := true) HBB.out (ho.lower (B' := B) (by have := SZ.out; have := R2.out.size; omega)) (fun e => by have := (ho.base _ e).1; have := HR.out.lt; have := R2.out.size; omega) (by omega) (HBW.out.trans ((R2.out.trans (hq.mono R2.out.size)).mono SZ.out)) rfl (.bool true) _ rfl)
    have K := HR.out.below (R2.out.trans (hq.mono R2.out.size)) HR.out.lt
    obtain ⟨ao, cp, rfl⟩ := ho.len
    obtain ⟨LN, hLN⟩ : ∃ n, (starL s.n x y).length = n := ⟨_, rfl⟩
    rw [hLN] at GG ⊢
    have r0 := K.cell 0 _ rfl
    have r1 := K.cell 1 _ rfl
    have fz := has_fro K
    clear K ho hq hLN
    go_wp2
    refine bodyPost_ret (v := .agg #[.bool true, .slice ao LN cp]) (by simp [results, Tryz.results19, go_sem, r0, r1]) rfl ?_
    exact GG.out
  by_cases e3 : s.form = 3
  · obtain ⟨rfl, rfl⟩ := A3.out e3
    clear A0 A1 A2 A3 A4
    have f4 := HF.out w2 R2.out 4 _ rfl
    go_wp2_with fail
    refine (C3.out _ R2.out).mono ?_
    rintro e w9 ⟨v, rfl, ho, hq⟩
    have GG := Lib.hid (gives_put (w := w) (r := B + 1) (c := (atcl s.P t)) HBB.out (ho.lower (B' := B) (by have := SZ.out; have := R2.out.size; omega)) (fun e => by have := (ho.base _ e).1; have := HR.out.lt; have := R2.out.size; omega) (by omega) (HBW.out.trans ((R2.out.trans (hq.mono R2.out.size)).mono SZ.out)) rfl (.bool (atcl s.P t)) _ rfl)
    have K := HR.out.below (R2.out.trans (hq.mono R2.out.size)) HR.out.lt
    obtain ⟨ao, cp, rfl⟩ := ho.len
    obtain ⟨LN, hLN⟩ : ∃ n, (ratps s.P t).length = n := ⟨_, rfl⟩
    rw [hLN] at GG ⊢
    have r0 := K.cell 0 _ rfl
    have r1 := K.cell 1 _ rfl
    have fz := has_fro K
    clear K ho hq hLN
    go_wp2
    refine bodyPost_ret (v := .agg #[.bool (atcl s.P t), .slice ao LN cp]) (by simp [results, Tryz.results19, go_sem, r0, r1]) rfl ?_
    exact GG.out
  obtain ⟨rfl, rfl⟩ := A4.out e0 e1 e2 e3
  clear A0 A1 A2 A3 A4
  have n0 : (s.form == 0) = false := by simp; omega
  have n1 : (s.form == 1) = false := by simp; omega
  have n2 : (s.form == 2) = false := by simp; omega
  have n3 : (s.form == 3) = false := by simp; omega
  have K := HR.out.below R2.out HR.out.lt
  have G := Lib.hid (gives_put (w := w) (r := B + 1) (c := false) HBB.out (Pown.nil w2 B) (by simp [Value.ownBlock]) (by omega) (HBW.out.trans (R2.out.mono SZ.out)) rfl (.bool false) _ rfl)
  have r0 := K.cell 0 _ rfl
  have r1 := K.cell 1 _ rfl
  have fz := has_fro K
  clear K
  go_wp2
  refine bodyPost_ret (v := .agg #[.bool false, .slice none 0 0]) (by simp [results, Tryz.results19, go_sem, r0, r1]) rfl ?_
  exact G.out

end Go.Proofs.YtglbfpjjnboeaaaGreat

namespace Go.Proofs.YtglbfpjjnboeaaaGreat
open Go Go.RowKit

section
variable {L : List Oper} {mk : List Nat} {o : Oper} {p : Nat} {G : Nat → Option Value} {e : Act}
/-- Operation o's guard is no made value. -/
def guardB (L : List Oper) (mk : List Nat) (o : Oper) : Bool := match o.guard with | none => true | some (g, _) => (match dstAt L g with | some d => mk.all fun j => dstAt L j != some d | none => true)
theorem wanted_put (h : guardB L mk o = true) (hGn : ∀ k, k ∉ mk → G k = none) (hw : Region.wanted o (yielded L.toArray e.tmps) = true) : Region.wanted o (yielded L.toArray (putV (dstAt L) G p e).tmps) = true := by
  unfold Region.wanted at hw ⊢
  unfold guardB at h
  cases hg : o.guard with
  | none => rfl
  | some gb =>
    obtain ⟨g, b⟩ := gb
    rw [hg] at h hw
    simp only at h hw ⊢
    have key : yielded L.toArray (putV (dstAt L) G p e).tmps g = yielded L.toArray e.tmps g := by
      unfold yielded
      have ed : (L.toArray[g]?).bind (·.dst) = dstAt L g := by unfold dstAt; simp
      rw [ed]
      cases hd : dstAt L g with
      | none => rfl
      | some d =>
        rw [hd] at h
        simp only at h
        have q : (putV (dstAt L) G p e).tmps[d]? = e.tmps[d]? := putV_at e p fun k hk hkn he => by
          have hkm : k ∈ mk := by
            apply Classical.byContradiction
            intro hn
            exact hkn (hGn k hn)
          have := List.all_eq_true.1 h k hkm
          rw [he] at this
          simp at this
        simp only [Option.bind_some, q]
    rw [key]
    exact hw
end

end Go.Proofs.YtglbfpjjnboeaaaGreat

namespace Go.Proofs.YtglbfpjjnboeaaaGreat
open Go Go.RowKit
open M

theorem star_length (n r s : Int) : (starL n r s).length ≤ 97 := by
  unfold starL
  rw [straightL_length, starN_length]
  have : points n ≤ 16 := by unfold points clamp; split <;> (try split) <;> omega
  omega
theorem same_self (c : Bool) (ps : List Pt) : ((c == c) && decide (ps = ps)) = true := by simp

set_option maxRecDepth 100000 in
set_option maxHeartbeats 4000000 in
theorem l13_forms (x y n : Int) (w : World) (wx : -9223372036854775808 ≤ x ∧ x ≤ 9223372036854775807) (wy : -9223372036854775808 ≤ y ∧ y ≤ 9223372036854775807) :
    Calls Tryz.prog 5 #[.int .i64 x, .int .i64 y, .int .i64 n] w fun e w' => e = .returned (.bool true) ∧ Below w.heap.size w w' := by
  have WX := Lib.hid wx
  have WY := Lib.hid wy
  clear wx wy
  go_enter Tryz.func5, Tryz.ntmps5
  go_wp2_with fail
  refine (sh_rect x y _ WX.out WY.out).mono ?_
  rintro e w1a ⟨v, rfl, ho, hq⟩
  have A1 := Lib.hid (ho.sl (by rw [rect_length]; decide))
  have B1 := Lib.hid (hq)
  obtain ⟨ao1, cp1, rfl⟩ := ho.len
  clear ho hq
  go_wp2_with fail
  refine (rh_rect x y _ WX.out WY.out).mono ?_
  rintro e w1b ⟨v, rfl, ho, hq⟩
  have A1b := Lib.hid (A1.out.below hq (Nat.le_refl _))
  have C1 := Lib.hid (ho.sl (by rw [rect_length]; decide))
  have B1b := Lib.hid (B1.out.trans (hq.mono B1.out.size))
  obtain ⟨ao1', cp1', rfl⟩ := ho.len
  clear ho hq A1 B1
  go_wp2_with fail
  refine (r8_same true true A1b.out C1.out).mono ?_
  rw [same_self]
  rintro e w1c ⟨rfl, hq⟩
  have R1 := Lib.hid (B1b.out.trans (hq.mono B1b.out.size))
  clear hq A1b C1 B1b
  go_wp2_with fail
  refine (sh_oval x y _ WX.out WY.out).mono ?_
  rintro e w2a ⟨v, rfl, ho, hq⟩
  have A2 := Lib.hid (ho.sl (by rw [oval_length]; decide))
  have B2 := Lib.hid (R1.out.trans (hq.mono R1.out.size))
  obtain ⟨ao2, cp2, rfl⟩ := ho.len
  clear ho hq
  go_wp2_with fail
  refine (rh_oval x y _ WX.out WY.out).mono ?_
  rintro e w2b ⟨v, rfl, ho, hq⟩
  have A2b := Lib.hid (A2.out.below hq (Nat.le_refl _))
  have C2 := Lib.hid (ho.sl (by rw [oval_length]; decide))
  have B2b := Lib.hid (B2.out.trans (hq.mono B2.out.size))
  obtain ⟨ao2', cp2', rfl⟩ := ho.len
  clear ho hq A2 B2
  go_wp2_with fail
  refine (r8_same true true A2b.out C2.out).mono ?_
  rw [same_self]
  rintro e w2c ⟨rfl, hq⟩
  have R2 := Lib.hid (B2b.out.trans (hq.mono B2b.out.size))
  clear hq A2b C2 B2b
  go_wp2_with fail
  refine (sh_star n x y _).mono ?_
  rintro e w3a ⟨v, rfl, ho, hq⟩
  have A3 := Lib.hid (ho.sl (by have := star_length n x y; omega))
  have B3 := Lib.hid (R2.out.trans (hq.mono R2.out.size))
  obtain ⟨ao3, cp3, rfl⟩ := ho.len
  clear ho hq
  go_wp2_with fail
  refine (rh_star n x y _).mono ?_
  rintro e w3b ⟨v, rfl, ho, hq⟩
  have A3b := Lib.hid (A3.out.below hq (Nat.le_refl _))
  have C3 := Lib.hid (ho.sl (by have := star_length n x y; omega))
  have B3b := Lib.hid (B3.out.trans (hq.mono B3.out.size))
  obtain ⟨ao3', cp3', rfl⟩ := ho.len
  clear ho hq A3 B3
  go_wp2_with fail
  refine (r8_same true true A3b.out C3.out).mono ?_
  rw [same_self]
  rintro e w3c ⟨rfl, hq⟩
  have R3 := Lib.hid (B3b.out.trans (hq.mono B3b.out.size))
  clear hq A3b C3 B3b
  go_wp2
  go_ret
  exact ⟨rfl, R3.out⟩

theorem quiet_load_row {P : Program} {C : World → Prop} {o : Oper} {a : Act} {K : Act → Prop} {t : TypeId} (ty : TypeId) (x : Operand) (ho : o.op = .load ty x) (g : Nat) (hx : a.eval x = .pointer (some ⟨g, 0, none⟩)) (cs : Array Value) (hC : ∀ w, C w → Has w g cs t)
    {d : TypeDesc} (hu : P.underlying ty = some d) (hd : (match d with | .struct _ | .array _ _ => true | _ => false) = true) (hi : (P.info? ty).map (·.size) = some cs.size) (hk : K (a.put o.dst (.agg cs))) : o.quiet P a C K :=
  ⟨.agg cs, fun w hw => by
    unfold Oper.quietAt execOp
    simp only [ho, hx, Instr.loadAt, Instr.sureAddr, Sem.run_bind, Sem.run_pure, Result.andThen_ok, run_loadVar_row w g t ty cs (0, 0) d (hC w hw) hu hd hi]
    exact ⟨rfl, rfl⟩, hk⟩
/-- The value v is a path of these places, which lie in memory. -/
def PaO (c : Bool) (ps : List Pt) (v : Value) (w : World) : Prop := ∃ l, v = .agg #[.bool c, l] ∧ Psl w l ps
theorem PaO.stay {c : Bool} {ps : List Pt} {v : Value} {w w' : World} (h : PaO c ps v w) (hb : Below w.heap.size w w') : PaO c ps v w' := by
  obtain ⟨l, e, k⟩ := h
  exact ⟨l, e, k.below hb (Nat.le_refl _)⟩

set_option maxRecDepth 100000 in
set_option maxHeartbeats 4000000 in
theorem l13_same {w : World} {s : Shp} (h : ShIn w s) (t : Int) (bW : -9223372036854775808 ≤ atk s.W t 0 ∧ atk s.W t 0 ≤ 9223372036854775807) (bH : -9223372036854775808 ≤ atk s.H t 0 ∧ atk s.H t 0 ≤ 9223372036854775807)
    (he : shAtR s t = shAt s t) (hf : (shAt s t).length ≤ 8796093022208) :
    Calls Tryz.prog 6 #[.agg (shC s), .int .i64 t] w fun e w' => e = .returned (.bool true) ∧ Below w.heap.size w w' := by
  obtain ⟨B, hB⟩ : ∃ B, w.heap.size = B := ⟨_, rfl⟩
  obtain ⟨W, hW⟩ : ∃ W, w.alloc (.cells (shC s) 34) = W := ⟨_, rfl⟩
  obtain ⟨hi, hk, hb⟩ := h.start hB hW
  have HBB := Lib.hid hB
  have HW := Lib.hid hW
  obtain ⟨x, hx⟩ : ∃ x, okS s = x := ⟨_, rfl⟩
  obtain ⟨ps, hps⟩ : ∃ x, shAt s t = x := ⟨_, rfl⟩
  obtain ⟨c, hc⟩ : ∃ x, shCl s t = x := ⟨_, rfl⟩
  have C1 : Hid (∀ w', Below W.heap.size W w' → Calls Tryz.prog 9 #[.agg (shC s)] w' fun e w'' => e = .returned (.bool x) ∧ Below w'.heap.size w' w'') := Lib.hid (fun w' h' => by rw [← hx]; exact sh_right (hi.below h'))
  have C2 : Hid (∀ w', Below W.heap.size W w' → Calls Tryz.prog 10 #[.agg (shC s)] w' fun e w'' => e = .returned (.bool x) ∧ Below w'.heap.size w' w'') := Lib.hid (fun w' h' => by rw [← hx]; exact rh_right (hi.below h'))
  have C3 : Hid (∀ w', Below W.heap.size W w' → Calls Tryz.prog 18 #[.agg (shC s), .int .i64 t] w' (Gives w' c ps)) := Lib.hid (fun w' h' => by rw [← hc, ← hps]; exact sh_at (hi.below h') t bW bH)
  have C4 : Hid (∀ w', Below W.heap.size W w' → Calls Tryz.prog 19 #[.agg (shC s), .int .i64 t] w' (Gives w' c ps)) := Lib.hid (fun w' h' => by rw [← hc, ← hps, ← he]; exact rh_at (hi.below h') t bW bH)
  rw [hps] at hf
  have HFF := Lib.hid hf
  have R0 : Hid (Below W.heap.size W W) := Lib.hid (Below.refl _ _)
  have FIN := Lib.hid (show ∀ w', Below W.heap.size W w' → Below w.heap.size w w' from fun w' h' => by rw [hB]; exact hb.trans (h'.mono (by have := hk.lt; omega)))
  have HG := Lib.hid (show ∀ w', Below W.heap.size W w' → Has w' B (shC s) 34 from fun w' h' => hk.below h' hk.lt)
  clear hi hk hb hW hx hps hc he bW bH hf h
  have ex : (x == x) = true := by simp
  go_enter Tryz.func6, Tryz.ntmps6
  go_upto_region 1 with fail
  rw [HW.out]
  clear hB
  refine wp_region_gen 12 [8, 11] [] [0, 0, 0, 0, 0, 0, 0, 0, 1, 0, 0, 1] (by kernel_rfl) (by kernel_rfl) (fun c a d v w h => by cases d <;> exact h) trivial (fun G w' => (∀ v, G 8 = some v → PaO c ps v w') ∧ (∀ v, G 11 = some v → PaO c ps v w')) (fun G w w' h hb => ⟨fun v hv => (h.1 v hv).stay hb, fun v hv => (h.2 v hv).stay hb⟩) ⟨fun v hv => (by cases hv), fun v hv => (by cases hv)⟩ ?_
  apply Exists.intro
  refine ⟨fun R hR hN => ?_, ?_, ?_⟩
  · have HCC := Lib.hid (show ∀ w', Cls W R w' → Has w' B (shC s) 34 from fun w' h => by obtain ⟨z, rfl⟩ := h; exact HG.out _ z.below)
    simp only [quietL, takeA]
    (refine BigFrame.wpQuiet_want (by rfl) (fun K hK => quiet_load_row 34 _ rfl B rfl _ HCC.out Tryz.underlying34 rfl (by kernel_rfl) (hK _ ?_)); go_simp)
    go_big_quiet_step (first | (go_at_call 9; exact LaterR.calls hR (C1.out _ (LaterR.below _))) | (go_at_call 10; exact LaterR.calls hR (C2.out _ (LaterR.below _))))
    (refine BigFrame.wpQuiet_want (by rfl) (fun K hK => quiet_load_row 34 _ rfl B rfl _ HCC.out Tryz.underlying34 rfl (by kernel_rfl) (hK _ ?_)); go_simp)
    go_big_quiet_step (first | (go_at_call 9; exact LaterR.calls hR (C1.out _ (LaterR.below _))) | (go_at_call 10; exact LaterR.calls hR (C2.out _ (LaterR.below _))))
    go_big_quiet_step (first | (go_at_call 9; exact LaterR.calls hR (C1.out _ (LaterR.below _))) | (go_at_call 10; exact LaterR.calls hR (C2.out _ (LaterR.below _))))
    go_big_quiet_step (first | (go_at_call 9; exact LaterR.calls hR (C1.out _ (LaterR.below _))) | (go_at_call 10; exact LaterR.calls hR (C2.out _ (LaterR.below _))))
    (refine BigFrame.wpQuiet_want (by rfl) (fun K hK => quiet_load_row 34 _ rfl B rfl _ HCC.out Tryz.underlying34 rfl (by kernel_rfl) (hK _ ?_)); go_simp)
    go_big_quiet_step (first | (go_at_call 9; exact LaterR.calls hR (C1.out _ (LaterR.below _))) | (go_at_call 10; exact LaterR.calls hR (C2.out _ (LaterR.below _))))
    (refine BigFrame.wpQuiet_want (by rfl) (fun K hK => quiet_load_row 34 _ rfl B rfl _ HCC.out Tryz.underlying34 rfl (by kernel_rfl) (hK _ ?_)); go_simp)
    go_big_quiet_step (first | (go_at_call 9; exact LaterR.calls hR (C1.out _ (LaterR.below _))) | (go_at_call 10; exact LaterR.calls hR (C2.out _ (LaterR.below _))))
    exact wpQuiet_nil rfl
  · intro i oo hi ho
    have hi' : i = 8 ∨ i = 11 := by simpa using hi
    clear hi
    rcases hi' with rfl | rfl
    · cases ho
      intro G w' hG hGn hdep hb hR
      refine ⟨wanted_put (by kernel_rfl) hGn rfl, gives_none (by kernel_rfl) hGn ?_⟩
      unfold gives
      simp [go_sem]
      refine (C3.out w' hb).mono ?_
      rintro r w'' ⟨l, rfl, hol, hbb⟩
      refine ⟨_, rfl, hb.trans (hbb.mono hb.size), fun v hv => ?_, fun v hv => ?_⟩
      · rw [updV_eq] at hv; cases hv; exact ⟨l, rfl, hol.sl HFF.out⟩
      · rw [updV_ne G _ (by omega)] at hv; exact (hR.2 v hv).stay hbb
    · cases ho
      intro G w' hG hGn hdep hb hR
      refine ⟨wanted_put (by kernel_rfl) hGn rfl, gives_none (by kernel_rfl) hGn ?_⟩
      unfold gives
      simp [go_sem]
      refine (C4.out w' hb).mono ?_
      rintro r w'' ⟨l, rfl, hol, hbb⟩
      refine ⟨_, rfl, hb.trans (hbb.mono hb.size), fun v hv => ?_, fun v hv => ?_⟩
      · rw [updV_ne G _ (by omega)] at hv; exact (hR.1 v hv).stay hbb
      · rw [updV_eq] at hv; cases hv; exact ⟨l, rfl, hol.sl HFF.out⟩
  · intro G w3 hb3 hR hG hN
    obtain ⟨v8, e8⟩ := hG 8 (by simp)
    obtain ⟨v11, e11⟩ := hG 11 (by simp)
    obtain ⟨l1, rfl, ya⟩ := hR.1 v8 e8
    obtain ⟨l2, rfl, yb⟩ := hR.2 v11 e11
    have nn : ∀ j, j < 8 → G j = none := fun j hj => hN j (by simp; omega)
    have SA := Lib.hid ya
    have SB := Lib.hid yb
    have BB := Lib.hid hb3
    obtain ⟨aoa, capa, rfl, _⟩ := ya
    obtain ⟨aob, capb, rfl, _⟩ := yb
    simp only [putV, dstAt, e8, e11, nn 0 (by decide), nn 1 (by decide), nn 2 (by decide), nn 3 (by decide), nn 4 (by decide), nn 5 (by decide), nn 6 (by decide), nn 7 (by decide), hN 9 (by simp), hN 10 (by simp), List.drop_succ_cons, List.drop_zero, List.getElem?_cons_succ, List.getElem?_cons_zero, Option.bind_some]
    clear hb3 hR hG hN nn e8 e11
    go_wp2_with fail
    refine (r8_same c c SA.out SB.out).mono ?_
    rw [same_self]
    rintro e w4 ⟨rfl, hq4⟩
    have B4 := Lib.hid (BB.out.trans (hq4.mono BB.out.size))
    clear hq4
    go_wp2
    go_ret
    exact ⟨rfl, FIN.out _ B4.out⟩

end Go.Proofs.YtglbfpjjnboeaaaGreat

namespace Go.Proofs.YtglbfpjjnboeaaaGreat
open Go Go.RowKit

theorem has_setRow {w : World} {g : Nat} {old cs : Array Value} {t : TypeId} (h : Has w g old t) : Has (w.setRow g cs) g cs t := setRow_heap w g old cs t (0, 0) h
theorem has_setRow_ne {w : World} {g k : Nat} {cs ds : Array Value} {t : TypeId} (h : Has w k ds t) (hne : k ≠ g) : Has (w.setRow g cs) k ds t := (setRow_other w g k cs hne).trans h
theorem below_setRow {w v : World} {g B : Nat} {cs : Array Value} (h : Below B w v) (hg : B ≤ g) : Below B w (v.setRow g cs) := by
  refine h.trans ⟨rfl, rfl, rfl, by simp [World.setRow], fun k hk => setRow_other v g k cs (by omega)⟩

end Go.Proofs.YtglbfpjjnboeaaaGreat

namespace Go.Proofs.YtglbfpjjnboeaaaGreat
open Go.RowKit
open M

/-- A colour key's cells, as a list; a list of keys' cells. -/
def cl (k : Ck) : List Value := [.int .i64 k.t, .int .u8 k.p.r, .int .u8 k.p.g, .int .u8 k.p.b, .int .u8 k.p.q, .int .i64 k.h, .int .i64 k.a, .int .i64 k.b, .int .i64 k.c, .int .i64 k.d]
def cls (ks : List Ck) : List Value := ks.flatMap cl
theorem cls_cons (k : Ck) (ks : List Ck) : cls (k :: ks) = cl k ++ cls ks := by simp [cls]
theorem cls_snoc (ks : List Ck) (k : Ck) : cls (ks ++ [k]) = cls ks ++ cl k := by simp [cls]
theorem cls_length (ks : List Ck) : (cls ks).length = ks.length * 10 := by
  induction ks with
  | nil => rfl
  | cons k ks ih => rw [cls_cons, List.length_append, ih]; simp [cl]; omega
theorem ck_cons (k : Ck) (ks : List Ck) (i : Nat) : ck (k :: ks) (i + 1) = ck ks i := by simp [ck]
theorem ck_zero (k : Ck) (ks : List Ck) : ck (k :: ks) 0 = k := by simp [ck]
theorem cls_at {ks : List Ck} {i j : Nat} (hi : i < ks.length) (hj : j < 10) : (cls ks)[i * 10 + j]? = (cl (ck ks i))[j]? := by
  induction ks generalizing i with
  | nil => simp at hi
  | cons k ks ih =>
    rw [cls_cons]
    cases i with
    | zero => rw [ck_zero, Nat.zero_mul, Nat.zero_add, List.getElem?_append_left (by simpa [cl] using hj)]
    | succ i =>
      rw [ck_cons, List.getElem?_append_right (by simp [cl]; omega)]
      rw [← ih (by simpa using hi)]
      congr 1
      simp [cl]; omega
theorem one_cl (k : Ck) : ∀ u ∈ cl k, u.oneCell' = true := by
  intro u hu
  simp [cl] at hu
  rcases hu with rfl | rfl | rfl | rfl | rfl | rfl | rfl | rfl | rfl | rfl <;> rfl
theorem crow_of {w : World} {g o : Nat} {ks : List Ck} (hf : ks.length ≤ 8796093022208) (hk : ∀ i, i < ks.length → (ck ks i).p.Ok) (h : ∀ j u, (cls ks)[j]? = some u → w.cell? ⟨g, o + j, none⟩ = some u) : Crow w g o ks := by
  have key : ∀ i j u, i < ks.length → j < 10 → (cl (ck ks i))[j]? = some u → w.cell? ⟨g, o + i * 10 + j, none⟩ = some u := by
    intro i j u hi hj hu
    rw [Nat.add_assoc]
    exact h _ _ ((cls_at hi hj).trans hu)
  exact ⟨hf, hk, fun i hi => key i 0 _ hi (by omega) rfl, fun i hi => key i 1 _ hi (by omega) rfl, fun i hi => key i 2 _ hi (by omega) rfl, fun i hi => key i 3 _ hi (by omega) rfl, fun i hi => key i 4 _ hi (by omega) rfl, fun i hi => key i 5 _ hi (by omega) rfl, fun i hi => key i 6 _ hi (by omega) rfl, fun i hi => key i 7 _ hi (by omega) rfl, fun i hi => key i 8 _ hi (by omega) rfl, fun i hi => key i 9 _ hi (by omega) rfl⟩
theorem crow_has {w : World} {g : Nat} {ks : List Ck} {cs : Array Value} {t : TypeId} (hf : ks.length ≤ 8796093022208) (hk : ∀ i, i < ks.length → (ck ks i).p.Ok) (h : Has w g cs t) (hc : cs.toList = cls ks) : Crow w g 0 ks := by
  refine crow_of hf hk fun j u hu => ?_
  rw [Nat.zero_add]
  refine h.cell j u ?_
  rw [← hc] at hu
  simpa using hu
theorem csl_lit {w : World} {g : Nat} {ks : List Ck} {cs : Array Value} {t : TypeId} (n c : Nat) (hn : ks.length = n) (h0 : 0 < n) (hf : n ≤ 8796093022208) (hk : ∀ i, i < ks.length → (ck ks i).p.Ok) (h : Has w g cs t) (hc : cs.toList = cls ks) : Csl w (.slice (some ⟨g, 0, none⟩) n c) ks := by
  subst hn
  exact Or.inr ⟨h0, g, 0, c, rfl, crow_has hf hk h hc⟩
/-- The value v of a call's own holds just these keys, in its own blocks from 'base' on. -/
def Cown (w : World) (base : Nat) (v : Value) (ks : List Ck) : Prop := w.ownsRow base 45 10 v ks.length (cls ks)
theorem Cown.sl {w : World} {base : Nat} {v : Value} {ks : List Ck} (h : Cown w base v ks) (hf : ks.length ≤ 8796093022208) (hk : ∀ i, i < ks.length → (ck ks i).p.Ok) : Csl w v ks := by
  by_cases h0 : ks.length = 0
  · obtain rfl : ks = [] := List.eq_nil_of_length_eq_zero h0
    refine Or.inl ⟨rfl, ?_⟩
    rcases h.2 with ⟨rfl, _⟩ | ⟨g, cap, cur, rfl, _⟩
    · exact ⟨_, _, rfl⟩
    · exact ⟨_, _, rfl⟩
  · refine Or.inr ⟨by omega, ?_⟩
    rcases h.2 with ⟨_, hn⟩ | ⟨g, cap, cur, rfl, _, hg, _, _, _, ht⟩
    · exact absurd hn h0
    · refine ⟨g, 0, cap, rfl, crow_of hf hk fun j u hu => ?_⟩
      rw [Nat.zero_add, cell_of_row w g j cur _ _ hg]
      rw [← ht, List.getElem?_take] at hu
      split at hu
      · simpa using hu
      · cases hu
theorem Cown.nil (w : World) (base : Nat) : Cown w base (.slice none 0 0) [] := World.ownsRow_nil _ _ _ _
theorem Cown.alloc {w : World} {base : Nat} {v : Value} {ks : List Ck} (h : Cown w base v ks) (o : Obj) : Cown (w.alloc o) base v ks := World.ownsRow.alloc h o
theorem Cown.snoc {w : World} {base : Nat} {v : Value} {ks : List Ck} {k : Ck} (h : w.ownsRow base 45 10 v (ks.length + 1) (cls ks ++ cl k)) : Cown w base v (ks ++ [k]) := by
  unfold Cown
  rw [cls_snoc, List.length_append]
  exact h
theorem Tryz.infoCk : (Tryz.prog.info? 45).map (fun i => (i.zero, i.size, i.bytes)) = some (some (.agg #[.int .i64 0, .int .u8 0, .int .u8 0, .int .u8 0, .int .u8 0, .int .i64 0, .int .i64 0, .int .i64 0, .int .i64 0, .int .i64 0]), 10, 56) := by kernel_rfl
theorem ten_cells {w : World} {k : Ck} {t : TypeId} {g : Nat} (hg : w.heap.size = g) : ∀ j u, (cl k)[j]? = some u → (w.alloc (.cells (kkCells k) t)).cell? ((⟨g, 0, none⟩ : Addr).add j) = some u := by
  intro j u hj
  subst hg
  match j, hj with
  | 0, hj => simp [cl] at hj; subst hj; simp [Addr.add]
  | 1, hj => simp [cl] at hj; subst hj; simp [Addr.add]
  | 2, hj => simp [cl] at hj; subst hj; simp [Addr.add]
  | 3, hj => simp [cl] at hj; subst hj; simp [Addr.add]
  | 4, hj => simp [cl] at hj; subst hj; simp [Addr.add]
  | 5, hj => simp [cl] at hj; subst hj; simp [Addr.add]
  | 6, hj => simp [cl] at hj; subst hj; simp [Addr.add]
  | 7, hj => simp [cl] at hj; subst hj; simp [Addr.add]
  | 8, hj => simp [cl] at hj; subst hj; simp [Addr.add]
  | 9, hj => simp [cl] at hj; subst hj; simp [Addr.add]

/-- One cell of a colour key set: the number (not a part of the colour). -/
def cupd (j : Nat) (k : Ck) (x : Int) : Ck := match j with
  | 0 => { k with t := x }
  | 5 => { k with h := x }
  | 6 => { k with a := x }
  | 7 => { k with b := x }
  | 8 => { k with c := x }
  | _ => { k with d := x }
def isNum (j : Nat) : Bool := j == 0 || (decide (5 ≤ j) && decide (j ≤ 9))
theorem cl_upd {j : Nat} (hj : isNum j = true) (k : Ck) (x : Int) : cl (cupd j k x) = (cl k).set j (.int .i64 x) := by
  have h : j = 0 ∨ j = 5 ∨ j = 6 ∨ j = 7 ∨ j = 8 ∨ j = 9 := by simp [isNum] at hj; omega
  rcases h with rfl | rfl | rfl | rfl | rfl | rfl <;> rfl
theorem isNum_lt {j : Nat} (hj : isNum j = true) : j < 10 := by simp [isNum] at hj; omega
theorem cls_upd {qs : List Ck} {n j : Nat} (hn : n < qs.length) (hj : isNum j = true) (x : Int) : cls (qs.set n (cupd j (ck qs n) x)) = (cls qs).set (n * 10 + j) (.int .i64 x) := by
  have h10 := isNum_lt hj
  induction qs generalizing n with
  | nil => simp at hn
  | cons k qs ih =>
    cases n with
    | zero => rw [List.set_cons_zero, cls_cons, cls_cons, ck_zero, cl_upd hj, Nat.zero_mul, Nat.zero_add, List.set_append_left _ _ (by simpa [cl] using h10)]
    | succ n =>
      rw [List.set_cons_succ, cls_cons, cls_cons, ck_cons, ih (by simpa using hn), List.set_append_right _ _ (by simp [cl]; omega)]
      congr 2
      simp [cl]; omega
theorem ck_set_eq {qs : List Ck} {n : Nat} (hn : n < qs.length) (k : Ck) : ck (qs.set n k) n = k := by unfold ck; simp [List.getD, hn]
theorem ck_set_ne {qs : List Ck} {n i : Nat} (h : n ≠ i) (k : Ck) : ck (qs.set n k) i = ck qs i := by unfold ck; simp [List.getD, h]
theorem ck_left {rs : List Ck} {k : Ck} {i : Nat} (h : i < rs.length) : ck (rs ++ [k]) i = ck rs i := by
  unfold ck; simp [List.getD, List.getElem?_append_left h]
theorem ck_last (rs : List Ck) (k : Ck) : ck (rs ++ [k]) rs.length = k := by unfold ck; simp [List.getD]
theorem cset_self (qs : List Ck) (n : Nat) : qs.set n (ck qs n) = qs := by
  apply List.ext_getElem?
  intro i
  by_cases e : n = i
  · subst e
    by_cases h : n < qs.length
    · unfold ck; simp [List.getD, h]
    · rw [List.getElem?_eq_none (by simp; omega), List.getElem?_eq_none (by omega)]
  · simp [e]
theorem Cown.put' {w : World} {B g cap N n : Nat} {qs : List Ck} {k : Ck} (h : Cown w B (.slice (some ⟨g, 0, none⟩) N cap) (qs.set n k)) (hN : qs.length = N) (hn : n < N) (j c : Nat) (hj : isNum j = true) (hc : c = n * 10 + j) (x : Int) :
    Cown (w.setCell ⟨g, c, none⟩ (.int .i64 x)) B (.slice (some ⟨g, 0, none⟩) N cap) (qs.set n (cupd j k x)) := by
  subst hc
  subst hN
  unfold Cown at h ⊢
  have e : cls (qs.set n (cupd j k x)) = (cls (qs.set n k)).set (n * 10 + j) (.int .i64 x) := by
    have := cls_upd (qs := qs.set n k) (n := n) (j := j) (by simpa using hn) hj x
    rw [ck_set_eq hn, List.set_set] at this
    exact this
  rw [e, List.length_set] at *
  exact (World.ownsRow.stored h _ _).1
theorem Cown.base {w : World} {B g cap N : Nat} {qs : List Ck} (h : Cown w B (.slice (some ⟨g, 0, none⟩) N cap) qs) : B ≤ g ∧ g < w.heap.size := World.ownsRow.lt h g rfl
theorem Cown.fro {w : World} {B g cap N : Nat} {qs : List Ck} (h : Cown w B (.slice (some ⟨g, 0, none⟩) N cap) qs) (hN : qs.length = N) (j : Nat) : w.frozen? ⟨g, j, none⟩ = false := by
  unfold Cown at h
  rw [hN] at h
  exact World.ownsRow.frozenAt h j
theorem Cown.shape {w : World} {B : Nat} {v : Value} {qs : List Ck} (h : Cown w B v qs) (h0 : 0 < qs.length) : ∃ g cap, v = .slice (some ⟨g, 0, none⟩) qs.length cap := by
  rcases h.2 with ⟨_, hn⟩ | ⟨g, cap, cur, rfl, _⟩
  · omega
  · exact ⟨g, cap, rfl⟩
theorem Cown.row {w : World} {B g cap N : Nat} {qs : List Ck} (h : Cown w B (.slice (some ⟨g, 0, none⟩) N cap) qs) (hf : qs.length ≤ 8796093022208) (hk : ∀ i, i < qs.length → (ck qs i).p.Ok) (h0 : 0 < qs.length) : Crow w g 0 qs := by
  rcases h.sl hf hk with ⟨rfl, _⟩ | ⟨_, g', o, cap', hv, hr⟩
  · simp at h0
  · simp at hv
    obtain ⟨⟨rfl, rfl⟩, _⟩ := hv
    exact hr

end Go.Proofs.YtglbfpjjnboeaaaGreat

namespace Go.Proofs.YtglbfpjjnboeaaaGreat
open Go Go.RowKit
open M

def widths : List Int := [0, 1, 2, 3, -1, -3, 65536, 327687, 67108864, -67108864, 1099511627776]
theorem widths_in : ∀ i, i < 11 → -1099511627776 ≤ nm widths i ∧ nm widths i ≤ 1099511627776 := by decide

theorem cases22 {n : Nat} (h : n < 22) : n = 0 ∨ n = 1 ∨ n = 2 ∨ n = 3 ∨ n = 4 ∨ n = 5 ∨ n = 6 ∨ n = 7 ∨ n = 8 ∨ n = 9 ∨ n = 10 ∨ n = 11 ∨ n = 12 ∨ n = 13 ∨ n = 14 ∨ n = 15 ∨ n = 16 ∨ n = 17 ∨ n = 18 ∨ n = 19 ∨ n = 20 ∨ n = 21 := by omega
/-- A shape of no lists. -/
def shw (f n rule kind r cap : Int) : Shp := ⟨f, n, [], .slice none 0 0, [], .slice none 0 0, [], .slice none 0 0, false, rule, kind, ⟨0, 0, 0, 0⟩, ⟨0, 0, 0, 0⟩, ⟨0, 0⟩, ⟨0, 0⟩, r, [], .slice none 0 0, false, [], .slice none 0 0, ⟨0, 0, 0, 0⟩, cap, [], .slice none 0 0, [], .slice none 0 0, [], .slice none 0 0⟩
theorem shw_in (f n rule kind r cap : Int) (w : World) : ShIn w (shw f n rule kind r cap) :=
  ⟨Or.inl ⟨rfl, _, _, rfl⟩, Or.inl ⟨rfl, _, _, rfl⟩, ⟨none, 0, rfl, by simp [shw], fun h => by simp [shw] at h⟩, Or.inl ⟨rfl, _, _, rfl⟩, Or.inl ⟨rfl, _, _, rfl⟩, ⟨none, 0, rfl, by simp [shw], fun h => by simp [shw] at h⟩, Or.inl ⟨rfl, _, _, rfl⟩, Or.inl ⟨rfl, _, _, rfl⟩⟩
/-- A shape that has lists. -/
def shl (f : Int) (W : List Ky) (vW : Value) (P : List Pk) (vP : Value) (C : List Ck) (vC : Value) (Wd : List Ky) (vWd : Value) (D : List Int) (vD : Value) (T : List Ky) (vT : Value) : Shp :=
  ⟨f, 0, W, vW, [], .slice none 0 0, P, vP, false, 0, 0, ⟨0, 0, 0, 0⟩, ⟨0, 0, 0, 0⟩, ⟨0, 0⟩, ⟨0, 0⟩, 0, C, vC, false, Wd, vWd, ⟨0, 0, 0, 0⟩, 0, D, vD, [], .slice none 0 0, T, vT⟩
theorem cr0_ok : (⟨0, 0, 0, 0⟩ : Cr).Ok := ⟨by decide, by decide, by decide, by decide, by decide, by decide, by decide, by decide⟩
theorem kl_one {w : World} {g : Nat} {x : Pk} {t : TypeId} (hp : Psl w x.v x.ps) (h : Has w g (pkCells x) t) : Kl w (.slice (some ⟨g, 0, none⟩) 1 1) [x] := by
  refine ⟨_, 1, rfl, by simp, fun _ => ⟨g, 0, rfl, ?_⟩⟩
  have z : ∀ i, i < [x].length → i = 0 := fun i hi => by simp at hi; omega
  exact ⟨by simp, fun i hi => by obtain rfl := z i hi; exact hp, fun i hi => by obtain rfl := z i hi; exact h.cell 0 _ rfl, fun i hi => by obtain rfl := z i hi; exact h.cell 1 _ rfl, fun i hi => by obtain rfl := z i hi; exact h.cell 2 _ rfl, fun i hi => by obtain rfl := z i hi; exact h.cell 3 _ rfl, fun i hi => by obtain rfl := z i hi; exact h.cell 4 _ rfl, fun i hi => by obtain rfl := z i hi; exact h.cell 5 _ rfl, fun i hi => by obtain rfl := z i hi; exact h.cell 6 _ rfl, fun i hi => by obtain rfl := z i hi; exact h.cell 7 _ rfl⟩
theorem call13 {w : World} {S : Shp} (h : ShIn w S) (bW : -9223372036854775808 ≤ atk S.W 3 0 ∧ atk S.W 3 0 ≤ 9223372036854775807) (bH : -9223372036854775808 ≤ atk S.H 3 0 ∧ atk S.H 3 0 ≤ 9223372036854775807)
    (he : ratps S.P 3 = atps S.P 3) (hf : (atps S.P 3).length ≤ 97) : Calls Tryz.prog 6 #[.agg (shC S), .int .i64 3] w fun e w' => e = .returned (.bool true) ∧ Below w.heap.size w w' := by
  refine l13_same h 3 bW bH (by unfold shAtR shAt; rw [he]) ?_
  unfold shAt
  split
  · rw [rect_length]; decide
  · split
    · rw [oval_length]; decide
    · split
      · have := star_length S.n (atk S.W 3 0) (atk S.H 3 0); omega
      · split
        · omega
        · simp
theorem half_in {n : Int} (n0 : -1 ≤ n) (n1 : n < 19) : -100000 ≤ (n * 65536).tdiv 2 ∧ (n * 65536).tdiv 2 ≤ 10000000 := by
  rcases (show n = -1 ∨ 0 ≤ n by omega) with rfl | h
  · decide
  · rw [Int.tdiv_eq_ediv_of_nonneg (by omega)]; omega

set_option maxRecDepth 100000 in
set_option maxHeartbeats 8000000 in
theorem shapeNumbers_walk (w : World) : Calls Tryz.prog 3 #[] w fun e w' => e = .returned (.bool true) ∧ Below w.heap.size w w' := by
  obtain ⟨W, hW⟩ : ∃ W, w.alloc (.cells #[.int .i64 0, .int .i64 1, .int .i64 2, .int .i64 3, .int .i64 (-1), .int .i64 (-3), .int .i64 65536, .int .i64 327687, .int .i64 67108864, .int .i64 (-67108864), .int .i64 1099511627776] 2) = W := ⟨_, rfl⟩
  obtain ⟨g, hg⟩ : ∃ g, w.heap.size = g := ⟨_, rfl⟩
  have bW : Below w.heap.size w W := by rw [← hW]; exact (Below.refl _ _).alloc (Nat.le_refl _) _
  have sl : Isl W (.slice (some ⟨g, 0, none⟩) 11 11) widths := isl_lit (n := 11) rfl (by decide) (show Has W g _ 2 by rw [← hW]; exact has_new hg) rfl
  have SL := Lib.hid sl
  have BW := Lib.hid bW
  have HW := Lib.hid hW
  have WI := Lib.hid widths_in
  clear bW hW sl
  go_enter Tryz.func3, Tryz.ntmps3
  go_wp2_with fail
  rw [HW.out]
  clear hg
  go_loopw [8] (fun i wr => ∃ m : Nat, m ≤ 11 ∧ i = .int .i64 m ∧ Below W.heap.size W wr) (fun i _ => 11 - (intOf i).toNat)
  case atStart => exact ⟨0, by omega, rfl, Below.refl _ _⟩
  case round =>
    obtain ⟨m, hm, rfl, hb⟩ := hrel
    have HB := Lib.hid hb
    by_cases hlt : m < 11
    · have o3 : (m : Int) < 11 := by omega
      obtain ⟨ao, cp, hv, hf, hr⟩ := SL.out.below hb
      obtain ⟨g', o', e1, hc⟩ := hr (by decide)
      simp at hv
      obtain ⟨rfl, -, -⟩ := hv
      simp at e1
      obtain ⟨rfl, rfl⟩ := e1
      have c0 := hc m hlt
      rw [Nat.zero_add] at c0
      obtain ⟨x, hx⟩ : ∃ x, nm widths m = x := ⟨_, rfl⟩
      have xb := WI.out m hlt
      rw [hx] at c0 xb
      clear hr hc hf hx hb
      go_wp2
      clear c0
      go_loopw [3] (fun i wx => ∃ n : Int, -1 ≤ n ∧ n ≤ 19 ∧ i = .int .i64 n ∧ Below W.heap.size W wx) (fun i _ => (19 - intOf i).toNat)
      case atStart => exact ⟨-1, by omega, by omega, rfl, HB.out⟩
      case round =>
        obtain ⟨n, n0, n1, rfl, hb2⟩ := hrel
        have HB2 := Lib.hid hb2
        clear hb2
        by_cases hn : n < 19
        · obtain ⟨q, hq, q0, q1⟩ : ∃ q, (n * 65536).tdiv 2 = q ∧ -100000 ≤ q ∧ q ≤ 10000000 := ⟨_, rfl, (half_in n0 hn).1, (half_in n0 hn).2⟩
          have FO := Lib.hid (fun w' => l13_forms x (q + 3) n w' ⟨by omega, by omega⟩ ⟨by omega, by omega⟩)
          rcases (show n = -1 ∨ 0 ≤ n by omega) with rfl | hn0
          · have e : q = -32768 := by rw [← hq]; decide
            subst e
            clear hq
            go_wp2_with fail
            refine (FO.out _).mono ?_
            rintro e w3 ⟨rfl, q3⟩
            have R := Lib.hid (HB2.out.trans (q3.mono HB2.out.size))
            clear q3
            go_wp2
            go_roundw
            case rel => exact ⟨0, by omega, by omega, rfl, R.out⟩
            case measure => simp [intOf]
          · rw [Int.tdiv_eq_ediv_of_nonneg (by omega)] at hq
            go_wp2_with fail
            refine (FO.out _).mono ?_
            rintro e w3 ⟨rfl, q3⟩
            have R := Lib.hid (HB2.out.trans (q3.mono HB2.out.size))
            clear q3
            go_wp2
            go_roundw
            case rel => exact ⟨n + 1, by omega, by omega, by go_num, R.out⟩
            case measure => simp [intOf]; omega
        · obtain rfl : n = 19 := by omega
          go_wp2
          go_roundw
          case rel => exact ⟨m + 1, by omega, by go_num, HB2.out⟩
          case measure => simp [intOf]; omega
    · obtain rfl : m = 11 := by omega
      have RW := Lib.hid (BW.out.trans (hb.mono BW.out.size))
      clear hb HB
      go_wp2_with fail
      rw [show ((11 : Nat) : Int) = 11 from rfl]
      go_loopw [4] (fun i wx => ∃ n : Nat, n ≤ 22 ∧ i = .int .i64 n ∧ Below w.heap.size w wx) (fun i _ => 22 - (intOf i).toNat)
      case atStart => exact ⟨0, by omega, rfl, RW.out⟩
      case round =>
        clear RW
        obtain ⟨n, hn, rfl, hb⟩ := hrel
        have HB := Lib.hid hb
        rename World => V
        by_cases hlt : n < 22
        · obtain ⟨A, hA⟩ : ∃ A, V.heap.size = A := ⟨_, rfl⟩
          obtain ⟨f, hf⟩ : ∃ f : Int, (n : Int) % 5 = f := ⟨_, rfl⟩
          have o1 : (n : Int) < 22 := by omega
          go_upto_region 13 with fail
          go_cut [5] (fun v wx => v = .pointer (some ⟨A, 0, none⟩) ∧ Has wx A (shC (sh0 f)) 34 ∧ Below V.heap.size V wx)
          case first =>
            apply wp_region_lit
            refine wpList_plain rfl fun K hK => ?_
            have HK := Lib.hid hK
            clear hK
            go_wp2_with fail
            refine HK.out _ _ ?_
            clear HK
            refine wpList_plain rfl fun K hK => ?_
            have HK := Lib.hid hK
            clear hK
            go_wp2_with fail
            refine HK.out _ _ ?_
            clear HK
            refine wpList_plain rfl fun K hK => ?_
            have HK := Lib.hid hK
            clear hK
            go_wp2_with fail
            refine HK.out _ _ ?_
            clear HK
            refine wpList_plain rfl fun K hK => ?_
            have HK := Lib.hid hK
            clear hK
            go_wp2_with fail
            refine HK.out _ _ ?_
            clear HK
            refine wpList_store_row rfl 34 _ _ rfl A (shC (sh0 f)) rfl rfl 34 _ (has_new hA) (by kernel_rfl) rfl (by kernel_rfl) ?_
            apply wpList_nil
            have X0 : Has (V.alloc (.cells #[.int .i64 0, .int .i64 0, .slice none 0 0, .slice none 0 0, .slice none 0 0, .bool false, .int .i64 0, .int .i64 0, .int .u8 0, .int .u8 0, .int .u8 0, .int .u8 0, .int .u8 0, .int .u8 0, .int .u8 0, .int .u8 0, .int .i64 0, .int .i64 0, .int .i64 0, .int .i64 0, .int .i64 0, .slice none 0 0, .bool false, .slice none 0 0, .int .u8 0, .int .u8 0, .int .u8 0, .int .u8 0, .int .i64 0, .slice none 0 0, .slice none 0 0, .slice none 0 0] 34)) A _ _ := has_new hA
            have X1 := has_setRow (cs := shC (sh0 f)) X0
            go_wp2_with fail
            go_meet
            exact ⟨rfl, X1, below_setRow ((Below.refl _ _).alloc (Nat.le_refl _) _) (by omega)⟩
          case rest =>
            obtain ⟨rfl, hk, hb2⟩ := hcut
            have HK := Lib.hid hk
            have SZ : Hid (w.heap.size ≤ A) := Lib.hid (by have := hb.size; omega)
            have BX := Lib.hid (hb.trans (hb2.mono hb.size))
            clear hk hb hb2 HB
            have hg := HK.out
            have f4 := HK.out.cell 0 _ rfl
            have f1 := HK.out.cell 1 _ rfl
            have fz := has_fro HK.out
            rcases cases22 hlt with rfl | rfl | rfl | rfl | rfl | rfl | rfl | rfl | rfl | rfl | rfl | rfl | rfl | rfl | rfl | rfl | rfl | rfl | rfl | rfl | rfl | rfl
            · obtain rfl : f = 0 := by rw [← hf]; rfl
              clear f4 f1 fz
              go_wp2_with (refine wpList_load_row rfl 34 _ rfl A rfl 34 _ (0, 0) _ hg Tryz.underlying34 rfl (by kernel_rfl) ?_)
              refine (call13 (S := sh0 0) (sh0_in _ _) (by decide) (by decide) rfl (by decide)).mono ?_
              rintro e w9 ⟨rfl, q⟩
              have R9 := Lib.hid (BX.out.trans (q.mono BX.out.size))
              clear q hg
              go_wp2
              go_roundw
              case rel => exact ⟨1, by omega, rfl, R9.out⟩
              case measure => simp [intOf]
            · obtain rfl : f = 1 := by rw [← hf]; rfl
              clear f4 f1 fz
              go_wp2_with (refine wpList_load_row rfl 34 _ rfl A rfl 34 _ (0, 0) _ hg Tryz.underlying34 rfl (by kernel_rfl) ?_)
              refine (call13 (S := sh0 1) (sh0_in _ _) (by decide) (by decide) rfl (by decide)).mono ?_
              rintro e w9 ⟨rfl, q⟩
              have R9 := Lib.hid (BX.out.trans (q.mono BX.out.size))
              clear q hg
              go_wp2
              go_roundw
              case rel => exact ⟨2, by omega, rfl, R9.out⟩
              case measure => simp [intOf]
            · obtain rfl : f = 2 := by rw [← hf]; rfl
              clear f4 f1 fz
              go_wp2_with (refine wpList_load_row rfl 34 _ rfl A rfl 34 _ (0, 0) _ hg Tryz.underlying34 rfl (by kernel_rfl) ?_)
              refine (call13 (S := sh0 2) (sh0_in _ _) (by decide) (by decide) rfl (by decide)).mono ?_
              rintro e w9 ⟨rfl, q⟩
              have R9 := Lib.hid (BX.out.trans (q.mono BX.out.size))
              clear q hg
              go_wp2
              go_roundw
              case rel => exact ⟨3, by omega, rfl, R9.out⟩
              case measure => simp [intOf]
            · obtain rfl : f = 3 := by rw [← hf]; rfl
              clear f4 f1 fz
              go_wp2_with (refine wpList_load_row rfl 34 _ rfl A rfl 34 _ (0, 0) _ hg Tryz.underlying34 rfl (by kernel_rfl) ?_)
              refine (call13 (S := sh0 3) (sh0_in _ _) (by decide) (by decide) rfl (by decide)).mono ?_
              rintro e w9 ⟨rfl, q⟩
              have R9 := Lib.hid (BX.out.trans (q.mono BX.out.size))
              clear q hg
              go_wp2
              go_roundw
              case rel => exact ⟨4, by omega, rfl, R9.out⟩
              case measure => simp [intOf]
            · obtain rfl : f = 4 := by rw [← hf]; rfl
              clear f4 f1 fz
              go_wp2_with (refine wpList_load_row rfl 34 _ rfl A rfl 34 _ (0, 0) _ hg Tryz.underlying34 rfl (by kernel_rfl) ?_)
              refine (call13 (S := sh0 4) (sh0_in _ _) (by decide) (by decide) rfl (by decide)).mono ?_
              rintro e w9 ⟨rfl, q⟩
              have R9 := Lib.hid (BX.out.trans (q.mono BX.out.size))
              clear q hg
              go_wp2
              go_roundw
              case rel => exact ⟨5, by omega, rfl, R9.out⟩
              case measure => simp [intOf]
            · obtain rfl : f = 0 := by rw [← hf]; rfl
              have HE : Hid (ratps ((sh0 (-1))).P 3 = atps ((sh0 (-1))).P 3) := Lib.hid rfl
              have HL : Hid ((atps ((sh0 (-1))).P 3).length ≤ 97) := Lib.hid (by decide)
              have hg1 : Has (wc.setCell ⟨A, 0, none⟩ (.int .i64 (-1))) A (shC (sh0 (-1))) 34 := has_set HK.out 0 _
              have BX2 : Hid (Below w.heap.size w (wc.setCell ⟨A, 0, none⟩ (.int .i64 (-1)))) := Lib.hid (BX.out.setCell SZ.out _)
              obtain ⟨X, hX⟩ : ∃ X, wc.setCell ⟨A, 0, none⟩ (.int .i64 (-1)) = X := ⟨_, rfl⟩
              rw [hX] at hg1 BX2
              clear hg
              go_upto_region 49 with fail
              try rw [hX]
              clear f4 f1 fz hX
              have hg := hg1
              clear hg1
              go_wp2_with (refine wpList_load_row rfl 34 _ rfl A rfl 34 _ (0, 0) _ hg Tryz.underlying34 rfl (by kernel_rfl) ?_)
              refine (call13 (S := (sh0 (-1))) (sh0_in _ _) (by decide) (by decide) HE.out HL.out).mono ?_
              rintro e w9 ⟨rfl, q⟩
              have R9 := Lib.hid (BX2.out.trans (q.mono BX2.out.size))
              clear q hg
              go_wp2
              go_roundw
              case rel => exact ⟨6, by omega, rfl, R9.out⟩
              case measure => simp [intOf]
            · obtain rfl : f = 1 := by rw [← hf]; rfl
              clear f4 f1 fz
              go_upto_region 18 with fail
              apply wp_region_lit
              refine wpList_plain rfl fun K hK => ?_
              have HHK := Lib.hid hK
              clear hK
              go_wp2_with fail
              refine HHK.out _ _ ?_
              clear HHK
              refine wpList_store_row rfl 34 _ _ rfl A (shC (shw (2) 2 0 0 0 0)) rfl rfl 34 _ hg (by kernel_rfl) rfl (by kernel_rfl) ?_
              apply wpList_nil
              have X1 : Has (wc.setRow A (shC (shw (2) 2 0 0 0 0))) A (shC (shw (2) 2 0 0 0 0)) 34 := has_setRow hg
              have BX2 : Hid (Below w.heap.size w (wc.setRow A (shC (shw (2) 2 0 0 0 0)))) := Lib.hid (below_setRow BX.out SZ.out)
              clear hg
              have hg := X1
              clear X1
              obtain ⟨X, hX⟩ : ∃ X, wc.setRow A (shC (shw (2) 2 0 0 0 0)) = X := ⟨_, rfl⟩
              rw [hX] at hg BX2
              rw [hX]
              go_wp2_with (refine wpList_load_row rfl 34 _ rfl A rfl 34 _ (0, 0) _ hg Tryz.underlying34 rfl (by kernel_rfl) ?_)
              refine (call13 (S := (shw (2) 2 0 0 0 0)) (shw_in _ _ _ _ _ _ _) (by decide) (by decide) rfl (by decide)).mono ?_
              rintro e w9 ⟨rfl, q⟩
              have R9 := Lib.hid (BX2.out.trans (q.mono BX2.out.size))
              clear q hg
              go_wp2
              go_roundw
              case rel => exact ⟨7, by omega, rfl, R9.out⟩
              case measure => simp [intOf]
            · obtain rfl : f = 2 := by rw [← hf]; rfl
              clear f4 f1 fz
              go_upto_region 20 with fail
              apply wp_region_lit
              refine wpList_plain rfl fun K hK => ?_
              have HHK := Lib.hid hK
              clear hK
              go_wp2_with fail
              refine HHK.out _ _ ?_
              clear HHK
              refine wpList_store_row rfl 34 _ _ rfl A (shC (shw (2) 17 0 0 0 0)) rfl rfl 34 _ hg (by kernel_rfl) rfl (by kernel_rfl) ?_
              apply wpList_nil
              have X1 : Has (wc.setRow A (shC (shw (2) 17 0 0 0 0))) A (shC (shw (2) 17 0 0 0 0)) 34 := has_setRow hg
              have BX2 : Hid (Below w.heap.size w (wc.setRow A (shC (shw (2) 17 0 0 0 0)))) := Lib.hid (below_setRow BX.out SZ.out)
              clear hg
              have hg := X1
              clear X1
              obtain ⟨X, hX⟩ : ∃ X, wc.setRow A (shC (shw (2) 17 0 0 0 0)) = X := ⟨_, rfl⟩
              rw [hX] at hg BX2
              rw [hX]
              go_wp2_with (refine wpList_load_row rfl 34 _ rfl A rfl 34 _ (0, 0) _ hg Tryz.underlying34 rfl (by kernel_rfl) ?_)
              refine (call13 (S := (shw (2) 17 0 0 0 0)) (shw_in _ _ _ _ _ _ _) (by decide) (by decide) rfl (by decide)).mono ?_
              rintro e w9 ⟨rfl, q⟩
              have R9 := Lib.hid (BX2.out.trans (q.mono BX2.out.size))
              clear q hg
              go_wp2
              go_roundw
              case rel => exact ⟨8, by omega, rfl, R9.out⟩
              case measure => simp [intOf]
            · obtain rfl : f = 3 := by rw [← hf]; rfl
              have HE : Hid (ratps ((shw 3 1 0 0 0 0)).P 3 = atps ((shw 3 1 0 0 0 0)).P 3) := Lib.hid rfl
              have HL : Hid ((atps ((shw 3 1 0 0 0 0)).P 3).length ≤ 97) := Lib.hid (by decide)
              have hg1 : Has (wc.setCell ⟨A, 1, none⟩ (.int .i64 (1))) A (shC (shw 3 1 0 0 0 0)) 34 := has_set HK.out 1 _
              have BX2 : Hid (Below w.heap.size w (wc.setCell ⟨A, 1, none⟩ (.int .i64 (1)))) := Lib.hid (BX.out.setCell SZ.out _)
              obtain ⟨X, hX⟩ : ∃ X, wc.setCell ⟨A, 1, none⟩ (.int .i64 (1)) = X := ⟨_, rfl⟩
              rw [hX] at hg1 BX2
              clear hg
              go_upto_region 49 with fail
              try rw [hX]
              clear f4 f1 fz hX
              have hg := hg1
              clear hg1
              go_wp2_with (refine wpList_load_row rfl 34 _ rfl A rfl 34 _ (0, 0) _ hg Tryz.underlying34 rfl (by kernel_rfl) ?_)
              refine (call13 (S := (shw 3 1 0 0 0 0)) (shw_in _ _ _ _ _ _ _) (by decide) (by decide) HE.out HL.out).mono ?_
              rintro e w9 ⟨rfl, q⟩
              have R9 := Lib.hid (BX2.out.trans (q.mono BX2.out.size))
              clear q hg
              go_wp2
              go_roundw
              case rel => exact ⟨9, by omega, rfl, R9.out⟩
              case measure => simp [intOf]
            · obtain rfl : f = 4 := by rw [← hf]; rfl
              obtain ⟨G, hG⟩ : ∃ G, wc.heap.size = G := ⟨_, rfl⟩
              have HE : Hid (ratps ((shl (4) [⟨5, 0, 0, 0, 0, 0, 0⟩, ⟨5, 0, 0, 0, 0, 0, 0⟩] (.slice (some ⟨G, 0, none⟩) 2 2) [] (.slice none 0 0) [] (.slice none 0 0) [] (.slice none 0 0) [] (.slice none 0 0) [] (.slice none 0 0))).P 3 = atps ((shl (4) [⟨5, 0, 0, 0, 0, 0, 0⟩, ⟨5, 0, 0, 0, 0, 0, 0⟩] (.slice (some ⟨G, 0, none⟩) 2 2) [] (.slice none 0 0) [] (.slice none 0 0) [] (.slice none 0 0) [] (.slice none 0 0) [] (.slice none 0 0))).P 3) := Lib.hid rfl
              have HL : Hid ((atps ((shl (4) [⟨5, 0, 0, 0, 0, 0, 0⟩, ⟨5, 0, 0, 0, 0, 0, 0⟩] (.slice (some ⟨G, 0, none⟩) 2 2) [] (.slice none 0 0) [] (.slice none 0 0) [] (.slice none 0 0) [] (.slice none 0 0) [] (.slice none 0 0))).P 3).length ≤ 97) := Lib.hid (of_decide_eq_true (by kernel_rfl))
              obtain ⟨Y, hY⟩ : ∃ Y, wc.alloc (.cells #[.int .i64 5, .int .i64 0, .int .i64 0, .int .i64 0, .int .i64 0, .int .i64 0, .int .i64 0, .int .i64 5, .int .i64 0, .int .i64 0, .int .i64 0, .int .i64 0, .int .i64 0, .int .i64 0] 38) = Y := ⟨_, rfl⟩
              have kY : Has Y A (shC (sh0 4)) 34 := by rw [← hY]; exact HK.out.alloc _
              have kG : Has Y G #[.int .i64 5, .int .i64 0, .int .i64 0, .int .i64 0, .int .i64 0, .int .i64 0, .int .i64 0, .int .i64 5, .int .i64 0, .int .i64 0, .int .i64 0, .int .i64 0, .int .i64 0, .int .i64 0] 38 := by rw [← hY]; exact has_new hG
              have bY : Below w.heap.size w Y := by rw [← hY]; exact BX.out.alloc BX.out.size _
              have nAG : G ≠ A := by have := HK.out.lt; omega
              obtain ⟨X, hX⟩ : ∃ X, Y.setCell ⟨A, 2, none⟩ (.slice (some ⟨G, 0, none⟩) 2 2) = X := ⟨_, rfl⟩
              have hg1 : Has X A (shC (shl (4) [⟨5, 0, 0, 0, 0, 0, 0⟩, ⟨5, 0, 0, 0, 0, 0, 0⟩] (.slice (some ⟨G, 0, none⟩) 2 2) [] (.slice none 0 0) [] (.slice none 0 0) [] (.slice none 0 0) [] (.slice none 0 0) [] (.slice none 0 0))) 34 := by rw [← hX]; exact has_set kY 2 _
              have kX : Has X G #[.int .i64 5, .int .i64 0, .int .i64 0, .int .i64 0, .int .i64 0, .int .i64 0, .int .i64 0, .int .i64 5, .int .i64 0, .int .i64 0, .int .i64 0, .int .i64 0, .int .i64 0, .int .i64 0] 38 := by rw [← hX]; exact has_off1 kG nAG 2 _
              have bX : Below w.heap.size w X := by rw [← hX]; exact bY.setCell SZ.out _
              have y2 := kY.cell 2 _ rfl
              have yf := has_fro kY
              clear f4 f1 fz hg
              go_upto_region 49 with fail
              try rw [hY]
              try rw [hX]
              clear y2 yf hX hY hG
              have IN : Hid (ShIn X (shl (4) [⟨5, 0, 0, 0, 0, 0, 0⟩, ⟨5, 0, 0, 0, 0, 0, 0⟩] (.slice (some ⟨G, 0, none⟩) 2 2) [] (.slice none 0 0) [] (.slice none 0 0) [] (.slice none 0 0) [] (.slice none 0 0) [] (.slice none 0 0))) := Lib.hid ⟨(sl_lit 2 2 rfl (by decide) (by decide) kX rfl), (Or.inl ⟨rfl, _, _, rfl⟩), ⟨none, 0, rfl, by simp [shl], fun h => by simp [shl] at h⟩, (Or.inl ⟨rfl, _, _, rfl⟩), (Or.inl ⟨rfl, _, _, rfl⟩), ⟨none, 0, rfl, by simp [shl], fun h => by simp [shl] at h⟩, (Or.inl ⟨rfl, _, _, rfl⟩), (Or.inl ⟨rfl, _, _, rfl⟩)⟩
              have BX2 := Lib.hid bX
              have hg := hg1
              clear hg1 kX kG kY bX bY
              go_wp2_with (refine wpList_load_row rfl 34 _ rfl A rfl 34 _ (0, 0) _ hg Tryz.underlying34 rfl (by kernel_rfl) ?_)
              refine (call13 (S := (shl (4) [⟨5, 0, 0, 0, 0, 0, 0⟩, ⟨5, 0, 0, 0, 0, 0, 0⟩] (.slice (some ⟨G, 0, none⟩) 2 2) [] (.slice none 0 0) [] (.slice none 0 0) [] (.slice none 0 0) [] (.slice none 0 0) [] (.slice none 0 0))) IN.out (of_decide_eq_true (by kernel_rfl)) (of_decide_eq_true (by kernel_rfl)) HE.out HL.out).mono ?_
              rintro e w9 ⟨rfl, q⟩
              have R9 := Lib.hid (BX2.out.trans (q.mono BX2.out.size))
              clear q hg
              go_wp2
              go_roundw
              case rel => exact ⟨10, by omega, rfl, R9.out⟩
              case measure => simp [intOf]
            · obtain rfl : f = 0 := by rw [← hf]; rfl
              obtain ⟨G, hG⟩ : ∃ G, wc.heap.size = G := ⟨_, rfl⟩
              have HE : Hid (ratps ((shl (3) [⟨0, 0, 0, 0, 0, 0, 0⟩] (.slice (some ⟨G, 0, none⟩) 1 1) [] (.slice none 0 0) [] (.slice none 0 0) [] (.slice none 0 0) [] (.slice none 0 0) [] (.slice none 0 0))).P 3 = atps ((shl (3) [⟨0, 0, 0, 0, 0, 0, 0⟩] (.slice (some ⟨G, 0, none⟩) 1 1) [] (.slice none 0 0) [] (.slice none 0 0) [] (.slice none 0 0) [] (.slice none 0 0) [] (.slice none 0 0))).P 3) := Lib.hid rfl
              have HL : Hid ((atps ((shl (3) [⟨0, 0, 0, 0, 0, 0, 0⟩] (.slice (some ⟨G, 0, none⟩) 1 1) [] (.slice none 0 0) [] (.slice none 0 0) [] (.slice none 0 0) [] (.slice none 0 0) [] (.slice none 0 0))).P 3).length ≤ 97) := Lib.hid (of_decide_eq_true (by kernel_rfl))
              obtain ⟨Y, hY⟩ : ∃ Y, wc.alloc (.cells #[.int .i64 0, .int .i64 0, .int .i64 0, .int .i64 0, .int .i64 0, .int .i64 0, .int .i64 0] 38) = Y := ⟨_, rfl⟩
              have kY : Has Y A (shC (sh0 0)) 34 := by rw [← hY]; exact HK.out.alloc _
              have kG : Has Y G #[.int .i64 0, .int .i64 0, .int .i64 0, .int .i64 0, .int .i64 0, .int .i64 0, .int .i64 0] 38 := by rw [← hY]; exact has_new hG
              have bY : Below w.heap.size w Y := by rw [← hY]; exact BX.out.alloc BX.out.size _
              have nAG : G ≠ A := by have := HK.out.lt; omega
              clear f4 f1 fz hg
              go_upto_region 26 with fail
              apply wp_region_lit
              refine wpList_plain rfl fun K hK => ?_
              have HHK := Lib.hid hK
              clear hK
              go_wp2_with fail
              refine HHK.out _ _ ?_
              clear HHK
              refine wpList_plain rfl fun K hK => ?_
              have HHK := Lib.hid hK
              clear hK
              go_wp2_with fail
              refine HHK.out _ _ ?_
              clear HHK
              refine wpList_plain rfl fun K hK => ?_
              have HHK := Lib.hid hK
              clear hK
              go_wp2_with fail
              refine HHK.out _ _ ?_
              clear HHK
              try rw [hY]
              refine wpList_store_row rfl 34 _ _ rfl A (shC (shl (3) [⟨0, 0, 0, 0, 0, 0, 0⟩] (.slice (some ⟨G, 0, none⟩) 1 1) [] (.slice none 0 0) [] (.slice none 0 0) [] (.slice none 0 0) [] (.slice none 0 0) [] (.slice none 0 0))) rfl rfl 34 _ kY (by kernel_rfl) rfl (by kernel_rfl) ?_
              apply wpList_nil
              obtain ⟨X, hX⟩ : ∃ X, Y.setRow A (shC (shl (3) [⟨0, 0, 0, 0, 0, 0, 0⟩] (.slice (some ⟨G, 0, none⟩) 1 1) [] (.slice none 0 0) [] (.slice none 0 0) [] (.slice none 0 0) [] (.slice none 0 0) [] (.slice none 0 0))) = X := ⟨_, rfl⟩
              have hg1 : Has X A (shC (shl (3) [⟨0, 0, 0, 0, 0, 0, 0⟩] (.slice (some ⟨G, 0, none⟩) 1 1) [] (.slice none 0 0) [] (.slice none 0 0) [] (.slice none 0 0) [] (.slice none 0 0) [] (.slice none 0 0))) 34 := by rw [← hX]; exact has_setRow kY
              have kX : Has X G #[.int .i64 0, .int .i64 0, .int .i64 0, .int .i64 0, .int .i64 0, .int .i64 0, .int .i64 0] 38 := by rw [← hX]; exact has_setRow_ne kG nAG
              have bX : Below w.heap.size w X := by rw [← hX]; exact below_setRow bY SZ.out
              rw [hX]
              clear hX hY hG
              have IN : Hid (ShIn X (shl (3) [⟨0, 0, 0, 0, 0, 0, 0⟩] (.slice (some ⟨G, 0, none⟩) 1 1) [] (.slice none 0 0) [] (.slice none 0 0) [] (.slice none 0 0) [] (.slice none 0 0) [] (.slice none 0 0))) := Lib.hid ⟨(sl_lit 1 1 rfl (by decide) (by decide) kX rfl), (Or.inl ⟨rfl, _, _, rfl⟩), ⟨none, 0, rfl, by simp [shl], fun h => by simp [shl] at h⟩, (Or.inl ⟨rfl, _, _, rfl⟩), (Or.inl ⟨rfl, _, _, rfl⟩), ⟨none, 0, rfl, by simp [shl], fun h => by simp [shl] at h⟩, (Or.inl ⟨rfl, _, _, rfl⟩), (Or.inl ⟨rfl, _, _, rfl⟩)⟩
              have BX2 := Lib.hid bX
              have hg := hg1
              clear hg1 kX kG kY bX bY
              go_wp2_with (refine wpList_load_row rfl 34 _ rfl A rfl 34 _ (0, 0) _ hg Tryz.underlying34 rfl (by kernel_rfl) ?_)
              refine (call13 (S := (shl (3) [⟨0, 0, 0, 0, 0, 0, 0⟩] (.slice (some ⟨G, 0, none⟩) 1 1) [] (.slice none 0 0) [] (.slice none 0 0) [] (.slice none 0 0) [] (.slice none 0 0) [] (.slice none 0 0))) IN.out (of_decide_eq_true (by kernel_rfl)) (of_decide_eq_true (by kernel_rfl)) HE.out HL.out).mono ?_
              rintro e w9 ⟨rfl, q⟩
              have R9 := Lib.hid (BX2.out.trans (q.mono BX2.out.size))
              clear q hg
              go_wp2
              go_roundw
              case rel => exact ⟨11, by omega, rfl, R9.out⟩
              case measure => simp [intOf]
            · obtain rfl : f = 1 := by rw [← hf]; rfl
              obtain ⟨G, hG⟩ : ∃ G, wc.heap.size = G := ⟨_, rfl⟩
              have HE : Hid (ratps (shl (1) [] (.slice none 0 0) [⟨0, false, .slice (some ⟨G, 0, none⟩) 4 4, List.replicate 4 default, 0, 0, 0, 0, 0⟩] (.slice (some ⟨G + 1, 0, none⟩) 1 1) [] (.slice none 0 0) [] (.slice none 0 0) [] (.slice none 0 0) [] (.slice none 0 0)).P 3 = atps (shl (1) [] (.slice none 0 0) [⟨0, false, .slice (some ⟨G, 0, none⟩) 4 4, List.replicate 4 default, 0, 0, 0, 0, 0⟩] (.slice (some ⟨G + 1, 0, none⟩) 1 1) [] (.slice none 0 0) [] (.slice none 0 0) [] (.slice none 0 0) [] (.slice none 0 0)).P 3) := Lib.hid (by kernel_rfl)
              have HL : Hid ((atps (shl (1) [] (.slice none 0 0) [⟨0, false, .slice (some ⟨G, 0, none⟩) 4 4, List.replicate 4 default, 0, 0, 0, 0, 0⟩] (.slice (some ⟨G + 1, 0, none⟩) 1 1) [] (.slice none 0 0) [] (.slice none 0 0) [] (.slice none 0 0) [] (.slice none 0 0)).P 3).length ≤ 97) := Lib.hid (of_decide_eq_true (by kernel_rfl))
              have mk : ∀ w, (Instr.makeSlice 39 (.int .i64 4) (.int .i64 4)).run Tryz.prog w = .ok (.slice (some ⟨w.heap.size, 0, none⟩) 4 4) (w.alloc (.cells (zer 4) 29)) := fun w => make_pts (n := 4) (by decide) w
              obtain ⟨Y1, hY1⟩ : ∃ Y, wc.alloc (.cells (zer 4) 29) = Y := ⟨_, rfl⟩
              obtain ⟨Y, hY⟩ : ∃ Y, Y1.alloc (.cells (pkCells ⟨0, false, .slice (some ⟨G, 0, none⟩) 4 4, List.replicate 4 default, 0, 0, 0, 0, 0⟩) 43) = Y := ⟨_, rfl⟩
              have z1 : Y1.heap.size = G + 1 := by rw [← hY1]; simp [hG]
              have kY1 : Has Y1 A (shC (sh0 1)) 34 := by rw [← hY1]; exact HK.out.alloc _
              have kY : Has Y A (shC (sh0 1)) 34 := by rw [← hY]; exact kY1.alloc _
              have kP : Psl Y (.slice (some ⟨G, 0, none⟩) 4 4) (List.replicate 4 default) := by
                have po : Pown Y1 wc.heap.size (.slice (some ⟨G, 0, none⟩) 4 4) (List.replicate 4 default) := by rw [← hY1]; exact own_made (by decide) (Nat.le_refl _) hG
                rw [← hY]
                exact (po.sl (by simp)).alloc _
              have kG : Has Y (G + 1) (pkCells ⟨0, false, .slice (some ⟨G, 0, none⟩) 4 4, List.replicate 4 default, 0, 0, 0, 0, 0⟩) 43 := by rw [← hY]; exact has_new z1
              have bY : Below w.heap.size w Y := by
                rw [← hY, ← hY1]
                exact (BX.out.alloc BX.out.size _).alloc (by have := BX.out.size; simp; omega) _
              have nA : A < G := by have := HK.out.lt; omega
              have nAG : G + 1 ≠ A := by omega
              obtain ⟨X, hX⟩ : ∃ X, Y.setCell ⟨A, 4, none⟩ (.slice (some ⟨G + 1, 0, none⟩) 1 1) = X := ⟨_, rfl⟩
              have hg1 : Has X A (shC (shl (1) [] (.slice none 0 0) [⟨0, false, .slice (some ⟨G, 0, none⟩) 4 4, List.replicate 4 default, 0, 0, 0, 0, 0⟩] (.slice (some ⟨G + 1, 0, none⟩) 1 1) [] (.slice none 0 0) [] (.slice none 0 0) [] (.slice none 0 0) [] (.slice none 0 0))) 34 := by rw [← hX]; exact has_set kY 4 _
              have kX : Has X (G + 1) (pkCells ⟨0, false, .slice (some ⟨G, 0, none⟩) 4 4, List.replicate 4 default, 0, 0, 0, 0, 0⟩) 43 := by rw [← hX]; exact has_off1 kG nAG 4 _
              have pX : Psl X (.slice (some ⟨G, 0, none⟩) 4 4) (List.replicate 4 default) := by
                rw [← hX]
                exact kP.blocks fun k _ hk => heap_setCell_other _ ⟨A, _, none⟩ k _ (fun e => by have e' : some G = some k := hk; simp at e' e; omega)
              have bX : Below w.heap.size w X := by rw [← hX]; exact bY.setCell SZ.out _
              have y4 : ∀ o, (Y1.alloc o).cell? ⟨A, 4, none⟩ = some (.slice none 0 0) := fun o => (kY1.alloc o).cell 4 _ rfl
              have yf := fun o j => has_fro (kY1.alloc o) j
              have y4' := kY.cell 4 _ rfl
              have yf' := has_fro kY
              clear f4 f1 fz hg
              go_upto_region 49 with fail
              try rw [hY1]
              try rw [hY]
              try rw [hX]
              clear y4 yf y4' yf' hX hY hY1 hG z1 mk
              have IN : Hid (ShIn X (shl (1) [] (.slice none 0 0) [⟨0, false, .slice (some ⟨G, 0, none⟩) 4 4, List.replicate 4 default, 0, 0, 0, 0, 0⟩] (.slice (some ⟨G + 1, 0, none⟩) 1 1) [] (.slice none 0 0) [] (.slice none 0 0) [] (.slice none 0 0) [] (.slice none 0 0))) := Lib.hid ⟨(Or.inl ⟨rfl, _, _, rfl⟩), (Or.inl ⟨rfl, _, _, rfl⟩), (kl_one (x := ⟨0, false, .slice (some ⟨G, 0, none⟩) 4 4, List.replicate 4 default, 0, 0, 0, 0, 0⟩) pX kX), (Or.inl ⟨rfl, _, _, rfl⟩), (Or.inl ⟨rfl, _, _, rfl⟩), ⟨none, 0, rfl, by simp [shl], fun h => by simp [shl] at h⟩, (Or.inl ⟨rfl, _, _, rfl⟩), (Or.inl ⟨rfl, _, _, rfl⟩)⟩
              have BX2 := Lib.hid bX
              have hg := hg1
              clear hg1 kX kG kY kY1 kP pX bX bY
              go_wp2_with (refine wpList_load_row rfl 34 _ rfl A rfl 34 _ (0, 0) _ hg Tryz.underlying34 rfl (by kernel_rfl) ?_)
              refine (call13 (S := (shl (1) [] (.slice none 0 0) [⟨0, false, .slice (some ⟨G, 0, none⟩) 4 4, List.replicate 4 default, 0, 0, 0, 0, 0⟩] (.slice (some ⟨G + 1, 0, none⟩) 1 1) [] (.slice none 0 0) [] (.slice none 0 0) [] (.slice none 0 0) [] (.slice none 0 0))) IN.out (of_decide_eq_true (by kernel_rfl)) (of_decide_eq_true (by kernel_rfl)) HE.out HL.out).mono ?_
              rintro e w9 ⟨rfl, q⟩
              have R9 := Lib.hid (BX2.out.trans (q.mono BX2.out.size))
              clear q hg
              go_wp2
              go_roundw
              case rel => exact ⟨12, by omega, rfl, R9.out⟩
              case measure => simp [intOf]
            · obtain rfl : f = 2 := by rw [← hf]; rfl
              obtain ⟨G, hG⟩ : ∃ G, wc.heap.size = G := ⟨_, rfl⟩
              have HE : Hid (ratps (shl (3) [] (.slice none 0 0) [⟨0, false, .slice (some ⟨G, 0, none⟩) 4 4, List.replicate 4 default, 0, 0, 0, 0, 0⟩] (.slice (some ⟨G + 1, 0, none⟩) 1 1) [] (.slice none 0 0) [] (.slice none 0 0) [] (.slice none 0 0) [] (.slice none 0 0)).P 3 = atps (shl (3) [] (.slice none 0 0) [⟨0, false, .slice (some ⟨G, 0, none⟩) 4 4, List.replicate 4 default, 0, 0, 0, 0, 0⟩] (.slice (some ⟨G + 1, 0, none⟩) 1 1) [] (.slice none 0 0) [] (.slice none 0 0) [] (.slice none 0 0) [] (.slice none 0 0)).P 3) := Lib.hid (by kernel_rfl)
              have HL : Hid ((atps (shl (3) [] (.slice none 0 0) [⟨0, false, .slice (some ⟨G, 0, none⟩) 4 4, List.replicate 4 default, 0, 0, 0, 0, 0⟩] (.slice (some ⟨G + 1, 0, none⟩) 1 1) [] (.slice none 0 0) [] (.slice none 0 0) [] (.slice none 0 0) [] (.slice none 0 0)).P 3).length ≤ 97) := Lib.hid (of_decide_eq_true (by kernel_rfl))
              have mk : ∀ w, (Instr.makeSlice 39 (.int .i64 4) (.int .i64 4)).run Tryz.prog w = .ok (.slice (some ⟨w.heap.size, 0, none⟩) 4 4) (w.alloc (.cells (zer 4) 29)) := fun w => make_pts (n := 4) (by decide) w
              obtain ⟨Y1, hY1⟩ : ∃ Y, wc.alloc (.cells (zer 4) 29) = Y := ⟨_, rfl⟩
              obtain ⟨Y, hY⟩ : ∃ Y, Y1.alloc (.cells (pkCells ⟨0, false, .slice (some ⟨G, 0, none⟩) 4 4, List.replicate 4 default, 0, 0, 0, 0, 0⟩) 43) = Y := ⟨_, rfl⟩
              have z1 : Y1.heap.size = G + 1 := by rw [← hY1]; simp [hG]
              have kY1 : Has Y1 A (shC (sh0 2)) 34 := by rw [← hY1]; exact HK.out.alloc _
              have kY : Has Y A (shC (sh0 2)) 34 := by rw [← hY]; exact kY1.alloc _
              have kP : Psl Y (.slice (some ⟨G, 0, none⟩) 4 4) (List.replicate 4 default) := by
                have po : Pown Y1 wc.heap.size (.slice (some ⟨G, 0, none⟩) 4 4) (List.replicate 4 default) := by rw [← hY1]; exact own_made (by decide) (Nat.le_refl _) hG
                rw [← hY]
                exact (po.sl (by simp)).alloc _
              have kG : Has Y (G + 1) (pkCells ⟨0, false, .slice (some ⟨G, 0, none⟩) 4 4, List.replicate 4 default, 0, 0, 0, 0, 0⟩) 43 := by rw [← hY]; exact has_new z1
              have bY : Below w.heap.size w Y := by
                rw [← hY, ← hY1]
                exact (BX.out.alloc BX.out.size _).alloc (by have := BX.out.size; simp; omega) _
              have nA : A < G := by have := HK.out.lt; omega
              have nAG : G + 1 ≠ A := by omega
              clear f4 f1 fz hg
              go_upto_region 30 with fail
              apply wp_region_lit
              refine wpList_plain rfl fun K hK => ?_
              have HHK := Lib.hid hK
              clear hK
              go_wp2_with fail
              refine HHK.out _ _ ?_
              clear HHK
              refine wpList_plain rfl fun K hK => ?_
              have HHK := Lib.hid hK
              clear hK
              go_wp2_with fail
              refine HHK.out _ _ ?_
              clear HHK
              refine wpList_plain rfl fun K hK => ?_
              have HHK := Lib.hid hK
              clear hK
              go_wp2_with fail
              refine HHK.out _ _ ?_
              clear HHK
              refine wpList_plain rfl fun K hK => ?_
              have HHK := Lib.hid hK
              clear hK
              go_wp2_with fail
              refine HHK.out _ _ ?_
              clear HHK
              refine wpList_plain rfl fun K hK => ?_
              have HHK := Lib.hid hK
              clear hK
              go_wp2_with fail
              refine HHK.out _ _ ?_
              clear HHK
              try rw [hY1]
              try rw [hY]
              refine wpList_store_row rfl 34 _ _ rfl A (shC (shl (3) [] (.slice none 0 0) [⟨0, false, .slice (some ⟨G, 0, none⟩) 4 4, List.replicate 4 default, 0, 0, 0, 0, 0⟩] (.slice (some ⟨G + 1, 0, none⟩) 1 1) [] (.slice none 0 0) [] (.slice none 0 0) [] (.slice none 0 0) [] (.slice none 0 0))) rfl rfl 34 _ kY (by kernel_rfl) rfl (by kernel_rfl) ?_
              apply wpList_nil
              obtain ⟨X, hX⟩ : ∃ X, Y.setRow A (shC (shl (3) [] (.slice none 0 0) [⟨0, false, .slice (some ⟨G, 0, none⟩) 4 4, List.replicate 4 default, 0, 0, 0, 0, 0⟩] (.slice (some ⟨G + 1, 0, none⟩) 1 1) [] (.slice none 0 0) [] (.slice none 0 0) [] (.slice none 0 0) [] (.slice none 0 0))) = X := ⟨_, rfl⟩
              have hg1 : Has X A (shC (shl (3) [] (.slice none 0 0) [⟨0, false, .slice (some ⟨G, 0, none⟩) 4 4, List.replicate 4 default, 0, 0, 0, 0, 0⟩] (.slice (some ⟨G + 1, 0, none⟩) 1 1) [] (.slice none 0 0) [] (.slice none 0 0) [] (.slice none 0 0) [] (.slice none 0 0))) 34 := by rw [← hX]; exact has_setRow kY
              have kX : Has X (G + 1) (pkCells ⟨0, false, .slice (some ⟨G, 0, none⟩) 4 4, List.replicate 4 default, 0, 0, 0, 0, 0⟩) 43 := by rw [← hX]; exact has_setRow_ne kG nAG
              have pX : Psl X (.slice (some ⟨G, 0, none⟩) 4 4) (List.replicate 4 default) := by
                rw [← hX]
                exact kP.blocks fun k _ hk => setRow_other Y A k _ (fun e => by have e' : some G = some k := hk; simp at e'; omega)
              have bX : Below w.heap.size w X := by rw [← hX]; exact below_setRow bY SZ.out
              rw [hX]
              clear hX hY hY1 hG z1 mk
              have IN : Hid (ShIn X (shl (3) [] (.slice none 0 0) [⟨0, false, .slice (some ⟨G, 0, none⟩) 4 4, List.replicate 4 default, 0, 0, 0, 0, 0⟩] (.slice (some ⟨G + 1, 0, none⟩) 1 1) [] (.slice none 0 0) [] (.slice none 0 0) [] (.slice none 0 0) [] (.slice none 0 0))) := Lib.hid ⟨(Or.inl ⟨rfl, _, _, rfl⟩), (Or.inl ⟨rfl, _, _, rfl⟩), (kl_one (x := ⟨0, false, .slice (some ⟨G, 0, none⟩) 4 4, List.replicate 4 default, 0, 0, 0, 0, 0⟩) pX kX), (Or.inl ⟨rfl, _, _, rfl⟩), (Or.inl ⟨rfl, _, _, rfl⟩), ⟨none, 0, rfl, by simp [shl], fun h => by simp [shl] at h⟩, (Or.inl ⟨rfl, _, _, rfl⟩), (Or.inl ⟨rfl, _, _, rfl⟩)⟩
              have BX2 := Lib.hid bX
              have hg := hg1
              clear hg1 kX kG kY kY1 kP pX bX bY
              go_wp2_with (refine wpList_load_row rfl 34 _ rfl A rfl 34 _ (0, 0) _ hg Tryz.underlying34 rfl (by kernel_rfl) ?_)
              refine (call13 (S := (shl (3) [] (.slice none 0 0) [⟨0, false, .slice (some ⟨G, 0, none⟩) 4 4, List.replicate 4 default, 0, 0, 0, 0, 0⟩] (.slice (some ⟨G + 1, 0, none⟩) 1 1) [] (.slice none 0 0) [] (.slice none 0 0) [] (.slice none 0 0) [] (.slice none 0 0))) IN.out (of_decide_eq_true (by kernel_rfl)) (of_decide_eq_true (by kernel_rfl)) HE.out HL.out).mono ?_
              rintro e w9 ⟨rfl, q⟩
              have R9 := Lib.hid (BX2.out.trans (q.mono BX2.out.size))
              clear q hg
              go_wp2
              go_roundw
              case rel => exact ⟨13, by omega, rfl, R9.out⟩
              case measure => simp [intOf]
            · obtain rfl : f = 3 := by rw [← hf]; rfl
              obtain ⟨G, hG⟩ : ∃ G, wc.heap.size = G := ⟨_, rfl⟩
              have HE : Hid (ratps ((shl (3) [] (.slice none 0 0) [⟨0, false, .slice none 0 0, [], 0, 0, 0, 0, 0⟩] (.slice (some ⟨G, 0, none⟩) 1 1) [] (.slice none 0 0) [] (.slice none 0 0) [] (.slice none 0 0) [] (.slice none 0 0))).P 3 = atps ((shl (3) [] (.slice none 0 0) [⟨0, false, .slice none 0 0, [], 0, 0, 0, 0, 0⟩] (.slice (some ⟨G, 0, none⟩) 1 1) [] (.slice none 0 0) [] (.slice none 0 0) [] (.slice none 0 0) [] (.slice none 0 0))).P 3) := Lib.hid rfl
              have HL : Hid ((atps ((shl (3) [] (.slice none 0 0) [⟨0, false, .slice none 0 0, [], 0, 0, 0, 0, 0⟩] (.slice (some ⟨G, 0, none⟩) 1 1) [] (.slice none 0 0) [] (.slice none 0 0) [] (.slice none 0 0) [] (.slice none 0 0))).P 3).length ≤ 97) := Lib.hid (of_decide_eq_true (by kernel_rfl))
              obtain ⟨Y, hY⟩ : ∃ Y, wc.alloc (.cells #[.int .i64 0, .bool false, .slice none 0 0, .int .i64 0, .int .i64 0, .int .i64 0, .int .i64 0, .int .i64 0] 43) = Y := ⟨_, rfl⟩
              have kY : Has Y A (shC (sh0 3)) 34 := by rw [← hY]; exact HK.out.alloc _
              have kG : Has Y G #[.int .i64 0, .bool false, .slice none 0 0, .int .i64 0, .int .i64 0, .int .i64 0, .int .i64 0, .int .i64 0] 43 := by rw [← hY]; exact has_new hG
              have bY : Below w.heap.size w Y := by rw [← hY]; exact BX.out.alloc BX.out.size _
              have nAG : G ≠ A := by have := HK.out.lt; omega
              clear f4 f1 fz hg
              go_upto_region 32 with fail
              apply wp_region_lit
              refine wpList_plain rfl fun K hK => ?_
              have HHK := Lib.hid hK
              clear hK
              go_wp2_with fail
              refine HHK.out _ _ ?_
              clear HHK
              refine wpList_plain rfl fun K hK => ?_
              have HHK := Lib.hid hK
              clear hK
              go_wp2_with fail
              refine HHK.out _ _ ?_
              clear HHK
              refine wpList_plain rfl fun K hK => ?_
              have HHK := Lib.hid hK
              clear hK
              go_wp2_with fail
              refine HHK.out _ _ ?_
              clear HHK
              try rw [hY]
              refine wpList_store_row rfl 34 _ _ rfl A (shC (shl (3) [] (.slice none 0 0) [⟨0, false, .slice none 0 0, [], 0, 0, 0, 0, 0⟩] (.slice (some ⟨G, 0, none⟩) 1 1) [] (.slice none 0 0) [] (.slice none 0 0) [] (.slice none 0 0) [] (.slice none 0 0))) rfl rfl 34 _ kY (by kernel_rfl) rfl (by kernel_rfl) ?_
              apply wpList_nil
              obtain ⟨X, hX⟩ : ∃ X, Y.setRow A (shC (shl (3) [] (.slice none 0 0) [⟨0, false, .slice none 0 0, [], 0, 0, 0, 0, 0⟩] (.slice (some ⟨G, 0, none⟩) 1 1) [] (.slice none 0 0) [] (.slice none 0 0) [] (.slice none 0 0) [] (.slice none 0 0))) = X := ⟨_, rfl⟩
              have hg1 : Has X A (shC (shl (3) [] (.slice none 0 0) [⟨0, false, .slice none 0 0, [], 0, 0, 0, 0, 0⟩] (.slice (some ⟨G, 0, none⟩) 1 1) [] (.slice none 0 0) [] (.slice none 0 0) [] (.slice none 0 0) [] (.slice none 0 0))) 34 := by rw [← hX]; exact has_setRow kY
              have kX : Has X G #[.int .i64 0, .bool false, .slice none 0 0, .int .i64 0, .int .i64 0, .int .i64 0, .int .i64 0, .int .i64 0] 43 := by rw [← hX]; exact has_setRow_ne kG nAG
              have bX : Below w.heap.size w X := by rw [← hX]; exact below_setRow bY SZ.out
              rw [hX]
              clear hX hY hG
              have IN : Hid (ShIn X (shl (3) [] (.slice none 0 0) [⟨0, false, .slice none 0 0, [], 0, 0, 0, 0, 0⟩] (.slice (some ⟨G, 0, none⟩) 1 1) [] (.slice none 0 0) [] (.slice none 0 0) [] (.slice none 0 0) [] (.slice none 0 0))) := Lib.hid ⟨(Or.inl ⟨rfl, _, _, rfl⟩), (Or.inl ⟨rfl, _, _, rfl⟩), (kl_one (x := ⟨0, false, .slice none 0 0, [], 0, 0, 0, 0, 0⟩) (psl_nil _ _ _) kX), (Or.inl ⟨rfl, _, _, rfl⟩), (Or.inl ⟨rfl, _, _, rfl⟩), ⟨none, 0, rfl, by simp [shl], fun h => by simp [shl] at h⟩, (Or.inl ⟨rfl, _, _, rfl⟩), (Or.inl ⟨rfl, _, _, rfl⟩)⟩
              have BX2 := Lib.hid bX
              have hg := hg1
              clear hg1 kX kG kY bX bY
              go_wp2_with (refine wpList_load_row rfl 34 _ rfl A rfl 34 _ (0, 0) _ hg Tryz.underlying34 rfl (by kernel_rfl) ?_)
              refine (call13 (S := (shl (3) [] (.slice none 0 0) [⟨0, false, .slice none 0 0, [], 0, 0, 0, 0, 0⟩] (.slice (some ⟨G, 0, none⟩) 1 1) [] (.slice none 0 0) [] (.slice none 0 0) [] (.slice none 0 0) [] (.slice none 0 0))) IN.out (of_decide_eq_true (by kernel_rfl)) (of_decide_eq_true (by kernel_rfl)) HE.out HL.out).mono ?_
              rintro e w9 ⟨rfl, q⟩
              have R9 := Lib.hid (BX2.out.trans (q.mono BX2.out.size))
              clear q hg
              go_wp2
              go_roundw
              case rel => exact ⟨14, by omega, rfl, R9.out⟩
              case measure => simp [intOf]
            · obtain rfl : f = 4 := by rw [← hf]; rfl
              clear f4 f1 fz
              go_upto_region 34 with fail
              apply wp_region_lit
              refine wpList_plain rfl fun K hK => ?_
              have HHK := Lib.hid hK
              clear hK
              go_wp2_with fail
              refine HHK.out _ _ ?_
              clear HHK
              refine wpList_store_row rfl 34 _ _ rfl A (shC (shw (0) 0 2 0 0 0)) rfl rfl 34 _ hg (by kernel_rfl) rfl (by kernel_rfl) ?_
              apply wpList_nil
              have X1 : Has (wc.setRow A (shC (shw (0) 0 2 0 0 0))) A (shC (shw (0) 0 2 0 0 0)) 34 := has_setRow hg
              have BX2 : Hid (Below w.heap.size w (wc.setRow A (shC (shw (0) 0 2 0 0 0)))) := Lib.hid (below_setRow BX.out SZ.out)
              clear hg
              have hg := X1
              clear X1
              obtain ⟨X, hX⟩ : ∃ X, wc.setRow A (shC (shw (0) 0 2 0 0 0)) = X := ⟨_, rfl⟩
              rw [hX] at hg BX2
              rw [hX]
              go_wp2_with (refine wpList_load_row rfl 34 _ rfl A rfl 34 _ (0, 0) _ hg Tryz.underlying34 rfl (by kernel_rfl) ?_)
              refine (call13 (S := (shw (0) 0 2 0 0 0)) (shw_in _ _ _ _ _ _ _) (by decide) (by decide) rfl (by decide)).mono ?_
              rintro e w9 ⟨rfl, q⟩
              have R9 := Lib.hid (BX2.out.trans (q.mono BX2.out.size))
              clear q hg
              go_wp2
              go_roundw
              case rel => exact ⟨15, by omega, rfl, R9.out⟩
              case measure => simp [intOf]
            · obtain rfl : f = 0 := by rw [← hf]; rfl
              clear f4 f1 fz
              go_upto_region 36 with fail
              apply wp_region_lit
              refine wpList_plain rfl fun K hK => ?_
              have HHK := Lib.hid hK
              clear hK
              go_wp2_with fail
              refine HHK.out _ _ ?_
              clear HHK
              refine wpList_plain rfl fun K hK => ?_
              have HHK := Lib.hid hK
              clear hK
              go_wp2_with fail
              refine HHK.out _ _ ?_
              clear HHK
              refine wpList_store_row rfl 34 _ _ rfl A (shC (shw (0) 0 0 3 0 0)) rfl rfl 34 _ hg (by kernel_rfl) rfl (by kernel_rfl) ?_
              apply wpList_nil
              have X1 : Has (wc.setRow A (shC (shw (0) 0 0 3 0 0))) A (shC (shw (0) 0 0 3 0 0)) 34 := has_setRow hg
              have BX2 : Hid (Below w.heap.size w (wc.setRow A (shC (shw (0) 0 0 3 0 0)))) := Lib.hid (below_setRow BX.out SZ.out)
              clear hg
              have hg := X1
              clear X1
              obtain ⟨X, hX⟩ : ∃ X, wc.setRow A (shC (shw (0) 0 0 3 0 0)) = X := ⟨_, rfl⟩
              rw [hX] at hg BX2
              rw [hX]
              go_wp2_with (refine wpList_load_row rfl 34 _ rfl A rfl 34 _ (0, 0) _ hg Tryz.underlying34 rfl (by kernel_rfl) ?_)
              refine (call13 (S := (shw (0) 0 0 3 0 0)) (shw_in _ _ _ _ _ _ _) (by decide) (by decide) rfl (by decide)).mono ?_
              rintro e w9 ⟨rfl, q⟩
              have R9 := Lib.hid (BX2.out.trans (q.mono BX2.out.size))
              clear q hg
              go_wp2
              go_roundw
              case rel => exact ⟨16, by omega, rfl, R9.out⟩
              case measure => simp [intOf]
            · obtain rfl : f = 1 := by rw [← hf]; rfl
              clear f4 f1 fz
              go_upto_region 38 with fail
              apply wp_region_lit
              refine wpList_plain rfl fun K hK => ?_
              have HHK := Lib.hid hK
              clear hK
              go_wp2_with fail
              refine HHK.out _ _ ?_
              clear HHK
              refine wpList_plain rfl fun K hK => ?_
              have HHK := Lib.hid hK
              clear hK
              go_wp2_with fail
              refine HHK.out _ _ ?_
              clear HHK
              refine wpList_store_row rfl 34 _ _ rfl A (shC (shw (0) 0 0 0 67108865 0)) rfl rfl 34 _ hg (by kernel_rfl) rfl (by kernel_rfl) ?_
              apply wpList_nil
              have X1 : Has (wc.setRow A (shC (shw (0) 0 0 0 67108865 0))) A (shC (shw (0) 0 0 0 67108865 0)) 34 := has_setRow hg
              have BX2 : Hid (Below w.heap.size w (wc.setRow A (shC (shw (0) 0 0 0 67108865 0)))) := Lib.hid (below_setRow BX.out SZ.out)
              clear hg
              have hg := X1
              clear X1
              obtain ⟨X, hX⟩ : ∃ X, wc.setRow A (shC (shw (0) 0 0 0 67108865 0)) = X := ⟨_, rfl⟩
              rw [hX] at hg BX2
              rw [hX]
              go_wp2_with (refine wpList_load_row rfl 34 _ rfl A rfl 34 _ (0, 0) _ hg Tryz.underlying34 rfl (by kernel_rfl) ?_)
              refine (call13 (S := (shw (0) 0 0 0 67108865 0)) (shw_in _ _ _ _ _ _ _) (by decide) (by decide) rfl (by decide)).mono ?_
              rintro e w9 ⟨rfl, q⟩
              have R9 := Lib.hid (BX2.out.trans (q.mono BX2.out.size))
              clear q hg
              go_wp2
              go_roundw
              case rel => exact ⟨17, by omega, rfl, R9.out⟩
              case measure => simp [intOf]
            · obtain rfl : f = 2 := by rw [← hf]; rfl
              clear f4 f1 fz
              go_upto_region 40 with fail
              apply wp_region_lit
              refine wpList_plain rfl fun K hK => ?_
              have HHK := Lib.hid hK
              clear hK
              go_wp2_with fail
              refine HHK.out _ _ ?_
              clear HHK
              refine wpList_store_row rfl 34 _ _ rfl A (shC (shw (0) 0 0 0 0 2)) rfl rfl 34 _ hg (by kernel_rfl) rfl (by kernel_rfl) ?_
              apply wpList_nil
              have X1 : Has (wc.setRow A (shC (shw (0) 0 0 0 0 2))) A (shC (shw (0) 0 0 0 0 2)) 34 := has_setRow hg
              have BX2 : Hid (Below w.heap.size w (wc.setRow A (shC (shw (0) 0 0 0 0 2)))) := Lib.hid (below_setRow BX.out SZ.out)
              clear hg
              have hg := X1
              clear X1
              obtain ⟨X, hX⟩ : ∃ X, wc.setRow A (shC (shw (0) 0 0 0 0 2)) = X := ⟨_, rfl⟩
              rw [hX] at hg BX2
              rw [hX]
              go_wp2_with (refine wpList_load_row rfl 34 _ rfl A rfl 34 _ (0, 0) _ hg Tryz.underlying34 rfl (by kernel_rfl) ?_)
              refine (call13 (S := (shw (0) 0 0 0 0 2)) (shw_in _ _ _ _ _ _ _) (by decide) (by decide) rfl (by decide)).mono ?_
              rintro e w9 ⟨rfl, q⟩
              have R9 := Lib.hid (BX2.out.trans (q.mono BX2.out.size))
              clear q hg
              go_wp2
              go_roundw
              case rel => exact ⟨18, by omega, rfl, R9.out⟩
              case measure => simp [intOf]
            · obtain rfl : f = 3 := by rw [← hf]; rfl
              obtain ⟨G, hG⟩ : ∃ G, wc.heap.size = G := ⟨_, rfl⟩
              have HE : Hid (ratps ((shl (0) [] (.slice none 0 0) [] (.slice none 0 0) [] (.slice none 0 0) [] (.slice none 0 0) [1] (.slice (some ⟨G, 0, none⟩) 1 1) [] (.slice none 0 0))).P 3 = atps ((shl (0) [] (.slice none 0 0) [] (.slice none 0 0) [] (.slice none 0 0) [] (.slice none 0 0) [1] (.slice (some ⟨G, 0, none⟩) 1 1) [] (.slice none 0 0))).P 3) := Lib.hid rfl
              have HL : Hid ((atps ((shl (0) [] (.slice none 0 0) [] (.slice none 0 0) [] (.slice none 0 0) [] (.slice none 0 0) [1] (.slice (some ⟨G, 0, none⟩) 1 1) [] (.slice none 0 0))).P 3).length ≤ 97) := Lib.hid (of_decide_eq_true (by kernel_rfl))
              obtain ⟨Y, hY⟩ : ∃ Y, wc.alloc (.cells #[.int .i64 1] 2) = Y := ⟨_, rfl⟩
              have kY : Has Y A (shC (sh0 3)) 34 := by rw [← hY]; exact HK.out.alloc _
              have kG : Has Y G #[.int .i64 1] 2 := by rw [← hY]; exact has_new hG
              have bY : Below w.heap.size w Y := by rw [← hY]; exact BX.out.alloc BX.out.size _
              have nAG : G ≠ A := by have := HK.out.lt; omega
              clear f4 f1 fz hg
              go_upto_region 42 with fail
              apply wp_region_lit
              refine wpList_plain rfl fun K hK => ?_
              have HHK := Lib.hid hK
              clear hK
              go_wp2_with fail
              refine HHK.out _ _ ?_
              clear HHK
              refine wpList_plain rfl fun K hK => ?_
              have HHK := Lib.hid hK
              clear hK
              go_wp2_with fail
              refine HHK.out _ _ ?_
              clear HHK
              try rw [hY]
              refine wpList_store_row rfl 34 _ _ rfl A (shC (shl (0) [] (.slice none 0 0) [] (.slice none 0 0) [] (.slice none 0 0) [] (.slice none 0 0) [1] (.slice (some ⟨G, 0, none⟩) 1 1) [] (.slice none 0 0))) rfl rfl 34 _ kY (by kernel_rfl) rfl (by kernel_rfl) ?_
              apply wpList_nil
              obtain ⟨X, hX⟩ : ∃ X, Y.setRow A (shC (shl (0) [] (.slice none 0 0) [] (.slice none 0 0) [] (.slice none 0 0) [] (.slice none 0 0) [1] (.slice (some ⟨G, 0, none⟩) 1 1) [] (.slice none 0 0))) = X := ⟨_, rfl⟩
              have hg1 : Has X A (shC (shl (0) [] (.slice none 0 0) [] (.slice none 0 0) [] (.slice none 0 0) [] (.slice none 0 0) [1] (.slice (some ⟨G, 0, none⟩) 1 1) [] (.slice none 0 0))) 34 := by rw [← hX]; exact has_setRow kY
              have kX : Has X G #[.int .i64 1] 2 := by rw [← hX]; exact has_setRow_ne kG nAG
              have bX : Below w.heap.size w X := by rw [← hX]; exact below_setRow bY SZ.out
              rw [hX]
              clear hX hY hG
              have IN : Hid (ShIn X (shl (0) [] (.slice none 0 0) [] (.slice none 0 0) [] (.slice none 0 0) [] (.slice none 0 0) [1] (.slice (some ⟨G, 0, none⟩) 1 1) [] (.slice none 0 0))) := Lib.hid ⟨(Or.inl ⟨rfl, _, _, rfl⟩), (Or.inl ⟨rfl, _, _, rfl⟩), ⟨none, 0, rfl, by simp [shl], fun h => by simp [shl] at h⟩, (Or.inl ⟨rfl, _, _, rfl⟩), (Or.inl ⟨rfl, _, _, rfl⟩), (isl_lit (n := 1) rfl (by decide) kX rfl), (Or.inl ⟨rfl, _, _, rfl⟩), (Or.inl ⟨rfl, _, _, rfl⟩)⟩
              have BX2 := Lib.hid bX
              have hg := hg1
              clear hg1 kX kG kY bX bY
              go_wp2_with (refine wpList_load_row rfl 34 _ rfl A rfl 34 _ (0, 0) _ hg Tryz.underlying34 rfl (by kernel_rfl) ?_)
              refine (call13 (S := (shl (0) [] (.slice none 0 0) [] (.slice none 0 0) [] (.slice none 0 0) [] (.slice none 0 0) [1] (.slice (some ⟨G, 0, none⟩) 1 1) [] (.slice none 0 0))) IN.out (of_decide_eq_true (by kernel_rfl)) (of_decide_eq_true (by kernel_rfl)) HE.out HL.out).mono ?_
              rintro e w9 ⟨rfl, q⟩
              have R9 := Lib.hid (BX2.out.trans (q.mono BX2.out.size))
              clear q hg
              go_wp2
              go_roundw
              case rel => exact ⟨19, by omega, rfl, R9.out⟩
              case measure => simp [intOf]
            · obtain rfl : f = 4 := by rw [← hf]; rfl
              obtain ⟨G, hG⟩ : ∃ G, wc.heap.size = G := ⟨_, rfl⟩
              have HE : Hid (ratps ((shl (0) [] (.slice none 0 0) [] (.slice none 0 0) [⟨1, ⟨0, 0, 0, 0⟩, 0, 0, 0, 0, 0⟩, ⟨0, ⟨0, 0, 0, 0⟩, 0, 0, 0, 0, 0⟩] (.slice (some ⟨G, 0, none⟩) 2 2) [] (.slice none 0 0) [] (.slice none 0 0) [] (.slice none 0 0))).P 3 = atps ((shl (0) [] (.slice none 0 0) [] (.slice none 0 0) [⟨1, ⟨0, 0, 0, 0⟩, 0, 0, 0, 0, 0⟩, ⟨0, ⟨0, 0, 0, 0⟩, 0, 0, 0, 0, 0⟩] (.slice (some ⟨G, 0, none⟩) 2 2) [] (.slice none 0 0) [] (.slice none 0 0) [] (.slice none 0 0))).P 3) := Lib.hid rfl
              have HL : Hid ((atps ((shl (0) [] (.slice none 0 0) [] (.slice none 0 0) [⟨1, ⟨0, 0, 0, 0⟩, 0, 0, 0, 0, 0⟩, ⟨0, ⟨0, 0, 0, 0⟩, 0, 0, 0, 0, 0⟩] (.slice (some ⟨G, 0, none⟩) 2 2) [] (.slice none 0 0) [] (.slice none 0 0) [] (.slice none 0 0))).P 3).length ≤ 97) := Lib.hid (of_decide_eq_true (by kernel_rfl))
              obtain ⟨Y, hY⟩ : ∃ Y, wc.alloc (.cells #[.int .i64 1, .int .u8 0, .int .u8 0, .int .u8 0, .int .u8 0, .int .i64 0, .int .i64 0, .int .i64 0, .int .i64 0, .int .i64 0, .int .i64 0, .int .u8 0, .int .u8 0, .int .u8 0, .int .u8 0, .int .i64 0, .int .i64 0, .int .i64 0, .int .i64 0, .int .i64 0] 45) = Y := ⟨_, rfl⟩
              have kY : Has Y A (shC (sh0 4)) 34 := by rw [← hY]; exact HK.out.alloc _
              have kG : Has Y G #[.int .i64 1, .int .u8 0, .int .u8 0, .int .u8 0, .int .u8 0, .int .i64 0, .int .i64 0, .int .i64 0, .int .i64 0, .int .i64 0, .int .i64 0, .int .u8 0, .int .u8 0, .int .u8 0, .int .u8 0, .int .i64 0, .int .i64 0, .int .i64 0, .int .i64 0, .int .i64 0] 45 := by rw [← hY]; exact has_new hG
              have bY : Below w.heap.size w Y := by rw [← hY]; exact BX.out.alloc BX.out.size _
              have nAG : G ≠ A := by have := HK.out.lt; omega
              clear f4 f1 fz hg
              go_upto_region 44 with fail
              apply wp_region_lit
              refine wpList_plain rfl fun K hK => ?_
              have HHK := Lib.hid hK
              clear hK
              go_wp2_with fail
              refine HHK.out _ _ ?_
              clear HHK
              refine wpList_plain rfl fun K hK => ?_
              have HHK := Lib.hid hK
              clear hK
              go_wp2_with fail
              refine HHK.out _ _ ?_
              clear HHK
              refine wpList_plain rfl fun K hK => ?_
              have HHK := Lib.hid hK
              clear hK
              go_wp2_with fail
              refine HHK.out _ _ ?_
              clear HHK
              refine wpList_plain rfl fun K hK => ?_
              have HHK := Lib.hid hK
              clear hK
              go_wp2_with fail
              refine HHK.out _ _ ?_
              clear HHK
              try rw [hY]
              refine wpList_store_row rfl 34 _ _ rfl A (shC (shl (0) [] (.slice none 0 0) [] (.slice none 0 0) [⟨1, ⟨0, 0, 0, 0⟩, 0, 0, 0, 0, 0⟩, ⟨0, ⟨0, 0, 0, 0⟩, 0, 0, 0, 0, 0⟩] (.slice (some ⟨G, 0, none⟩) 2 2) [] (.slice none 0 0) [] (.slice none 0 0) [] (.slice none 0 0))) rfl rfl 34 _ kY (by kernel_rfl) rfl (by kernel_rfl) ?_
              apply wpList_nil
              obtain ⟨X, hX⟩ : ∃ X, Y.setRow A (shC (shl (0) [] (.slice none 0 0) [] (.slice none 0 0) [⟨1, ⟨0, 0, 0, 0⟩, 0, 0, 0, 0, 0⟩, ⟨0, ⟨0, 0, 0, 0⟩, 0, 0, 0, 0, 0⟩] (.slice (some ⟨G, 0, none⟩) 2 2) [] (.slice none 0 0) [] (.slice none 0 0) [] (.slice none 0 0))) = X := ⟨_, rfl⟩
              have hg1 : Has X A (shC (shl (0) [] (.slice none 0 0) [] (.slice none 0 0) [⟨1, ⟨0, 0, 0, 0⟩, 0, 0, 0, 0, 0⟩, ⟨0, ⟨0, 0, 0, 0⟩, 0, 0, 0, 0, 0⟩] (.slice (some ⟨G, 0, none⟩) 2 2) [] (.slice none 0 0) [] (.slice none 0 0) [] (.slice none 0 0))) 34 := by rw [← hX]; exact has_setRow kY
              have kX : Has X G #[.int .i64 1, .int .u8 0, .int .u8 0, .int .u8 0, .int .u8 0, .int .i64 0, .int .i64 0, .int .i64 0, .int .i64 0, .int .i64 0, .int .i64 0, .int .u8 0, .int .u8 0, .int .u8 0, .int .u8 0, .int .i64 0, .int .i64 0, .int .i64 0, .int .i64 0, .int .i64 0] 45 := by rw [← hX]; exact has_setRow_ne kG nAG
              have bX : Below w.heap.size w X := by rw [← hX]; exact below_setRow bY SZ.out
              rw [hX]
              clear hX hY hG
              have IN : Hid (ShIn X (shl (0) [] (.slice none 0 0) [] (.slice none 0 0) [⟨1, ⟨0, 0, 0, 0⟩, 0, 0, 0, 0, 0⟩, ⟨0, ⟨0, 0, 0, 0⟩, 0, 0, 0, 0, 0⟩] (.slice (some ⟨G, 0, none⟩) 2 2) [] (.slice none 0 0) [] (.slice none 0 0) [] (.slice none 0 0))) := Lib.hid ⟨(Or.inl ⟨rfl, _, _, rfl⟩), (Or.inl ⟨rfl, _, _, rfl⟩), ⟨none, 0, rfl, by simp [shl], fun h => by simp [shl] at h⟩, (csl_lit 2 2 rfl (by decide) (by decide) (fun i hi => by rcases (show i = 0 ∨ i = 1 by simp [shl] at hi; omega) with rfl | rfl <;> exact cr0_ok) kX rfl), (Or.inl ⟨rfl, _, _, rfl⟩), ⟨none, 0, rfl, by simp [shl], fun h => by simp [shl] at h⟩, (Or.inl ⟨rfl, _, _, rfl⟩), (Or.inl ⟨rfl, _, _, rfl⟩)⟩
              have BX2 := Lib.hid bX
              have hg := hg1
              clear hg1 kX kG kY bX bY
              go_wp2_with (refine wpList_load_row rfl 34 _ rfl A rfl 34 _ (0, 0) _ hg Tryz.underlying34 rfl (by kernel_rfl) ?_)
              refine (call13 (S := (shl (0) [] (.slice none 0 0) [] (.slice none 0 0) [⟨1, ⟨0, 0, 0, 0⟩, 0, 0, 0, 0, 0⟩, ⟨0, ⟨0, 0, 0, 0⟩, 0, 0, 0, 0, 0⟩] (.slice (some ⟨G, 0, none⟩) 2 2) [] (.slice none 0 0) [] (.slice none 0 0) [] (.slice none 0 0))) IN.out (of_decide_eq_true (by kernel_rfl)) (of_decide_eq_true (by kernel_rfl)) HE.out HL.out).mono ?_
              rintro e w9 ⟨rfl, q⟩
              have R9 := Lib.hid (BX2.out.trans (q.mono BX2.out.size))
              clear q hg
              go_wp2
              go_roundw
              case rel => exact ⟨20, by omega, rfl, R9.out⟩
              case measure => simp [intOf]
            · obtain rfl : f = 0 := by rw [← hf]; rfl
              obtain ⟨G, hG⟩ : ∃ G, wc.heap.size = G := ⟨_, rfl⟩
              have HE : Hid (ratps ((shl (0) [] (.slice none 0 0) [] (.slice none 0 0) [] (.slice none 0 0) [⟨0, 0, 5, 0, 0, 0, 0⟩] (.slice (some ⟨G, 0, none⟩) 1 1) [] (.slice none 0 0) [] (.slice none 0 0))).P 3 = atps ((shl (0) [] (.slice none 0 0) [] (.slice none 0 0) [] (.slice none 0 0) [⟨0, 0, 5, 0, 0, 0, 0⟩] (.slice (some ⟨G, 0, none⟩) 1 1) [] (.slice none 0 0) [] (.slice none 0 0))).P 3) := Lib.hid rfl
              have HL : Hid ((atps ((shl (0) [] (.slice none 0 0) [] (.slice none 0 0) [] (.slice none 0 0) [⟨0, 0, 5, 0, 0, 0, 0⟩] (.slice (some ⟨G, 0, none⟩) 1 1) [] (.slice none 0 0) [] (.slice none 0 0))).P 3).length ≤ 97) := Lib.hid (of_decide_eq_true (by kernel_rfl))
              obtain ⟨Y, hY⟩ : ∃ Y, wc.alloc (.cells #[.int .i64 0, .int .i64 0, .int .i64 5, .int .i64 0, .int .i64 0, .int .i64 0, .int .i64 0] 38) = Y := ⟨_, rfl⟩
              have kY : Has Y A (shC (sh0 0)) 34 := by rw [← hY]; exact HK.out.alloc _
              have kG : Has Y G #[.int .i64 0, .int .i64 0, .int .i64 5, .int .i64 0, .int .i64 0, .int .i64 0, .int .i64 0] 38 := by rw [← hY]; exact has_new hG
              have bY : Below w.heap.size w Y := by rw [← hY]; exact BX.out.alloc BX.out.size _
              have nAG : G ≠ A := by have := HK.out.lt; omega
              clear f4 f1 fz hg
              go_upto_region 46 with fail
              apply wp_region_lit
              refine wpList_plain rfl fun K hK => ?_
              have HHK := Lib.hid hK
              clear hK
              go_wp2_with fail
              refine HHK.out _ _ ?_
              clear HHK
              refine wpList_plain rfl fun K hK => ?_
              have HHK := Lib.hid hK
              clear hK
              go_wp2_with fail
              refine HHK.out _ _ ?_
              clear HHK
              refine wpList_plain rfl fun K hK => ?_
              have HHK := Lib.hid hK
              clear hK
              go_wp2_with fail
              refine HHK.out _ _ ?_
              clear HHK
              try rw [hY]
              refine wpList_store_row rfl 34 _ _ rfl A (shC (shl (0) [] (.slice none 0 0) [] (.slice none 0 0) [] (.slice none 0 0) [⟨0, 0, 5, 0, 0, 0, 0⟩] (.slice (some ⟨G, 0, none⟩) 1 1) [] (.slice none 0 0) [] (.slice none 0 0))) rfl rfl 34 _ kY (by kernel_rfl) rfl (by kernel_rfl) ?_
              apply wpList_nil
              obtain ⟨X, hX⟩ : ∃ X, Y.setRow A (shC (shl (0) [] (.slice none 0 0) [] (.slice none 0 0) [] (.slice none 0 0) [⟨0, 0, 5, 0, 0, 0, 0⟩] (.slice (some ⟨G, 0, none⟩) 1 1) [] (.slice none 0 0) [] (.slice none 0 0))) = X := ⟨_, rfl⟩
              have hg1 : Has X A (shC (shl (0) [] (.slice none 0 0) [] (.slice none 0 0) [] (.slice none 0 0) [⟨0, 0, 5, 0, 0, 0, 0⟩] (.slice (some ⟨G, 0, none⟩) 1 1) [] (.slice none 0 0) [] (.slice none 0 0))) 34 := by rw [← hX]; exact has_setRow kY
              have kX : Has X G #[.int .i64 0, .int .i64 0, .int .i64 5, .int .i64 0, .int .i64 0, .int .i64 0, .int .i64 0] 38 := by rw [← hX]; exact has_setRow_ne kG nAG
              have bX : Below w.heap.size w X := by rw [← hX]; exact below_setRow bY SZ.out
              rw [hX]
              clear hX hY hG
              have IN : Hid (ShIn X (shl (0) [] (.slice none 0 0) [] (.slice none 0 0) [] (.slice none 0 0) [⟨0, 0, 5, 0, 0, 0, 0⟩] (.slice (some ⟨G, 0, none⟩) 1 1) [] (.slice none 0 0) [] (.slice none 0 0))) := Lib.hid ⟨(Or.inl ⟨rfl, _, _, rfl⟩), (Or.inl ⟨rfl, _, _, rfl⟩), ⟨none, 0, rfl, by simp [shl], fun h => by simp [shl] at h⟩, (Or.inl ⟨rfl, _, _, rfl⟩), (sl_lit 1 1 rfl (by decide) (by decide) kX rfl), ⟨none, 0, rfl, by simp [shl], fun h => by simp [shl] at h⟩, (Or.inl ⟨rfl, _, _, rfl⟩), (Or.inl ⟨rfl, _, _, rfl⟩)⟩
              have BX2 := Lib.hid bX
              have hg := hg1
              clear hg1 kX kG kY bX bY
              go_wp2_with (refine wpList_load_row rfl 34 _ rfl A rfl 34 _ (0, 0) _ hg Tryz.underlying34 rfl (by kernel_rfl) ?_)
              refine (call13 (S := (shl (0) [] (.slice none 0 0) [] (.slice none 0 0) [] (.slice none 0 0) [⟨0, 0, 5, 0, 0, 0, 0⟩] (.slice (some ⟨G, 0, none⟩) 1 1) [] (.slice none 0 0) [] (.slice none 0 0))) IN.out (of_decide_eq_true (by kernel_rfl)) (of_decide_eq_true (by kernel_rfl)) HE.out HL.out).mono ?_
              rintro e w9 ⟨rfl, q⟩
              have R9 := Lib.hid (BX2.out.trans (q.mono BX2.out.size))
              clear q hg
              go_wp2
              go_roundw
              case rel => exact ⟨21, by omega, rfl, R9.out⟩
              case measure => simp [intOf]
            · obtain rfl : f = 1 := by rw [← hf]; rfl
              obtain ⟨G, hG⟩ : ∃ G, wc.heap.size = G := ⟨_, rfl⟩
              have HE : Hid (ratps ((shl (0) [] (.slice none 0 0) [] (.slice none 0 0) [] (.slice none 0 0) [] (.slice none 0 0) [] (.slice none 0 0) [⟨0, 67108865, 0, 0, 0, 0, 0⟩] (.slice (some ⟨G, 0, none⟩) 1 1))).P 3 = atps ((shl (0) [] (.slice none 0 0) [] (.slice none 0 0) [] (.slice none 0 0) [] (.slice none 0 0) [] (.slice none 0 0) [⟨0, 67108865, 0, 0, 0, 0, 0⟩] (.slice (some ⟨G, 0, none⟩) 1 1))).P 3) := Lib.hid rfl
              have HL : Hid ((atps ((shl (0) [] (.slice none 0 0) [] (.slice none 0 0) [] (.slice none 0 0) [] (.slice none 0 0) [] (.slice none 0 0) [⟨0, 67108865, 0, 0, 0, 0, 0⟩] (.slice (some ⟨G, 0, none⟩) 1 1))).P 3).length ≤ 97) := Lib.hid (of_decide_eq_true (by kernel_rfl))
              obtain ⟨Y, hY⟩ : ∃ Y, wc.alloc (.cells #[.int .i64 0, .int .i64 67108865, .int .i64 0, .int .i64 0, .int .i64 0, .int .i64 0, .int .i64 0] 38) = Y := ⟨_, rfl⟩
              have kY : Has Y A (shC (sh0 1)) 34 := by rw [← hY]; exact HK.out.alloc _
              have kG : Has Y G #[.int .i64 0, .int .i64 67108865, .int .i64 0, .int .i64 0, .int .i64 0, .int .i64 0, .int .i64 0] 38 := by rw [← hY]; exact has_new hG
              have bY : Below w.heap.size w Y := by rw [← hY]; exact BX.out.alloc BX.out.size _
              have nAG : G ≠ A := by have := HK.out.lt; omega
              clear f4 f1 fz hg
              go_upto_region 48 with fail
              apply wp_region_lit
              refine wpList_plain rfl fun K hK => ?_
              have HHK := Lib.hid hK
              clear hK
              go_wp2_with fail
              refine HHK.out _ _ ?_
              clear HHK
              refine wpList_plain rfl fun K hK => ?_
              have HHK := Lib.hid hK
              clear hK
              go_wp2_with fail
              refine HHK.out _ _ ?_
              clear HHK
              refine wpList_plain rfl fun K hK => ?_
              have HHK := Lib.hid hK
              clear hK
              go_wp2_with fail
              refine HHK.out _ _ ?_
              clear HHK
              try rw [hY]
              refine wpList_store_row rfl 34 _ _ rfl A (shC (shl (0) [] (.slice none 0 0) [] (.slice none 0 0) [] (.slice none 0 0) [] (.slice none 0 0) [] (.slice none 0 0) [⟨0, 67108865, 0, 0, 0, 0, 0⟩] (.slice (some ⟨G, 0, none⟩) 1 1))) rfl rfl 34 _ kY (by kernel_rfl) rfl (by kernel_rfl) ?_
              apply wpList_nil
              obtain ⟨X, hX⟩ : ∃ X, Y.setRow A (shC (shl (0) [] (.slice none 0 0) [] (.slice none 0 0) [] (.slice none 0 0) [] (.slice none 0 0) [] (.slice none 0 0) [⟨0, 67108865, 0, 0, 0, 0, 0⟩] (.slice (some ⟨G, 0, none⟩) 1 1))) = X := ⟨_, rfl⟩
              have hg1 : Has X A (shC (shl (0) [] (.slice none 0 0) [] (.slice none 0 0) [] (.slice none 0 0) [] (.slice none 0 0) [] (.slice none 0 0) [⟨0, 67108865, 0, 0, 0, 0, 0⟩] (.slice (some ⟨G, 0, none⟩) 1 1))) 34 := by rw [← hX]; exact has_setRow kY
              have kX : Has X G #[.int .i64 0, .int .i64 67108865, .int .i64 0, .int .i64 0, .int .i64 0, .int .i64 0, .int .i64 0] 38 := by rw [← hX]; exact has_setRow_ne kG nAG
              have bX : Below w.heap.size w X := by rw [← hX]; exact below_setRow bY SZ.out
              rw [hX]
              clear hX hY hG
              have IN : Hid (ShIn X (shl (0) [] (.slice none 0 0) [] (.slice none 0 0) [] (.slice none 0 0) [] (.slice none 0 0) [] (.slice none 0 0) [⟨0, 67108865, 0, 0, 0, 0, 0⟩] (.slice (some ⟨G, 0, none⟩) 1 1))) := Lib.hid ⟨(Or.inl ⟨rfl, _, _, rfl⟩), (Or.inl ⟨rfl, _, _, rfl⟩), ⟨none, 0, rfl, by simp [shl], fun h => by simp [shl] at h⟩, (Or.inl ⟨rfl, _, _, rfl⟩), (Or.inl ⟨rfl, _, _, rfl⟩), ⟨none, 0, rfl, by simp [shl], fun h => by simp [shl] at h⟩, (Or.inl ⟨rfl, _, _, rfl⟩), (sl_lit 1 1 rfl (by decide) (by decide) kX rfl)⟩
              have BX2 := Lib.hid bX
              have hg := hg1
              clear hg1 kX kG kY bX bY
              go_wp2_with (refine wpList_load_row rfl 34 _ rfl A rfl 34 _ (0, 0) _ hg Tryz.underlying34 rfl (by kernel_rfl) ?_)
              refine (call13 (S := (shl (0) [] (.slice none 0 0) [] (.slice none 0 0) [] (.slice none 0 0) [] (.slice none 0 0) [] (.slice none 0 0) [⟨0, 67108865, 0, 0, 0, 0, 0⟩] (.slice (some ⟨G, 0, none⟩) 1 1))) IN.out (of_decide_eq_true (by kernel_rfl)) (of_decide_eq_true (by kernel_rfl)) HE.out HL.out).mono ?_
              rintro e w9 ⟨rfl, q⟩
              have R9 := Lib.hid (BX2.out.trans (q.mono BX2.out.size))
              clear q hg
              go_wp2
              go_roundw
              case rel => exact ⟨22, by omega, rfl, R9.out⟩
              case measure => simp [intOf]
        · obtain rfl : n = 22 := by omega
          have R := Lib.hid hb
          clear hb HB
          go_wp2_with fail
          refine (known13 _).mono ?_
          rintro e w9 ⟨rfl, q⟩
          have R9 := Lib.hid (R.out.trans (q.mono R.out.size))
          clear q
          go_wp2
          go_ret
          exact ⟨rfl, R9.out⟩

end Go.Proofs.YtglbfpjjnboeaaaGreat

namespace Go.Proofs.YtglbfpjjnboeaaaGreat.shapeNumbers
open Go.ChangeShapes Go.WideShapes Go.ChangeAt Go.RowKit

theorem post_below {H : Type} {enc : TypeId × Value → H} {P : Program} {f : Func} {s : ChangeSpec} {apart fresh handsOn : Bool} {W V : World} {args : Array Value} {v : Value} {ds gs : List (DataW H)} {before pa pv : List MemPlace}
    (hW : DataW.Whole enc P f.params.toList s.vars apart W args.toList ds gs before)
    (hres : ∀ (b : Nat) (sp : Nat → Bool) (hd : Bool), DataW.TrodAll enc P V b sp hd f.resultTypes.toList (v.resultList f.resultTypes.size) (s.fn H (ds ++ gs)).results [])
    (hargs : ∀ sp : Nat → Bool, (∀ p ∈ before, sp p.block = true) → DataW.TrodAll enc P V 0 sp true f.params.toList args.toList (s.fn H (ds ++ gs)).args pa)
    (hvars : ∀ sp : Nat → Bool, (∀ p ∈ before, sp p.block = true) → DataW.TrodVars enc P V sp s.vars (s.fn H (ds ++ gs)).vars pv)
    (hps : before = pa ++ pv) (hb : Below W.heap.size W V) : s.post enc P f apart fresh handsOn false W args v V := by
  have hl : ∀ p ∈ before, (fun b => decide (b < W.heap.size)) p.block = true := fun p hp => by simpa using hW.lt p hp
  refine ⟨ds, gs, before, [], pa, pv, hW, hres _ _ _, hargs _ hl, hvars _ hl, World.keptBut_mono (fun p hp => ⟨hp, ?_⟩) (hb.frame (· ∈ before)), fun h => by cases h⟩
  rw [hps, List.mem_append] at hp
  exact Or.inr hp

theorem own : ownKnob Tryz.prog.godebug = none := by kernel_rfl

set_option maxRecDepth 100000 in
theorem lifted (os : Os) (started : os.Started) (H : Type) (enc : TypeId × Value → H) :
    ReturnsInHanded {} Tryz.checked os 3 .any (Rows.shapeNumbersSpec.pre6 enc Tryz.prog Tryz.f3 Rows.shapeNumbersRow.domain false) (Rows.shapeNumbersSpec.post enc Tryz.prog Tryz.f3 false true false false) := by
  refine returnsInHanded_of_change (C := Tryz.checked) own started (by kernel_rfl) Tryz.func3
    (ChangeSpec.witness6 (enc := enc) (C := Tryz.checked) false ⟨#[], #[], []⟩ 8 (by kernel_rfl) (by kernel_rfl) (by kernel_rfl) (by kernel_rfl)) ?_
  intro W base args ds gs before hval0 hW hcnd _
  have hval : ∀ (j : Nat) t v, Tryz.f3.params[j]? = some t → args[j]? = some v → Value.okWide Tryz.prog W .any base t v := hval0
  have hW' := hW
  obtain ⟨p, q, hA0, hV, rfl, hfz, hnd⟩ := hW
  have hA : DataW.TrodAll enc Tryz.prog W 0 (fun _ => true) true Tryz.f3.params.toList args.toList ds p := hA0
  rw [Tryz.params3] at hA hval
  obtain ⟨rfl, rfl, rfl⟩ := trodAll_none hA
  obtain ⟨rfl, rfl⟩ := trodVars_none hV
  clear hA0 hval0
  simp only [List.append_nil] at hW'
  refine (shapeNumbers_walk W).mono fun e W' ⟨he, hg⟩ => ?_
  subst he
  exact ⟨_, rfl, post_below (pa := []) (pv := []) hW' (fun _ _ _ => (trodAll_cons_mk (shut_bool Tryz.underlying4 _) trodAll_mk0)) (fun sp _ => rfl) (fun _ _ => rfl) rfl hg⟩

theorem over : Rows.shapeNumbersRow.holds Tryz.pinned (OpenSpec.ofChange Rows.shapeNumbersSpec) :=
  OpenClaim.holds_of_wide 3 Tryz.f3 rfl rfl rfl rfl rfl rfl rfl ⟨rfl, rfl, rfl, rfl, rfl⟩ rfl rfl rfl rfl rfl (by kernel_rfl) Tryz.func3 (by kernel_rfl)
    (of_decide_eq_true (by kernel_rfl)) (by unfold Func.isWrapper; first | (rw [if_pos (by decide +kernel)]; kernel_rfl) | (rw [if_neg (by decide +kernel)]; exact ⟨rfl, rfl⟩))
    (fun os started H enc _ => lifted os started H enc)

end Go.Proofs.YtglbfpjjnboeaaaGreat.shapeNumbers
namespace Go.Proofs.YtglbfpjjnboeaaaGreat
theorem shapeNumbers_holds : Rows.ShapeNumbersSaid := shapeNumbers.over
#print axioms shapeNumbers_holds
end Go.Proofs.YtglbfpjjnboeaaaGreat
