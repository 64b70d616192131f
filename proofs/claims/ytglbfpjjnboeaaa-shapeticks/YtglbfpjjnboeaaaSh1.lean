/- Contracts of shape.straight and of the reference's: a ring of places as a path of straight parts, in memory of the call's own; of the memory nothing that was there turns. -/
import Derived.Test.YtglbfpjjnboeaaaShMath
import Derived.Test.YtglbfpjjnboeaaaAP8
import Derived.Test.YtglbfpjjnboeaaaPC
import Derived.Test.YtglbfpjjnboeaaaTK5
import Derived.Deep.DeepCutAuto
import Derived.BigRegion
namespace Go.Proofs.Ytglbfpjjnboeaaa
open Go Go.RowKit
open M

/-- A path that grows: in block go, its list in other blocks behind r; the result's block is r. -/
structure Grp3 (w1 : World) (r go : Nat) (c : Bool) (rs : List Pt) (l : Value) (wr : World) : Prop where
  own : Pown wr (r + 1) l rs
  out : Has wr go #[.bool c, l] 41
  res : Has wr r #[.bool false, .slice none 0 0] 41
  ne : ∀ k, l.ownBlock = some k → k ≠ go
  below : Below w1.heap.size w1 wr
  lr : w1.heap.size ≤ r
  lo : r < go
section
variable {w1 W w' : World} {r go : Nat} {c : Bool} {rs qs : List Pt} {l l' : Value}
theorem Grp3.later (h : Grp3 w1 r go c rs l W) (hq : Below W.heap.size W w') : Grp3 w1 r go c rs l w' :=
  ⟨h.own.below hq (Nat.le_refl _), h.out.below hq h.out.lt, h.res.below hq h.res.lt, h.ne, h.below.trans (hq.mono h.below.size), h.lr, h.lo⟩
theorem Grp3.away (h : Grp3 w1 r go c rs l W) : l.ownBlock ≠ some go ∧ l.ownBlock ≠ some r := ⟨fun e => h.ne _ e rfl, fun e => by have := (h.own.base r e).1; omega⟩
/-- The list has grown, and is stored. -/
theorem Grp3.put {g' n cap' : Nat} (h : Grp3 w1 r go c rs l W) (ho : Pown w' (r + 1) (.slice (some ⟨g', 0, none⟩) n cap') qs) (hg : W.grownBy w' l.ownBlock) (hat : l.ownBlock = some g' ∨ W.heap.size ≤ g') : Grp3 w1 r go c qs (.slice (some ⟨g', 0, none⟩) n cap') (w'.setCell ⟨go, 1, none⟩ (.slice (some ⟨g', 0, none⟩) n cap')) := by
  have hk : Has w' go #[.bool c, l] 41 := (hg.block go h.out.lt (fun e => h.away.1 e.symm)).trans h.out
  have hr : Has w' r #[.bool false, .slice none 0 0] 41 := (hg.block r h.res.lt (fun e => h.away.2 e.symm)).trans h.res
  have hs := h.below.size
  have h1 := h.lr
  have h2 := h.lo
  have hne : ∀ k, Value.ownBlock (.slice (some ⟨g', 0, none⟩) n cap') = some k → k ≠ go := fun k hk => by
    have e : some g' = some k := hk
    simp at e
    rcases hat with ha | ha
    · rw [← e]; exact h.ne _ ha
    · have := h.out.lt; omega
  refine ⟨ho.kept (grownBy_set (World.grownBy.refl _ _) _ _) (fun k hk e => by simp at hk; exact hne k e hk.symm), ?_, has_grown hr (grownBy_set (World.grownBy.refl _ _) _ _) (by omega), hne, ?_, h1, h2⟩
  · have := has_set hk 1 (.slice (some ⟨g', 0, none⟩) n cap')
    simpa using this
  · exact (h.below.grown hg (by omega) (fun k e => by have := (h.own.base k e).1; omega)).setCell (show w1.heap.size ≤ go by omega) _
theorem Grp3.alloc (h : Grp3 w1 r go c rs l W) (o : Obj) : Grp3 w1 r go c rs l (W.alloc o) := h.later ((Below.refl _ _).alloc (Nat.le_refl _) _)
theorem Grp3.big (h : Grp3 w1 r go c rs l W) : r + 1 ≤ W.heap.size := by have := h.out.lt; have := h.lo; omega
theorem Grp3.gives (h : Grp3 w1 r go c rs l W) (hB : w1.heap.size = r) : Gives w1 c rs (.returned (.agg #[.bool c, l])) ((W.setCell ⟨r, 0, none⟩ (.bool c)).setCell ⟨r, 1, none⟩ l) := by
  have hs : W.grownBy ((W.setCell ⟨r, 0, none⟩ (.bool c)).setCell ⟨r, 1, none⟩ l) (some r) := grownBy_set (grownBy_set (World.grownBy.refl _ _) _ _) _ _
  have lr := h.lr
  refine ⟨_, rfl, ?_, ?_⟩
  · exact (h.own.kept hs (fun k hk e => by simp at hk; exact h.away.2 (by rw [e, hk]))).lower (by omega)
  · exact (h.below.setCell (by simp; omega) _).setCell (by simp; omega) _
theorem Grp3.fine (h : Grp3 w1 r go c rs l W) (hg : W.grownBy w' l.ownBlock) : w'.cell? ⟨go, 1, none⟩ = some l ∧ w'.frozen? ⟨go, 1, none⟩ = false := by
  have hk : Has w' go #[.bool c, l] 41 := (hg.block go h.out.lt (fun e => h.away.1 e.symm)).trans h.out
  exact ⟨hk.cell 1 _ rfl, has_fro hk 1⟩
end

theorem psl_row {w : World} {g o n c : Nat} {ps : List Pt} (h : Psl w (.slice (some ⟨g, o, none⟩) n c) ps) (h0 : 0 < ps.length) : Prow w g o ps := by
  obtain ⟨_, _, hv, _, hr⟩ := h
  simp at hv
  obtain ⟨rfl, _, _⟩ := hv
  obtain ⟨_, _, e, r⟩ := hr h0
  simp at e
  obtain ⟨rfl, rfl⟩ := e
  exact r

set_option maxRecDepth 100000 in
set_option maxHeartbeats 2000000 in
theorem sh_straight {v : Value} {ps : List Pt} {w : World} (h : Psl w v ps) (h0 : 0 < ps.length) (h1 : ps.length ≤ 100) : Calls Try.prog 29 #[v] w (Gives w true (straightL ps)) := by
  obtain ⟨B, hB⟩ : ∃ B, w.heap.size = B := ⟨_, rfl⟩
  obtain ⟨W, hW⟩ : ∃ W, w.alloc (.cells #[.bool false, .slice none 0 0] 41) = W := ⟨_, rfl⟩
  have hr0 : Has W B #[.bool false, .slice none 0 0] 41 := by rw [← hW]; exact has_new hB
  have hb0 : Below B w W := by rw [← hW]; exact (Below.refl _ _).alloc (by omega) _
  have hz0 : W.heap.size = B + 1 := by rw [← hW]; simp [hB]
  have HS := Lib.hid h
  have hs := h.below hb0 (by omega)
  obtain ⟨ao, cap, rfl, hf, hr⟩ := hs
  obtain ⟨g, o, rfl, r⟩ := hr h0
  obtain ⟨N, hN⟩ : ∃ N, ps.length = N := ⟨_, rfl⟩
  have HR := Lib.hid r
  have HN := Lib.hid hN
  have HB := Lib.hid hB
  have HW := Lib.hid hW
  have p0 := r.c0 0 h0
  have p1 := r.c1 0 h0
  rw [hN] at h0 h1 ⊢
  simp only [Nat.zero_mul, Nat.add_zero] at p0 p1
  obtain ⟨p, hp⟩ : ∃ p, pt ps 0 = p := ⟨_, rfl⟩
  rw [hp] at p0 p1
  obtain ⟨V, hV⟩ : ∃ V, (W.alloc (.cells (pCells p) 31)).alloc (.cells #[.bool true, .slice (some ⟨B + 1, 0, none⟩) 1 1] 41) = V := ⟨_, rfl⟩
  have G0 : Hid (Grp3 w B (B + 1 + 1) true (strN ps 0) (.slice (some ⟨B + 1, 0, none⟩) 1 1) V) := Lib.hid (by
    have ho : Pown (W.alloc (.cells (pCells p) 31)) (B + 1) (.slice (some ⟨B + 1, 0, none⟩) 1 1) [p] := by
      have := World.ownsRow_lit (e := 31) (size := 2) (base := B + 1) W (pCells p) 1 (by omega) (by unfold maxLen; omega) rfl
      rw [hz0] at this
      exact this
    show Grp3 w B (B + 1 + 1) true [pt ps 0] _ V
    rw [hp, ← hV]
    exact ⟨ho.alloc _, has_new (by simp [hz0]), (hr0.alloc _).alloc _, fun k hk e => by have e' : some (B + 1) = some k := hk; simp at e'; omega, by rw [hB]; exact (hb0.alloc (by omega) _).alloc (by simp; omega) _, by omega, by omega⟩)
  have HV := Lib.hid hV
  have HZ := Lib.hid hz0
  have o1 : (0 : Int) < N := by omega
  have o2 : (N : Int) ≤ 100 := by omega
  clear hf r hr hN hb0 hr0 hW hV h hp
  obtain ⟨px, py⟩ := p
  simp only at p0 p1
  go_enter Try.func29, Try.ntmps29
  go_upto_region 1 with fail
  rw [HW.out]
  clear hB
  go_upto_region 2 with fail
  rw [HV.out]
  clear p0 p1 hz0
  go_wp2
  go_loopw [14] (fun i wr => ∃ (n : Nat) (l : Value), n ≤ N ∧ i = .int .i64 n ∧ Grp3 w B (B + 1 + 1) true (strN ps n) l wr) (fun i _ => N - (intOf i).toNat)
  case atStart => exact ⟨0, _, by omega, rfl, G0.out⟩
  case round =>
    clear G0
    obtain ⟨n, l, hn, rfl, hG⟩ := hrel
    have GH := Lib.hid hG
    have bw := Lib.hid hG.below
    by_cases hlt : n < N
    · have o3 : (n : Int) < N := by omega
      obtain ⟨m, hm⟩ : ∃ m : Nat, (n + 1) % N = m := ⟨_, rfl⟩
      have hmN : m < N := by rw [← hm]; exact Nat.mod_lt _ h0
      have e1 : ((n : Int) + 1) % (N : Int) = (m : Int) := by rw [← hm]; rfl
      have o4 : (m : Int) < N := by omega
      have o5 : ¬ (N : Int) = 0 := by omega
      have o6 : ¬ N = 0 := by omega
      obtain ⟨V1, hV1⟩ : ∃ V1, wr.alloc (.cells (pCells (pt ps n)) 31) = V1 := ⟨_, rfl⟩
      have rr : Prow wr g o ps := psl_row (HS.out.below bw.out (Nat.le_refl _)) (by have := HN.out; omega)
      have r1 : Prow V1 g o ps := psl_row ((HS.out.below bw.out (Nat.le_refl _)).below (B := wr.heap.size) (w' := V1) (by rw [← hV1]; exact (Below.refl _ _).alloc (Nat.le_refl _) _) (Nat.le_refl _)) (by have := HN.out; omega)
      have c0 := rr.c0 n (by have := HN.out; omega)
      have c1 := rr.c1 n (by have := HN.out; omega)
      have d0 := r1.c0 m (by have := HN.out; omega)
      have d1 := r1.c1 m (by have := HN.out; omega)
      have HM := Lib.hid hm
      obtain ⟨q, hq⟩ : ∃ q, pt ps n = q := ⟨_, rfl⟩
      obtain ⟨t, ht⟩ : ∃ q, pt ps m = q := ⟨_, rfl⟩
      rw [hq] at c0 c1 hV1
      rw [ht] at d0 d1
      have HQ := Lib.hid hq
      have HT := Lib.hid ht
      obtain ⟨V2, hV2⟩ : ∃ V2, V1.alloc (.cells (pCells t) 31) = V2 := ⟨_, rfl⟩
      obtain ⟨A, hA⟩ : ∃ A, wr.heap.size = A := ⟨_, rfl⟩
      have hA1 : V1.heap.size = A + 1 := by rw [← hV1]; simp [hA]
      have kA : Has V2 A (pCells q) 31 := by rw [← hV2, ← hV1]; exact (has_new hA).alloc _
      have kB : Has V2 (A + 1) (pCells t) 31 := by rw [← hV2]; exact has_new hA1
      have b2 : Below wr.heap.size wr V2 := by rw [← hV2, ← hV1]; exact ((Below.refl _ _).alloc (Nat.le_refl _) _).alloc (by simp) _
      have G2 := Lib.hid (hG.later b2)
      have f1 := (hG.later b2).out.cell 1 _ rfl
      have a0 := kA.cell 0 _ rfl
      have a1 := kA.cell 1 _ rfl
      have b0 := kB.cell 0 _ rfl
      have b1 := kB.cell 1 _ rfl
      have HV1 := Lib.hid hV1
      have HV2 := Lib.hid hV2
      have HA1 := Lib.hid hA1
      obtain ⟨gl, cl, hl⟩ := hG.own.shape (by rw [strN_length]; omega)
      obtain ⟨LN, hLN⟩ : ∃ LN, (strN ps n).length = LN := ⟨_, rfl⟩
      rw [hLN] at hl
      subst hl
      have HLN := Lib.hid hLN
      have BN : Hid (LN + 3 ≤ 8796093022208) := Lib.hid (by rw [← hLN, strN_length]; omega)
      have ST : Hid (strN ps n ++ [q, t, t] = strN ps (n + 1)) := Lib.hid (by rw [← hq, ← ht, ← hm, ← HN.out]; rfl)
      clear hm hq ht rr r1 hG hV1 hV2 b2 kA kB hA1 hLN
      obtain ⟨qx, qy⟩ := q
      obtain ⟨tx, ty⟩ := t
      simp only at c0 c1 d0 d1 a0 a1 b0 b1
      go_upto_region 5 with fail
      rw [HV1.out]
      clear hA
      go_upto_region 6 with fail
      rw [HA1.out, HV2.out]
      clear c0 c1 d0 d1
      go_wp2_with (at_builtin; refine wpList_append_pl rfl _ _ rfl LN HLN.out rfl V2.heap.size 0 3 3 rfl [⟨qx, qy⟩, ⟨tx, ty⟩, ⟨tx, ty⟩] rfl (by decide) BN.out (prow_has (cs := #[.int .i64 qx, .int .i64 qy, .int .i64 tx, .int .i64 ty, .int .i64 tx, .int .i64 ty]) (by simp) (has_new rfl) rfl) (G2.out.alloc _).own (G2.out.alloc _).big ?_)
      intro g' cap' w4 ho hg hat
      have fi := (G2.out.alloc _).fine hg
      have f0 := fi.1
      have f2 := fi.2
      have G4 := Lib.hid ((G2.out.alloc _).put ho hg (hat.imp id (fun h => by simpa using h)))
      rw [ST.out] at G4
      clear ho hg hat fi f1 a0 a1 b0 b1
      go_wp2
      go_roundw
      case rel => exact ⟨n + 1, _, by omega, by go_num, G4.out⟩
      case measure => simp [intOf]; omega
    · obtain rfl : n = N := by omega
      have R := Lib.hid (hG.gives HB.out)
      have q0 := hG.out.cell 0 _ rfl
      have q1 := hG.out.cell 1 _ rfl
      have r0 := hG.res.cell 0 _ rfl
      have r1 := hG.res.cell 1 _ rfl
      have fz := has_fro hG.res
      have e1 : strN ps n = straightL ps := by unfold straightL; rw [HN.out]
      rw [e1] at R
      obtain ⟨ao, cp, rfl⟩ := hG.own.len
      have HL := Lib.hid (strN_length ps n)
      have o3 : (n : Int) ≤ n := by omega
      clear hG GH bw e1
      go_wp2
      refine bodyPost_ret (v := .agg #[.bool true, .slice ao (strN ps n).length cp]) (by simp [results, Try.results29, go_sem, r0, r1]) rfl ?_
      exact R.out

end Go.Proofs.Ytglbfpjjnboeaaa
