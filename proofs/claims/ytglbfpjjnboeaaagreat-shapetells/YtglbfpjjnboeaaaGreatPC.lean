/- Contract of path.copied: the same places in memory of its own; of the memory nothing that was there turns. What a path that is begun ('api.Path{Closed: .., P: make(..)}') lays, in both orders. -/
import Derived.Test.YtglbfpjjnboeaaaGreatPB
import Derived.BigRegion
namespace Go.Proofs.YtglbfpjjnboeaaaGreat
open Go.RowKit
open M

/-- A path of the call's own, of these places. -/
def Gives (w : World) (c : Bool) (ps : List Pt) (e : Ending) (w' : World) : Prop := ∃ v, e = .returned (.agg #[.bool c, v]) ∧ Pown w' w.heap.size v ps ∧ Below w.heap.size w w'
/-- A path is begun: its list of N zero places in block gs, the path itself in block go. -/
structure Out (W : World) (B : Nat) (c : Bool) (N gs go : Nat) (V : World) : Prop where
  own : Pown V B (.slice (some ⟨gs, 0, none⟩) N N) (List.replicate N default)
  out : Has V go #[.bool c, .slice (some ⟨gs, 0, none⟩) N N] 41
  lg : W.heap.size ≤ gs
  lo : W.heap.size ≤ go
  ne : gs ≠ go
  below : Below W.heap.size W V
theorem Pown.drew {w : World} {B : Nat} {v : Value} {ps : List Pt} (h : Pown w B v ps) : Pown w.drew B v ps := h
theorem Has.drew {w : World} {g : Nat} {cs : Array Value} {t : TypeId} (h : Has w g cs t) : Has w.drew g cs t := h
theorem out_a {W : World} {B N : Nat} {c : Bool} (hB : B ≤ W.heap.size) (hN : N ≤ 8796093022208) : ∃ gs go V, ((W.alloc (.cells (zer N) 29)).alloc (.cells #[.bool c, .slice (some ⟨W.heap.size, 0, none⟩) N N] 41)).drew = V ∧ W.heap.size + 1 = go ∧ W.heap.size = gs ∧ Out W B c N gs go V :=
  ⟨_, _, _, rfl, rfl, rfl, (((own_made hN hB rfl).alloc _).drew), (has_new (by simp)).drew, Nat.le_refl _, by omega, by omega, below_drew (((Below.refl _ _).alloc (Nat.le_refl _) _).alloc (by simp) _)⟩
theorem out_b {W : World} {B N : Nat} {c : Bool} (hB : B ≤ W.heap.size) (hN : N ≤ 8796093022208) : ∃ gs go V, ((W.alloc (.cells #[.bool c, .slice (some ⟨W.heap.size + 1, 0, none⟩) N N] 41)).alloc (.cells (zer N) 29)).drew = V ∧ W.heap.size + 1 = gs ∧ W.heap.size = go ∧ Out W B c N gs go V :=
  ⟨_, _, _, rfl, rfl, rfl, (own_made hN (by simp; omega) (by simp)).drew, ((has_new rfl).alloc _).drew, by omega, Nat.le_refl _, by omega, below_drew (((Below.refl _ _).alloc (Nat.le_refl _) _).alloc (by simp) _)⟩

set_option maxHeartbeats 1000000 in
theorem p_copied {v : Value} {ps : List Pt} {w : World} (c : Bool) (h : Psl w v ps) : Calls Tryz.prog 75 #[.agg #[.bool c, v]] w (Gives w c ps) := by
  have hs := h
  obtain ⟨ao, cap, rfl, hf, _⟩ := h
  obtain ⟨N, hN⟩ : ∃ N, ps.length = N := ⟨_, rfl⟩
  rw [hN] at hf hs ⊢
  have mk := make_pts (n := N) (by omega)
  obtain ⟨B, hB⟩ : ∃ B, w.heap.size = B := ⟨_, rfl⟩
  obtain ⟨W, hW⟩ : ∃ W, (w.alloc (.cells #[.bool c, .slice ao N cap] 41)).alloc (.cells #[.bool false, .slice none 0 0] 41) = W := ⟨_, rfl⟩
  have h0 : Has W B #[.bool c, .slice ao N cap] 41 := by rw [← hW]; exact (has_new hB).alloc _
  have h1 : Has W (B + 1) #[.bool false, .slice none 0 0] 41 := by rw [← hW]; exact has_new (by simp [hB])
  have hsz : W.heap.size = B + 1 + 1 := by rw [← hW]; simp [hB]
  have hbl : Below B w W := by rw [← hW]; exact ((Below.refl _ _).alloc (by omega) _).alloc (by simp; omega) _
  have hs' : Psl W (.slice ao N cap) ps := hs.below hbl (by omega)
  have a0 := h0.cell 0 _ rfl
  have a1 := h0.cell 1 _ rfl
  have a2 := fun o => (h0.alloc o).cell 0 _ rfl
  have a3 := fun o => (h0.alloc o).cell 1 _ rfl
  have a4 := fun o o' => ((h0.alloc o).alloc o').cell 0 _ rfl
  have a5 := fun o o' => ((h0.alloc o).alloc o').cell 1 _ rfl
  have HN := Lib.hid hN
  have HB := Lib.hid hB
  have HW := Lib.hid hW
  have H0 := Lib.hid h0
  have H1 := Lib.hid h1
  have HBL := Lib.hid hbl
  have HS := Lib.hid hs'
  have HSZ := Lib.hid hsz
  clear hN hs hs' h0 h1 hbl hW hsz
  go_enter Tryz.func75, Tryz.ntmps75
  go_wp2
  rw [HW.out]
  clear hB
  go_region
  · obtain ⟨gs, go, V, hV, hgo, hgs, D⟩ := out_a (c := c) (B := B) (W := W) (N := N) (by have := HSZ.out; omega) hf
    rw [hV, hgo, hgs]
    have DD := Lib.hid D
    clear D hV hgo hgs
    have l1 := DD.out.lg
    have l2 := DD.out.lo
    have l3 := HSZ.out
    have k0 := H0.out.below DD.out.below H0.out.lt
    have k1 := H1.out.below DD.out.below H1.out.lt
    obtain ⟨V', hcp, ho, hg⟩ := copy_pts DD.out.own (by simp) ao cap (HS.out.below DD.out.below (Nat.le_refl _)) HN.out 3
    have q0 : Has V' go #[.bool c, .slice (some ⟨gs, 0, none⟩) N N] 41 := (hg.block go DD.out.out.lt (by simpa using Ne.symm DD.out.ne)).trans DD.out.out
    have q1 : Has V' (B + 1) #[.bool false, .slice none 0 0] 41 := (hg.block (B + 1) k1.lt (by simp; omega)).trans k1
    have R : Gives w c ps (.returned (.agg #[.bool c, .slice (some ⟨gs, 0, none⟩) N N])) ((V'.setCell ⟨B + 1, 0, none⟩ (.bool c)).setCell ⟨B + 1, 1, none⟩ (.slice (some ⟨gs, 0, none⟩) N N)) := by
      have hw := HB.out
      have hs1 : V'.grownBy ((V'.setCell ⟨B + 1, 0, none⟩ (.bool c)).setCell ⟨B + 1, 1, none⟩ (.slice (some ⟨gs, 0, none⟩) N N)) (some (B + 1)) := grownBy_set (grownBy_set (World.grownBy.refl _ _) _ _) _ _
      have hb1 : Below B w V := HBL.out.trans (DD.out.below.mono (by omega))
      refine ⟨_, rfl, by rw [hw]; exact ho.kept hs1 (fun k hk e => by have e' : some gs = some k := e; simp at hk e'; omega), ?_⟩
      rw [hw]
      exact ((hb1.grown hg (by have := hb1.size; omega) (fun k hk => by simp at hk; omega)).setCell (by simp) _).setCell (by simp) _
    have RH := Lib.hid R
    have b0 := k0.cell 0 _ rfl
    have b1 := k0.cell 1 _ rfl
    have o0 := DD.out.out.cell 0 _ rfl
    have o1 := DD.out.out.cell 1 _ rfl
    have p0 := q0.cell 0 _ rfl
    have p1 := q0.cell 1 _ rfl
    have v0 := q1.cell 0 _ rfl
    have v1 := q1.cell 1 _ rfl
    have fz := has_fro q1
    clear R hg ho k0 k1 q0 q1 DD HS H0 H1 HBL HSZ mk a0 a1 a2 a3 a4 a5 l1 l2 l3
    go_wp2
    refine bodyPost_ret (v := .agg #[.bool c, .slice (some ⟨gs, 0, none⟩) N N]) (by simp [results, Tryz.results75, go_sem, v0, v1]) rfl ?_
    exact RH.out
  · obtain ⟨gs, go, V, hV, hgs, hgo, D⟩ := out_b (c := c) (B := B) (W := W) (N := N) (by have := HSZ.out; omega) hf
    rw [hV, hgs, hgo]
    have DD := Lib.hid D
    clear D hV hgo hgs
    have l1 := DD.out.lg
    have l2 := DD.out.lo
    have l3 := HSZ.out
    have k0 := H0.out.below DD.out.below H0.out.lt
    have k1 := H1.out.below DD.out.below H1.out.lt
    obtain ⟨V', hcp, ho, hg⟩ := copy_pts DD.out.own (by simp) ao cap (HS.out.below DD.out.below (Nat.le_refl _)) HN.out 3
    have q0 : Has V' go #[.bool c, .slice (some ⟨gs, 0, none⟩) N N] 41 := (hg.block go DD.out.out.lt (by simpa using Ne.symm DD.out.ne)).trans DD.out.out
    have q1 : Has V' (B + 1) #[.bool false, .slice none 0 0] 41 := (hg.block (B + 1) k1.lt (by simp; omega)).trans k1
    have R : Gives w c ps (.returned (.agg #[.bool c, .slice (some ⟨gs, 0, none⟩) N N])) ((V'.setCell ⟨B + 1, 0, none⟩ (.bool c)).setCell ⟨B + 1, 1, none⟩ (.slice (some ⟨gs, 0, none⟩) N N)) := by
      have hw := HB.out
      have hs1 : V'.grownBy ((V'.setCell ⟨B + 1, 0, none⟩ (.bool c)).setCell ⟨B + 1, 1, none⟩ (.slice (some ⟨gs, 0, none⟩) N N)) (some (B + 1)) := grownBy_set (grownBy_set (World.grownBy.refl _ _) _ _) _ _
      have hb1 : Below B w V := HBL.out.trans (DD.out.below.mono (by omega))
      refine ⟨_, rfl, by rw [hw]; exact ho.kept hs1 (fun k hk e => by have e' : some gs = some k := e; simp at hk e'; omega), ?_⟩
      rw [hw]
      exact ((hb1.grown hg (by have := hb1.size; omega) (fun k hk => by simp at hk; omega)).setCell (by simp) _).setCell (by simp) _
    have RH := Lib.hid R
    have b0 := k0.cell 0 _ rfl
    have b1 := k0.cell 1 _ rfl
    have o0 := DD.out.out.cell 0 _ rfl
    have o1 := DD.out.out.cell 1 _ rfl
    have p0 := q0.cell 0 _ rfl
    have p1 := q0.cell 1 _ rfl
    have v0 := q1.cell 0 _ rfl
    have v1 := q1.cell 1 _ rfl
    have fz := has_fro q1
    clear R hg ho k0 k1 q0 q1 DD HS H0 H1 HBL HSZ mk a0 a1 a2 a3 a4 a5 l1 l2 l3
    go_wp2
    refine bodyPost_ret (v := .agg #[.bool c, .slice (some ⟨gs, 0, none⟩) N N]) (by simp [results, Tryz.results75, go_sem, v0, v1]) rfl ?_
    exact RH.out

end Go.Proofs.YtglbfpjjnboeaaaGreat
