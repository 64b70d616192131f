/- Contracts of flat.Bend, .part: for all places of 64 bits what the plain arithmetic says; of the memory nothing that was there turns (part: but for the list that it adds to). -/
import Derived.Test.YtegckonhfdlbbaaF2
import Derived.Test.YtegckonhfdlbbaaKN7
namespace Go.Proofs.Ytegckonhfdlbbaa
open Go Go.RowKit
open M

theorem make_room (w : World) : (Instr.makeSlice 27 (.int .i64 0) (.int .i64 8)).run Try.prog w = .ok (.slice (some ⟨w.heap.size, 0, none⟩) 0 8) (w.alloc (.cells (zer 8) 35)) := by
  obtain ⟨i0, hi, hz0, hz1, hz2⟩ := info_parts Try.infoPt
  have h := run_make (P := Try.prog) w 27 35 i0 _ Try.underlying27 hi hz0 .i64 .i64 0 8 (by omega) (by omega) (by rw [hz2]; decide) (by omega)
  rw [hz1] at h
  exact h
theorem own_room {w : World} {B : Nat} (hb : B ≤ w.heap.size) : Pown (w.alloc (.cells (zer 8) 35)) B (.slice (some ⟨w.heap.size, 0, none⟩) 0 8) [] :=
  ⟨rfl, Or.inr ⟨w.heap.size, 8, zer 8, rfl, hb, (MapKept.heap_alloc w _).1, by decide, by unfold maxLen; decide, by simp [zer, size_madeCells], rfl⟩⟩
theorem Ht.four {W w' : World} {ga gb gc gd : Nat} {a b c d : Pt} {t : TypeId} (h : Ht W w') (H0 : Has W ga (pCells a) t) (H1 : Has W gb (pCells b) t) (H2 : Has W gc (pCells c) t) (H3 : Has W gd (pCells d) t) :
    Ht W w' ∧ w'.cell? ⟨ga, 0, none⟩ = some (.int .i64 a.x) ∧ w'.cell? ⟨ga, 1, none⟩ = some (.int .i64 a.y) ∧ w'.cell? ⟨gb, 0, none⟩ = some (.int .i64 b.x) ∧ w'.cell? ⟨gb, 1, none⟩ = some (.int .i64 b.y) ∧ w'.cell? ⟨gc, 0, none⟩ = some (.int .i64 c.x) ∧ w'.cell? ⟨gc, 1, none⟩ = some (.int .i64 c.y) ∧ w'.cell? ⟨gd, 0, none⟩ = some (.int .i64 d.x) ∧ w'.cell? ⟨gd, 1, none⟩ = some (.int .i64 d.y) := by
  have K0 := H0.below h.below H0.lt
  have K1 := H1.below h.below H1.lt
  have K2 := H2.below h.below H2.lt
  have K3 := H3.below h.below H3.lt
  exact ⟨h, K0.cell 0 _ rfl, K0.cell 1 _ rfl, K1.cell 0 _ rfl, K1.cell 1 _ rfl, K2.cell 0 _ rfl, K2.cell 1 _ rfl, K3.cell 0 _ rfl, K3.cell 1 _ rfl⟩

theorem Ht.row {W X w4 : World} {n cap : Nat} (hbw : Below W.heap.size W X) (hg : X.grownBy w4 (Value.ownBlock (.slice (some ⟨W.heap.size, 0, none⟩) n cap))) : Ht W w4 :=
  ⟨hbw.grown hg hbw.size (fun k hk => by have hk' : some W.heap.size = some k := hk; simp at hk'; omega)⟩
/-- A list of places of the call's own. -/
def Lst (w : World) (rs : List Pt) (e : Ending) (w' : World) : Prop := ∃ g cap, e = .returned (.slice (some ⟨g, 0, none⟩) rs.length cap) ∧ Pown w' w.heap.size (.slice (some ⟨g, 0, none⟩) rs.length cap) rs ∧ Below w.heap.size w w'

set_option maxHeartbeats 2000000 in
theorem f_Bend {a b c d : Pt} (w : World) (ha : Rg a) (hb : Rg b) (hc : Rg c) (hd : Rg d) :
    Calls Try.prog 11 #[.agg (pCells a), .agg (pCells b), .agg (pCells c), .agg (pCells d)] w (Lst w (bendL 3 a b c d)) := by
  obtain ⟨S, hS⟩ : ∃ S, w.heap.size = S := ⟨_, rfl⟩
  obtain ⟨W, hW⟩ : ∃ W, (((w.alloc (.cells (pCells a) 35)).alloc (.cells (pCells b) 35)).alloc (.cells (pCells c) 35)).alloc (.cells (pCells d) 35) = W := ⟨_, rfl⟩
  have bW : Below S w W := by rw [← hW]; exact ((((Below.refl _ _).alloc (by omega) _).alloc (by simp; omega) _).alloc (by simp; omega) _).alloc (by simp; omega) _
  have ka : Has W S (pCells a) 35 := by rw [← hW]; exact (((has_new hS).alloc _).alloc _).alloc _
  have kb : Has W (S + 1) (pCells b) 35 := by rw [← hW]; exact ((has_new (by simp [hS])).alloc _).alloc _
  have kc : Has W (S + 1 + 1) (pCells c) 35 := by rw [← hW]; exact (has_new (by simp [hS])).alloc _
  have kd : Has W (S + 1 + 1 + 1) (pCells d) 35 := by rw [← hW]; exact has_new (by simp [hS])
  have KA := Lib.hid ka
  have KB := Lib.hid kb
  have KC := Lib.hid kc
  have KD := Lib.hid kd
  have BW := Lib.hid bW
  have HW := Lib.hid hW
  have HS := Lib.hid hS
  have HT0 : Hid (Ht W W) := Lib.hid (Ht.refl W)
  have sW : Hid (S ≤ W.heap.size) := Lib.hid (by have := bW.size; omega)
  obtain ⟨X, hX⟩ : ∃ X, (W.alloc (.cells (zer 8) 35)).drew = X := ⟨_, rfl⟩
  have oX : Pown X S (.slice (some ⟨W.heap.size, 0, none⟩) 0 8) [] := by rw [← hX]; exact (own_room (by have := sW.out; omega)).drew
  have sX : S ≤ X.heap.size := by rw [← hX]; have := sW.out; show S ≤ (W.alloc _).heap.size; simp; omega
  have hBX : Below W.heap.size W X := by rw [← hX]; exact below_drew ((Below.refl _ _).alloc (Nat.le_refl _) _)
  have HL : Hid (Calls Try.prog 23 #[.slice (some ⟨W.heap.size, 0, none⟩) 0 8, .agg (pCells a), .agg (pCells b), .agg (pCells c), .agg (pCells d), .int .i64 3] X (Hlv X S (.slice (some ⟨W.heap.size, 0, none⟩) 0 8) [] (bendL 3 a b c d))) :=
    Lib.hid (f_halved S 3 a b c d (.slice (some ⟨W.heap.size, 0, none⟩) 0 8) [] X (by omega) ha hb hc hd oX sX (by decide))
  have HX := Lib.hid hX
  have BX := Lib.hid hBX
  have SX := Lib.hid sX
  clear hX oX sX hBX
  have mk := make_room
  clear bW hW ka kb kc kd
  go_enter Try.func11, Try.ntmps11
  go_wp2_with fail
  rw [HW.out]
  clear hS
  go_region_held3 (fun w' => Ht W w' ∧ w'.cell? ⟨S, 0, none⟩ = some (.int .i64 a.x) ∧ w'.cell? ⟨S, 1, none⟩ = some (.int .i64 a.y) ∧ w'.cell? ⟨S + 1, 0, none⟩ = some (.int .i64 b.x) ∧ w'.cell? ⟨S + 1, 1, none⟩ = some (.int .i64 b.y) ∧ w'.cell? ⟨S + 1 + 1, 0, none⟩ = some (.int .i64 c.x) ∧ w'.cell? ⟨S + 1 + 1, 1, none⟩ = some (.int .i64 c.y) ∧ w'.cell? ⟨S + 1 + 1 + 1, 0, none⟩ = some (.int .i64 d.x) ∧ w'.cell? ⟨S + 1 + 1 + 1, 1, none⟩ = some (.int .i64 d.y))
    ((go_split_ands; first | exact Ht.four HT0.out.drew KA.out KB.out KC.out KD.out | exact Ht.four (by assumption) KA.out KB.out KC.out KD.out | exact Ht.four (Ht.alloc HT0.out.drew _) KA.out KB.out KC.out KD.out))
    (first | (go_at_call 23; rw [HX.out]; refine HL.out.mono ?_; rintro e w4 ⟨g, cap, N, rfl, hN, ho4, hg4, hat4⟩; have h3 := Ht.row BX.out hg4))
  all_goals
    have RR : Lst w (bendL 3 a b c d) (.returned (.slice (some ⟨g, 0, none⟩) N cap)) w4 := by
      have q := HS.out
      rw [List.nil_append] at hN ho4
      refine ⟨g, cap, by rw [hN], by rw [hN, q]; exact ho4, ?_⟩
      rw [q]
      exact (BW.out.trans (BX.out.mono sW.out)).grown hg4 (by have := SX.out; omega) (fun k hk => by have hk' : some W.heap.size = some k := hk; simp at hk'; have := sW.out; omega)
    have RRH := Lib.hid RR
    clear RR hN ho4 hg4 hat4
    go_wp2
    go_ret
    exact RRH.out


set_option maxRecDepth 100000 in
set_option maxHeartbeats 2000000 in
theorem f_part {a b c d : Pt} {v : Value} {ps : List Pt} {w : World} {B : Nat} (ha : Rg a) (hb : Rg b) (hc : Rg c) (hd : Rg d) (ho : Pown w B v ps) (hB : B ≤ w.heap.size) (hl : ps.length ≤ 900) :
    Calls Try.prog 28 #[v, .agg (pCells a), .agg (pCells b), .agg (pCells c), .agg (pCells d)] w (Hlv w B v ps (partL a b c d)) := by
  obtain ⟨S, hS⟩ : ∃ S, w.heap.size = S := ⟨_, rfl⟩
  obtain ⟨W, hW⟩ : ∃ W, (((w.alloc (.cells (pCells a) 35)).alloc (.cells (pCells b) 35)).alloc (.cells (pCells c) 35)).alloc (.cells (pCells d) 35) = W := ⟨_, rfl⟩
  have bW : Below S w W := by rw [← hW]; exact ((((Below.refl _ _).alloc (by omega) _).alloc (by simp; omega) _).alloc (by simp; omega) _).alloc (by simp; omega) _
  have ka : Has W S (pCells a) 35 := by rw [← hW]; exact (((has_new hS).alloc _).alloc _).alloc _
  have kb : Has W (S + 1) (pCells b) 35 := by rw [← hW]; exact ((has_new (by simp [hS])).alloc _).alloc _
  have kc : Has W (S + 1 + 1) (pCells c) 35 := by rw [← hW]; exact (has_new (by simp [hS])).alloc _
  have kd : Has W (S + 1 + 1 + 1) (pCells d) 35 := by rw [← hW]; exact has_new (by simp [hS])
  have a0 := ka.cell 0 _ rfl
  have a1 := ka.cell 1 _ rfl
  have b0 := kb.cell 0 _ rfl
  have b1 := kb.cell 1 _ rfl
  have c0 := kc.cell 0 _ rfl
  have c1 := kc.cell 1 _ rfl
  have d0 := kd.cell 0 _ rfl
  have d1 := kd.cell 1 _ rfl
  have BW := Lib.hid bW
  have HW := Lib.hid hW
  have HS := Lib.hid hS
  have sW : Hid (S ≤ W.heap.size) := Lib.hid (by have := bW.size; omega)
  obtain ⟨N, hN⟩ : ∃ N, ps.length = N := ⟨_, rfl⟩
  have HN := Lib.hid hN
  obtain ⟨ao, cap, hv⟩ := ho.len
  rw [hN] at hv
  subst hv
  have OW := Lib.hid (ho.below bW (by omega))
  have HO := Lib.hid ho
  have NF : Hid (N + 8 ≤ 1000) := Lib.hid (by omega)
  clear bW hW ka kb kc kd ho hN
  by_cases hst : b = a ∧ c = d
  · obtain ⟨rfl, rfl⟩ := hst
    have EP : Hid (partL b b c c = [c]) := Lib.hid (by unfold partL; rw [if_pos ⟨rfl, rfl⟩])
    have oW2 := Lib.hid (OW.out.alloc (.cells (pCells c) 35))
    have SW : Hid (B ≤ (W.alloc (.cells (pCells c) 35)).heap.size) := Lib.hid (by have := sW.out; simp; omega)
    have NF1 : Hid (N + 1 ≤ 1000) := Lib.hid (by have := NF.out; omega)
    go_enter Try.func28, Try.ntmps28
    go_upto_region 1 with fail
    rw [HW.out]
    clear hS
    go_wp2_with (at_builtin; refine wpList_append_pl rfl _ _ rfl N HN.out rfl W.heap.size 0 1 1 rfl [c] rfl (by decide) NF1.out (prow_one c _) oW2.out SW.out ?_)
    intro g' cap' w4 ho hg hat
    have RR : Hlv w B (.slice ao N cap) ps (partL b b c c) (.returned (.slice (some ⟨g', 0, none⟩) (N + 1) cap')) w4 := by
      rw [EP.out]
      have q2 := HS.out
      have q3 := BW.out.size
      refine ⟨g', cap', N + 1, rfl, by rw [List.length_append, HN.out]; rfl, ho, ?_, hat.imp id (fun h => by first | omega | (have h2 := h; rw [World.size_alloc] at h2; omega) | (exact Nat.le_trans (Nat.le_trans q3 (by simp)) h))⟩
      exact grownBy_trans (grownBy_own (World.grownBy.refl _ _) (grownBy_below (BW.out.alloc (by omega) _) (by omega)) (fun k hk => by cases hk)) hg
    have RRH := Lib.hid RR
    clear RR ho hg hat
    go_wp2
    go_ret
    exact RRH.out
  · have EP : Hid (partL a b c d = bendL 3 a b c d) := Lib.hid (by unfold partL; rw [if_neg hst])
    have NE : b.x ≠ a.x ∨ (b.x = a.x ∧ b.y ≠ a.y) ∨ (b.x = a.x ∧ b.y = a.y ∧ c.x ≠ d.x) ∨ (b.x = a.x ∧ b.y = a.y ∧ c.x = d.x ∧ c.y ≠ d.y) := by
      obtain ⟨ax, ay⟩ := a
      obtain ⟨bx, bY⟩ := b
      obtain ⟨cx, cy⟩ := c
      obtain ⟨dx, dy⟩ := d
      simp only [Pt.mk.injEq] at hst ⊢
      omega
    have BD := Lib.hid (f_Bend W ha hb hc hd)
    clear hst
    go_enter Try.func28, Try.ntmps28
    go_upto_region 1 with fail
    rw [HW.out]
    clear hS
    rcases NE with h | ⟨h, h2⟩ | ⟨h, h2, h3⟩ | ⟨h, h2, h3, h4⟩
    all_goals
      go_upto_region 3 with fail
      clear h
      try clear h2
      try clear h3
      try clear h4
      go_wp2_with fail
      refine BD.out.mono ?_
      rintro e w2 ⟨g2, cap2, rfl, ho2, hb2⟩
      rw [bendL_length]
      rw [bendL_length] at ho2
      have o2 := Lib.hid (OW.out.below hb2 (Nat.le_refl _))
      have r2 := Lib.hid (ho2.row (by rw [bendL_length]; decide) (by rw [bendL_length]; decide))
      have s2 : Hid (B ≤ w2.heap.size) := Lib.hid (by have := sW.out; have := hb2.size; have := HS.out; omega)
      have B2 := Lib.hid hb2
      clear ho2 hb2 BD
      go_wp2_with (at_builtin; refine wpList_append_pl rfl _ _ rfl N HN.out rfl g2 0 8 cap2 rfl (bendL 3 a b c d) (bendL_length 3 a b c d) (by decide) NF.out r2.out o2.out s2.out ?_)
      intro g' cap' w4 ho hg hat
      have RR : Hlv w B (.slice ao N cap) ps (partL a b c d) (.returned (.slice (some ⟨g', 0, none⟩) (N + 8) cap')) w4 := by
        rw [EP.out]
        have q2 := HS.out
        have q3 := sW.out
        have q4 := B2.out.size
        refine ⟨g', cap', N + 8, rfl, by rw [List.length_append, HN.out, bendL_length], ho, ?_, hat.imp id (fun h => by omega)⟩
        exact grownBy_trans (grownBy_own (World.grownBy.refl _ _) (grownBy_below (BW.out.trans (B2.out.mono q3)) (by omega)) (fun k hk => by cases hk)) hg
      have RRH := Lib.hid RR
      clear RR ho hg hat
      go_wp2
      go_ret
      exact RRH.out

end Go.Proofs.Ytegckonhfdlbbaa
