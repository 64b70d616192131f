/- Contract of mutoscopelaw7.same: for all paths, shares and maps it returns true; of the memory nothing that was there turns. -/
import Derived.Test.YtdpfkhliechkhaaQP
namespace Go.Proofs.Ytdpfkhliechkhaa
open Go.RowKit
open M

theorem Ht.dozen {W w' : World} {ga gb gm gc : Nat} {a b c d e f : Int} {va vb vc xa xb xc : Value} {t t' : TypeId} (h : Ht W w') (H0 : Has W ga #[xa, va] t) (H1 : Has W gb #[xb, vb] t) (H2 : Has W gm (mCells a b c d e f) t') (H3 : Has W gc #[xc, vc] t) :
    Ht W w' ∧ w'.cell? ⟨ga, 0, none⟩ = some xa ∧ w'.cell? ⟨ga, 1, none⟩ = some va ∧ w'.cell? ⟨gb, 0, none⟩ = some xb ∧ w'.cell? ⟨gb, 1, none⟩ = some vb ∧ w'.cell? ⟨gm, 0, none⟩ = some (.int .i64 a) ∧ w'.cell? ⟨gm, 1, none⟩ = some (.int .i64 b) ∧ w'.cell? ⟨gm, 2, none⟩ = some (.int .i64 c) ∧ w'.cell? ⟨gm, 3, none⟩ = some (.int .i64 d) ∧ w'.cell? ⟨gm, 4, none⟩ = some (.int .i64 e) ∧ w'.cell? ⟨gm, 5, none⟩ = some (.int .i64 f) ∧ w'.cell? ⟨gc, 0, none⟩ = some xc ∧ w'.cell? ⟨gc, 1, none⟩ = some vc := by
  have K0 := H0.below h.below H0.lt
  have K1 := H1.below h.below H1.lt
  have K2 := H2.below h.below H2.lt
  have K3 := H3.below h.below H3.lt
  exact ⟨h, K0.cell 0 _ rfl, K0.cell 1 _ rfl, K1.cell 0 _ rfl, K1.cell 1 _ rfl, K2.cell 0 _ rfl, K2.cell 1 _ rfl, K2.cell 2 _ rfl, K2.cell 3 _ rfl, K2.cell 4 _ rfl, K2.cell 5 _ rfl, K3.cell 0 _ rfl, K3.cell 1 _ rfl⟩
theorem dec_beq (N : Nat) : decide (N = 0) = ((N : Int) == 0) := by
  by_cases h : N = 0
  · subst h; rfl
  · rw [decide_eq_false h, eqz h]
theorem self_s (c : Bool) (ps : List Pt) : ((c == c) && decide (ps = ps)) = true := by simp
theorem self_d (ps : List Pt) : decide (ps = ps) = true := by simp

set_option maxHeartbeats 4000000 in
theorem l7_same (c d : Bool) (t ma mb mc md me mf : Int) {v u : Value} {ps qs : List Pt} {w : World} (h : Psl w v ps) (h2 : Psl w u qs) :
    Calls Try.prog 7 #[.agg #[.bool c, v], .agg #[.bool d, u], .int .i64 t, .agg (mCells ma mb mc md me mf)] w fun r w' => r = .returned (.bool true) ∧ Below w.heap.size w w' := by
  obtain ⟨B, hB⟩ : ∃ B, w.heap.size = B := ⟨_, rfl⟩
  obtain ⟨W, hW⟩ : ∃ W, ((w.alloc (.cells #[.bool c, v] 24)).alloc (.cells #[.bool d, u] 24)).alloc (.cells (mCells ma mb mc md me mf) 30) = W := ⟨_, rfl⟩
  have ha : Has W B #[.bool c, v] 24 := by rw [← hW]; exact ((has_new hB).alloc _).alloc _
  have hb : Has W (B + 1) #[.bool d, u] 24 := by rw [← hW]; exact (has_new (by simp [hB])).alloc _
  have hm : Has W (B + 1 + 1) (mCells ma mb mc md me mf) 30 := by rw [← hW]; exact has_new (by simp [hB])
  have hbl : Below B w W := by rw [← hW]; exact (((Below.refl _ _).alloc (by omega) _).alloc (by simp; omega) _).alloc (by simp; omega) _
  have sa := h.below hbl (by omega)
  have sb := h2.below hbl (by omega)
  obtain ⟨ao, cap, rfl, hf, _⟩ := h
  obtain ⟨ao2, cap2, rfl, hf2, _⟩ := h2
  obtain ⟨N, hN⟩ : ∃ N, ps.length = N := ⟨_, rfl⟩
  obtain ⟨N2, hN2⟩ : ∃ N, qs.length = N := ⟨_, rfl⟩
  rw [hN] at hf sa ha hW ⊢
  rw [hN2] at hf2 sb hb hW ⊢
  have HB := Lib.hid hB
  have HW := Lib.hid hW
  have HA := Lib.hid ha
  have HBB := Lib.hid hb
  have HM := Lib.hid hm
  have HBL := Lib.hid hbl
  have SA := Lib.hid sa
  have SB := Lib.hid sb
  have HN := Lib.hid hN
  have m0 := hm.cell 0 _ rfl
  have m1 := hm.cell 1 _ rfl
  have m2 := hm.cell 2 _ rfl
  have m3 := hm.cell 3 _ rfl
  have m4 := hm.cell 4 _ rfl
  have m5 := hm.cell 5 _ rfl
  have p0 := ha.cell 0 _ rfl
  have p1 := ha.cell 1 _ rfl
  clear ha hb hm hbl sa sb hW hN hN2
  go_enter Try.func7, Try.ntmps7
  go_upto_region 1 with fail
  rw [HW.out]
  clear hB
  go_wp2_with fail
  refine (p_map ma mb mc md me mf c SA.out).mono ?_
  rintro e w4 ⟨vc, rfl, hoc, hq⟩
  obtain ⟨ms, hms⟩ : ∃ ms, mapL ma mb mc md me mf ps = ms := ⟨_, rfl⟩
  have hlm : ms.length = N := by rw [← hms]; unfold mapL; simp [HN.out]
  rw [hms] at hoc
  obtain ⟨ac, cc, rfl⟩ := hoc.len
  rw [hlm] at hoc ⊢
  obtain ⟨U, hU⟩ : ∃ U, w4.alloc (.cells #[.bool c, .slice ac N cc] 24) = U := ⟨_, rfl⟩
  obtain ⟨gc, hgc⟩ : ∃ g, w4.heap.size = g := ⟨_, rfl⟩
  have bU : Below W.heap.size W U := by rw [← hU]; exact hq.alloc hq.size _
  have X0 := Lib.hid (HA.out.below bU HA.out.lt)
  have X1 := Lib.hid (HBB.out.below bU HBB.out.lt)
  have X2 := Lib.hid (HM.out.below bU HM.out.lt)
  have X3 : Hid (Has U gc #[.bool c, .slice ac N cc] 24) := Lib.hid (by rw [← hU]; exact has_new hgc)
  have YA := Lib.hid (SA.out.below bU (Nat.le_refl _))
  have YB := Lib.hid (SB.out.below bU (Nat.le_refl _))
  have YC : Hid (Psl U (.slice ac N cc) ms) := Lib.hid (by rw [← hU]; exact (hoc.sl (by omega)).alloc _)
  have sW := HM.out.lt
  have BU : Hid (Below B w U) := Lib.hid (HBL.out.trans (bU.mono (by omega)))
  have HU := Lib.hid hU
  have HMS := Lib.hid hms
  have H0 : Hid (Ht U U) := Lib.hid (Ht.refl U)
  obtain ⟨r, hr⟩ : ∃ r, okP c ps = r := ⟨_, rfl⟩
  obtain ⟨ft, hft⟩ : ∃ r, fits c ps d qs = r := ⟨_, rfl⟩
  obtain ⟨sq, hsq⟩ : ∃ r, ((c == d) && decide (ps = qs)) = r := ⟨_, rfl⟩
  obtain ⟨mo, hmo⟩ : ∃ r, morph c ps d qs t = r := ⟨_, rfl⟩
  have hlo : mo.length ≤ 1000 := by rw [← hmo, morph_length, HN.out]; exact hf
  have LF : Hid (mo.length ≤ 1000 ∧ ms.length ≤ 1000) := Lib.hid ⟨hlo, by omega⟩
  have ER := Lib.hid hr
  have EF := Lib.hid hft
  have EQ := Lib.hid hsq
  have EM := Lib.hid hmo
  have EN : Hid (decide (ps.length = 0) = ((N : Int) == 0)) := Lib.hid (by rw [HN.out]; exact dec_beq N)
  clear bU hU hms hlm hoc hq HA HBB HM SA SB HBL hr hft hsq hmo hlo m0 m1 m2 m3 m4 m5 p0 p1 HW
  go_upto_region 2 with fail
  rw [HU.out]
  clear hgc HU
  go_region_held3 (fun w' => Ht U w' ∧ w'.cell? ⟨B, 0, none⟩ = some (.bool c) ∧ w'.cell? ⟨B, 1, none⟩ = some (.slice ao N cap) ∧ w'.cell? ⟨B + 1, 0, none⟩ = some (.bool d) ∧ w'.cell? ⟨B + 1, 1, none⟩ = some (.slice ao2 N2 cap2) ∧ w'.cell? ⟨B + 1 + 1, 0, none⟩ = some (.int .i64 ma) ∧ w'.cell? ⟨B + 1 + 1, 1, none⟩ = some (.int .i64 mb) ∧ w'.cell? ⟨B + 1 + 1, 2, none⟩ = some (.int .i64 mc) ∧ w'.cell? ⟨B + 1 + 1, 3, none⟩ = some (.int .i64 md) ∧ w'.cell? ⟨B + 1 + 1, 4, none⟩ = some (.int .i64 me) ∧ w'.cell? ⟨B + 1 + 1, 5, none⟩ = some (.int .i64 mf) ∧ w'.cell? ⟨gc, 0, none⟩ = some (.bool c) ∧ w'.cell? ⟨gc, 1, none⟩ = some (.slice ac N cc))
    ((go_split_ands; first | exact Ht.dozen H0.out.drew X0.out X1.out X2.out X3.out | exact Ht.dozen (by assumption) X0.out X1.out X2.out X3.out))
    (first
      | (go_at_call 26; refine (r8_points (YC.out.ht hB1) slm).mono ?_; rw [self_d]; rintro e wB2 ⟨rfl, hqB2⟩; have hB2 := Ht.call hB1 hqB2)
      | (go_at_call 27; refine (r8_map ma mb mc md me mf (YA.out.ht hA9)).mono ?_; rw [HMS.out]; rintro e wB1 ⟨vB1, rfl, hoB1, hqB1⟩; have hB1 := Ht.call hA9 hqB1; have slm := hoB1.sl LF.out.2)
      | (go_at_call 25; refine (r8_same c d (YA.out.ht hA8) (YB.out.ht hA8)).mono ?_; rw [EQ.out]; rintro e wA9 ⟨rfl, hqA9⟩; have hA9 := Ht.call hA8 hqA9)
      | (have mm := hA7; clear mm; go_at_call 17; refine (p_same c d (YA.out.ht hA7) (YB.out.ht hA7)).mono ?_; rw [EQ.out]; rintro e wA8 ⟨rfl, hqA8⟩; have hA8 := Ht.call hA7 hqA8)
      | (go_at_call 17; refine (p_same c c (sl5.below hqA6 (Nat.le_refl _)) sl6).mono ?_; rw [self_s]; rintro e wA7 ⟨rfl, hqA7⟩; have hA7 := Ht.call hA6 hqA7)
      | (go_at_call 24; refine (r8_morph c d t (YA.out.ht hA5) (YB.out.ht hA5)).mono ?_; rw [EM.out]; rintro e wA6 ⟨vA6, rfl, hoA6, hqA6⟩; have hA6 := Ht.call hA5 hqA6; have sl6 := hoA6.sl LF.out.1)
      | (go_at_call 15; refine (p_morph c d t (YA.out.ht hA4) (YB.out.ht hA4)).mono ?_; rw [EM.out]; rintro e wA5 ⟨vA5, rfl, hoA5, hqA5⟩; have hA5 := Ht.call hA4 hqA5; have sl5 := hoA5.sl LF.out.1)
      | (go_at_call 23; refine (r8_fits c d (YA.out.ht hA3) (YB.out.ht hA3)).mono ?_; rw [EF.out]; rintro e wA4 ⟨rfl, hqA4⟩; have hA4 := Ht.call hA3 hqA4)
      | (go_at_call 20; refine (p_fits c d (YA.out.ht hA2) (YB.out.ht hA2)).mono ?_; rw [EF.out]; rintro e wA3 ⟨rfl, hqA3⟩; have hA3 := Ht.call hA2 hqA3)
      | (go_at_call 22; refine (p_empty c (YA.out.ht hA1)).mono ?_; rw [EN.out]; rintro e wA2 ⟨rfl, hqA2⟩; have hA2 := Ht.call hA1 hqA2)
      | (go_at_call 21; refine (r8_right c (YA.out.ht hA0)).mono ?_; rw [ER.out]; rintro e wA1 ⟨rfl, hqA1⟩; have hA1 := Ht.call hA0 hqA1)
      | (go_at_call 16; refine (p_right c (YA.out.ht H0.out.drew)).mono ?_; rw [ER.out]; rintro e wA0 ⟨rfl, hqA0⟩; have hA0 := Ht.call H0.out.drew hqA0))
  all_goals
    go_wp2
    go_ret
    exact ⟨rfl, by rw [HB.out]; exact BU.out.trans ((show Ht U _ by assumption).below.mono (by have := BU.out.size; have := HB.out; omega))⟩

end Go.Proofs.Ytdpfkhliechkhaa
