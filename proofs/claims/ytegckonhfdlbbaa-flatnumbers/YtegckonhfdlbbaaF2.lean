/- Contracts of flat.halved, .Bend: for all places of 64 bits what the plain arithmetic says; of the memory nothing that was there turns (halved: but for the list that it adds to). -/
import Derived.Test.YtegckonhfdlbbaaF1
import Derived.Test.YtegckonhfdlbbaaAP8
namespace Go.Proofs.Ytegckonhfdlbbaa
open Go Go.RowKit
open M

abbrev zp : Obj := .cells #[.int .i64 0, .int .i64 0] 35
/-- The list v of the call's own, of the places ps, has grown by rs. -/
def Hlv (w : World) (B : Nat) (v : Value) (ps rs : List Pt) (e : Ending) (w' : World) : Prop :=
  ∃ g cap N, e = .returned (.slice (some ⟨g, 0, none⟩) N cap) ∧ (ps ++ rs).length = N ∧ Pown w' B (.slice (some ⟨g, 0, none⟩) N cap) (ps ++ rs) ∧ w.grownBy w' v.ownBlock ∧ (v.ownBlock = some g ∨ w.heap.size ≤ g)
theorem grow_chain {w X w4 w5 : World} {r : Option Nat} {ga : Nat} (h1 : w.grownBy X none) (h2 : X.grownBy w4 r) (h3 : w4.grownBy w5 (some ga)) (hat : r = some ga ∨ X.heap.size ≤ ga) : w.grownBy w5 r :=
  ⟨h3.os.trans (h2.os.trans h1.os), h3.tape.trans (h2.tape.trans h1.tape), h3.output.trans (h2.output.trans h1.output), Nat.le_trans h1.size (Nat.le_trans h2.size h3.size), fun k hk hr => by
    have := h1.size
    have := h2.size
    refine (h3.block k (by omega) (fun e => ?_)).trans ((h2.block k (by omega) hr).trans (h1.block k hk (by simp)))
    rcases hat with h | h
    · exact hr (by rw [h]; exact e)
    · simp at e; omega⟩

theorem hset2 {W : World} {k : Nat} {t : TypeId} {a' b' : Value} (h : Has W k #[a', b'] t) (a b : Value) : Has ((W.setCell ⟨k, 0, none⟩ a).setCell ⟨k, 1, none⟩ b) k #[a, b] t := by
  have := has_set (has_set h 0 a) 1 b
  simpa using this
theorem hoff2 {W : World} {k k' : Nat} {t : TypeId} {cs : Array Value} (h : Has W k cs t) (hne : k' ≠ k) (a b : Value) : Has ((W.setCell ⟨k', 0, none⟩ a).setCell ⟨k', 1, none⟩ b) k cs t :=
  (heap_setCell_other _ ⟨k', _, none⟩ k _ (fun e => hne (by simpa using e.symm))).trans ((heap_setCell_other _ ⟨k', _, none⟩ k _ (fun e => hne (by simpa using e.symm))).trans h)
theorem below_set2 {W : World} {k B : Nat} (hk : B ≤ k) (a b : Value) : Below B W ((W.setCell ⟨k, 0, none⟩ a).setCell ⟨k, 1, none⟩ b) := ((Below.refl _ _).setCell hk _).setCell hk _
theorem put3 {w1 : World} {g0 g1 g2 B : Nat} {t : TypeId} {a0 b0 a1 b1 a2 b2 : Value} (k0 : Has w1 g0 #[a0, b0] t) (k1 : Has w1 g1 #[a1, b1] t) (k2 : Has w1 g2 #[a2, b2] t) (l0 : B ≤ g0) (l1 : B ≤ g1) (l2 : B ≤ g2) (n01 : g0 ≠ g1) (n02 : g0 ≠ g2) (n12 : g1 ≠ g2) (p q r : Pt) :
    ∃ V, (((((w1.setCell ⟨g0, 0, none⟩ (.int .i64 p.x)).setCell ⟨g0, 1, none⟩ (.int .i64 p.y)).setCell ⟨g1, 0, none⟩ (.int .i64 q.x)).setCell ⟨g1, 1, none⟩ (.int .i64 q.y)).setCell ⟨g2, 0, none⟩ (.int .i64 r.x)).setCell ⟨g2, 1, none⟩ (.int .i64 r.y) = V ∧ Has V g0 (pCells p) t ∧ Has V g1 (pCells q) t ∧ Has V g2 (pCells r) t ∧ Below B w1 V :=
  ⟨_, rfl, hoff2 (hoff2 (hset2 k0 _ _) (Ne.symm n01) _ _) (Ne.symm n02) _ _, hoff2 (hset2 (hoff2 k1 n01 _ _) _ _) (Ne.symm n12) _ _, hset2 (hoff2 (hoff2 k2 n02 _ _) n12 _ _) _ _, ((below_set2 l0 _ _).trans (below_set2 l1 _ _)).trans (below_set2 l2 _ _)⟩
theorem put2 {w1 : World} {g0 g1 B : Nat} {t : TypeId} {a0 b0 a1 b1 : Value} (k0 : Has w1 g0 #[a0, b0] t) (k1 : Has w1 g1 #[a1, b1] t) (l0 : B ≤ g0) (l1 : B ≤ g1) (n01 : g0 ≠ g1) (p q : Pt) :
    ∃ V, (((w1.setCell ⟨g0, 0, none⟩ (.int .i64 p.x)).setCell ⟨g0, 1, none⟩ (.int .i64 p.y)).setCell ⟨g1, 0, none⟩ (.int .i64 q.x)).setCell ⟨g1, 1, none⟩ (.int .i64 q.y) = V ∧ Has V g0 (pCells p) t ∧ Has V g1 (pCells q) t ∧ Below B w1 V :=
  ⟨_, rfl, hoff2 (hset2 k0 _ _) (Ne.symm n01) _ _, hset2 (hoff2 k1 n01 _ _) _ _, (below_set2 l0 _ _).trans (below_set2 l1 _ _)⟩

set_option maxRecDepth 100000 in
set_option maxHeartbeats 2000000 in
theorem f_halved (B : Nat) : ∀ (n : Nat) (a b c d : Pt) (v : Value) (ps : List Pt) (w : World), n ≤ 3 → Rg a → Rg b → Rg c → Rg d → Pown w B v ps → B ≤ w.heap.size → ps.length + 2 ^ n ≤ 900 →
    Calls Try.prog 23 #[v, .agg (pCells a), .agg (pCells b), .agg (pCells c), .agg (pCells d), .int .i64 (n : Int)] w (Hlv w B v ps (bendL n a b c d))
  | 0, a, b, c, d, v, ps, w, hn, ha, hb, hc, hd, ho, hB, hl => by
    obtain ⟨S, hS⟩ : ∃ S, w.heap.size = S := ⟨_, rfl⟩
    obtain ⟨W, hW⟩ : ∃ W, (((w.alloc (.cells (pCells a) 35)).alloc (.cells (pCells b) 35)).alloc (.cells (pCells c) 35)).alloc (.cells (pCells d) 35) = W := ⟨_, rfl⟩
    have bW : Below S w W := by rw [← hW]; exact ((((Below.refl _ _).alloc (by omega) _).alloc (by simp; omega) _).alloc (by simp; omega) _).alloc (by simp; omega) _
    have kd : Has W (S + 1 + 1 + 1) (pCells d) 35 := by rw [← hW]; exact has_new (by simp [hS])
    have d0 := kd.cell 0 _ rfl
    have d1 := kd.cell 1 _ rfl
    have oW := Lib.hid ((ho.below bW (by omega)).alloc (.cells (pCells d) 35))
    obtain ⟨N, hN⟩ : ∃ N, ps.length = N := ⟨_, rfl⟩
    have NF : Hid (N + 1 ≤ 1000) := Lib.hid (by omega)
    have SW : Hid (B ≤ (W.alloc (.cells (pCells d) 35)).heap.size) := Lib.hid (by have := bW.size; simp; omega)
    have BW := Lib.hid bW
    have HW := Lib.hid hW
    have HS := Lib.hid hS
    have HN := Lib.hid hN
    have HO := Lib.hid ho
    obtain ⟨ao, cap, hv⟩ := ho.len
    rw [hN] at hv
    subst hv
    clear bW hW kd ho hN
    go_enter Try.func23, Try.ntmps23
    go_upto_region 2 with fail
    rw [HW.out]
    clear hS
    go_wp2_with (at_builtin; refine wpList_append_pl rfl _ _ rfl N HN.out rfl W.heap.size 0 1 1 rfl [d] rfl (by decide) NF.out (prow_one d _) oW.out SW.out ?_)
    intro g' cap' w4 ho hg hat
    have RR : Hlv w B (.slice ao N cap) ps (bendL 0 a b c d) (.returned (.slice (some ⟨g', 0, none⟩) (N + 1) cap')) w4 := by
      have q2 := HS.out
      have q3 := BW.out.size
      refine ⟨g', cap', N + 1, rfl, by rw [List.length_append, HN.out, bendL_length], ho, ?_, hat.imp id (fun h => by first | omega | (have h2 := h; rw [World.size_alloc] at h2; omega) | (exact Nat.le_trans (Nat.le_trans q3 (by simp)) h))⟩
      exact grownBy_trans (grownBy_own (World.grownBy.refl _ _) (grownBy_below (BW.out.alloc (by omega) _) (by omega)) (fun k hk => by cases hk)) hg
    have RRH := Lib.hid RR
    clear RR ho hg hat d0 d1
    go_wp2
    go_ret
    exact RRH.out
  | n + 1, a, b, c, d, v, ps, w, hn, ha, hb, hc, hd, ho, hB, hl => by
    obtain ⟨S, hS⟩ : ∃ S, w.heap.size = S := ⟨_, rfl⟩
    obtain ⟨W, hW⟩ : ∃ W, (((w.alloc (.cells (pCells a) 35)).alloc (.cells (pCells b) 35)).alloc (.cells (pCells c) 35)).alloc (.cells (pCells d) 35) = W := ⟨_, rfl⟩
    have bW : Below S w W := by rw [← hW]; exact ((((Below.refl _ _).alloc (by omega) _).alloc (by simp; omega) _).alloc (by simp; omega) _).alloc (by simp; omega) _
    have ka : Has W S (pCells a) 35 := by rw [← hW]; exact (((has_new hS).alloc _).alloc _).alloc _
    have kb : Has W (S + 1) (pCells b) 35 := by rw [← hW]; exact ((has_new (by simp [hS])).alloc _).alloc _
    have kc : Has W (S + 1 + 1) (pCells c) 35 := by rw [← hW]; exact (has_new (by simp [hS])).alloc _
    have kd : Has W (S + 1 + 1 + 1) (pCells d) 35 := by rw [← hW]; exact has_new (by simp [hS])
    have KA := Lib.hid ka
    have KB := Lib.hid kb
    have KC := Lib.hid kc
    have KD := Lib.hid kd
    have BW := Lib.hid bW
    have HW := Lib.hid hW
    have HS := Lib.hid hS
    have o1 : ¬ ((n : Int) + 1 = 0) := by omega
    clear bW hW ka kb kc kd
    go_enter Try.func23, Try.ntmps23
    go_wp2_with fail
    rw [HW.out]
    clear hS
    refine wp_region_make3 9 zp zp zp (by kernel_rfl) (by kernel_rfl) (by kernel_rfl) ⟨_, rfl, fun x w => by simp [go_sem, ptr]⟩ ⟨_, rfl, fun x w => by simp [go_sem, ptr]⟩ ⟨_, rfl, fun x w => by simp [go_sem, ptr]⟩ ?_
    apply Exists.intro
    refine ⟨fun R hR hN => ?_, ?_⟩
    · have a0 := fun z => LaterR.read (R := R) KA.out 0 _ rfl z
      have a1 := fun z => LaterR.read (R := R) KA.out 1 _ rfl z
      have b0 := fun z => LaterR.read (R := R) KB.out 0 _ rfl z
      have b1 := fun z => LaterR.read (R := R) KB.out 1 _ rfl z
      have c0 := fun z => LaterR.read (R := R) KC.out 0 _ rfl z
      have c1 := fun z => LaterR.read (R := R) KC.out 1 _ rfl z
      have d0 := fun z => LaterR.read (R := R) KD.out 0 _ rfl z
      have d1 := fun z => LaterR.read (R := R) KD.out 1 _ rfl z
      simp only [List.take_succ_cons, List.take_zero]
      repeat (go_big_quiet_step (first | (go_at_call 8; exact LaterR.calls hR (f_Half _ _ _))))
      exact wpQuiet_nil rfl
    · intro g0 g1 g2 w1 hb1 h0 h1 h2 l0 l1 l2 n01 n02 n12
      have k0 : Has w1 g0 #[.int .i64 0, .int .i64 0] 35 := h0
      have k1 : Has w1 g1 #[.int .i64 0, .int .i64 0] 35 := h1
      have k2 : Has w1 g2 #[.int .i64 0, .int .i64 0] 35 := h2
      clear h0 h1 h2
      simp only [List.drop_succ_cons, List.drop_zero]
      have c00 := k0.cell 0 _ rfl
      have c01 := k0.cell 1 _ rfl
      have c10 := k1.cell 0 _ rfl
      have c11 := k1.cell 1 _ rfl
      have c20 := k2.cell 0 _ rfl
      have c21 := k2.cell 1 _ rfl
      have f0 := has_fro k0
      have f1 := has_fro k1
      have f2 := has_fro k2
      have HB1 := Lib.hid hb1
      have K0 := Lib.hid k0
      have K1 := Lib.hid k1
      have K2 := Lib.hid k2
      clear hb1 k0 k1 k2
      obtain ⟨ab, hab⟩ : ∃ p, hvP a b = p := ⟨_, rfl⟩
      obtain ⟨bc, hbc⟩ : ∃ p, hvP b c = p := ⟨_, rfl⟩
      obtain ⟨cd, hcd⟩ : ∃ p, hvP c d = p := ⟨_, rfl⟩
      have e1 : hfP a b = ab := (hfP_eq ha hb).trans hab
      have e2 : hfP b c = bc := (hfP_eq hb hc).trans hbc
      have e3 : hfP c d = cd := (hfP_eq hc hd).trans hcd
      rw [e1, e2, e3]
      have rab : Rg ab := hab ▸ ha.hv hb
      have rbc : Rg bc := hbc ▸ hb.hv hc
      have rcd : Rg cd := hcd ▸ hc.hv hd
      have EAB := Lib.hid (And.intro hab (And.intro hbc hcd))
      clear e1 e2 e3 hab hbc hcd
      go_upto_region 4 with fail
      clear c00 c01 c10 c11 c20 c21 f0 f1 f2
      obtain ⟨V, hV, v0, v1, v2, bV⟩ := put3 K0.out K1.out K2.out l0 l1 l2 n01 n02 n12 ab bc cd
      rw [hV]
      have BV := Lib.hid (HB1.out.trans bV)
      have V0 := Lib.hid v0
      have V1 := Lib.hid v1
      have V2 := Lib.hid v2
      have sV : Hid (W.heap.size ≤ V.heap.size) := Lib.hid BV.out.size
      clear hV v0 v1 v2 bV K0 K1 K2 HB1
      refine wp_region_make2 6 zp zp (by kernel_rfl) (by kernel_rfl) (by kernel_rfl) ⟨_, rfl, fun x w => by simp [go_sem, ptr]⟩ ⟨_, rfl, fun x w => by simp [go_sem, ptr]⟩ ?_
      apply Exists.intro
      refine ⟨fun R hR hN => ?_, ?_⟩
      · have a0 := fun z => LaterR.read (R := R) V0.out 0 _ rfl z
        have a1 := fun z => LaterR.read (R := R) V0.out 1 _ rfl z
        have b0 := fun z => LaterR.read (R := R) V1.out 0 _ rfl z
        have b1 := fun z => LaterR.read (R := R) V1.out 1 _ rfl z
        have c0 := fun z => LaterR.read (R := R) V2.out 0 _ rfl z
        have c1 := fun z => LaterR.read (R := R) V2.out 1 _ rfl z
        simp only [List.take_succ_cons, List.take_zero]
        repeat (go_big_quiet_step (first | (go_at_call 8; exact LaterR.calls hR (f_Half _ _ _))))
        exact wpQuiet_nil rfl
      · intro g3 g4 w2 hb2 h3 h4 l3 l4 n34
        have k3 : Has w2 g3 #[.int .i64 0, .int .i64 0] 35 := h3
        have k4 : Has w2 g4 #[.int .i64 0, .int .i64 0] 35 := h4
        clear h3 h4
        simp only [List.drop_succ_cons, List.drop_zero]
        have c00 := k3.cell 0 _ rfl
        have c01 := k3.cell 1 _ rfl
        have c10 := k4.cell 0 _ rfl
        have c11 := k4.cell 1 _ rfl
        have f0 := has_fro k3
        have f1 := has_fro k4
        have HB2 := Lib.hid hb2
        have K3 := Lib.hid k3
        have K4 := Lib.hid k4
        clear hb2 k3 k4
        obtain ⟨abc, habc⟩ : ∃ p, hvP ab bc = p := ⟨_, rfl⟩
        obtain ⟨bcd, hbcd⟩ : ∃ p, hvP bc cd = p := ⟨_, rfl⟩
        have e1 : hfP ab bc = abc := (hfP_eq rab rbc).trans habc
        have e2 : hfP bc cd = bcd := (hfP_eq rbc rcd).trans hbcd
        rw [e1, e2]
        have rabc : Rg abc := habc ▸ rab.hv rbc
        have rbcd : Rg bcd := hbcd ▸ rbc.hv rcd
        have EABC := Lib.hid (And.intro habc hbcd)
        clear e1 e2 habc hbcd
        go_upto_region 5 with fail
        clear c00 c01 c10 c11 f0 f1
        obtain ⟨U, hU, v3, v4, bU⟩ := put2 K3.out K4.out l3 l4 n34 abc bcd
        rw [hU]
        have BU := Lib.hid (HB2.out.trans bU)
        have U0 := Lib.hid (V0.out.below BU.out V0.out.lt)
        have U2 := Lib.hid (V2.out.below BU.out V2.out.lt)
        have U3 := Lib.hid v3
        have U4 := Lib.hid v4
        have x0 := v3.cell 0 _ rfl
        have x1 := v3.cell 1 _ rfl
        have y0 := v4.cell 0 _ rfl
        have y1 := v4.cell 1 _ rfl
        have sU : Hid (V.heap.size ≤ U.heap.size) := Lib.hid BU.out.size
        have LO := Lib.hid (And.intro l0 (And.intro l2 (And.intro l3 l4)))
        clear hU v3 v4 bU K3 K4 HB2 V0 V1 V2 l0 l1 l2 l3 l4 n01 n02 n12 n34
        go_wp2_with fail
        refine (f_Half _ _ _).mono ?_
        rintro e w3 ⟨rfl, hq3⟩
        obtain ⟨md, hmd⟩ : ∃ p, hvP abc bcd = p := ⟨_, rfl⟩
        have e1 : hfP abc bcd = md := (hfP_eq rabc rbcd).trans hmd
        rw [e1]
        have rmd : Rg md := hmd ▸ rabc.hv rbcd
        have EM := Lib.hid hmd
        obtain ⟨X, hX⟩ : ∃ X, w3.alloc (.cells (pCells md) 35) = X := ⟨_, rfl⟩
        obtain ⟨gm, hgm⟩ : ∃ g, w3.heap.size = g := ⟨_, rfl⟩
        have bX : Below U.heap.size U X := by rw [← hX]; exact hq3.alloc hq3.size _
        have km : Has X gm (pCells md) 35 := by rw [← hX]; exact has_new hgm
        have sX : U.heap.size ≤ gm := by rw [← hgm]; exact hq3.size
        have bVX : Below V.heap.size V X := BU.out.trans (bX.mono sU.out)
        have bWX : Below W.heap.size W X := BV.out.trans (bVX.mono sV.out)
        have bwX : Below S w X := BW.out.trans (bWX.mono (by have := BW.out.size; have := HS.out; omega))
        have ka := KA.out.below bWX KA.out.lt
        have kd := KD.out.below bWX KD.out.lt
        have kab := U0.out.below bX U0.out.lt
        have kcd := U2.out.below bX U2.out.lt
        have kabc := U3.out.below bX U3.out.lt
        have kbcd := U4.out.below bX U4.out.lt
        have hoX : Pown X B v ps := ho.below bwX (by have := HS.out; omega)
        have sWS : Hid (S + 1 + 1 + 1 < W.heap.size) := Lib.hid KD.out.lt
        have a0 := ka.cell 0 _ rfl
        have a1 := ka.cell 1 _ rfl
        have b0 := kab.cell 0 _ rfl
        have b1 := kab.cell 1 _ rfl
        have c0 := kabc.cell 0 _ rfl
        have c1 := kabc.cell 1 _ rfl
        have d0 := km.cell 0 _ rfl
        have d1 := km.cell 1 _ rfl
        have KMX := Lib.hid km
        have KDX := Lib.hid kd
        have KCDX := Lib.hid kcd
        have KBCDX := Lib.hid kbcd
        have OX := Lib.hid hoX
        have BX := Lib.hid bwX
        have sXX : Hid (S ≤ X.heap.size ∧ W.heap.size ≤ X.heap.size) := Lib.hid ⟨by have := bwX.size; have := HS.out; omega, bWX.size⟩
        have HX := Lib.hid hX
        have SG := Lib.hid sX
        have o2 : ((n : Int) + 1 - 1) = (n : Int) := by omega
        have o3 : (n : Int) ≤ 2 := by omega
        clear e1 hmd hX bX km sX bVX bWX bwX ka kd kab kcd kabc kbcd hoX x0 x1 y0 y1 hq3 U0 U2 U3 U4 BU BV BW KA KB KC KD HW
        go_upto_region 6 with fail
        rw [HX.out]
        clear hgm
        go_wp2_with fail
        refine (f_halved B n a ab abc md v ps X (by omega) ha rab rabc rmd OX.out (by have := sXX.out; have := HS.out; omega) (by rw [Nat.pow_succ] at hl; omega)).mono ?_
        rintro e w4 ⟨ga, cap, N4, rfl, hN4, ho4, hg4, hat4⟩
        have hvl : ∀ k, v.ownBlock = some k → k < S := fun k hk => by have := (ho.base k hk).2; have := HS.out; omega
        have far : ∀ k, W.heap.size ≤ k → v.ownBlock ≠ some k := fun k hk e => by have := hvl k e; have := sWS.out; omega
        have stay : ∀ {k : Nat} {cs : Array Value}, Has X k cs 35 → S ≤ k → Has w4 k cs 35 := fun hk hle => (hg4.block _ hk.lt (fun e => by have := hvl _ e.symm; omega)).trans hk
        have km := stay KMX.out (by have := SG.out; have := sU.out; have := sV.out; have := sWS.out; omega)
        have kbcd := stay KBCDX.out (by have := LO.out; have := sV.out; have := sWS.out; omega)
        have kcd := stay KCDX.out (by have := LO.out; have := sWS.out; omega)
        have kd := stay KDX.out (by omega)
        have a0 := km.cell 0 _ rfl
        have a1 := km.cell 1 _ rfl
        have b0 := kbcd.cell 0 _ rfl
        have b1 := kbcd.cell 1 _ rfl
        have c0 := kcd.cell 0 _ rfl
        have c1 := kcd.cell 1 _ rfl
        have d0 := kd.cell 0 _ rfl
        have d1 := kd.cell 1 _ rfl
        have l4 : (ps ++ bendL n a ab abc md).length + 2 ^ n ≤ 900 := by rw [List.length_append, bendL_length]; rw [Nat.pow_succ] at hl; omega
        have s4 : X.heap.size ≤ w4.heap.size := hg4.size
        have N := Lib.hid (f_halved B n md bcd cd d _ _ w4 (by omega) rmd rbcd rcd hd ho4 (by have := sXX.out; have := HS.out; omega) l4)
        have HG4 := Lib.hid hg4
        have HAT := Lib.hid hat4
        clear ho4 hg4 hat4 far stay km kbcd kcd kd
        go_wp2_with fail
        refine N.out.mono ?_
        rintro e w5 ⟨gb, cap5, N5, rfl, hN5, ho5, hg5, hat5⟩
        have ee : ps ++ bendL n a ab abc md ++ bendL n md bcd cd d = ps ++ bendL (n + 1) a b c d := by
          rw [List.append_assoc]
          congr 1
          show _ = bendL n a (hvP a b) (hvP (hvP a b) (hvP b c)) (hvP (hvP (hvP a b) (hvP b c)) (hvP (hvP b c) (hvP c d))) ++ bendL n (hvP (hvP (hvP a b) (hvP b c)) (hvP (hvP b c) (hvP c d))) (hvP (hvP b c) (hvP c d)) (hvP c d) d
          rw [EAB.out.1, EAB.out.2.1, EAB.out.2.2, EABC.out.1, EABC.out.2, EM.out]
        rw [ee] at hN5 ho5
        have RR : Hlv w B v ps (bendL (n + 1) a b c d) (.returned (.slice (some ⟨gb, 0, none⟩) N5 cap5)) w5 := by
          refine ⟨gb, cap5, N5, rfl, hN5, ho5, grow_chain (grownBy_below BX.out (by have := HS.out; omega)) HG4.out hg5 HAT.out, ?_⟩
          have q1 := sXX.out
          have q2 := HS.out
          rcases hat5 with h | h
          · have h' : some ga = some gb := h
            simp at h'
            subst h'
            rcases HAT.out with h | h
            · exact Or.inl h
            · exact Or.inr (by omega)
          · exact Or.inr (by omega)
        have RRH := Lib.hid RR
        clear RR hN5 ho5 hg5 hat5 ee a0 a1 b0 b1 c0 c1 d0 d1
        go_wp2
        go_ret
        exact RRH.out

end Go.Proofs.Ytegckonhfdlbbaa
