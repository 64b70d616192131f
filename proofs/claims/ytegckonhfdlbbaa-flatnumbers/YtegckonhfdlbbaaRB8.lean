/- Contracts of mutoscoperef8.bend, .Bend: for all places of 64 bits what the plain arithmetic says, in memory of its own; of the memory nothing that was there turns. -/
import Derived.Test.YtegckonhfdlbbaaF3
import Derived.Test.YtegckonhfdlbbaaQM
namespace Go.Proofs.Ytegckonhfdlbbaa
open Go Go.RowKit
open M

/-- Seven places in a later world. -/
theorem Ht.seven {W w' : World} {g1 g2 g3 g4 g5 g6 g7 : Nat} {p1 p2 p3 p4 p5 p6 p7 : Pt} {t : TypeId} (h : Ht W w') (H1 : Has W g1 (pCells p1) t) (H2 : Has W g2 (pCells p2) t) (H3 : Has W g3 (pCells p3) t) (H4 : Has W g4 (pCells p4) t) (H5 : Has W g5 (pCells p5) t) (H6 : Has W g6 (pCells p6) t) (H7 : Has W g7 (pCells p7) t) :
    Ht W w' ∧ w'.cell? ⟨g1, 0, none⟩ = some (.int .i64 p1.x) ∧ w'.cell? ⟨g1, 1, none⟩ = some (.int .i64 p1.y) ∧ w'.cell? ⟨g2, 0, none⟩ = some (.int .i64 p2.x) ∧ w'.cell? ⟨g2, 1, none⟩ = some (.int .i64 p2.y) ∧ w'.cell? ⟨g3, 0, none⟩ = some (.int .i64 p3.x) ∧ w'.cell? ⟨g3, 1, none⟩ = some (.int .i64 p3.y) ∧ w'.cell? ⟨g4, 0, none⟩ = some (.int .i64 p4.x) ∧ w'.cell? ⟨g4, 1, none⟩ = some (.int .i64 p4.y) ∧ w'.cell? ⟨g5, 0, none⟩ = some (.int .i64 p5.x) ∧ w'.cell? ⟨g5, 1, none⟩ = some (.int .i64 p5.y) ∧ w'.cell? ⟨g6, 0, none⟩ = some (.int .i64 p6.x) ∧ w'.cell? ⟨g6, 1, none⟩ = some (.int .i64 p6.y) ∧ w'.cell? ⟨g7, 0, none⟩ = some (.int .i64 p7.x) ∧ w'.cell? ⟨g7, 1, none⟩ = some (.int .i64 p7.y) := by
  have K1 := H1.below h.below H1.lt
  have K2 := H2.below h.below H2.lt
  have K3 := H3.below h.below H3.lt
  have K4 := H4.below h.below H4.lt
  have K5 := H5.below h.below H5.lt
  have K6 := H6.below h.below H6.lt
  have K7 := H7.below h.below H7.lt
  exact ⟨h, K1.cell 0 _ rfl, K1.cell 1 _ rfl, K2.cell 0 _ rfl, K2.cell 1 _ rfl, K3.cell 0 _ rfl, K3.cell 1 _ rfl, K4.cell 0 _ rfl, K4.cell 1 _ rfl, K5.cell 0 _ rfl, K5.cell 1 _ rfl, K6.cell 0 _ rfl, K6.cell 1 _ rfl, K7.cell 0 _ rfl, K7.cell 1 _ rfl⟩
theorem Ht.grownR {W w' w'' : World} {row : Option Nat} (h : Ht W w') (hg : w'.grownBy w'' row) (hr : ∀ k, row = some k → W.heap.size ≤ k) : Ht W w'' := ⟨h.below.grown hg h.below.size hr⟩

/-- A list of places of the call's own, n of them. -/
def Lsn (w : World) (n : Nat) (rs : List Pt) (e : Ending) (w' : World) : Prop := ∃ g cap, e = .returned (.slice (some ⟨g, 0, none⟩) n cap) ∧ rs.length = n ∧ Pown w' w.heap.size (.slice (some ⟨g, 0, none⟩) n cap) rs ∧ Below w.heap.size w w'

set_option maxRecDepth 100000 in
set_option maxHeartbeats 2000000 in
theorem r8_bend : ∀ (n : Nat) (a b c d : Pt) (w : World), n ≤ 3 → Rg a → Rg b → Rg c → Rg d →
    Calls Try.prog 24 #[.agg (pCells a), .agg (pCells b), .agg (pCells c), .agg (pCells d), .int .i64 (n : Int)] w (Lsn w (2 ^ n) (bendL n a b c d))
  | 0, a, b, c, d, w, hn, ha, hb, hc, hd => by
    obtain ⟨S, hS⟩ : ∃ S, w.heap.size = S := ⟨_, rfl⟩
    obtain ⟨W, hW⟩ : ∃ W, (((w.alloc (.cells (pCells a) 35)).alloc (.cells (pCells b) 35)).alloc (.cells (pCells c) 35)).alloc (.cells (pCells d) 35) = W := ⟨_, rfl⟩
    have bW : Below S w W := by rw [← hW]; exact ((((Below.refl _ _).alloc (by omega) _).alloc (by simp; omega) _).alloc (by simp; omega) _).alloc (by simp; omega) _
    have kd : Has W (S + 1 + 1 + 1) (pCells d) 35 := by rw [← hW]; exact has_new (by simp [hS])
    have d0 := kd.cell 0 _ rfl
    have d1 := kd.cell 1 _ rfl
    have RR : Lsn w 1 (bendL 0 a b c d) (.returned (.slice (some ⟨W.heap.size, 0, none⟩) 1 1)) (W.alloc (.cells (pCells d) 35)) := by
      have q := bW.size
      refine ⟨_, 1, rfl, rfl, World.ownsRow_lit W (pCells d) 1 (by omega) (by unfold maxLen; omega) rfl, ?_⟩
      rw [hS]
      exact bW.alloc (by omega) _
    have RRH := Lib.hid RR
    have HW := Lib.hid hW
    clear bW hW kd RR
    go_enter Try.func24, Try.ntmps24
    go_upto_region 2 with fail
    rw [HW.out]
    clear hS
    go_wp2
    go_ret
    exact RRH.out
  | n + 1, a, b, c, d, w, hn, ha, hb, hc, hd => by
    obtain ⟨S, hS⟩ : ∃ S, w.heap.size = S := ⟨_, rfl⟩
    obtain ⟨W, hW⟩ : ∃ W, (((w.alloc (.cells (pCells a) 35)).alloc (.cells (pCells b) 35)).alloc (.cells (pCells c) 35)).alloc (.cells (pCells d) 35) = W := ⟨_, rfl⟩
    have bW : Below S w W := by rw [← hW]; exact ((((Below.refl _ _).alloc (by omega) _).alloc (by simp; omega) _).alloc (by simp; omega) _).alloc (by simp; omega) _
    have ka : Has W S (pCells a) 35 := by rw [← hW]; exact (((has_new hS).alloc _).alloc _).alloc _
    have kb : Has W (S + 1) (pCells b) 35 := by rw [← hW]; exact ((has_new (by simp [hS])).alloc _).alloc _
    have kc : Has W (S + 1 + 1) (pCells c) 35 := by rw [← hW]; exact (has_new (by simp [hS])).alloc _
    have kd : Has W (S + 1 + 1 + 1) (pCells d) 35 := by rw [← hW]; exact has_new (by simp [hS])
    have KA := Lib.hid ka
    have KB := Lib.hid kb
    have KC := Lib.hid kc
    have KD := Lib.hid kd
    have BW := Lib.hid bW
    have HW := Lib.hid hW
    have HS := Lib.hid hS
    have o1 : ¬ ((n : Int) + 1 = 0) := by omega
    clear bW hW ka kb kc kd
    go_enter Try.func24, Try.ntmps24
    go_wp2_with fail
    rw [HW.out]
    clear hS
    refine wp_region_make3 9 zp zp zp (by kernel_rfl) (by kernel_rfl) (by kernel_rfl) ⟨_, rfl, fun x w => by simp [go_sem, ptr]⟩ ⟨_, rfl, fun x w => by simp [go_sem, ptr]⟩ ⟨_, rfl, fun x w => by simp [go_sem, ptr]⟩ ?_
    apply Exists.intro
    refine ⟨fun R hR hN => ?_, ?_⟩
    · have a0 := fun z => LaterR.read (R := R) KA.out 0 _ rfl z
      have a1 := fun z => LaterR.read (R := R) KA.out 1 _ rfl z
      have b0 := fun z => LaterR.read (R := R) KB.out 0 _ rfl z
      have b1 := fun z => LaterR.read (R := R) KB.out 1 _ rfl z
      have c0 := fun z => LaterR.read (R := R) KC.out 0 _ rfl z
      have c1 := fun z => LaterR.read (R := R) KC.out 1 _ rfl z
      have d0 := fun z => LaterR.read (R := R) KD.out 0 _ rfl z
      have d1 := fun z => LaterR.read (R := R) KD.out 1 _ rfl z
      simp only [List.take_succ_cons, List.take_zero]
      repeat (go_big_quiet_step (first | (go_at_call 9; exact LaterR.calls hR (r8_Half _ _ _))))
      exact wpQuiet_nil rfl
    · intro g0 g1 g2 w1 hb1 h0 h1 h2 l0 l1 l2 n01 n02 n12
      have k0 : Has w1 g0 #[.int .i64 0, .int .i64 0] 35 := h0
      have k1 : Has w1 g1 #[.int .i64 0, .int .i64 0] 35 := h1
      have k2 : Has w1 g2 #[.int .i64 0, .int .i64 0] 35 := h2
      clear h0 h1 h2
      simp only [List.drop_succ_cons, List.drop_zero]
      have c00 := k0.cell 0 _ rfl
      have c01 := k0.cell 1 _ rfl
      have c10 := k1.cell 0 _ rfl
      have c11 := k1.cell 1 _ rfl
      have c20 := k2.cell 0 _ rfl
      have c21 := k2.cell 1 _ rfl
      have f0 := has_fro k0
      have f1 := has_fro k1
      have f2 := has_fro k2
      have HB1 := Lib.hid hb1
      have K0 := Lib.hid k0
      have K1 := Lib.hid k1
      have K2 := Lib.hid k2
      clear hb1 k0 k1 k2
      obtain ⟨ab, hab⟩ : ∃ p, hvP a b = p := ⟨_, rfl⟩
      obtain ⟨bc, hbc⟩ : ∃ p, hvP b c = p := ⟨_, rfl⟩
      obtain ⟨cd, hcd⟩ : ∃ p, hvP c d = p := ⟨_, rfl⟩
      have e1 : hrP a b = ab := (hrP_eq ha hb).trans hab
      have e2 : hrP b c = bc := (hrP_eq hb hc).trans hbc
      have e3 : hrP c d = cd := (hrP_eq hc hd).trans hcd
      rw [e1, e2, e3]
      have rab : Rg ab := hab ▸ ha.hv hb
      have rbc : Rg bc := hbc ▸ hb.hv hc
      have rcd : Rg cd := hcd ▸ hc.hv hd
      have EAB := Lib.hid (And.intro hab (And.intro hbc hcd))
      clear e1 e2 e3 hab hbc hcd
      go_upto_region 4 with fail
      clear c00 c01 c10 c11 c20 c21 f0 f1 f2
      obtain ⟨V, hV, v0, v1, v2, bV⟩ := put3 K0.out K1.out K2.out l0 l1 l2 n01 n02 n12 ab bc cd
      rw [hV]
      have BV := Lib.hid (HB1.out.trans bV)
      have V0 := Lib.hid v0
      have V1 := Lib.hid v1
      have V2 := Lib.hid v2
      have sV : Hid (W.heap.size ≤ V.heap.size) := Lib.hid BV.out.size
      clear hV v0 v1 v2 bV K0 K1 K2 HB1
      refine wp_region_make2 6 zp zp (by kernel_rfl) (by kernel_rfl) (by kernel_rfl) ⟨_, rfl, fun x w => by simp [go_sem, ptr]⟩ ⟨_, rfl, fun x w => by simp [go_sem, ptr]⟩ ?_
      apply Exists.intro
      refine ⟨fun R hR hN => ?_, ?_⟩
      · have a0 := fun z => LaterR.read (R := R) V0.out 0 _ rfl z
        have a1 := fun z => LaterR.read (R := R) V0.out 1 _ rfl z
        have b0 := fun z => LaterR.read (R := R) V1.out 0 _ rfl z
        have b1 := fun z => LaterR.read (R := R) V1.out 1 _ rfl z
        have c0 := fun z => LaterR.read (R := R) V2.out 0 _ rfl z
        have c1 := fun z => LaterR.read (R := R) V2.out 1 _ rfl z
        simp only [List.take_succ_cons, List.take_zero]
        repeat (go_big_quiet_step (first | (go_at_call 9; exact LaterR.calls hR (r8_Half _ _ _))))
        exact wpQuiet_nil rfl
      · intro g3 g4 w2 hb2 h3 h4 l3 l4 n34
        have k3 : Has w2 g3 #[.int .i64 0, .int .i64 0] 35 := h3
        have k4 : Has w2 g4 #[.int .i64 0, .int .i64 0] 35 := h4
        clear h3 h4
        simp only [List.drop_succ_cons, List.drop_zero]
        have c00 := k3.cell 0 _ rfl
        have c01 := k3.cell 1 _ rfl
        have c10 := k4.cell 0 _ rfl
        have c11 := k4.cell 1 _ rfl
        have f0 := has_fro k3
        have f1 := has_fro k4
        have HB2 := Lib.hid hb2
        have K3 := Lib.hid k3
        have K4 := Lib.hid k4
        clear hb2 k3 k4
        obtain ⟨abc, habc⟩ : ∃ p, hvP ab bc = p := ⟨_, rfl⟩
        obtain ⟨bcd, hbcd⟩ : ∃ p, hvP bc cd = p := ⟨_, rfl⟩
        have e1 : hrP ab bc = abc := (hrP_eq rab rbc).trans habc
        have e2 : hrP bc cd = bcd := (hrP_eq rbc rcd).trans hbcd
        rw [e1, e2]
        have rabc : Rg abc := habc ▸ rab.hv rbc
        have rbcd : Rg bcd := hbcd ▸ rbc.hv rcd
        have EABC := Lib.hid (And.intro habc hbcd)
        clear e1 e2 habc hbcd
        go_upto_region 5 with fail
        clear c00 c01 c10 c11 f0 f1
        obtain ⟨U, hU, v3, v4, bU⟩ := put2 K3.out K4.out l3 l4 n34 abc bcd
        rw [hU]
        have BU := Lib.hid (HB2.out.trans bU)
        have U0 := Lib.hid (V0.out.below BU.out V0.out.lt)
        have U2 := Lib.hid (V2.out.below BU.out V2.out.lt)
        have U3 := Lib.hid v3
        have U4 := Lib.hid v4
        have x0 := v3.cell 0 _ rfl
        have x1 := v3.cell 1 _ rfl
        have y0 := v4.cell 0 _ rfl
        have y1 := v4.cell 1 _ rfl
        have sU : Hid (V.heap.size ≤ U.heap.size) := Lib.hid BU.out.size
        have LO := Lib.hid (And.intro l0 (And.intro l2 (And.intro l3 l4)))
        clear hU v3 v4 bU K3 K4 HB2 V0 V1 V2 l0 l1 l2 l3 l4 n01 n02 n12 n34
        go_wp2_with fail
        refine (r8_Half _ _ _).mono ?_
        rintro e w3 ⟨rfl, hq3⟩
        obtain ⟨md, hmd⟩ : ∃ p, hvP abc bcd = p := ⟨_, rfl⟩
        have e1 : hrP abc bcd = md := (hrP_eq rabc rbcd).trans hmd
        rw [e1]
        have rmd : Rg md := hmd ▸ rabc.hv rbcd
        have EM := Lib.hid hmd
        obtain ⟨X, hX⟩ : ∃ X, w3.alloc (.cells (pCells md) 35) = X := ⟨_, rfl⟩
        obtain ⟨gm, hgm⟩ : ∃ g, w3.heap.size = g := ⟨_, rfl⟩
        have bX : Below U.heap.size U X := by rw [← hX]; exact hq3.alloc hq3.size _
        have km : Has X gm (pCells md) 35 := by rw [← hX]; exact has_new hgm
        have sX : U.heap.size ≤ gm := by rw [← hgm]; exact hq3.size
        have bVX : Below V.heap.size V X := BU.out.trans (bX.mono sU.out)
        have bWX : Below W.heap.size W X := BV.out.trans (bVX.mono sV.out)
        have bwX : Below S w X := BW.out.trans (bWX.mono (by have := BW.out.size; have := HS.out; omega))
        have ka := KA.out.below bWX KA.out.lt
        have kd := KD.out.below bWX KD.out.lt
        have kab := U0.out.below bX U0.out.lt
        have kcd := U2.out.below bX U2.out.lt
        have kabc := U3.out.below bX U3.out.lt
        have kbcd := U4.out.below bX U4.out.lt
        have a0 := ka.cell 0 _ rfl
        have KAX := Lib.hid ka
        have KABX := Lib.hid kab
        have KABCX := Lib.hid kabc
        have KMX := Lib.hid km
        have KDX := Lib.hid kd
        have KCDX := Lib.hid kcd
        have KBCDX := Lib.hid kbcd
        have BX := Lib.hid bwX
        have sXX : Hid (S ≤ X.heap.size) := Lib.hid (by have := bwX.size; have := HS.out; omega)
        have HX := Lib.hid hX
        have HT0 : Hid (Ht X X) := Lib.hid (Ht.refl X)
        have S7 := Lib.hid (fun (w' : World) (h : Ht X w') => h.seven ka kab kabc km kbcd kcd kd)
        have C1 := Lib.hid (fun w => r8_bend n a ab abc md w (by omega) ha rab rabc rmd)
        have C2 := Lib.hid (fun w => r8_bend n md bcd cd d w (by omega) rmd rbcd rcd hd)
        have o2 : ((n : Int) + 1 - 1) = (n : Int) := by omega
        have o3 : (n : Int) ≤ 2 := by omega
        have o4 : IntKind.i64.wrap (n : Int) = (n : Int) := IntWalk.i64_in _ ⟨by omega, by omega⟩
        obtain ⟨P2, hP2⟩ : ∃ p, 2 ^ n = p := ⟨_, rfl⟩
        have hP0 : 0 < P2 ∧ P2 ≤ 8 := by
          rw [← hP2]
          rcases (show n = 0 ∨ n = 1 ∨ n = 2 by omega) with rfl | rfl | rfl <;> decide
        rw [hP2] at C1 C2
        have PP := Lib.hid hP0
        have EP := Lib.hid hP2
        clear hP2 hP0 a0 e1 hmd hX bX km sX bVX bWX bwX ka kd kab kcd kabc kbcd x0 x1 y0 y1 hq3 U0 U2 U3 U4 BU BV BW KA KB KC KD HW
        go_upto_region 6 with fail
        rw [HX.out]
        clear hgm
        go_region_held3 (fun w' => Ht X w' ∧ w'.cell? ⟨S, 0, none⟩ = some (.int .i64 a.x) ∧ w'.cell? ⟨S, 1, none⟩ = some (.int .i64 a.y) ∧ w'.cell? ⟨g0, 0, none⟩ = some (.int .i64 ab.x) ∧ w'.cell? ⟨g0, 1, none⟩ = some (.int .i64 ab.y) ∧ w'.cell? ⟨g3, 0, none⟩ = some (.int .i64 abc.x) ∧ w'.cell? ⟨g3, 1, none⟩ = some (.int .i64 abc.y) ∧ w'.cell? ⟨gm, 0, none⟩ = some (.int .i64 md.x) ∧ w'.cell? ⟨gm, 1, none⟩ = some (.int .i64 md.y) ∧ w'.cell? ⟨g4, 0, none⟩ = some (.int .i64 bcd.x) ∧ w'.cell? ⟨g4, 1, none⟩ = some (.int .i64 bcd.y) ∧ w'.cell? ⟨g2, 0, none⟩ = some (.int .i64 cd.x) ∧ w'.cell? ⟨g2, 1, none⟩ = some (.int .i64 cd.y) ∧ w'.cell? ⟨S + 1 + 1 + 1, 0, none⟩ = some (.int .i64 d.x) ∧ w'.cell? ⟨S + 1 + 1 + 1, 1, none⟩ = some (.int .i64 d.y))
          ((go_split_ands; first | exact S7.out _ HT0.out.drew | exact S7.out _ h5 | exact S7.out _ h4 | exact S7.out _ h3))
          (first
            | (have mm := h4; clear mm; refine step_append_pl (base := S) (by rfl) (.tmp 45) (.tmp 52) (by rfl) P2 L4.out (by rfl) gb 0 P2 capb (by rfl) (bendL n md bcd cd d) L5.out PP.out.1 NF.out R5.out O4.out S5.out ?_; intro g' cap' w6 ho6 hg6 hat6; have h5 := Ht.grownR h4 hg6 G6.out)
            | (have mm := h3; clear mm; go_at_call 24; refine (C2.out _).mono ?_; rintro e w5 ⟨gb, capb, rfl, hlb, hob, hbb⟩; have h4 := Ht.call h3 hbb; have L5 := Lib.hid hlb; have R5 := Lib.hid (hob.row (by have := PP.out; omega) (by have := PP.out; omega)); have O4 := Lib.hid (O3.out.below hbb (Nat.le_refl _)); have S5 : Hid (S ≤ w5.heap.size) := Lib.hid (by have := h4.below.size; have := sXX.out; omega))
            | (go_at_call 24; refine (C1.out _).mono ?_; rintro e w4 ⟨ga, capa, rfl, hla, hoa, hba⟩; have h3 := Ht.call HT0.out.drew hba; have L4 := Lib.hid hla; have O3 := Lib.hid (hoa.lower (by have := sXX.out; show S ≤ X.heap.size; omega)); have G6 : Hid (∀ k, Value.ownBlock (.slice (some ⟨ga, 0, none⟩) P2 capa) = some k → X.heap.size ≤ k) := Lib.hid (fun k hk => (hoa.base k hk).1); have NF : Hid (P2 + P2 ≤ 1000) := Lib.hid (by have := PP.out; omega)))
        all_goals
          have ee : bendL n a ab abc md ++ bendL n md bcd cd d = bendL (n + 1) a b c d := by
            show _ = bendL n a (hvP a b) (hvP (hvP a b) (hvP b c)) (hvP (hvP (hvP a b) (hvP b c)) (hvP (hvP b c) (hvP c d))) ++ bendL n (hvP (hvP (hvP a b) (hvP b c)) (hvP (hvP b c) (hvP c d))) (hvP (hvP b c) (hvP c d)) (hvP c d) d
            rw [EAB.out.1, EAB.out.2.1, EAB.out.2.2, EABC.out.1, EABC.out.2, EM.out]
          rw [ee] at ho6
          have RR : Lsn w (2 ^ (n + 1)) (bendL (n + 1) a b c d) (.returned (.slice (some ⟨g', 0, none⟩) (P2 + P2) cap')) w6 := by
            have q := HS.out
            have e2 : 2 ^ (n + 1) = P2 + P2 := by rw [Nat.pow_succ, EP.out]; omega
            refine ⟨g', cap', by rw [e2], bendL_length _ _ _ _ _, by rw [e2, q]; exact ho6, ?_⟩
            rw [q]
            exact BX.out.trans (h5.below.mono sXX.out)
          have RRH := Lib.hid RR
          clear RR ho6 hg6 hat6 ee
          go_wp2
          go_ret
          exact RRH.out

end Go.Proofs.Ytegckonhfdlbbaa
