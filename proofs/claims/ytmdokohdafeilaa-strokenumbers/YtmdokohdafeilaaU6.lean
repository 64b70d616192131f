/- Contracts of stroke.sides and of the reference's lines: for all polys what the plain arithmetic says, in memory of their own; of the memory nothing that was there turns. -/
import Derived.Test.YtmdokohdafeilaaU5
import Derived.Test.YtmdokohdafeilaaGen
import Derived.Test.YtmdokohdafeilaaVar
namespace Go.Proofs.Ytmdokohdafeilaa
open Go Go.RowKit
open M

theorem infoSide : LnInfo 65 50 := ⟨by kernel_rfl, Try.underlying50⟩
theorem infoLine : LnInfo 59 56 := ⟨by kernel_rfl, Try.underlying56⟩
theorem dv_in (a b : Int) : -1099511627776 ≤ dv a b ∧ dv a b ≤ 1099511627776 := by
  unfold dv
  split
  · omega
  · exact ⟨hold_lo _, hold_hi _⟩

set_option maxRecDepth 100000 in
set_option maxHeartbeats 4000000 in
theorem s_sides (c : Bool) {v : Value} {ps : List Pt} {w : World} (h : Int) (hp : Psl w v ps) (h900 : ps.length ≤ 900) :
    Calls Try.prog 23 #[.agg #[.bool c, v], .int .i64 h] w (GivesLn 65 w (linesL c ps h)) := by
  obtain ⟨B, hB⟩ : ∃ B, w.heap.size = B := ⟨_, rfl⟩
  obtain ⟨W, hW⟩ : ∃ W, w.alloc (.cells #[.bool c, v] 24) = W := ⟨_, rfl⟩
  have ha : Has W B #[.bool c, v] 24 := by rw [← hW]; exact has_new hB
  have hbl : Below w.heap.size w W := by rw [← hW]; exact (Below.refl _ _).alloc (Nat.le_refl _) _
  have sW : W.heap.size = B + 1 := by rw [← hW]; simp [hB]
  have hs := hp.below hbl (Nat.le_refl _)
  obtain ⟨ao, cap, rfl, hf, _⟩ := hp
  obtain ⟨N, hN⟩ : ∃ N, ps.length = N := ⟨_, rfl⟩
  obtain ⟨M, hM⟩ : ∃ M, sidesN c N = M := ⟨_, rfl⟩
  have hMN : M ≤ N := hM ▸ sidesN_le c N
  rw [hN] at hf hs ha hW h900 ⊢
  have EL : Hid (linesL c ps h = linesN ps h M) := Lib.hid (by unfold linesL; rw [hN, hM])
  have SD : Hid (∀ w : World, Calls Try.prog 35 #[.agg #[.bool c, .slice ao N cap]] w fun r w' => r = .returned (.int .i64 (M : Int)) ∧ Below w.heap.size w w') := Lib.hid (fun w => by have := a_sides c ao N cap hf w; rw [hM] at this; exact this)
  have HA := Lib.hid ha
  have HBL := Lib.hid hbl
  have HS := Lib.hid hs
  have HW := Lib.hid hW
  have HN := Lib.hid hN
  have HB := Lib.hid hB
  have SW := Lib.hid sW
  clear ha hbl hs hW hN hM sW
  go_enter Try.func23, Try.ntmps23
  go_upto_region 1 with fail
  rw [HW.out]
  clear hB
  have a0 := HA.out.cell 0 _ rfl
  have a1 := HA.out.cell 1 _ rfl
  go_wp2_with fail
  refine (SD.out _).mono ?_
  rintro e w1 ⟨rfl, hq1⟩
  have HQ1 := Lib.hid hq1
  clear hq1 a0 a1
  go_wp2_with fail
  go_loopw [5, 16] (fun o i wr => ∃ n : Nat, n ≤ M ∧ i = .int .i64 n ∧ Lown 65 wr (B + 1) o (linesN ps h n) ∧ Below W.heap.size W wr) (fun _ i _ => M - (intOf i).toNat)
  case atStart => exact ⟨0, by omega, rfl, Lown.nil _ _ _, HQ1.out⟩
  case round =>
    obtain ⟨n, hn, rfl, ho, hb⟩ := hrel
    have HO := Lib.hid ho
    have BR := Lib.hid hb
    obtain ⟨K, hK⟩ : ∃ K, (linesN ps h n).length = K := ⟨_, rfl⟩
    have hKn : K ≤ n := by rw [← hK]; exact linesN_length ps h n
    obtain ⟨al, cl, el⟩ := ho.len
    rw [hK] at el
    subst el
    have HK := Lib.hid hK
    clear ho hb hK
    by_cases hlt : n < M
    · have o3 : (n : Int) < M := by omega
      have o5 : (n : Int) < N := by omega
      have o4 : ¬ (N : Int) = 0 := by omega
      obtain ⟨g, o, e1, row⟩ : ∃ g o, ao = some ⟨g, o, none⟩ ∧ Prow wr g o ps := by
        obtain ⟨ao', cap', hv, _, hr⟩ := HS.out.below BR.out (Nat.le_refl _)
        simp at hv
        obtain ⟨rfl, _⟩ := hv
        exact hr (by have := HN.out; omega)
      subst e1
      obtain ⟨j, hj⟩ : ∃ j, nxt N n = j := ⟨_, rfl⟩
      have hjl : j < N := by rw [← hj]; exact nxt_lt (by omega)
      have hmod : Int.tmod ((n : Int) + 1) (N : Int) = (j : Int) := by rw [nxt_mod (by omega), hj]
      have hmod' : ((n : Int) + 1) % (N : Int) = (j : Int) := by rw [← hmod, Int.tmod_eq_emod_of_nonneg (by omega)]
      have oj : (j : Int) < N := by omega
      obtain ⟨p, hpn⟩ : ∃ p, pt ps n = p := ⟨_, rfl⟩
      obtain ⟨q, hqj⟩ : ∃ q, pt ps j = q := ⟨_, rfl⟩
      have ESA : Hid (sa ps n = plc p) := Lib.hid (by unfold sa; rw [hpn])
      have ESB : Hid (sb ps n = plc q) := Lib.hid (by unfold sb; rw [HN.out, hj, hqj])
      have PX : Hid (∀ (R : World → Prop) (z : LaterR wr R), (z.to.cell? ⟨g, o + n * 2, none⟩ = some (.int .i64 p.x) ∧ z.to.cell? ⟨g, o + n * 2 + 1, none⟩ = some (.int .i64 p.y)) ∧ (z.to.cell? ⟨g, o + j * 2, none⟩ = some (.int .i64 q.x) ∧ z.to.cell? ⟨g, o + j * 2 + 1, none⟩ = some (.int .i64 q.y))) := Lib.hid (fun R z => ⟨row.laterR (by have := HN.out; omega) hpn z, row.laterR (by have := HN.out; omega) hqj z⟩)
      have KA := Lib.hid (HA.out.below BR.out HA.out.lt)
      clear row hpn hqj hj
      go_upto_region 5 with fail
      refine wp_region_make2 17 zq zq (by kernel_rfl) (by kernel_rfl) (by kernel_rfl) ⟨_, rfl, fun x w => by simp [go_sem, ptr]⟩ ⟨_, rfl, fun x w => by simp [go_sem, ptr]⟩ ?_
      apply Exists.intro
      refine ⟨fun R hR hN => ?_, ?_⟩
      · have y1 := fun z => LaterR.read (R := R) KA.out 1 _ rfl z
        have a0 := fun z => (PX.out R z).1.1
        have a1 := fun z => (PX.out R z).1.2
        have b0 := fun z => (PX.out R z).2.1
        have b1 := fun z => (PX.out R z).2.2
        simp only [List.take_succ_cons, List.take_zero]
        repeat (go_big_quiet_step (first | (go_at_call 26; exact LaterR.calls hR (s_placed _ _))))
        exact wpQuiet_nil rfl
      · intro g3 g4 w2 hb2 h3 h4 l3 l4 n34
        have k3 : Has w2 g3 #[.int .i64 0, .int .i64 0] 31 := h3
        have k4 : Has w2 g4 #[.int .i64 0, .int .i64 0] 31 := h4
        clear h3 h4
        simp only [List.drop_succ_cons, List.drop_zero]
        have c00 := k3.cell 0 _ rfl
        have c01 := k3.cell 1 _ rfl
        have c10 := k4.cell 0 _ rfl
        have c11 := k4.cell 1 _ rfl
        have f0 := has_fro k3
        have f1 := has_fro k4
        obtain ⟨a1, a2, a3, a4⟩ := pld_plc p
        obtain ⟨b1, b2, b3, b4⟩ := pld_plc q
        obtain ⟨pa, ha⟩ : ∃ a, plc p = a := ⟨_, rfl⟩
        obtain ⟨pb, hb⟩ : ∃ a, plc q = a := ⟨_, rfl⟩
        rw [ha] at a1 a2 a3 a4 ESA ⊢
        rw [hb] at b1 b2 b3 b4 ESB ⊢
        obtain ⟨U, hU, u0, u1, bU⟩ := pair2 k3 k4 l3 l4 n34 hb2 pa pb
        have HU := Lib.hid hU
        have BU := Lib.hid (BR.out.trans (bU.mono BR.out.size))
        have OU := Lib.hid (HO.out.below bU (Nat.le_refl _))
        have U0 := Lib.hid u0
        have U1 := Lib.hid u1
        obtain ⟨ax, ay⟩ := pa
        obtain ⟨bx, bY⟩ := pb
        simp only at a1 a2 a3 a4 b1 b2 b3 b4
        clear hU u0 u1 bU k3 k4 ha hb hb2 l3 l4
        go_upto_region 6 with fail
        rw [HU.out]
        clear c00 c01 c10 c11 f0 f1
        have x0 := U0.out.cell 0 _ rfl
        have x1 := U0.out.cell 1 _ rfl
        have y0 := U1.out.cell 0 _ rfl
        have y1 := U1.out.cell 1 _ rfl
        go_region
        clear x0 x1 y0 y1
        obtain ⟨len, hlen⟩ : ∃ l, sideL ps n = l := ⟨_, rfl⟩
        have HY := Lib.hid (fun w => q_hyp (bx - ax) (bY - ay) w)
        have el : hyp (bx - ax) (bY - ay) = len := by rw [← hlen]; unfold sideL longP; rw [ESA.out, ESB.out]
        rw [el] at HY
        have l0 := sideL_lo ps n
        have l9 := sideL_hi ps n
        rw [hlen] at l0 l9
        have HLEN := Lib.hid hlen
        clear el hlen
        go_wp2_with fail
        refine (HY.out _).mono ?_
        rintro e w3 ⟨rfl, rfl⟩
        by_cases hz : len = 0
        · have E1 : Hid (linesN ps h (n + 1) = linesN ps h n) := Lib.hid (linesN_no (by rw [HLEN.out]; omega))
          have BD := Lib.hid (below_drew BU.out)
          have OD : Hid (Lown 65 U.drew (B + 1) (.slice al K cl) (linesN ps h n)) := Lib.hid OU.out
          go_wp2
          go_roundw
          case rel => exact ⟨n + 1, by omega, by go_num, by rw [E1.out]; exact OD.out, BD.out⟩
          case measure => simp [intOf]; omega
        · obtain ⟨Z, hZ⟩ : ∃ Z, U.drew = Z := ⟨_, rfl⟩
          rw [hZ]
          have bZ : Below U.heap.size U Z := by rw [← hZ]; exact below_drew (Below.refl _ _)
          obtain ⟨du, hdu⟩ : ∃ d, dv (bx - ax) len = d := ⟨_, rfl⟩
          obtain ⟨dw, hdw⟩ : ∃ d, dv (bY - ay) len = d := ⟨_, rfl⟩
          have D1 := Lib.hid (fun w => drawnB (q_div (bx - ax) len w))
          have D2 := Lib.hid (fun w => drawnB (q_div (bY - ay) len w))
          rw [hdu] at D1
          rw [hdw] at D2
          obtain ⟨w1, w2'⟩ := dv_in (bY - ay) len
          rw [hdw] at w1 w2'
          have EY : Hid (linesN ps h (n + 1) = linesN ps h n ++ [⟨⟨ax, ay⟩, ⟨bx, bY⟩, ⟨mul du h, mul dw h⟩, ⟨mul (-dw) h, mul du h⟩⟩]) := Lib.hid (by
            rw [linesN_yes (by rw [HLEN.out]; omega)]
            unfold lnOf
            rw [HLEN.out, ESA.out, ESB.out]
            simp only
            rw [hdu, hdw])
          have BZ := Lib.hid bZ
          clear hZ bZ hdu hdw
          go_wp2_with fail
          refine (D1.out _).mono ?_
          rintro e w5 ⟨rfl, hb5⟩
          have B5 := Lib.hid (BZ.out.trans (hb5.mono BZ.out.size))
          clear hb5
          go_wp2_with fail
          refine (D2.out _).mono ?_
          rintro e w6 ⟨rfl, hb6⟩
          have b6 : Below U.heap.size U w6 := B5.out.trans (hb6.mono B5.out.size)
          have K3 := Lib.hid (U0.out.below b6 U0.out.lt)
          have K4 := Lib.hid (U1.out.below b6 U1.out.lt)
          have O6 := Lib.hid (OU.out.below b6 (Nat.le_refl _))
          have B6 := Lib.hid (BU.out.trans (b6.mono BU.out.size))
          clear hb6 b6
          go_upto_region 10 with fail
          refine wp_region_gen 20 [19] [] [0, 0, 0, 0, 0, 0, 0, 0, 0, 0, 0, 0, 0, 0, 0, 0, 0, 0, 0, 1] (by kernel_rfl) (by kernel_rfl) (fun c a d v w h => by cases d <;> exact h) trivial (fun Gm w' => ∀ v, Gm 19 = some v → OneL 65 w6.heap.size ⟨⟨ax, ay⟩, ⟨bx, bY⟩, ⟨mul du h, mul dw h⟩, ⟨mul (-dw) h, mul du h⟩⟩ v w') (fun Gm w w' h hb v hv => (h v hv).stay hb) (fun v hv => by cases hv) ?_
          apply Exists.intro
          refine ⟨fun R hR hN => ?_, ?_, ?_⟩
          · have A0 := fun z => LaterR.read (R := R) K3.out 0 _ rfl z
            have A1 := fun z => LaterR.read (R := R) K3.out 1 _ rfl z
            have B0 := fun z => LaterR.read (R := R) K4.out 0 _ rfl z
            have B1 := fun z => LaterR.read (R := R) K4.out 1 _ rfl z
            simp only [quietL, takeA]
            repeat (go_big_quiet_step (first | (go_at_call 38; exact LaterR.calls hR (still (q_mul _ _ _)))))
            exact wpQuiet_nil rfl
          · intro i oo hi ho
            obtain rfl : i = 19 := by simpa using hi
            cases ho
            intro Gm w' hG hGn hdep hb hR
            refine ⟨rfl, gives_none (by kernel_rfl) hGn ?_⟩
            unfold gives
            simp [go_sem]
            refine ⟨hb.alloc hb.size _, fun v hv => ?_⟩
            rw [updV_eq] at hv
            cases hv
            exact ⟨_, rfl, hb.size, has_new0⟩
          · intro Gm w' hb hR hG hN
            obtain ⟨v9, e9⟩ := hG 19 (by simp)
            obtain ⟨gp, rfl, lp, kp⟩ := hR v9 e9
            have nn : ∀ j, j < 19 → Gm j = none := fun j hj => hN j (by simp; omega)
            simp only [putV, dstAt, e9, nn 0 (by decide), nn 1 (by decide), nn 2 (by decide), nn 3 (by decide), nn 4 (by decide), nn 5 (by decide), nn 6 (by decide), nn 7 (by decide), nn 8 (by decide), nn 9 (by decide), nn 10 (by decide), nn 11 (by decide), nn 12 (by decide), nn 13 (by decide), nn 14 (by decide), nn 15 (by decide), nn 16 (by decide), nn 17 (by decide), nn 18 (by decide), List.drop_succ_cons, List.drop_zero, List.getElem?_cons_succ, List.getElem?_cons_zero, Option.bind_some]
            have OZ := Lib.hid (O6.out.below hb (Nat.le_refl _))
            have BB := Lib.hid (B6.out.trans (hb.mono B6.out.size))
            have KP := Lib.hid kp
            have SB : Hid (B + 1 ≤ w'.heap.size) := Lib.hid (by have := BB.out.size; have := SW.out; omega)
            have L1 : Hid (K ≤ 1000000) := Lib.hid (by omega)
            clear hb hR hG hN nn e9 kp
            go_wp2_with (at_builtin; refine wpList_append_ln infoSide rfl _ _ rfl K HK.out rfl gp rfl ⟨⟨ax, ay⟩, ⟨bx, bY⟩, ⟨mul du h, mul dw h⟩, ⟨mul (-dw) h, mul du h⟩⟩ _ KP.out rfl OZ.out L1.out SB.out ?_)
            intro g' cap' w7 ho7 hg7
            have O7 : Hid (Lown 65 w7 (B + 1) (.slice (some ⟨g', 0, none⟩) (K + 1) cap') (linesN ps h (n + 1))) := Lib.hid (by rw [EY.out]; exact ho7)
            have B7 : Hid (Below W.heap.size W w7) := Lib.hid (BB.out.grown hg7 BB.out.size (fun k hk => by have := (OZ.out.base k hk).1; have := SW.out; omega))
            clear ho7 hg7
            go_wp2
            go_roundw
            case rel => exact ⟨n + 1, by omega, by go_num, O7.out, B7.out⟩
            case measure => simp [intOf]; omega
    · obtain rfl : n = M := by omega
      have o3 : ¬ (n : Int) < n := by omega
      have R : Hid (GivesLn 65 w (linesL c ps h) (.returned (.slice al K cl)) wr) := Lib.hid ⟨_, rfl, by rw [EL.out]; exact HO.out.lower (by have := HB.out; omega), HBL.out.trans (BR.out.mono HBL.out.size)⟩
      go_wp2
      go_ret
      exact R.out

end Go.Proofs.Ytmdokohdafeilaa
