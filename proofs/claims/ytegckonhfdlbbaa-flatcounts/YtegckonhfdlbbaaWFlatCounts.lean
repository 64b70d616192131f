/- The walk of mutoscopelaw8.FlatCounts: it returns true; of the memory nothing that was there turns. No condition. -/
import Derived.Test.YtegckonhfdlbbaaK8
import Derived.Test.YtegckonhfdlbbaaTB7
namespace Go.Proofs.Ytegckonhfdlbbaa
open Go Go.RowKit
open M

theorem okP_sm {c : Bool} {ps : List Pt} {n : Nat} (hl : ps.length = 3 * n + 1) (h1 : 1 ≤ n) (h2 : n ≤ 32) (hs : Small ps) : okP c ps = true := by
  rw [okP_pos (by omega), hs.near, Bool.and_true]
  simp [okLen]
  omega
theorem Pown.capOk {w : World} {B : Nat} {v : Value} {ps : List Pt} (h : Pown w B v ps) : capOk v := by
  rcases h.2 with ⟨rfl, _⟩ | ⟨g, cap, cur, rfl, _, _, h1, _⟩
  · exact Nat.le_refl _
  · exact h1

set_option maxRecDepth 100000 in
set_option maxHeartbeats 4000000 in
theorem flatCounts_walk {w : World} (l1 : Value) (_ : Unit) (hN1 : Nums w l1) :
    Calls Try.prog 5 #[l1] w fun r w' => r = .returned (.bool true) ∧ Below w.heap.size w w' := by
  obtain ⟨B, hB⟩ : ∃ B, w.heap.size = B := ⟨_, rfl⟩
  obtain ⟨W, hW⟩ : ∃ W, w.alloc (.cells #[l1, .int .i64 0] 25) = W := ⟨_, rfl⟩
  have hb0 : Below w.heap.size w W := by rw [← hW]; exact (Below.refl _ _).alloc (Nat.le_refl _) _
  have T1 : Tp W B l1 := tp_start hN1 (by rw [← hW]; exact has_new hB) hb0 (by omega)
  have sz0 : W.heap.size = B + 1 := by rw [← hW]; simp [hB]
  rw [hB] at hb0
  obtain ⟨a1, n1, c1, rfl⟩ := hN1.shape
  have HB := Lib.hid hB
  have HW := Lib.hid hW
  have HB0 := Lib.hid hb0
  have HT1 := Lib.hid T1
  clear hb0 T1 hW hN1
  go_enter Try.func5, Try.ntmps5
  go_wp2_with fail
  rw [HW.out]
  clear hB
  refine (t_next B _ 6 _ (by omega) (by omega) HT1.out).mono ?_
  rintro e w1 ⟨x', rfl, x0, x1, ht, hg⟩
  obtain ⟨n, hn⟩ : ∃ n : Nat, (n : Int) = 1 + x' := ⟨(1 + x').toNat, by omega⟩
  have HT1a := Lib.hid ht
  have HB1 := Lib.hid (below_on HB0.out hg (by omega) (by omega))
  have sz1 : B + 1 ≤ w1.heap.size := by have := hg.size; omega
  have hn6 : n ≤ 6 := by omega
  have hn1 : 1 ≤ n := by omega
  have HN := Lib.hid hn
  clear ht hg HT1 HB0 sz0
  go_wp2_with fail
  rw [← HN.out]
  clear hn x0 x1 HN
  refine (t_next B _ 2 _ (by omega) (by omega) HT1a.out).mono ?_
  rintro e w2 ⟨z, rfl, z0, z1, ht, hg⟩
  obtain ⟨c, hc⟩ : ∃ c : Bool, (z == 0) = c := ⟨_, rfl⟩
  have HT2 := Lib.hid ht
  have HB2 := Lib.hid (below_on HB1.out hg (by omega) (by omega))
  have sz2 : B + 1 ≤ w2.heap.size := by have := hg.size; omega
  clear ht hg HT1a HB1 z0 z1
  go_wp2_with fail
  clear hc
  refine (t_path B _ n c _ (by omega) HT2.out).mono ?_
  rintro e w3 ⟨vp, ps, rfl, hl, sm, ho, ht, hg⟩
  have HB3 := Lib.hid (below_on HB2.out hg (by omega) (by omega))
  have sz3 : B + 1 ≤ w3.heap.size := by have := hg.size; omega
  have SM := Lib.hid sm
  obtain ⟨N, hN⟩ : ∃ N, ps.length = N := ⟨_, rfl⟩
  have eN : N = 3 * n + 1 := by omega
  obtain ⟨aa, ca, rfl⟩ := ho.len
  rw [hN] at ho ⊢
  have CK := Lib.hid ho.capOk
  obtain ⟨s, hs⟩ : ∃ s, w3.heap.size = s := ⟨_, rfl⟩
  obtain ⟨V, hV⟩ : ∃ V, w3.alloc (.cells #[.bool c, .slice aa N ca] 29) = V := ⟨_, rfl⟩
  have KA : Has V s #[.bool c, .slice aa N ca] 29 := by rw [← hV]; exact has_new hs
  have PA : Psl V (.slice aa N ca) ps := by rw [← hV]; exact (ho.sl (by omega)).alloc _
  have BV : Below B w V := by rw [← hV]; exact HB3.out.alloc (by omega) _
  have OK : Hid (flatL c ps = polyN ps n) := Lib.hid (by
    rw [flatL_yes (by rw [okP_sm (n := n) (by omega) (by omega) (by omega) sm]; rintro (h | h); omega; cases h)]
    congr 1
    omega)
  have XKA := Lib.hid KA
  have XPA := Lib.hid PA
  have XBV := Lib.hid BV
  have HV := Lib.hid hV
  have HLN := Lib.hid hN
  have EN := Lib.hid eN
  have N4 : 4 ≤ N := by omega
  have szs : B + 1 ≤ s := by omega
  have N20 : N ≤ 20 := by omega
  clear eN ht hg ho sm HT2 HB2 KA PA BV hV hN hl HB3
  go_upto_region 3 with fail
  rw [HV.out]
  have a0 := XKA.out.cell 0 _ rfl
  have a1 := XKA.out.cell 1 _ rfl
  clear hs
  go_wp2_with fail
  refine (f_of c XPA.out CK.out).mono ?_
  rw [OK.out]
  rintro e w4 ⟨vf, rfl, hof, hq⟩
  obtain ⟨F, hF⟩ : ∃ F, (polyN ps n).length = F := ⟨_, rfl⟩
  have pl := polyN_length ps n
  rw [hF] at pl
  obtain ⟨gf, cf, rfl⟩ := hof.shape (by omega)
  rw [hF] at hof ⊢
  obtain ⟨U, hU⟩ : ∃ U, w4.alloc (.cells #[.bool c, .slice (some ⟨gf, 0, none⟩) F cf] 43) = U := ⟨_, rfl⟩
  obtain ⟨t, ht⟩ : ∃ t, w4.heap.size = t := ⟨_, rfl⟩
  have kf : Has U t #[.bool c, .slice (some ⟨gf, 0, none⟩) F cf] 43 := by rw [← hU]; exact has_new ht
  have kp : Has U s #[.bool c, .slice aa N ca] 29 := by rw [← hU]; exact (XKA.out.below hq XKA.out.lt).alloc _
  have pp : Psl U (.slice aa N ca) ps := by rw [← hU]; exact (XPA.out.below hq (Nat.le_refl _)).alloc _
  have pf : Prow U gf 0 (polyN ps n) := by
    rw [← hU]
    exact (Pown.alloc hof _).row (by omega) (by omega)
  have sV : B + 1 ≤ V.heap.size := by have := XKA.out.lt; have := XBV.out.size; have := HB.out; omega
  have bU : Below B w U := by rw [← hU]; exact (XBV.out.trans (hq.mono (by omega))).alloc (by have := hq.size; omega) _
  obtain ⟨gp, op, rfl, rp, _⟩ := pp.row (by omega)
  have KF := Lib.hid kf
  have KP := Lib.hid kp
  have RP := Lib.hid rp
  have RF := Lib.hid pf
  have BU := Lib.hid bU
  have HU := Lib.hid hU
  have HF := Lib.hid hF
  clear kf kp pp pf rp bU hU hof hq a0 a1 XKA XPA XBV HV OK CK hF
  go_upto_region 4 with fail
  rw [HU.out]
  clear ht
  have f0 := KF.out.cell 0 _ rfl
  have f1 := KF.out.cell 1 _ rfl
  have p0 := KP.out.cell 0 _ rfl
  have p1 := KP.out.cell 1 _ rfl
  have x0 := RP.out.c0 0 (by have := HLN.out; omega)
  have x1 := RP.out.c1 0 (by have := HLN.out; omega)
  have y0 := RF.out.c0 0 (by have := HF.out; omega)
  have y1 := RF.out.c1 0 (by have := HF.out; omega)
  rw [polyN_pre ps n (Nat.zero_le _) 0 (by simp [polyN]), show pt (polyN ps 0) 0 = pt ps 0 from rfl] at y0 y1
  simp only [Nat.zero_mul, Nat.add_zero, Nat.zero_add] at x0 x1 y0 y1
  have o1 : ((F : Int) == 0) = false := eqz (by omega)
  have o2 : 0 < F := by omega
  have o3 : 0 < N := by omega
  go_quiet (fail)
  clear f0 f1 p0 p1 x0 x1 y0 y1 o1
  obtain ⟨X, hX⟩ : ∃ X, U.drewN nq = X := ⟨_, rfl⟩
  have BX : Hid (Below U.heap.size U X) := Lib.hid (by rw [← hX]; exact below_drewN (Below.refl _ _) nq)
  rw [hX]
  clear hX
  have sU : Hid (B + 1 ≤ U.heap.size) := Lib.hid (by have := KP.out.lt; omega)
  go_wp2
  go_loopw [6, 7, 8] (fun at_ i _ wr => ∃ k I A : Nat, k ≤ n ∧ 3 * k = I ∧ (polyN ps k).length = A + 1 ∧ at_ = .int .i64 A ∧ i = .int .i64 I ∧ Below U.heap.size U wr) (fun _ i _ _ => 100 - (intOf i).toNat)
  case atStart => exact ⟨0, 0, 0, by omega, rfl, rfl, rfl, rfl, BX.out⟩
  case round =>
    clear BX
    obtain ⟨k, I, A, hk, hI, hA, rfl, rfl, hb⟩ := hrel
    have kf := KF.out.below hb KF.out.lt
    have kp := KP.out.below hb KP.out.lt
    have p1 := kp.cell 1 _ rfl
    have f1 := kf.cell 1 _ rfl
    by_cases hlt : k < n
    · have rp := RP.out.block (hb.block _ (RP.out.lt (by have := HLN.out; omega)))
      have rf := RF.out.block (hb.block _ (RF.out.lt (by have := HF.out; omega)))
      have e1 := EN.out
      have e2 := HLN.out
      have xa0 := rp.c0 I (by omega)
      have xa1 := rp.c1 I (by omega)
      have xb0 := rp.c0 (I + 1) (by omega)
      have xb1 := rp.c1 (I + 1) (by omega)
      have xc0 := rp.c0 (I + 2) (by omega)
      have xc1 := rp.c1 (I + 2) (by omega)
      have xd0 := rp.c0 (I + 3) (by omega)
      have xd1 := rp.c1 (I + 3) (by omega)
      obtain ⟨a, pa⟩ : ∃ p, pt ps I = p := ⟨_, rfl⟩
      obtain ⟨b, pb⟩ : ∃ p, pt ps (I + 1) = p := ⟨_, rfl⟩
      obtain ⟨cc, pc⟩ : ∃ p, pt ps (I + 2) = p := ⟨_, rfl⟩
      obtain ⟨d, pd⟩ : ∃ p, pt ps (I + 3) = p := ⟨_, rfl⟩
      rw [pa] at xa0 xa1
      rw [pb] at xb0 xb1
      rw [pc] at xc0 xc1
      rw [pd] at xd0 xd1
      have hgr := polyN_grow ps k
      rw [hI, pa, pb, pc, pd, hA] at hgr
      have hle := polyN_le ps n (show k + 1 ≤ n by omega)
      have hlast := polyN_last ps (k + 1)
      have hpre := polyN_pre ps n (show k + 1 ≤ n by omega)
      obtain ⟨M, hM⟩ : ∃ M, (partL a b cc d).length = M := ⟨_, rfl⟩
      rw [hM] at hgr
      have hpos := (partL_pos a b cc d)
      rw [hM] at hpos
      have hAF : A + M < F := by have := HF.out; omega
      have hd : pt (polyN ps n) (A + M) = d := by
        have e : (polyN ps (k + 1)).length - 1 = A + M := by omega
        rw [hpre (A + M) (by omega), ← e, hlast, ← pd]
        congr 1
        omega
      have yf0 := rf.c0 (A + M) (by have := HF.out; omega)
      have yf1 := rf.c1 (A + M) (by have := HF.out; omega)
      rw [hd] at yf0 yf1
      simp only [Nat.zero_add] at yf0 yf1
      have HB9 := Lib.hid hb
      have ST : Hid (k + 1 ≤ n ∧ 3 * (k + 1) = I + 3 ∧ (polyN ps (k + 1)).length = A + M + 1) := Lib.hid ⟨by omega, by omega, by omega⟩
      have i3 : I + 3 < N := by omega
      have j3 : (I : Int) + 3 < N := by omega
      have AB : A ≤ 1000 := by have := pl; omega
      have EM := Lib.hid hM
      clear hgr hle hlast hpre hd hpos hb kf kp rp rf pa pb pc pd hI hA e1 e2
      by_cases hst : b = a ∧ cc = d
      · obtain ⟨rfl, rfl⟩ := hst
        have e : M = 1 := by rw [← hM]; unfold partL; rw [if_pos ⟨rfl, rfl⟩]; rfl
        subst e
        clear hM EM
        have o5 : (A : Int) + 1 < F := by omega
        have o6 : ¬ ((F : Int) ≤ (A : Int) + 1) := by omega
        have o7 : decide ((F : Int) ≤ (A : Int) + 1) = false := by simp; omega
        go_wp2
        go_quiet (fail)
        have HY := Lib.hid (below_drewN HB9.out nq)
        go_wp2
        go_quiet (fail)
        have HZ := Lib.hid (below_drewN HY.out nq)
        go_wp2
        go_roundw
        case rel => exact ⟨k + 1, I + 3, A + 1, ST.out.1, ST.out.2.1, ST.out.2.2, by go_num, by go_num, below_drewN HB9.out _⟩
        case measure => simp [intOf]; omega
      · have e : M = 8 := by rw [← hM]; unfold partL; rw [if_neg hst, bendL_length]
        subst e
        have NE : a.x ≠ b.x ∨ (a.x = b.x ∧ a.y ≠ b.y) ∨ (a.x = b.x ∧ a.y = b.y ∧ cc.x ≠ d.x) ∨ (a.x = b.x ∧ a.y = b.y ∧ cc.x = d.x ∧ cc.y ≠ d.y) := by
          obtain ⟨ax, ay⟩ := a
          obtain ⟨bx, bY⟩ := b
          obtain ⟨cx, cy⟩ := cc
          obtain ⟨dx, dy⟩ := d
          simp only [Pt.mk.injEq] at hst ⊢
          omega
        clear hM EM hst
        have o5 : (A : Int) + 8 < F := by omega
        have o6 : ¬ ((F : Int) ≤ (A : Int) + 8) := by omega
        have o7 : decide ((F : Int) ≤ (A : Int) + 8) = false := by simp; omega
        rcases NE with h | ⟨h, h2⟩ | ⟨h, h2, h3⟩ | ⟨h, h2, h3, h4⟩
        all_goals
          go_wp2
          go_quiet (fail)
          have HY := Lib.hid (below_drewN HB9.out nq)
          clear h
          try clear h2
          try clear h3
          try clear h4
          go_wp2
          refine wp_region_quiet_lit (by kernel_rfl) (by kernel_rfl) ?_
          repeat (go_big_quiet_step (fail))
          refine wpQuiet_nil ?_
          rintro _ ⟨nq, rfl⟩
          have HZ := Lib.hid (below_drewN HY.out nq)
          go_wp2
          go_roundw
          case rel => exact ⟨k + 1, I + 3, A + 8, ST.out.1, ST.out.2.1, ST.out.2.2, by go_num, by go_num, below_drewN HB9.out _⟩
          case measure => simp [intOf]; omega
    · obtain rfl : k = n := by omega
      have hF2 : A + 1 = F := by rw [← hA]; exact HF.out
      have o4 : ¬ (I : Int) + 3 < N := by have := EN.out; omega
      have I9 : (I : Int) ≤ 1000 := by omega
      have o5 : (F : Int) - 1 = A := by omega
      have B9 : Hid (Below B w wr) := Lib.hid (BU.out.trans (hb.mono (by have := sU.out; omega)))
      have s9 : Hid (B ≤ wr.heap.size) := Lib.hid (by have := hb.size; have := sU.out; omega)
      have F9 : F ≤ 1000 := by have := pl; omega
      clear hb kf kp hA hI
      go_wp2_with fail
      refine (known8 _).mono ?_
      rintro e w8 ⟨rfl, hq8⟩
      have B8 : Hid (Below B w w8) := Lib.hid (B9.out.trans (hq8.mono s9.out))
      clear hq8
      go_wp2
      go_ret
      exact ⟨rfl, by rw [HB.out]; exact B8.out⟩

end Go.Proofs.Ytegckonhfdlbbaa
