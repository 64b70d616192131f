/- The walk of mutoscopelaw7.PathMaps: it returns true; of the memory nothing that was there turns. No condition. -/
import Derived.Test.YtdpfkhliechkhaaTB7
import Derived.Test.YtdpfkhliechkhaaPP
import Derived.Test.YtdpfkhliechkhaaRD3
import Derived.Test.YtdpfkhliechkhaaPV
namespace Go.Proofs.Ytdpfkhliechkhaa
open Go.RowKit
open M

theorem made_moves {a b : Int} (a1 : -67108863 ≤ a) (a2 : a ≤ 67108863) (b1 : -67108863 ≤ b) (b2 : b ≤ 67108863) (w : World) :
    Calls Try.prog 18 #[.int .i64 a, .int .i64 b, .int .i64 0, .int .i64 0, .int .i64 65536, .int .i64 65536, .int .i64 0] w fun r w' => r = .returned (.agg (mCells 65536 0 0 65536 a b)) ∧ Below w.heap.size w w' := by
  have h := r3_made a b 0 0 65536 65536 0 w
  have e0 : add 0 0 = 0 := by decide
  have e1 : add a (-0) = a := by rw [Int.neg_zero, add_in (by omega) (by omega) (by omega) (by omega) (by omega) (by omega)]; omega
  have e2 : add b (-0) = b := by rw [Int.neg_zero, add_in (by omega) (by omega) (by omega) (by omega) (by omega) (by omega)]; omega
  rw [show mul (cos 0) 65536 = 65536 by decide, show mul (sin 0) 65536 = 0 by decide, show mul (-sin 0) 65536 = 0 by decide, mul_none_r, mul_none_r, e0, e1, e2] at h
  exact h
theorem mapL_move {ps : List Pt} {a b : Int} (h : Small ps) (a1 : -67108863 ≤ a) (a2 : a ≤ 67108863) (b1 : -67108863 ≤ b) (b2 : b ≤ 67108863) {i : Nat} (hi : i < ps.length) : pt (mapL 65536 0 0 65536 a b ps) i = ⟨(pt ps i).x + a, (pt ps i).y + b⟩ := by
  unfold mapL
  rw [pt_map _ hi]
  have := h i hi
  unfold applyP
  rw [move_x (by omega) (by omega) (by omega) (by omega), move_y (by omega) (by omega) (by omega) (by omega)]
theorem mapL_none {ps : List Pt} (h : Small ps) : mapL 65536 0 0 65536 0 0 ps = ps := by
  apply pts_ext (by simp [mapL])
  intro i hi
  have hi' : i < ps.length := by simpa [mapL] using hi
  rw [mapL_move h (by omega) (by omega) (by omega) (by omega) hi']
  simp
theorem mapL_length (a b c d e f : Int) (ps : List Pt) : (mapL a b c d e f ps).length = ps.length := by simp [mapL]
theorem tmod_20 (a : Int) : -1310720 < a.tmod 1310720 ∧ a.tmod 1310720 < 1310720 := by
  constructor
  · have h := Int.lt_tmod_of_pos a (show (0 : Int) < 1310720 by decide)
    omega
  · exact Int.tmod_lt_of_pos a (by decide)

theorem same_t (c : Bool) (ps : List Pt) : ((c == c) && decide (ps = ps)) = true := by simp
theorem fits_t {ps qs : List Pt} (h : ps.length = qs.length) (c : Bool) : fits c ps c qs = true := by rw [fits_eq h]; simp

set_option maxRecDepth 100000 in
set_option maxHeartbeats 4000000 in
theorem pathMaps_walk {w : World} (l1 : Value) (_ : Unit) (x y : Int) (hN1 : Nums w l1) :
    Calls Try.prog 6 #[l1, .int .i64 x, .int .i64 y] w fun r w' => r = .returned (.bool true) ∧ Below w.heap.size w w' := by
  obtain ⟨A, hA, A0, A1⟩ : ∃ A, x.tmod 1310720 = A ∧ -1310720 < A ∧ A < 1310720 := ⟨_, rfl, (tmod_20 x).1, (tmod_20 x).2⟩
  obtain ⟨D, hD, D0, D1⟩ : ∃ A, y.tmod 1310720 = A ∧ -1310720 < A ∧ A < 1310720 := ⟨_, rfl, (tmod_20 y).1, (tmod_20 y).2⟩
  obtain ⟨B, hB⟩ : ∃ B, w.heap.size = B := ⟨_, rfl⟩
  obtain ⟨W, hW⟩ : ∃ W, w.alloc (.cells #[l1, .int .i64 0] 39) = W := ⟨_, rfl⟩
  have hb0 : Below w.heap.size w W := by rw [← hW]; exact (Below.refl _ _).alloc (Nat.le_refl _) _
  have T1 : Tp W B l1 := tp_start hN1 (by rw [← hW]; exact has_new hB) hb0 (by omega)
  have sz0 : W.heap.size = B + 1 := by rw [← hW]; simp [hB]
  rw [hB] at hb0
  obtain ⟨a1, n1, c1, rfl⟩ := hN1.shape
  have HB := Lib.hid hB
  have HW := Lib.hid hW
  have HB0 := Lib.hid hb0
  have HT1 := Lib.hid T1
  have HAD := Lib.hid (And.intro hA hD)
  clear hb0 T1 hW hN1 hA hD
  go_enter Try.func6, Try.ntmps6
  go_wp2_with fail
  rw [HW.out]
  clear hB
  refine (t_next B _ 5 _ (by omega) (by omega) HT1.out).mono ?_
  rintro e w1 ⟨x', rfl, x0, x1, ht, hg⟩
  obtain ⟨n, hn⟩ : ∃ n : Nat, (n : Int) = 1 + x' := ⟨(1 + x').toNat, by omega⟩
  have HT1a := Lib.hid ht
  have HB1 := Lib.hid (below_on HB0.out hg (by omega) (by omega))
  have sz1 : B + 1 ≤ w1.heap.size := by have := hg.size; omega
  have hn5 : n ≤ 5 := by omega
  have HN := Lib.hid hn
  clear ht hg HT1 HB0 sz0
  go_wp2_with fail
  rw [← HN.out]
  clear hn x0 x1 HN
  refine (t_next B _ 2 _ (by omega) (by omega) HT1a.out).mono ?_
  rintro e w2 ⟨z, rfl, z0, z1, ht, hg⟩
  obtain ⟨c, hc⟩ : ∃ c : Bool, (z == 0) = c := ⟨_, rfl⟩
  have HT2 := Lib.hid ht
  have HB2 := Lib.hid (below_on HB1.out hg (by omega) (by omega))
  have sz2 : B + 1 ≤ w2.heap.size := by have := hg.size; omega
  clear ht hg HT1a HB1 z0 z1
  go_wp2_with fail
  clear hc
  refine (t_path B _ n c _ (by omega) HT2.out).mono ?_
  rintro e w3 ⟨vp, ps, rfl, hl, sm, ho, ht, hg⟩
  have HB3 := Lib.hid (below_on HB2.out hg (by omega) (by omega))
  have sz3 : B + 1 ≤ w3.heap.size := by have := hg.size; omega
  have SM := Lib.hid sm
  obtain ⟨N, hN⟩ : ∃ N, ps.length = N := ⟨_, rfl⟩
  have N9 : N ≤ 100 := by omega
  obtain ⟨aa, ca, rfl⟩ := ho.len
  rw [hN] at ho ⊢
  obtain ⟨s, hs⟩ : ∃ s, w3.heap.size = s := ⟨_, rfl⟩
  obtain ⟨V, hV⟩ : ∃ V, w3.alloc (.cells #[.bool c, .slice aa N ca] 24) = V := ⟨_, rfl⟩
  have szs : B + 1 ≤ s := by omega
  have KA : Has V s #[.bool c, .slice aa N ca] 24 := by rw [← hV]; exact has_new hs
  have PA : Psl V (.slice aa N ca) ps := by rw [← hV]; exact (ho.sl (by omega)).alloc _
  have BV : Below B w V := by rw [← hV]; exact HB3.out.alloc (by omega) _
  have XKA := Lib.hid KA
  have XPA := Lib.hid PA
  have XBV := Lib.hid BV
  have HV := Lib.hid hV
  have HLN := Lib.hid hN
  clear ht hg ho sm HT2 HB2 KA PA BV hV hN hl HB3
  go_upto_region 3 with fail
  rw [HV.out]
  have e1 := HAD.out.1
  have e2 := HAD.out.2
  clear hs
  go_wp2_with fail
  refine (made_moves (a := A) (b := D) (by omega) (by omega) (by omega) (by omega) _).mono ?_
  rintro e w4 ⟨rfl, hq⟩
  clear e1 e2
  have sV : B + 1 ≤ V.heap.size ∧ s < V.heap.size := ⟨by have := XKA.out.lt; omega, XKA.out.lt⟩
  have sz4 : V.heap.size ≤ w4.heap.size := hq.size
  obtain ⟨V2, hV2⟩ : ∃ V, w4.alloc (.cells (mCells 65536 0 0 65536 A D) 30) = V := ⟨_, rfl⟩
  obtain ⟨gm, hgm⟩ : ∃ g, w4.heap.size = g := ⟨_, rfl⟩
  have KM : Has V2 gm (mCells 65536 0 0 65536 A D) 30 := by rw [← hV2]; exact has_new hgm
  have KA : Has V2 s #[.bool c, .slice aa N ca] 24 := by rw [← hV2]; exact (XKA.out.below hq XKA.out.lt).alloc _
  have PA : Psl V2 (.slice aa N ca) ps := by rw [← hV2]; exact (XPA.out.below hq (Nat.le_refl _)).alloc _
  have BV : Below B w V2 := by rw [← hV2]; exact (XBV.out.trans (hq.mono (by omega))).alloc (by omega) _
  have m0 := KM.cell 0 _ rfl
  have m1 := KM.cell 1 _ rfl
  have m2 := KM.cell 2 _ rfl
  have m3 := KM.cell 3 _ rfl
  have m4 := KM.cell 4 _ rfl
  have m5 := KM.cell 5 _ rfl
  have p0 := KA.cell 0 _ rfl
  have p1 := KA.cell 1 _ rfl
  have YKA := Lib.hid KA
  have YPA := Lib.hid PA
  have YBV := Lib.hid BV
  have HV2 := Lib.hid hV2
  clear KM KA PA BV hV2 hq XKA XPA XBV HV
  go_upto_region 5 with fail
  rw [HV2.out]
  clear hgm
  go_wp2_with fail
  refine (p_map 65536 0 0 65536 A D c YPA.out).mono ?_
  rintro e w5 ⟨vc, rfl, hoc, hq⟩
  obtain ⟨rs, hrs⟩ : ∃ rs, mapL 65536 0 0 65536 A D ps = rs := ⟨_, rfl⟩
  have hl3 : rs.length = N := by rw [← hrs, mapL_length]; exact HLN.out
  rw [hrs] at hoc
  obtain ⟨ac, cc, rfl⟩ := hoc.len
  rw [hl3] at hoc ⊢
  obtain ⟨U, hU⟩ : ∃ U, w5.alloc (.cells #[.bool c, .slice ac N cc] 24) = U := ⟨_, rfl⟩
  obtain ⟨gc, hgc⟩ : ∃ g, w5.heap.size = g := ⟨_, rfl⟩
  have KA : Has U s #[.bool c, .slice aa N ca] 24 := by rw [← hU]; exact (YKA.out.below hq YKA.out.lt).alloc _
  have KC : Has U gc #[.bool c, .slice ac N cc] 24 := by rw [← hU]; exact has_new hgc
  have PA : Psl U (.slice aa N ca) ps := by rw [← hU]; exact (YPA.out.below hq (Nat.le_refl _)).alloc _
  have PC : Psl U (.slice ac N cc) rs := by rw [← hU]; exact (hoc.sl (by omega)).alloc _
  have s5 : B + 1 ≤ w5.heap.size := by have := hq.size; have := YKA.out.lt; omega
  have BU : Below B w U := by rw [← hU]; exact (YBV.out.trans (hq.mono (by have := YKA.out.lt; omega))).alloc (by omega) _
  have UKA := Lib.hid KA
  have UKC := Lib.hid KC
  have UPA := Lib.hid PA
  have UPC := Lib.hid PC
  have UB := Lib.hid BU
  have HU := Lib.hid hU
  have HRS := Lib.hid hrs
  have HL3 := Lib.hid hl3
  have H0 : Hid (Ht U U) := Lib.hid (Ht.refl U)
  have EN : Hid (mapL 65536 0 0 65536 0 0 ps = ps) := Lib.hid (mapL_none SM.out)
  have LF : Hid (ps.length ≤ 1000) := Lib.hid (by rw [HLN.out]; omega)
  clear KA KC PA PC BU hU hrs hl3 hoc hq YKA YPA YBV HV2 m0 m1 m2 m3 m4 m5 p0 p1
  go_upto_region 6 with fail
  rw [HU.out]
  clear hgc
  go_region_held3 (fun w' => Ht U w' ∧ w'.cell? ⟨s, 0, none⟩ = some (.bool c) ∧ w'.cell? ⟨s, 1, none⟩ = some (.slice aa N ca) ∧ w'.cell? ⟨gc, 0, none⟩ = some (.bool c) ∧ w'.cell? ⟨gc, 1, none⟩ = some (.slice ac N cc))
    ((go_split_ands; first | exact Ht.two H0.out.drew UKA.out UKC.out | exact Ht.two (by assumption) UKA.out UKC.out))
    (first
      | (go_at_call 17; refine (p_same c c sl2 (UPA.out.ht h2)).mono ?_; rw [same_t]; rintro e wc ⟨rfl, hqc⟩; have h3 := Ht.call h2 hqc)
      | (go_at_call 19; refine (p_map 65536 0 0 65536 0 0 c (UPA.out.ht h1)).mono ?_; rw [EN.out]; rintro e wb ⟨vb, rfl, hob, hqb⟩; have h2 := Ht.call h1 hqb; have sl2 := hob.sl LF.out)
      | (go_at_call 8; refine (r3_same _).mono ?_; rintro e wa ⟨rfl, hqa⟩; have h1 := Ht.call H0.out.drew hqa))
  have GA := UKA.out.below h3.below UKA.out.lt
  have GC := UKC.out.below h3.below UKC.out.lt
  have XA := Lib.hid GA
  have XC := Lib.hid GC
  have QA := Lib.hid (UPA.out.ht h3)
  have QC := Lib.hid (UPC.out.ht h3)
  have BW : Hid (Below B w wc) := Lib.hid (UB.out.trans (h3.below.mono (by have := UB.out.size; have := HB.out; omega)))
  have sW : Hid (B ≤ wc.heap.size) := Lib.hid (by have := GC.lt; have := BW.out.size; have := HB.out; omega)
  go_split_ands
  clear GA GC UKA UKC UPA UPC UB HU h1 h2 h3 H0 EN hqa hqb hqc sl2 hob
  go_wp2_with fail
  go_loopw [13, 60] (fun _ i wr => ∃ m : Nat, m ≤ N ∧ i = .int .i64 m ∧ Below wc.heap.size wc wr) (fun _ i _ => N - (intOf i).toNat)
  case atStart => exact ⟨0, by omega, rfl, Below.refl _ _⟩
  case round =>
    obtain ⟨m, hm, rfl, hbd⟩ := hrel
    by_cases hlt : m < N
    · obtain ⟨g1, o1, e1, r1, l1⟩ := (QA.out.below hbd (Nat.le_refl _)).row (by omega)
      obtain ⟨g3, o3, e3, r3, l3⟩ := (QC.out.below hbd (Nat.le_refl _)).row (by omega)
      subst e1 e3
      have k0 := r1.c0 m (by omega)
      have k1 := r1.c1 m (by omega)
      have q0 := r3.c0 m (by omega)
      have q1 := r3.c1 m (by omega)
      have ra := (XA.out.below hbd XA.out.lt).cell 1 _ rfl
      have rc := (XC.out.below hbd XC.out.lt).cell 1 _ rfl
      have mv := mapL_move SM.out (a := A) (b := D) (by omega) (by omega) (by omega) (by omega) (i := m) (by omega)
      rw [HRS.out] at mv
      have bt := SM.out m (by omega)
      rw [mv] at q0 q1
      simp only at q0 q1
      obtain ⟨X, hX⟩ : ∃ X, (pt ps m).x = X := ⟨_, rfl⟩
      obtain ⟨Y, hY⟩ : ∃ X, (pt ps m).y = X := ⟨_, rfl⟩
      rw [hX, hY] at bt
      rw [hX] at k0 q0
      rw [hY] at k1 q1
      obtain ⟨b1, b2, b3, b4⟩ := bt
      have o4 : (m : Int) < N := by omega
      have HD := Lib.hid hbd
      clear r1 r3 l1 l3 hbd hX hY mv QA QC XA XC HRS
      go_wp2
      go_quiet (fail)
      have HZ := Lib.hid (below_drewN HD.out nq)
      go_wp2
      go_roundw
      case rel => exact ⟨m + 1, by omega, by go_num, HZ.out⟩
      case measure => simp [intOf]; omega
    · obtain rfl : m = N := by omega
      have ka := XA.out.below hbd XA.out.lt
      have kc := XC.out.below hbd XC.out.lt
      have a0 := ka.cell 0 _ rfl
      have a1 := ka.cell 1 _ rfl
      have c0 := kc.cell 0 _ rfl
      have c1 := kc.cell 1 _ rfl
      have FT := Lib.hid (p_fits c c (QC.out.below hbd (Nat.le_refl _)) (QA.out.below hbd (Nat.le_refl _)))
      have EF : Hid (fits c rs c ps = true) := Lib.hid (fits_t (by rw [HL3.out, HLN.out]) c)
      have BW2 := Lib.hid (BW.out.trans (hbd.mono sW.out))
      have s2 : Hid (B ≤ wr.heap.size) := Lib.hid (by have := hbd.size; have := sW.out; omega)
      have o4 : (m : Int) ≤ m := by omega
      clear ka kc QA QC XA XC hbd
      go_wp2_with fail
      refine FT.out.mono ?_
      rw [EF.out]
      rintro e w7 ⟨rfl, hq7⟩
      have B7 := Lib.hid (BW2.out.trans (hq7.mono s2.out))
      have s7 : Hid (B ≤ w7.heap.size) := Lib.hid (by have := hq7.size; have := s2.out; omega)
      clear hq7 FT EF BW2
      go_wp2_with fail
      refine (known7 _).mono ?_
      rintro e w8 ⟨rfl, hq8⟩
      have B8 := Lib.hid (B7.out.trans (hq8.mono s7.out))
      clear hq8
      go_wp2
      go_ret
      exact ⟨rfl, by rw [HB.out]; exact B8.out⟩

end Go.Proofs.Ytdpfkhliechkhaa
