/- The walk of mutoscopelaw7.PathBetween: it returns true; of the memory nothing that was there turns. No condition. -/
import Derived.Test.YtdpfkhliechkhaaTB7
import Derived.Test.YtdpfkhliechkhaaB6
namespace Go.Proofs.Ytdpfkhliechkhaa
open Go.RowKit
open M

theorem same_s (c : Bool) (ps : List Pt) : ((c == c) && decide (ps = ps)) = true := by simp
theorem okP_small {c : Bool} {ps : List Pt} {n : Nat} (hl : ps.length = 3 * n + 1) (h1 : 1 ≤ n) (h2 : n ≤ 32) (hs : Small ps) : okP c ps = true := by
  rw [okP_pos (by omega), hs.near]
  simp [okLen]
  omega
theorem fits_same {ps qs : List Pt} (h : ps.length = qs.length) (c : Bool) : fits c ps c qs = true := by rw [fits_eq h]; simp
theorem Ht.six {W w' : World} {g ga gb gc : Nat} {a b c d e f : Value} {t : TypeId} (h : Hy W g w') (H0 : Has W ga #[a, b] t) (H1 : Has W gb #[c, d] t) (H2 : Has W gc #[e, f] t) (n0 : ga ≠ g) (n1 : gb ≠ g) (n2 : gc ≠ g) :
    Hy W g w' ∧ w'.cell? ⟨ga, 0, none⟩ = some a ∧ w'.cell? ⟨ga, 1, none⟩ = some b ∧ w'.cell? ⟨gb, 0, none⟩ = some c ∧ w'.cell? ⟨gb, 1, none⟩ = some d ∧ w'.cell? ⟨gc, 0, none⟩ = some e ∧ w'.cell? ⟨gc, 1, none⟩ = some f := by
  have K0 := h.has H0 n0
  have K1 := h.has H1 n1
  have K2 := h.has H2 n2
  exact ⟨h, K0.cell 0 _ rfl, K0.cell 1 _ rfl, K1.cell 0 _ rfl, K1.cell 1 _ rfl, K2.cell 0 _ rfl, K2.cell 1 _ rfl⟩

set_option maxRecDepth 100000 in
set_option maxHeartbeats 4000000 in
theorem pathBetween_walk {w : World} (l1 : Value) (_ : Unit) (l2 : Value) (_ : Unit) (p : Int) (hN1 : Nums w l1) (hN2 : Nums w l2) :
    Calls Try.prog 5 #[l1, l2, .int .i64 p] w fun r w' => r = .returned (.bool true) ∧ Below w.heap.size w w' := by
  obtain ⟨k0, k1⟩ := wone_bd p
  obtain ⟨k, hk⟩ : ∃ k, wone p = k := ⟨_, rfl⟩
  rw [hk] at k0 k1
  have HK := Lib.hid hk
  obtain ⟨B, hB⟩ : ∃ B, w.heap.size = B := ⟨_, rfl⟩
  have s1 := hN1.src
  have s2 := hN2.src
  rw [hB] at s1 s2
  obtain ⟨W, hW⟩ : ∃ W, (w.alloc (.cells #[l1, .int .i64 0] 39)).alloc (.cells #[l2, .int .i64 0] 39) = W := ⟨_, rfl⟩
  have hb0 : Below w.heap.size w W := by rw [← hW]; exact ((Below.refl _ _).alloc (Nat.le_refl _) _).alloc (by simp) _
  have T1 : Tp W B l1 := tp_start hN1 (by rw [← hW]; exact (has_new hB).alloc _) hb0 (by omega)
  have T2 : Tp W (B + 1) l2 := tp_start hN2 (by rw [← hW]; exact has_new (by simp [hB])) hb0 (by omega)
  have sz0 : W.heap.size = B + 1 + 1 := by rw [← hW]; simp [hB]
  rw [hB] at hb0
  obtain ⟨a1, n1, c1, rfl⟩ := hN1.shape
  obtain ⟨a2, n2, c2, rfl⟩ := hN2.shape
  have HB := Lib.hid hB
  have HW := Lib.hid hW
  have HB0 := Lib.hid hb0
  have HT1 := Lib.hid T1
  have HT2 := Lib.hid T2
  have S1 := Lib.hid s1
  have S2 := Lib.hid s2
  clear hk hb0 T1 T2 hW hN1 hN2 s1 s2
  go_enter Try.func5, Try.ntmps5
  go_wp2_with fail
  rw [HW.out]
  clear hB
  refine (t_next B _ 5 _ (by omega) (by omega) HT1.out).mono ?_
  rintro e w1 ⟨x, rfl, x0, x1, ht, hg⟩
  obtain ⟨n, hn⟩ : ∃ n : Nat, (n : Int) = 1 + x := ⟨(1 + x).toNat, by omega⟩
  have HT1a := Lib.hid ht
  have HT2a := Lib.hid (HT2.out.other S2.out hg (by omega) (by omega))
  have HB1 := Lib.hid (below_on HB0.out hg (by omega) (by omega))
  have sz1 : B + 1 + 1 ≤ w1.heap.size := by have := hg.size; omega
  have hn5 : n ≤ 5 := by omega
  have hn1 : 1 ≤ n := by omega
  have HN := Lib.hid hn
  clear ht hg HT1 HT2 HB0 sz0
  go_wp2_with fail
  rw [← HN.out]
  clear hn x0 x1 HN
  refine (t_path B _ n true _ (by omega) HT1a.out).mono ?_
  rintro e w2 ⟨va, ps, rfl, hl1, sm1, ho1, ht, hg⟩
  have HT2b := Lib.hid (HT2a.out.other S2.out hg (by omega) (by omega))
  have HB2 := Lib.hid (below_on HB1.out hg (by omega) (by omega))
  have sz2 : B + 1 + 1 ≤ w2.heap.size := by have := hg.size; omega
  have O1 := Lib.hid (ho1.lower (B' := B + 1 + 1) (by omega))
  have SM1 := Lib.hid sm1
  clear ht hg ho1 sm1 HT1a HT2a HB1
  go_wp2_with fail
  refine (t_path (B + 1) _ n true _ (by omega) HT2b.out).mono ?_
  rintro e w3 ⟨vb, qs, rfl, hl2, sm2, ho2, ht, hg⟩
  have HT3 := Lib.hid ht
  have HB3 := Lib.hid (below_on HB2.out hg (by omega) (by omega))
  have sz3 : B + 1 + 1 ≤ w3.heap.size := by have := hg.size; omega
  have O1b := Lib.hid (O1.out.young hg (by omega))
  have O2 := Lib.hid (ho2.lower (B' := B + 1 + 1) (by omega))
  have SM2 := Lib.hid sm2
  clear ht hg ho2 sm2 HT2b HB2 O1
  obtain ⟨aa, ca, rfl⟩ := O1b.out.len
  obtain ⟨ab, cb, rfl⟩ := O2.out.len
  obtain ⟨N, hN⟩ : ∃ N, ps.length = N := ⟨_, rfl⟩
  have hN2 : qs.length = N := by omega
  rw [hN] at O1b ⊢
  rw [hN2] at O2 ⊢
  obtain ⟨V, hV⟩ : ∃ V, (w3.alloc (.cells #[.bool true, .slice aa N ca] 24)).alloc (.cells #[.bool true, .slice ab N cb] 24) = V := ⟨_, rfl⟩
  obtain ⟨s, hs⟩ : ∃ s, w3.heap.size = s := ⟨_, rfl⟩
  rw [hs] at sz3
  have KA : Has V s #[.bool true, .slice aa N ca] 24 := by rw [← hV]; exact (has_new hs).alloc _
  have KB : Has V (s + 1) #[.bool true, .slice ab N cb] 24 := by rw [← hV]; exact has_new (by simp [hs])
  have PA : Pown V (B + 1 + 1) (.slice aa N ca) ps := by rw [← hV]; exact (O1b.out.alloc _).alloc _
  have PB : Pown V (B + 1 + 1) (.slice ab N cb) qs := by rw [← hV]; exact (O2.out.alloc _).alloc _
  have HTV : Tp V (B + 1) (.slice a2 n2 c2) := by rw [← hV]; exact tp_alloc (tp_alloc HT3.out _) _
  have HBV : Below B w V := by rw [← hV]; exact (HB3.out.alloc (by omega) _).alloc (by simp; omega) _
  have HVV := Lib.hid hV
  have XKA := Lib.hid KA
  have XKB := Lib.hid KB
  have XPA := Lib.hid PA
  have XPB := Lib.hid PB
  have XTV := Lib.hid HTV
  have XBV := Lib.hid HBV
  have HLN := Lib.hid hN
  have HLN2 := Lib.hid hN2
  have HL1 := Lib.hid hl1
  clear KA KB PA PB HTV HBV hV O1b O2 HT3 HB3 hN hN2 hl1 hl2
  go_wp2_with fail
  rw [HVV.out]
  refine (b_wone p _).mono ?_
  rintro e _ ⟨rfl, rfl⟩
  rw [HK.out]
  have a0 := XKA.out.cell 0 _ rfl
  have a1' := XKA.out.cell 1 _ rfl
  have b0 := XKB.out.cell 0 _ rfl
  have b1' := XKB.out.cell 1 _ rfl
  have N9 : N ≤ 100 := by have := HL1.out; have := HLN.out; omega
  have E1 : morph true ps true qs k = midL ps qs k := morph_yes (fits_same (by rw [HLN.out, HLN2.out]) _)
  have MO := p_morph true true k (XPA.out.sl (by rw [HLN.out]; omega)) (XPB.out.sl (by rw [HLN2.out]; omega))
  rw [E1] at MO
  have MOH := Lib.hid MO
  clear MO E1
  go_wp2_with fail
  refine MOH.out.mono ?_
  rintro e w4 ⟨vc, rfl, hoc, hbc⟩
  obtain ⟨rs, hrs⟩ : ∃ rs, midL ps qs k = rs := ⟨_, rfl⟩
  have hl3 : rs.length = N := by rw [← hrs, midL_length]; exact HLN.out
  rw [hrs] at hoc
  obtain ⟨ac, cc, rfl⟩ := hoc.len
  rw [hl3] at hoc ⊢
  obtain ⟨U, hU⟩ : ∃ U, w4.alloc (.cells #[.bool true, .slice ac N cc] 24) = U := ⟨_, rfl⟩
  obtain ⟨gc, hgc⟩ : ∃ g, w4.heap.size = g := ⟨_, rfl⟩
  have sV : s + 1 < V.heap.size := XKB.out.lt
  have sz4 : s + 1 < gc := by have := hbc.size; omega
  have KA := ((XKA.out.below hbc XKA.out.lt).alloc (.cells #[.bool true, .slice ac N cc] 24))
  have KB := ((XKB.out.below hbc XKB.out.lt).alloc (.cells #[.bool true, .slice ac N cc] 24))
  have KC : Has (w4.alloc (.cells #[.bool true, .slice ac N cc] 24)) gc #[.bool true, .slice ac N cc] 24 := has_new hgc
  have PA := ((XPA.out.below hbc (Nat.le_refl _)).alloc (.cells #[.bool true, .slice ac N cc] 24))
  have PB := ((XPB.out.below hbc (Nat.le_refl _)).alloc (.cells #[.bool true, .slice ac N cc] 24))
  have PC := ((hoc.lower (B' := B + 1 + 1) (by omega)).alloc (.cells #[.bool true, .slice ac N cc] 24))
  have TU := tp_alloc (XTV.out.calls hbc) (.cells #[.bool true, .slice ac N cc] 24)
  have BU : Below B w (w4.alloc (.cells #[.bool true, .slice ac N cc] 24)) := (XBV.out.trans (hbc.mono (by omega))).alloc (by omega) _
  rw [hU] at KA KB KC PA PB PC TU BU
  have UKA := Lib.hid KA
  have UKB := Lib.hid KB
  have UKC := Lib.hid KC
  have UPA := Lib.hid PA
  have UPB := Lib.hid PB
  have UPC := Lib.hid PC
  have UT := Lib.hid TU
  have UB := Lib.hid BU
  have HU := Lib.hid hU
  have HRS := Lib.hid hrs
  have HL3 := Lib.hid hl3
  have HGC := Lib.hid hgc
  have u0 := KC.cell 0 _ rfl
  have u1 := KC.cell 1 _ rfl
  have u2 := KA.cell 1 _ rfl
  clear a0 a1' b0 b1' KA KB KC PA PB PC TU BU hU hrs hl3 hoc hbc XKA XKB XPA XPB XTV XBV MOH HVV hs
  go_upto_region 6 with fail
  rw [HU.out]
  clear hgc
  go_wp2_with fail
  go_loopw [14, 51] (fun _ i wr => ∃ m : Nat, m ≤ N ∧ i = .int .i64 m ∧ Below U.heap.size U wr) (fun _ i _ => N - (intOf i).toNat)
  case atStart => exact ⟨0, by omega, rfl, Below.refl _ _⟩
  case round =>
    clear u0 u1 u2
    obtain ⟨m, hm, rfl, hbd⟩ := hrel
    by_cases hlt : m < N
    · obtain ⟨g1, o1, e1, r1, l1⟩ := ((UPA.out.sl (by rw [HLN.out]; omega)).below hbd (Nat.le_refl _)).row (by omega)
      obtain ⟨g2, o2, e2, r2, l2⟩ := ((UPB.out.sl (by rw [HLN2.out]; omega)).below hbd (Nat.le_refl _)).row (by omega)
      obtain ⟨g3, o3, e3, r3, l3⟩ := ((UPC.out.sl (by rw [HL3.out]; omega)).below hbd (Nat.le_refl _)).row (by omega)
      subst e1 e2 e3
      have x0 := fun z => (r1.later (by omega) z).c0 m (by omega)
      have x1 := fun z => (r1.later (by omega) z).c1 m (by omega)
      have y0 := fun z => (r2.later (by omega) z).c0 m (by omega)
      have y1 := fun z => (r2.later (by omega) z).c1 m (by omega)
      have q0 := fun z => (r3.later (by omega) z).c0 m (by omega)
      have q1 := fun z => (r3.later (by omega) z).c1 m (by omega)
      have ra := Later.read (UKA.out.below hbd UKA.out.lt) 1 _ rfl
      have rb := Later.read (UKB.out.below hbd UKB.out.lt) 1 _ rfl
      have rc := Later.read (UKC.out.below hbd UKC.out.lt) 1 _ rfl
      have bt := midL_in SM1.out SM2.out (by rw [HLN.out, HLN2.out]) k0 k1 (i := m) (by rw [HLN.out]; exact hlt)
      rw [HRS.out] at bt
      obtain ⟨X, hX⟩ : ∃ X, (pt ps m).x = X := ⟨_, rfl⟩
      obtain ⟨X2, hX2⟩ : ∃ X, (pt ps m).y = X := ⟨_, rfl⟩
      obtain ⟨Y, hY⟩ : ∃ X, (pt qs m).x = X := ⟨_, rfl⟩
      obtain ⟨Y2, hY2⟩ : ∃ X, (pt qs m).y = X := ⟨_, rfl⟩
      obtain ⟨T, hT⟩ : ∃ X, (pt rs m).x = X := ⟨_, rfl⟩
      obtain ⟨T2, hT2⟩ : ∃ X, (pt rs m).y = X := ⟨_, rfl⟩
      rw [hX, hX2, hY, hY2, hT, hT2] at bt
      rw [hX] at x0
      rw [hX2] at x1
      rw [hY] at y0
      rw [hY2] at y1
      rw [hT] at q0
      rw [hT2] at q1
      have f1 : decide (T < if Y < X then Y else X) = false := decide_eq_false (by split <;> omega)
      have f2 : decide ((if X < Y then Y else X) < T) = false := decide_eq_false (by split <;> omega)
      have f3 : decide (T2 < if Y2 < X2 then Y2 else X2) = false := decide_eq_false (by split <;> omega)
      have f4 : decide ((if X2 < Y2 then Y2 else X2) < T2) = false := decide_eq_false (by split <;> omega)
      have o4 : (m : Int) < N := by omega
      have HD := Lib.hid hbd
      clear r1 r2 r3 l1 l2 l3 hbd bt hX hX2 hY hY2 hT hT2 UPA UPB UPC UKA UKB UKC UT UB HU HRS
      go_wp2
      refine wp_region_class (C := fun w' => ∃ z : Later wr, w' = z.to) (by kernel_rfl) (by kernel_rfl) ⟨⟨_, below_drew (Below.refl _ _)⟩, rfl⟩ ?_
      simp only [List.append_eq, List.cons_append, List.nil_append]
      repeat (go_big_quiet_step (first | fail))
      refine wpQuiet_nil ?_
      rintro _ ⟨z, rfl⟩
      have HZ := Lib.hid (HD.out.trans (z.below.mono HD.out.size))
      obtain ⟨Z, hZ⟩ : ∃ Z, z.to = Z := ⟨_, rfl⟩
      rw [hZ] at HZ ⊢
      clear hZ x0 x1 y0 y1 q0 q1 ra rb rc f1 f2 f3 f4
      go_wp2
      go_roundw
      case rel => exact ⟨m + 1, by omega, by go_num, HZ.out⟩
      case measure => simp [intOf]; omega
    · obtain rfl : m = N := by omega
      have KA := UKA.out.below hbd UKA.out.lt
      have KB := UKB.out.below hbd UKB.out.lt
      have KC := UKC.out.below hbd UKC.out.lt
      have XA := Lib.hid KA
      have XB := Lib.hid KB
      have XC := Lib.hid KC
      have QA := Lib.hid ((UPA.out.sl (by rw [HLN.out]; omega)).below hbd (Nat.le_refl _))
      have QB := Lib.hid ((UPB.out.sl (by rw [HLN2.out]; omega)).below hbd (Nat.le_refl _))
      have QC := Lib.hid ((UPC.out.sl (by rw [HL3.out]; omega)).below hbd (Nat.le_refl _))
      have TW := Lib.hid (UT.out.calls hbd)
      have BW := Lib.hid (UB.out.trans (hbd.mono (by have := UB.out.size; have := HB.out; omega)))
      have NE0 : Hid (gc ≠ B + 1) := Lib.hid (by omega)
      have NE1 : Hid (s ≠ B + 1) := Lib.hid (by omega)
      have NE2 : Hid (s + 1 ≠ B + 1) := Lib.hid (by omega)
      have OA := Lib.hid (UPA.out.off (g := B + 1) (by omega))
      have OB := Lib.hid (UPB.out.off (g := B + 1) (by omega))
      have OC := Lib.hid (UPC.out.off (g := B + 1) (by omega))
      have ER : Hid (okP true rs = true) := Lib.hid (okP_small (n := n) (by rw [HL3.out, ← HLN.out]; exact HL1.out) hn1 (by omega) (by rw [← HRS.out]; exact midL_small SM1.out SM2.out (by rw [HLN.out, HLN2.out]) k0 k1))
      have EM : Hid (morph true ps true qs 65536 = qs) := Lib.hid (by rw [morph_yes (fits_same (by rw [HLN.out, HLN2.out]) _)]; exact midL_one SM1.out SM2.out (by rw [HLN.out, HLN2.out]))
      have EN : Hid (∀ ts : List Pt, ts.length = 3 * (n + 1) + 1 → morph true ps true ts k = ps) := Lib.hid (fun ts ht => morph_no (fits_ne (by have := HL1.out; omega)))
      have TPN : Hid (∀ w', Tp w' (B + 1) (.slice a2 n2 c2) → Calls Try.prog 12 #[.pointer (some ⟨B + 1, 0, none⟩), .int .i64 ((n : Int) + 1), .bool true] w' (Pathss w' (B + 1) (.slice a2 n2 c2) (n + 1) true)) := Lib.hid (fun w' h => t_path (B + 1) _ (n + 1) true w' (by omega) h)
      have LF : Hid (ps.length ≤ 1000 ∧ qs.length ≤ 1000) := Lib.hid ⟨by rw [HLN.out]; omega, by rw [HLN2.out]; omega⟩
      have SZ : Hid (B + 1 + 1 ≤ wr.heap.size) := Lib.hid (by have := KC.lt; omega)
      have H0 : Hid (Hy wr (B + 1) wr) := Lib.hid (Hy.refl _ _)
      have o5 : (m : Int) ≤ m := by omega
      have o6 : IntKind.i64.wrap ((n : Int) + 1) = (n : Int) + 1 := IntWalk.i64_in _ (by omega)
      clear KA KB KC hbd UKA UKB UKC UPA UPB UPC UT UB HU HRS HW S1 S2 SM1 SM2 HL3 HK
      go_wp2_with fail
      go_region_held3 (fun w' => Hy wr (B + 1) w' ∧ w'.cell? ⟨gc, 0, none⟩ = some (.bool true) ∧ w'.cell? ⟨gc, 1, none⟩ = some (.slice ac m cc) ∧ w'.cell? ⟨s, 0, none⟩ = some (.bool true) ∧ w'.cell? ⟨s, 1, none⟩ = some (.slice aa m ca) ∧ w'.cell? ⟨s + 1, 0, none⟩ = some (.bool true) ∧ w'.cell? ⟨s + 1, 1, none⟩ = some (.slice ab m cb))
        ((go_split_ands; first | exact Ht.six H0.out.drew XC.out XA.out XB.out NE0.out NE1.out NE2.out | exact Ht.six (by assumption) XC.out XA.out XB.out NE0.out NE1.out NE2.out))
        (first
          | (go_at_call 11; refine (known7 _).mono ?_; rintro e w7 ⟨rfl, hq7⟩; have h7 := Hy.call h6 hq7)
          | (have mm := h5; clear mm; go_at_call 17; refine (p_same true true sl5 (h5.sl QB.out OB.out)).mono ?_; rw [same_s]; rintro e w6 ⟨rfl, hq6⟩; have h6 := Hy.call h5 hq6)
          | (have mm := h4; clear mm; go_at_call 15; refine (p_morph true true 65536 (h4.sl QA.out OA.out) (h4.sl QB.out OB.out)).mono ?_; rw [EM.out]; rintro e w5 ⟨v5, rfl, ho5, hq5⟩; have h5 := Hy.call h4 hq5; have sl5 := ho5.sl LF.out.2)
          | (have mm := h3; clear mm; go_at_call 17; refine (p_same true true sl3 (h3.sl QA.out OA.out)).mono ?_; rw [same_s]; rintro e w4' ⟨rfl, hq4⟩; have h4 := Hy.call h3 hq4)
          | (have mm := h2; clear mm; go_at_call 15; refine (p_morph true true k (h2.sl QA.out OA.out) sl2).mono ?_; rw [EN.out _ hl2']; rintro e w3' ⟨v3, rfl, ho3, hq3⟩; have h3 := Hy.call h2 hq3; have sl3 := ho3.sl LF.out.1)
          | (go_at_call 12; refine (TPN.out _ (TW.out.calls hq0)).mono ?_; rintro e w2' ⟨v2, ts, rfl, hl2', sm2', ho2', ht2', hg2'⟩; have h2 := Hy.tape h1 hg2'; have sl2 := ho2'.sl (by omega))
          | (go_at_call 16; refine (p_right true (H0.out.drew.sl QC.out OC.out)).mono ?_; rw [ER.out]; rintro e w1' ⟨rfl, hq1⟩; have h1 := Hy.call H0.out.drew hq1; have hq0 : Below wr.heap.size wr w1' := (below_drew (Below.refl _ _)).trans (hq1.mono (Nat.le_refl _))))
      all_goals
        go_wp2
        go_ret
        exact ⟨rfl, by rw [HB.out]; exact below_on BW.out (show Hy wr (B + 1) _ by assumption).grown (by omega) (by have := SZ.out; omega)⟩

end Go.Proofs.Ytdpfkhliechkhaa
