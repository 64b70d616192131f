/- Contracts of mutoscoperef8's near, Right, Fits, Points, Same: for all paths what the plain arithmetic says; of the memory nothing that was there turns. -/
import Derived.Test.YtglbfpjjnboeaaaGreatPM
namespace Go.Proofs.YtglbfpjjnboeaaaGreat
open Go.RowKit
open M

theorem r8_fits {v u : Value} {ps qs : List Pt} {w : World} (c d : Bool) (h : Psl w v ps) (h2 : Psl w u qs) :
    Calls Tryz.prog 61 #[.agg #[.bool c, v], .agg #[.bool d, u]] w fun e w' => e = .returned (.bool (fits c ps d qs)) ∧ Below w.heap.size w w' := by
  obtain ⟨ao, cap, rfl, hf, _⟩ := h
  obtain ⟨ao2, cap2, rfl, hf2, _⟩ := h2
  by_cases e : ps.length = qs.length
  · rw [fits_eq e, ← e]
    go_enter Tryz.func61, Tryz.ntmps61
    cases c <;> cases d
    all_goals
      go_wp2
      go_ret
      exact ⟨rfl, ((Below.refl _ _).alloc (Nat.le_refl _) _).alloc (by simp) _⟩
  · rw [fits_ne e]
    have o1 : ¬ (ps.length : Int) = qs.length := by omega
    go_enter Tryz.func61, Tryz.ntmps61
    go_wp2
    go_ret
    exact ⟨rfl, ((Below.refl _ _).alloc (Nat.le_refl _) _).alloc (by simp) _⟩

theorem r8_near (x y : Int) (w : World) : Calls Tryz.prog 91 #[.agg #[.int .i64 x, .int .i64 y]] w fun e w' => e = .returned (.bool (nearP ⟨x, y⟩)) ∧ Below w.heap.size w w' := by
  by_cases h0 : -67108864 ≤ x
  · by_cases h1 : x ≤ 67108864
    · by_cases h2 : -67108864 ≤ y
      · by_cases h3 : y ≤ 67108864
        · rw [show nearP ⟨x, y⟩ = true by simp [nearP, nearN, h0, h1, h2, h3]]
          go_enter Tryz.func91, Tryz.ntmps91
          go_wp2
          go_ret
          exact ⟨rfl, (Below.refl _ _).alloc (Nat.le_refl _) _⟩
        · rw [show nearP ⟨x, y⟩ = false by simp [nearP, nearN, h3]]
          go_enter Tryz.func91, Tryz.ntmps91
          go_wp2
          go_ret
          exact ⟨rfl, (Below.refl _ _).alloc (Nat.le_refl _) _⟩
      · rw [show nearP ⟨x, y⟩ = false by simp [nearP, nearN, h2]]
        go_enter Tryz.func91, Tryz.ntmps91
        go_wp2
        go_ret
        exact ⟨rfl, (Below.refl _ _).alloc (Nat.le_refl _) _⟩
    · rw [show nearP ⟨x, y⟩ = false by simp [nearP, nearN, h1]]
      go_enter Tryz.func91, Tryz.ntmps91
      go_wp2
      go_ret
      exact ⟨rfl, (Below.refl _ _).alloc (Nat.le_refl _) _⟩
  · rw [show nearP ⟨x, y⟩ = false by simp [nearP, nearN, h0]]
    go_enter Tryz.func91, Tryz.ntmps91
    go_wp2
    go_ret
    exact ⟨rfl, (Below.refl _ _).alloc (Nat.le_refl _) _⟩

set_option maxHeartbeats 1000000 in
theorem r8_points {v u : Value} {ps qs : List Pt} {w : World} (h : Psl w v ps) (h2 : Psl w u qs) :
    Calls Tryz.prog 36 #[v, u] w fun e w' => e = .returned (.bool (decide (ps = qs))) ∧ Below w.heap.size w w' := by
  obtain ⟨ao, cap, rfl, hf, hr⟩ := h
  obtain ⟨ao2, cap2, rfl, hf2, hr2⟩ := h2
  by_cases hl : ps.length = qs.length
  · obtain ⟨N, hN⟩ : ∃ N, ps.length = N := ⟨_, rfl⟩
    rw [← hl, hN]
    rw [hN] at hf hr hl
    rw [← hl] at hr2
    have HR := Lib.hid hr
    have HR2 := Lib.hid hr2
    have HL := Lib.hid hl
    have HN := Lib.hid hN
    clear hl hN hr hr2 hf2
    go_enter Tryz.func36, Tryz.ntmps36
    go_wp2
    go_loopw [5] (fun i wr => ∃ n : Nat, n ≤ N ∧ i = .int .i64 n ∧ (∀ j, j < n → pt ps j = pt qs j) ∧ Drew w wr) (fun i _ => N - (intOf i).toNat)
    case atStart => exact ⟨0, by omega, rfl, fun j hj => by omega, Drew.refl _⟩
    case round =>
      obtain ⟨n, hn, rfl, hst, hd⟩ := hrel
      have HST := Lib.hid hst
      have HD := Lib.hid hd
      clear hst hd
      by_cases hlt : n < N
      · obtain ⟨g, o, rfl, hr⟩ := HR.out (by omega)
        obtain ⟨g2, o2, rfl, hr2⟩ := HR2.out (by omega)
        have hr := hr.block (HD.out.block _)
        have hr2 := hr2.block (HD.out.block _)
        have c0 := hr.c0 n (by have := HN.out; omega)
        have c1 := hr.c1 n (by have := HN.out; omega)
        have d0 := hr2.c0 n (by have := HL.out; omega)
        have d1 := hr2.c1 n (by have := HL.out; omega)
        obtain ⟨p, hp⟩ : ∃ p, pt ps n = p := ⟨_, rfl⟩
        obtain ⟨q, hq⟩ : ∃ q, pt qs n = q := ⟨_, rfl⟩
        rw [hp] at c0 c1
        rw [hq] at d0 d1
        have o1 : (n : Int) < N := by omega
        have HP := Lib.hid hp
        have HQ := Lib.hid hq
        clear hr hr2 hp hq
        obtain ⟨x, y⟩ := p
        obtain ⟨x2, y2⟩ := q
        simp only at c0 c1 d0 d1
        by_cases ex : x = x2
        · by_cases ey : y = y2
          · subst ex ey
            go_wp2
            go_quiet (fail)
            go_wp2
            go_roundw
            case rel => exact ⟨n + 1, by omega, by go_num, fun j hj => by by_cases e : j = n; (subst e; rw [HP.out, HQ.out]); exact HST.out j (by omega), HD.out.on _⟩
            case measure => simp [intOf]; omega
          · have E := Lib.hid (decide_eq_false (pts_ne (n := n) (ps := ps) (qs := qs) (by rw [HP.out, HQ.out]; simp [ey])))
            subst ex
            go_wp2
            go_quiet (fail)
            go_wp2
            go_ret
            exact ⟨by rw [E.out]; rfl, (HD.out.on _).below _⟩
        · have E := Lib.hid (decide_eq_false (pts_ne (n := n) (ps := ps) (qs := qs) (by rw [HP.out, HQ.out]; simp [ex])))
          go_wp2
          go_quiet (fail)
          go_wp2
          go_ret
          exact ⟨by rw [E.out]; rfl, (HD.out.on _).below _⟩
      · obtain rfl : n = N := by omega
        have o1 : (n : Int) ≤ n := by omega
        go_wp2
        go_ret
        exact ⟨by rw [decide_eq_true (pts_ext (by rw [HN.out]; exact HL.out) (by rw [HN.out]; exact HST.out))]; rfl, HD.out.below _⟩
  · rw [decide_eq_false (fun e : ps = qs => hl (by rw [e]))]
    have o1 : ¬ (ps.length : Int) = qs.length := by omega
    clear hr hr2
    go_enter Tryz.func36, Tryz.ntmps36
    go_wp2
    go_ret
    exact ⟨rfl, Below.refl _ _⟩

theorem r8_same {v u : Value} {ps qs : List Pt} {w : World} (c d : Bool) (h : Psl w v ps) (h2 : Psl w u qs) :
    Calls Tryz.prog 11 #[.agg #[.bool c, v], .agg #[.bool d, u]] w fun e w' => e = .returned (.bool ((c == d) && decide (ps = qs))) ∧ Below w.heap.size w w' := by
  obtain ⟨W, hW⟩ : ∃ W, (w.alloc (.cells #[.bool c, v] 41)).alloc (.cells #[.bool d, u] 41) = W := ⟨_, rfl⟩
  have hb : Below w.heap.size w W := by rw [← hW]; exact ((Below.refl _ _).alloc (Nat.le_refl _) _).alloc (by simp) _
  have E := Lib.hid (r8_points (h.below hb (Nat.le_refl _)) (h2.below hb (Nat.le_refl _)))
  obtain ⟨ao, cap, rfl, _⟩ := h
  obtain ⟨ao2, cap2, rfl, _⟩ := h2
  have HW := Lib.hid hW
  have HB := Lib.hid hb
  clear hW hb
  by_cases e : c = d
  · subst e
    rw [show (c == c) = true by simp]
    go_enter Tryz.func11, Tryz.ntmps11
    go_wp2_with fail
    rw [HW.out]
    refine E.out.mono ?_
    rintro e w1 ⟨rfl, hq⟩
    have HB1 := Lib.hid (HB.out.trans (hq.mono HB.out.size))
    clear hq
    go_wp2
    go_ret
    exact ⟨rfl, HB1.out⟩
  · rw [show (c == d) = false by simpa using e]
    clear E
    have hcd : (c = true ∧ d = false) ∨ (c = false ∧ d = true) := by cases c <;> cases d <;> simp_all
    go_enter Tryz.func11, Tryz.ntmps11
    rcases hcd with ⟨rfl, rfl⟩ | ⟨rfl, rfl⟩
    all_goals
      go_wp2
      go_ret
      exact ⟨rfl, by rw [HW.out]; exact HB.out⟩

theorem okLen_cases (N : Nat) : (¬ 4 ≤ N ∧ okLen N = false) ∨ (4 ≤ N ∧ ¬ N ≤ 97 ∧ okLen N = false) ∨ (4 ≤ N ∧ N ≤ 97 ∧ ¬ N % 3 = 1 ∧ okLen N = false) ∨ (4 ≤ N ∧ N ≤ 97 ∧ N % 3 = 1 ∧ okLen N = true) := by
  by_cases h0 : 4 ≤ N
  · by_cases h1 : N ≤ 97
    · by_cases h2 : N % 3 = 1
      · exact Or.inr (Or.inr (Or.inr ⟨h0, h1, h2, by simp [okLen, h0, h1, h2]⟩))
      · exact Or.inr (Or.inr (Or.inl ⟨h0, h1, h2, by simp [okLen, h2]⟩))
    · exact Or.inr (Or.inl ⟨h0, h1, by simp [okLen, h1]⟩)
  · exact Or.inl ⟨h0, by simp [okLen, h0]⟩
set_option maxHeartbeats 1000000 in
theorem r8_right {v : Value} {ps : List Pt} {w : World} (c : Bool) (h : Psl w v ps) :
    Calls Tryz.prog 60 #[.agg #[.bool c, v]] w fun e w' => e = .returned (.bool (okP c ps)) ∧ Below w.heap.size w w' := by
  obtain ⟨B, hB⟩ : ∃ B, w.heap.size = B := ⟨_, rfl⟩
  obtain ⟨W, hW⟩ : ∃ W, w.alloc (.cells #[.bool c, v] 41) = W := ⟨_, rfl⟩
  have h0 : Has W B #[.bool c, v] 41 := by rw [← hW]; exact has_new hB
  have hb : Below B w W := by rw [← hW]; exact (Below.refl _ _).alloc (by omega) _
  have hs := h.below hb (by omega)
  obtain ⟨ao, cap, rfl, hf, _⟩ := h
  obtain ⟨N, hN⟩ : ∃ N, ps.length = N := ⟨_, rfl⟩
  rw [hN] at hf hs h0 hW ⊢
  have HN := Lib.hid hN
  have HB := Lib.hid hB
  have HW := Lib.hid hW
  have H0 := Lib.hid h0
  have HBW := Lib.hid hb
  have HS := Lib.hid hs
  have sW : B < W.heap.size := h0.lt
  clear hN hW h0 hb hs
  by_cases e : N = 0
  · subst e
    go_enter Tryz.func60, Tryz.ntmps60
    go_wp2
    go_ret
    exact ⟨by rw [okP_zero HN.out]; rfl, by rw [HW.out, HB.out]; exact HBW.out⟩
  · have o0 : ¬ (N : Int) = 0 := by omega
    have a1 := H0.out.cell 1 _ rfl
    have hw0 := eqz e
    have EP : Hid (okP c ps = (okLen N && nearL ps N)) := Lib.hid (by rw [okP_pos (by rw [HN.out]; exact e), HN.out])
    go_enter Tryz.func60, Tryz.ntmps60
    go_wp2
    rw [HW.out]
    clear hB a1
    go_loopw [4] (fun i wr => ∃ n : Nat, n ≤ N ∧ i = .int .i64 n ∧ nearL ps n = true ∧ Below W.heap.size W wr) (fun i _ => N - (intOf i).toNat)
    case atStart => exact ⟨0, by omega, rfl, rfl, Below.refl _ _⟩
    case round =>
      obtain ⟨n, hn, rfl, hst, hbd⟩ := hrel
      have HST := Lib.hid hst
      have HBD := Lib.hid hbd
      have BF : Hid (Below B w wr) := Lib.hid (HBW.out.trans (hbd.mono (by omega)))
      have sr : W.heap.size ≤ wr.heap.size := hbd.size
      clear hst
      by_cases hlt : n < N
      · have k0 := H0.out.below hbd H0.out.lt
        obtain ⟨g, o, rfl, r, l⟩ := (HS.out.below hbd (Nat.le_refl _)).row (by omega)
        have a1 := k0.cell 1 _ rfl
        have c0 := r.c0 n (by omega)
        have c1 := r.c1 n (by omega)
        obtain ⟨p, hp⟩ : ∃ p, pt ps n = p := ⟨_, rfl⟩
        rw [hp] at c0 c1
        have HP := Lib.hid hp
        have o1 : (n : Int) < N := by omega
        clear k0 r l hp hbd HS H0 HW
        obtain ⟨x, y⟩ := p
        simp only at c0 c1
        by_cases hx : nearP ⟨x, y⟩ = true
        · go_wp2_with fail
          refine (r8_near x y _).mono ?_
          rw [hx]
          rintro e w2 ⟨rfl, hq⟩
          have R := Lib.hid (HBD.out.trans (hq.mono sr))
          clear hq
          go_wp2
          go_roundw
          case rel => exact ⟨n + 1, by omega, by go_num, by unfold nearL; rw [HST.out, HP.out, hx]; rfl, R.out⟩
          case measure => simp [intOf]; omega
        · have hx' : nearP ⟨x, y⟩ = false := by simpa using hx
          have EH := Lib.hid (nearL_off hlt (by rw [HP.out]; exact hx'))
          clear hx
          go_wp2_with fail
          refine (r8_near x y _).mono ?_
          rw [hx']
          rintro e w2 ⟨rfl, hq⟩
          have R := Lib.hid (BF.out.trans (hq.mono (by omega)))
          clear hq
          go_wp2
          go_ret
          exact ⟨by rw [EP.out, EH.out]; simp, by rw [HB.out]; exact R.out⟩
      · obtain rfl : n = N := by omega
        have o1 : (n : Int) ≤ n := by omega
        clear hbd HS H0 HW
        rcases okLen_cases n with ⟨p0, p3⟩ | ⟨p0, p1, p3⟩ | ⟨p0, p1, p2, p3⟩ | ⟨p0, p1, p2, p3⟩
        · have o2 : (n : Int) < 4 := by omega
          have EL := Lib.hid p3
          clear p3
          go_wp2
          go_ret
          exact ⟨by rw [EP.out, HST.out, EL.out]; rfl, by rw [HB.out]; exact BF.out⟩
        · have o2 : (4 : Int) ≤ n := by omega
          have o3 : (97 : Int) < n := by omega
          have EL := Lib.hid p3
          clear p3
          go_wp2
          go_ret
          exact ⟨by rw [EP.out, HST.out, EL.out]; rfl, by rw [HB.out]; exact BF.out⟩
        · have o2 : (4 : Int) ≤ n := by omega
          have o3 : (n : Int) ≤ 97 := by omega
          have o4 : ((n : Int) % 3 == 1) = false := by simp; omega
          have EL := Lib.hid p3
          clear p3
          go_wp2
          go_ret
          exact ⟨by rw [EP.out, HST.out, EL.out]; first | rfl | exact ret_b (by simp; omega), by rw [HB.out]; exact BF.out⟩
        · have o2 : (4 : Int) ≤ n := by omega
          have o3 : (n : Int) ≤ 97 := by omega
          have o4 : (n : Int) % 3 = 1 := by omega
          have EL := Lib.hid p3
          clear p3
          go_wp2
          go_ret
          exact ⟨by rw [EP.out, HST.out, EL.out]; rfl, by rw [HB.out]; exact BF.out⟩

end Go.Proofs.YtglbfpjjnboeaaaGreat
