/- Contracts of path.Empty, .Fits, .isNear, .rightLength, .allNear, .Right, .Same (slices.Equal), and of the reference's near, Right, Fits, Points, Same: for all paths what the plain arithmetic says; of the memory nothing that was there turns. -/
import Derived.Test.YtglbfpjjnboeaaaGreatPC
namespace Go.Proofs.YtglbfpjjnboeaaaGreat
open Go.RowKit
open M

theorem ret_b {a b : Bool} (h : a = b) : Ending.returned (.bool a) = .returned (.bool b) := by rw [h]
theorem eqz {N : Nat} (h : ¬ N = 0) : ((N : Int) == 0) = false := by simp; omega

theorem p_empty {v : Value} {ps : List Pt} {w : World} (c : Bool) (h : Psl w v ps) :
    Calls Tryz.prog 85 #[.agg #[.bool c, v]] w fun e w' => e = .returned (.bool (decide (ps.length = 0))) ∧ Below w.heap.size w w' := by
  obtain ⟨ao, cap, rfl, hf, _⟩ := h
  obtain ⟨N, hN⟩ : ∃ N, ps.length = N := ⟨_, rfl⟩
  rw [hN] at hf ⊢
  clear hN
  by_cases h0 : N = 0
  · subst h0
    go_enter Tryz.func85, Tryz.ntmps85
    go_wp2
    go_ret
    exact ⟨rfl, (Below.refl _ _).alloc (Nat.le_refl _) _⟩
  · rw [decide_eq_false h0]
    have o1 : ¬ (N : Int) = 0 := by omega
    go_enter Tryz.func85, Tryz.ntmps85
    go_wp2
    go_ret
    exact ⟨ret_b (eqz h0), (Below.refl _ _).alloc (Nat.le_refl _) _⟩

theorem fits_ne {c d : Bool} {ps qs : List Pt} (h : ¬ ps.length = qs.length) : fits c ps d qs = false := by simp [fits, h]
theorem fits_eq {c d : Bool} {ps qs : List Pt} (h : ps.length = qs.length) : fits c ps d qs = (c == d) := by simp [fits, h]
theorem p_fits {v u : Value} {ps qs : List Pt} {w : World} (c d : Bool) (h : Psl w v ps) (h2 : Psl w u qs) :
    Calls Tryz.prog 87 #[.agg #[.bool c, v], .agg #[.bool d, u]] w fun e w' => e = .returned (.bool (fits c ps d qs)) ∧ Below w.heap.size w w' := by
  obtain ⟨ao, cap, rfl, hf, _⟩ := h
  obtain ⟨ao2, cap2, rfl, hf2, _⟩ := h2
  by_cases e : ps.length = qs.length
  · rw [fits_eq e, ← e]
    go_enter Tryz.func87, Tryz.ntmps87
    cases c <;> cases d
    all_goals
      go_wp2
      go_ret
      exact ⟨rfl, ((Below.refl _ _).alloc (Nat.le_refl _) _).alloc (by simp) _⟩
  · rw [fits_ne e]
    have o1 : ¬ (ps.length : Int) = qs.length := by omega
    go_enter Tryz.func87, Tryz.ntmps87
    go_wp2
    go_ret
    exact ⟨rfl, ((Below.refl _ _).alloc (Nat.le_refl _) _).alloc (by simp) _⟩

theorem p_isNear (x : Int) (w : World) : Calls Tryz.prog 113 #[.int .i64 x] w fun e w' => e = .returned (.bool (nearN x)) ∧ w = w' := by
  by_cases h0 : -67108864 ≤ x
  · by_cases h1 : x ≤ 67108864
    · rw [show nearN x = true by simp [nearN, h0, h1]]
      go_enter Tryz.func113, Tryz.ntmps113
      go_wp2
      go_ret
      exact ⟨rfl, rfl⟩
    · rw [show nearN x = false by simp [nearN, h1]]
      go_enter Tryz.func113, Tryz.ntmps113
      go_wp2
      go_ret
      exact ⟨rfl, rfl⟩
  · rw [show nearN x = false by simp [nearN, h0]]
    go_enter Tryz.func113, Tryz.ntmps113
    go_wp2
    go_ret
    exact ⟨rfl, rfl⟩
theorem p_len (N : Nat) (w : World) (hN : N ≤ 8796093022208) : Calls Tryz.prog 105 #[.int .i64 (N : Int)] w fun e w' => e = .returned (.bool (okLen N)) ∧ w = w' := by
  by_cases h0 : 4 ≤ N
  · by_cases h1 : N ≤ 97
    · by_cases h2 : N % 3 = 1
      · rw [show okLen N = true by simp [okLen, h0, h1, h2]]
        have o0 : (4 : Int) ≤ N := by omega
        have o1 : (N : Int) ≤ 97 := by omega
        have o2 : (N : Int) % 3 = 1 := by omega
        go_enter Tryz.func105, Tryz.ntmps105
        go_wp2
        go_ret
        exact ⟨rfl, rfl⟩
      · rw [show okLen N = false by simp [okLen, h2]]
        have o0 : (4 : Int) ≤ N := by omega
        have o1 : (N : Int) ≤ 97 := by omega
        have o2 : ¬ (N : Int) % 3 = 1 := by omega
        go_enter Tryz.func105, Tryz.ntmps105
        go_wp2
        go_ret
        exact ⟨ret_b (by simp; omega), rfl⟩
    · rw [show okLen N = false by simp [okLen, h1]]
      have o0 : (4 : Int) ≤ N := by omega
      have o1 : (97 : Int) < N := by omega
      go_enter Tryz.func105, Tryz.ntmps105
      go_wp2
      go_ret
      exact ⟨rfl, rfl⟩
  · rw [show okLen N = false by simp [okLen, h0]]
    have o0 : (N : Int) < 4 := by omega
    go_enter Tryz.func105, Tryz.ntmps105
    go_wp2
    go_ret
    exact ⟨rfl, rfl⟩

set_option maxHeartbeats 1000000 in
theorem p_allNear {v : Value} {ps : List Pt} {w : World} (h : Psl w v ps) :
    Calls Tryz.prog 106 #[v] w fun e w' => e = .returned (.bool (nearL ps ps.length)) ∧ Below w.heap.size w w' := by
  obtain ⟨ao, cap, rfl, hf, hr⟩ := h
  have HR := Lib.hid hr
  obtain ⟨N, hN⟩ : ∃ N, ps.length = N := ⟨_, rfl⟩
  obtain ⟨B, hB⟩ : ∃ B, w.heap.size = B := ⟨_, rfl⟩
  rw [hN] at hf ⊢
  have HN := Lib.hid hN
  have HB := Lib.hid hB
  clear hN hB hr
  go_enter Tryz.func106, Tryz.ntmps106
  go_wp2
  go_loopw [4, 7] (fun _ i wr => ∃ n : Nat, n ≤ N ∧ i = .int .i64 n ∧ nearL ps n = true ∧ Below B w wr) (fun _ i _ => N - (intOf i).toNat)
  case atStart => exact ⟨0, by omega, rfl, rfl, Below.refl _ _⟩
  case round =>
    obtain ⟨n, hn, rfl, hst, hb⟩ := hrel
    have hsz : B ≤ wr.heap.size := by have := hb.size; have := HB.out; omega
    have HST := Lib.hid hst
    have HBW := Lib.hid hb
    clear hst hb
    by_cases hlt : n < N
    · obtain ⟨g, o, rfl, hr⟩ := HR.out (by have := HN.out; omega)
      have hr := hr.block (HBW.out.block g (by have := hr.lt (by have := HN.out; omega); have := HB.out; omega))
      have hln : n < ps.length := by have := HN.out; omega
      have c0 := hr.c0 n hln
      have c1 := hr.c1 n hln
      obtain ⟨p, hp⟩ : ∃ p, pt ps n = p := ⟨_, rfl⟩
      rw [hp] at c0 c1
      have o1 : (n : Int) < N := by omega
      have HP := Lib.hid hp
      have R : Hid (Below B w (wr.alloc (.cells (pCells p) 29))) := Lib.hid (HBW.out.alloc hsz _)
      clear hr hp
      obtain ⟨x, y⟩ := p
      simp only at c0 c1
      by_cases hx : nearN x = true
      · by_cases hy : nearN y = true
        · go_wp2_with (first | (go_at_call 113; refine (p_isNear _ _).mono ?_; rintro e w' ⟨rfl, rfl⟩; first | rw [hx] | rw [hy]))
          go_roundw
          case rel => exact ⟨n + 1, by omega, by go_num, by unfold nearL; rw [HST.out, HP.out]; simp [nearP, hx, hy], R.out⟩
          case measure => simp [intOf]; omega
        · have hy' : nearN y = false := by simpa using hy
          have E : nearL ps N = false := nearL_off hlt (by rw [HP.out]; simp [nearP, hy'])
          have EH := Lib.hid E
          clear E hy
          go_wp2_with (first | (go_at_call 113; refine (p_isNear _ _).mono ?_; rintro e w' ⟨rfl, rfl⟩; first | rw [hx] | rw [hy']))
          go_ret
          exact ⟨by rw [EH.out]; rfl, by rw [HB.out]; exact R.out⟩
      · have hx' : nearN x = false := by simpa using hx
        have E : nearL ps N = false := nearL_off hlt (by rw [HP.out]; simp [nearP, hx'])
        have EH := Lib.hid E
        clear E hx
        go_wp2_with (first | (go_at_call 113; refine (p_isNear _ _).mono ?_; rintro e w' ⟨rfl, rfl⟩; rw [hx']))
        go_ret
        exact ⟨by rw [EH.out]; rfl, by rw [HB.out]; exact R.out⟩
    · obtain rfl : n = N := by omega
      have o1 : (n : Int) ≤ n := by omega
      go_wp2
      go_ret
      exact ⟨by rw [HST.out]; rfl, by rw [HB.out]; exact HBW.out⟩

theorem okP_zero {c : Bool} {ps : List Pt} (h : ps.length = 0) : okP c ps = !c := by simp [okP, h]
theorem okP_pos {c : Bool} {ps : List Pt} (h : ¬ ps.length = 0) : okP c ps = (okLen ps.length && nearL ps ps.length) := by simp [okP, h]
set_option maxHeartbeats 1000000 in
theorem p_right {v : Value} {ps : List Pt} {w : World} (c : Bool) (h : Psl w v ps) :
    Calls Tryz.prog 86 #[.agg #[.bool c, v]] w fun e w' => e = .returned (.bool (okP c ps)) ∧ Below w.heap.size w w' := by
  have hs := h
  obtain ⟨ao, cap, rfl, hf, _⟩ := h
  obtain ⟨W, hW⟩ : ∃ W, w.alloc (.cells #[.bool c, .slice ao ps.length cap] 41) = W := ⟨_, rfl⟩
  have h0 : Has W w.heap.size #[.bool c, .slice ao ps.length cap] 41 := by rw [← hW]; exact has_new rfl
  have hb : Below w.heap.size w W := by rw [← hW]; exact (Below.refl _ _).alloc (Nat.le_refl _) _
  have E := Lib.hid (p_empty (w := W) c (hs.below hb (Nat.le_refl _)))
  have NR := Lib.hid (fun (W' : World) (hq : Below w.heap.size w W') => p_allNear (hs.below hq (Nat.le_refl _)))
  have HW := Lib.hid hW
  have H0 := Lib.hid h0
  have HB := Lib.hid hb
  have HS := Lib.hid hs
  clear h0 hb hW hs
  go_enter Tryz.func86, Tryz.ntmps86
  go_wp2_with fail
  rw [HW.out]
  refine E.out.mono ?_
  rintro e w1 ⟨rfl, hq⟩
  have k0 := H0.out.below hq H0.out.lt
  have c0 := k0.cell 0 _ rfl
  have c1 := k0.cell 1 _ rfl
  have HB1 := Lib.hid (HB.out.trans (hq.mono HB.out.size))
  clear k0 hq E H0 HB
  by_cases e : ps.length = 0
  · rw [decide_eq_true e]
    go_wp2
    go_ret
    exact ⟨by rw [okP_zero e]; rfl, HB1.out⟩
  · rw [decide_eq_false e]
    by_cases hl : okLen ps.length = true
    · go_wp2_with (first | (go_at_call 105; refine (p_len _ _ hf).mono ?_; rintro e w' ⟨rfl, rfl⟩; rw [hl]))
      refine (NR.out _ HB1.out).mono ?_
      rintro e w2 ⟨rfl, hq⟩
      have HB2 := Lib.hid (HB1.out.trans (hq.mono HB1.out.size))
      clear hq
      go_wp2
      go_ret
      exact ⟨by rw [okP_pos e, hl]; rfl, HB2.out⟩
    · have hl' : okLen ps.length = false := by simpa using hl
      clear hl
      go_wp2_with (first | (go_at_call 105; refine (p_len _ _ hf).mono ?_; rintro e w' ⟨rfl, rfl⟩; rw [hl']))
      go_ret
      exact ⟨by rw [okP_pos e, hl']; rfl, HB1.out⟩

end Go.Proofs.YtglbfpjjnboeaaaGreat
