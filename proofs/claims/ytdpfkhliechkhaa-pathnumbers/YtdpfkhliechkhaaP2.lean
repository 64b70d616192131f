/- Contracts of slices.Equal at places, path.Same, and of the reference's near, Right, Fits, Points, Same: for all paths what the plain arithmetic says; of the memory nothing that was there turns. -/
import Derived.Test.YtdpfkhliechkhaaP1
namespace Go.Proofs.Ytdpfkhliechkhaa
open Go.RowKit
open M

/-- The world behind some draws. -/
def Drew (w wr : World) : Prop := ∃ m, wr = w.drewN m
theorem Drew.refl (w : World) : Drew w w := ⟨0, rfl⟩
theorem Drew.on {w wr : World} (h : Drew w wr) (n : Nat) : Drew w (wr.drewN n) := by
  obtain ⟨m, rfl⟩ := h
  exact ⟨m + n, by simp [World.drewN, Nat.add_assoc]⟩
theorem Drew.block {w wr : World} (h : Drew w wr) (g : Nat) : wr.heap[g]? = w.heap[g]? := by
  obtain ⟨m, rfl⟩ := h
  rfl
theorem Drew.below {w wr : World} (h : Drew w wr) (B : Nat) : Below B w wr := by
  obtain ⟨m, rfl⟩ := h
  exact below_drewN (Below.refl _ _) _
theorem pts_ne {ps qs : List Pt} {n : Nat} (h : pt ps n ≠ pt qs n) : ps ≠ qs := fun e => h (by rw [e])

set_option maxHeartbeats 1000000 in
theorem p_equal {v u : Value} {ps qs : List Pt} {w : World} (h : Psl w v ps) (h2 : Psl w u qs) :
    Calls Try.prog 37 #[v, u] w fun e w' => e = .returned (.bool (decide (ps = qs))) ∧ Below w.heap.size w w' := by
  obtain ⟨ao, cap, rfl, hf, hr⟩ := h
  obtain ⟨ao2, cap2, rfl, hf2, hr2⟩ := h2
  by_cases hl : ps.length = qs.length
  · obtain ⟨N, hN⟩ : ∃ N, ps.length = N := ⟨_, rfl⟩
    rw [← hl, hN]
    rw [hN] at hf hr hl
    rw [← hl] at hr2
    have HR := Lib.hid hr
    have HR2 := Lib.hid hr2
    have HL := Lib.hid hl
    have HN := Lib.hid hN
    clear hl hN hr hr2 hf2
    go_enter Try.func37, Try.ntmps37
    go_wp2
    go_loopw [5, 13] (fun _ i wr => ∃ n : Nat, n ≤ N ∧ i = .int .i64 n ∧ (∀ j, j < n → pt ps j = pt qs j) ∧ Drew w wr) (fun _ i _ => N - (intOf i).toNat)
    case atStart => exact ⟨0, by omega, rfl, fun j hj => by omega, Drew.refl _⟩
    case round =>
      obtain ⟨n, hn, rfl, hst, hd⟩ := hrel
      have HST := Lib.hid hst
      have HD := Lib.hid hd
      clear hst hd
      by_cases hlt : n < N
      · obtain ⟨g, o, rfl, hr⟩ := HR.out (by omega)
        obtain ⟨g2, o2, rfl, hr2⟩ := HR2.out (by omega)
        have hr := hr.block (HD.out.block _)
        have hr2 := hr2.block (HD.out.block _)
        have c0 := hr.c0 n (by have := HN.out; omega)
        have c1 := hr.c1 n (by have := HN.out; omega)
        have d0 := hr2.c0 n (by have := HL.out; omega)
        have d1 := hr2.c1 n (by have := HL.out; omega)
        obtain ⟨p, hp⟩ : ∃ p, pt ps n = p := ⟨_, rfl⟩
        obtain ⟨q, hq⟩ : ∃ q, pt qs n = q := ⟨_, rfl⟩
        rw [hp] at c0 c1
        rw [hq] at d0 d1
        have o1 : (n : Int) < N := by omega
        have HP := Lib.hid hp
        have HQ := Lib.hid hq
        clear hr hr2 hp hq
        obtain ⟨x, y⟩ := p
        obtain ⟨x2, y2⟩ := q
        simp only at c0 c1 d0 d1
        by_cases ex : x = x2
        · by_cases ey : y = y2
          · subst ex ey
            go_wp2
            go_quiet (fail)
            go_wp2
            go_roundw
            case rel => exact ⟨n + 1, by omega, by go_num, fun j hj => by by_cases e : j = n; (subst e; rw [HP.out, HQ.out]); exact HST.out j (by omega), HD.out.on _⟩
            case measure => simp [intOf]; omega
          · have E := Lib.hid (decide_eq_false (pts_ne (n := n) (ps := ps) (qs := qs) (by rw [HP.out, HQ.out]; simp [ey])))
            subst ex
            go_wp2
            go_quiet (fail)
            go_wp2
            go_ret
            exact ⟨by rw [E.out]; rfl, (HD.out.on _).below _⟩
        · have E := Lib.hid (decide_eq_false (pts_ne (n := n) (ps := ps) (qs := qs) (by rw [HP.out, HQ.out]; simp [ex])))
          go_wp2
          go_quiet (fail)
          go_wp2
          go_ret
          exact ⟨by rw [E.out]; rfl, (HD.out.on _).below _⟩
      · obtain rfl : n = N := by omega
        have o1 : (n : Int) ≤ n := by omega
        go_wp2
        go_ret
        exact ⟨by rw [decide_eq_true (pts_ext (by rw [HN.out]; exact HL.out) (by rw [HN.out]; exact HST.out))]; rfl, HD.out.below _⟩
  · rw [decide_eq_false (fun e : ps = qs => hl (by rw [e]))]
    have o1 : ¬ (ps.length : Int) = qs.length := by omega
    clear hr hr2
    go_enter Try.func37, Try.ntmps37
    go_wp2
    go_ret
    exact ⟨rfl, Below.refl _ _⟩

theorem p_same {v u : Value} {ps qs : List Pt} {w : World} (c d : Bool) (h : Psl w v ps) (h2 : Psl w u qs) :
    Calls Try.prog 17 #[.agg #[.bool c, v], .agg #[.bool d, u]] w fun e w' => e = .returned (.bool ((c == d) && decide (ps = qs))) ∧ Below w.heap.size w w' := by
  obtain ⟨W, hW⟩ : ∃ W, (w.alloc (.cells #[.bool c, v] 24)).alloc (.cells #[.bool d, u] 24) = W := ⟨_, rfl⟩
  have hb : Below w.heap.size w W := by rw [← hW]; exact ((Below.refl _ _).alloc (Nat.le_refl _) _).alloc (by simp) _
  have E := Lib.hid (p_equal (h.below hb (Nat.le_refl _)) (h2.below hb (Nat.le_refl _)))
  obtain ⟨ao, cap, rfl, _⟩ := h
  obtain ⟨ao2, cap2, rfl, _⟩ := h2
  have HW := Lib.hid hW
  have HB := Lib.hid hb
  clear hW hb
  by_cases e : c = d
  · subst e
    rw [show (c == c) = true by simp]
    go_enter Try.func17, Try.ntmps17
    go_wp2_with fail
    rw [HW.out]
    refine E.out.mono ?_
    rintro e w1 ⟨rfl, hq⟩
    have HB1 := Lib.hid (HB.out.trans (hq.mono HB.out.size))
    clear hq
    go_wp2
    go_ret
    exact ⟨rfl, HB1.out⟩
  · rw [show (c == d) = false by simpa using e]
    clear E
    have hcd : (c = true ∧ d = false) ∨ (c = false ∧ d = true) := by cases c <;> cases d <;> simp_all
    go_enter Try.func17, Try.ntmps17
    rcases hcd with ⟨rfl, rfl⟩ | ⟨rfl, rfl⟩
    all_goals
      go_wp2
      go_ret
      exact ⟨rfl, by rw [HW.out]; exact HB.out⟩

end Go.Proofs.Ytdpfkhliechkhaa
