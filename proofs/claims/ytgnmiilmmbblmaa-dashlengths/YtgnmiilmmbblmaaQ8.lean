/- Contracts of mutoscoperef8's near, Right, Fits, Points, Same: for all paths what the plain arithmetic says; of the memory nothing that was there turns. -/
import Derived.Test.YtgnmiilmmbblmaaPM
namespace Go.Proofs.Ytgnmiilmmbblmaa
open Go.RowKit
open M

set_option maxHeartbeats 1000000 in
theorem r8_points {v u : Value} {ps qs : List Pt} {w : World} (h : Psl w v ps) (h2 : Psl w u qs) :
    Calls Try.prog 29 #[v, u] w fun e w' => e = .returned (.bool (decide (ps = qs))) ∧ Below w.heap.size w w' := by
  obtain ⟨ao, cap, rfl, hf, hr⟩ := h
  obtain ⟨ao2, cap2, rfl, hf2, hr2⟩ := h2
  by_cases hl : ps.length = qs.length
  · obtain ⟨N, hN⟩ : ∃ N, ps.length = N := ⟨_, rfl⟩
    rw [← hl, hN]
    rw [hN] at hf hr hl
    rw [← hl] at hr2
    have HR := Lib.hid hr
    have HR2 := Lib.hid hr2
    have HL := Lib.hid hl
    have HN := Lib.hid hN
    clear hl hN hr hr2 hf2
    go_enter Try.func29, Try.ntmps29
    go_wp2
    go_loopw [5] (fun i wr => ∃ n : Nat, n ≤ N ∧ i = .int .i64 n ∧ (∀ j, j < n → pt ps j = pt qs j) ∧ Drew w wr) (fun i _ => N - (intOf i).toNat)
    case atStart => exact ⟨0, by omega, rfl, fun j hj => by omega, Drew.refl _⟩
    case round =>
      obtain ⟨n, hn, rfl, hst, hd⟩ := hrel
      have HST := Lib.hid hst
      have HD := Lib.hid hd
      clear hst hd
      by_cases hlt : n < N
      · obtain ⟨g, o, rfl, hr⟩ := HR.out (by omega)
        obtain ⟨g2, o2, rfl, hr2⟩ := HR2.out (by omega)
        have hr := hr.block (HD.out.block _)
        have hr2 := hr2.block (HD.out.block _)
        have c0 := hr.c0 n (by have := HN.out; omega)
        have c1 := hr.c1 n (by have := HN.out; omega)
        have d0 := hr2.c0 n (by have := HL.out; omega)
        have d1 := hr2.c1 n (by have := HL.out; omega)
        obtain ⟨p, hp⟩ : ∃ p, pt ps n = p := ⟨_, rfl⟩
        obtain ⟨q, hq⟩ : ∃ q, pt qs n = q := ⟨_, rfl⟩
        rw [hp] at c0 c1
        rw [hq] at d0 d1
        have o1 : (n : Int) < N := by omega
        have HP := Lib.hid hp
        have HQ := Lib.hid hq
        clear hr hr2 hp hq
        obtain ⟨x, y⟩ := p
        obtain ⟨x2, y2⟩ := q
        simp only at c0 c1 d0 d1
        by_cases ex : x = x2
        · by_cases ey : y = y2
          · subst ex ey
            go_wp2
            go_quiet (fail)
            go_wp2
            go_roundw
            case rel => exact ⟨n + 1, by omega, by go_num, fun j hj => by by_cases e : j = n; (subst e; rw [HP.out, HQ.out]); exact HST.out j (by omega), HD.out.on _⟩
            case measure => simp [intOf]; omega
          · have E := Lib.hid (decide_eq_false (pts_ne (n := n) (ps := ps) (qs := qs) (by rw [HP.out, HQ.out]; simp [ey])))
            subst ex
            go_wp2
            go_quiet (fail)
            go_wp2
            go_ret
            exact ⟨by rw [E.out]; rfl, (HD.out.on _).below _⟩
        · have E := Lib.hid (decide_eq_false (pts_ne (n := n) (ps := ps) (qs := qs) (by rw [HP.out, HQ.out]; simp [ex])))
          go_wp2
          go_quiet (fail)
          go_wp2
          go_ret
          exact ⟨by rw [E.out]; rfl, (HD.out.on _).below _⟩
      · obtain rfl : n = N := by omega
        have o1 : (n : Int) ≤ n := by omega
        go_wp2
        go_ret
        exact ⟨by rw [decide_eq_true (pts_ext (by rw [HN.out]; exact HL.out) (by rw [HN.out]; exact HST.out))]; rfl, HD.out.below _⟩
  · rw [decide_eq_false (fun e : ps = qs => hl (by rw [e]))]
    have o1 : ¬ (ps.length : Int) = qs.length := by omega
    clear hr hr2
    go_enter Try.func29, Try.ntmps29
    go_wp2
    go_ret
    exact ⟨rfl, Below.refl _ _⟩

theorem okLen_cases (N : Nat) : (¬ 4 ≤ N ∧ okLen N = false) ∨ (4 ≤ N ∧ ¬ N ≤ 97 ∧ okLen N = false) ∨ (4 ≤ N ∧ N ≤ 97 ∧ ¬ N % 3 = 1 ∧ okLen N = false) ∨ (4 ≤ N ∧ N ≤ 97 ∧ N % 3 = 1 ∧ okLen N = true) := by
  by_cases h0 : 4 ≤ N
  · by_cases h1 : N ≤ 97
    · by_cases h2 : N % 3 = 1
      · exact Or.inr (Or.inr (Or.inr ⟨h0, h1, h2, by simp [okLen, h0, h1, h2]⟩))
      · exact Or.inr (Or.inr (Or.inl ⟨h0, h1, h2, by simp [okLen, h2]⟩))
    · exact Or.inr (Or.inl ⟨h0, h1, by simp [okLen, h1]⟩)
  · exact Or.inl ⟨h0, by simp [okLen, h0]⟩
end Go.Proofs.Ytgnmiilmmbblmaa
