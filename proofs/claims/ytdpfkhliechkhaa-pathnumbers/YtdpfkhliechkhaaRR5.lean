/- Contracts of mutoscoperef5.Moves, .Right: for all keys what the plain arithmetic says; of the memory nothing that was there turns. -/
import Derived.Test.YtdpfkhliechkhaaRK5
namespace Go.Proofs.Ytdpfkhliechkhaa
open Go.RowKit
open M

theorem r5_moves (t h a b c d : Int) (w : World) :
    Calls Try.prog 49 #[.int .i64 t, .int .i64 h, .agg #[.int .i64 a, .int .i64 b, .int .i64 c, .int .i64 d]] w fun e w' => e = .returned (.bool (okIn t 1073741824 && okHow h a b c d)) ∧ Below w.heap.size w w' := by
  have hp : ∃ p, okIn t 1073741824 = p ∧ (decide (-1073741824 ≤ t) && decide (t ≤ 1073741824)) = p := ⟨_, rfl, rfl⟩
  obtain ⟨p, hp, hp'⟩ := hp
  rw [hp]
  have P := Lib.hid hp'
  clear hp hp'
  cases p with
  | false =>
    go_enter Try.func49, Try.ntmps49
    go_wp2_with (first | (go_at_call 68; refine (r5_within _ _ _ _).mono ?_; rintro e w' ⟨rfl, rfl⟩; rw [P.out]))
    go_ret
    exact ⟨by simp, (Below.refl _ _).alloc (Nat.le_refl _) _⟩
  | true =>
    by_cases h2 : h = 2
    · subst h2
      rw [show okHow 2 a b c d = okE a b c d by simp [okHow]]
      go_enter Try.func49, Try.ntmps49
      go_wp2_with (first | (go_at_call 68; refine (r5_within _ _ _ _).mono ?_; rintro e w' ⟨rfl, rfl⟩; rw [P.out]))
      refine (r5_ease _ _ _ _ _).mono ?_
      rintro e w1 ⟨rfl, hq⟩
      obtain ⟨_, HB⟩ := k4_keep has_new0 hq
      clear hq
      have HBB := Lib.hid HB
      clear HB
      go_wp2
      go_ret
      exact ⟨by simp, HBB.out⟩
    · by_cases h0 : h = 0 ∨ h = 1
      · rw [show okHow h a b c d = decide (a = 0 ∧ b = 0 ∧ c = 0 ∧ d = 0) from if_pos h0]
        rcases h0 with rfl | rfl
        · go_enter Try.func49, Try.ntmps49
          go_wp2_with (first | (go_at_call 68; refine (r5_within _ _ _ _).mono ?_; rintro e w' ⟨rfl, rfl⟩; rw [P.out]))
          all_goals
            go_ret
            exact ⟨by simp [*], (Below.refl _ _).alloc (Nat.le_refl _) _⟩
        · go_enter Try.func49, Try.ntmps49
          go_wp2_with (first | (go_at_call 68; refine (r5_within _ _ _ _).mono ?_; rintro e w' ⟨rfl, rfl⟩; rw [P.out]))
          all_goals
            go_ret
            exact ⟨by simp [*], (Below.refl _ _).alloc (Nat.le_refl _) _⟩
      · rw [show okHow h a b c d = false by simp [okHow, h0, h2]]
        have h00 : ¬ h = 0 := fun e => h0 (Or.inl e)
        have h01 : ¬ h = 1 := fun e => h0 (Or.inr e)
        clear h0
        go_enter Try.func49, Try.ntmps49
        go_wp2_with (first | (go_at_call 68; refine (r5_within _ _ _ _).mono ?_; rintro e w' ⟨rfl, rfl⟩; rw [P.out]))
        go_ret
        exact ⟨by simp, (Below.refl _ _).alloc (Nat.le_refl _) _⟩


end Go.Proofs.Ytdpfkhliechkhaa
