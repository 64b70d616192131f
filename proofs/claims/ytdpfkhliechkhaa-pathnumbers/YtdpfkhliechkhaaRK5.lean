/- Contracts of mutoscoperef5.Goes, .Find, .At, .Moves, .Right: for all keys what the plain arithmetic says; of the memory nothing that was there turns. -/
import Derived.Test.YtdpfkhliechkhaaR5
import Derived.Test.YtdpfkhliechkhaaKA5
import Derived.Test.YtdpfkhliechkhaaMidR
namespace Go.Proofs.Ytdpfkhliechkhaa
open Go.RowKit
open M

theorem r5_goes (h a b c d p : Int) (w : World) :
    Calls Try.prog 52 #[.int .i64 h, .agg #[.int .i64 a, .int .i64 b, .int .i64 c, .int .i64 d], .int .i64 p] w fun e w' => e = .returned (.int .i64 (goes h a b c d p)) ∧ Below w.heap.size w w' := by
  by_cases h0 : h = 0
  · subst h0
    by_cases hp : 65536 ≤ p
    · rw [show goes 0 a b c d p = 65536 by simp [goes, hp]]
      go_enter Try.func52, Try.ntmps52
      go_wp2
      go_ret
      exact ⟨rfl, (Below.refl _ _).alloc (Nat.le_refl _) _⟩
    · rw [show goes 0 a b c d p = 0 by simp [goes, hp]]
      go_enter Try.func52, Try.ntmps52
      go_wp2
      go_ret
      exact ⟨rfl, (Below.refl _ _).alloc (Nat.le_refl _) _⟩
  · by_cases h1 : h = 1
    · subst h1
      rw [show goes 1 a b c d p = p by simp [goes]]
      go_enter Try.func52, Try.ntmps52
      go_wp2
      go_ret
      exact ⟨rfl, (Below.refl _ _).alloc (Nat.le_refl _) _⟩
    · by_cases h2 : h = 2
      · subst h2
        rw [show goes 2 a b c d p = curve a b c d p by simp [goes]]
        go_enter Try.func52, Try.ntmps52
        go_wp2_with fail
        refine (r5_curve _ _ _ _ _ _).mono ?_
        rintro e w1 ⟨rfl, hq⟩
        obtain ⟨_, HB⟩ := k4_keep has_new0 hq
        clear hq
        have HBB := Lib.hid HB
        clear HB
        go_wp2
        go_ret
        exact ⟨rfl, HBB.out⟩
      · rw [show goes h a b c d p = 0 by simp [goes, h0, h1, h2]]
        go_enter Try.func52, Try.ntmps52
        go_wp2
        go_ret
        exact ⟨rfl, (Below.refl _ _).alloc (Nat.le_refl _) _⟩



end Go.Proofs.Ytdpfkhliechkhaa
