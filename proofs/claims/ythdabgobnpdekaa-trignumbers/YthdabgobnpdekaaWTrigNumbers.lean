/- The walk of mutoscopelaw2.TrigNumbers: it returns true; the memory stays as it was but for draws. No condition. -/
import Derived.Test.YthdabgobnpdekaaS2
import Derived.Deep.QuietTactic
import Derived.BigQuiet
namespace Go.Proofs.Ythdabgobnpdekaa
open Go.RowKit
open M

def Ahead (w wr : World) : Prop := ∃ n : Nat, wr = w.drewN n
theorem Ahead.more {w wr : World} (h : Ahead w wr) (m : Nat) : Ahead w (wr.drewN m) := by
  obtain ⟨n, rfl⟩ := h
  exact ⟨n + m, World.drewN_drewN _ _ _⟩
theorem Ahead.grown {w wr : World} (h : Ahead w wr) : Grown w wr := by
  obtain ⟨n, rfl⟩ := h
  exact grown_drewN _ _

set_option maxHeartbeats 1000000 in
set_option maxRecDepth 100000 in
theorem trigNumbers_walk (w : World) :
    Calls Try.prog 3 #[] w fun e w' => e = .returned (.bool true) ∧ Grown w w' := by
  go_enter Try.func3, Try.ntmps3
  go_wp2
  go_loopw [1, 2] (fun i _ wr => ∃ k : Int, -400 ≤ k ∧ k ≤ 800 ∧ i = .int .i64 k ∧ Ahead w wr) (fun i _ _ => (800 - intOf i).toNat)
  case atStart => exact ⟨-400, by omega, by omega, rfl, 0, rfl⟩
  case round =>
    obtain ⟨k, hk0, hk, rfl, ha⟩ := hrel
    have HA := Lib.hid ha
    clear ha
    by_cases hlt : k < 800
    · go_wp2
      go_loopw [2, 7] (fun i _ wr => ∃ j : Int, -1 ≤ j ∧ j ≤ 2 ∧ i = .int .i64 j ∧ Ahead w wr) (fun i _ _ => (2 - intOf i).toNat)
      case atStart => exact ⟨-1, by omega, by omega, rfl, HA.out⟩
      case round =>
        clear HA
        obtain ⟨j, hj0, hj, rfl, ha⟩ := hrel
        have HA := Lib.hid ha
        clear ha
        by_cases hlj : j < 2
        · go_wp2_with (go_at_call 7; refine (same2 _ _).mono ?_; rintro e w' ⟨rfl, n, rfl⟩)
          go_roundw
          case rel => exact ⟨j + 1, by omega, by omega, by go_num, HA.out.more _⟩
          case measure => simp [intOf]; omega
        · go_wp2
          go_roundw
          case rel => exact ⟨k + 1, by omega, by omega, by go_num, HA.out⟩
          case measure => simp [intOf]; omega
    · go_wp2_with (first | (go_at_call 7; refine (same2 _ _).mono ?_; rintro e w' ⟨rfl, n, rfl⟩) | (go_at_call 8; refine (known2 _).mono ?_; rintro e w' ⟨rfl, n, rfl⟩))
      go_ret
      exact ⟨rfl, (HA.out.more _).grown⟩

end Go.Proofs.Ythdabgobnpdekaa
