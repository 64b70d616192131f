/- Contract of mutoscopebook.Within for any two bounds of small numbers: some number from the lower to the upper; the world stays. -/
import Derived.Test.YtibgilaeepmheaaRI5
namespace Go.Proofs.Ytibgilaeepmheaa
open Go.RowKit
open M

/-- What Within answers: the number itself where it lies there, else one that lies there. -/
def winI (x lo hi : Int) : Int := if lo ≤ x ∧ x ≤ hi then x else if x.tmod (hi - lo + 1) < 0 then lo + (x.tmod (hi - lo + 1) + hi - lo + 1) else lo + x.tmod (hi - lo + 1)
theorem winI_in (x : Int) {lo hi : Int} (h : lo ≤ hi) : lo ≤ winI x lo hi ∧ winI x lo hi ≤ hi := by
  have b := tmod_bd x (hi - lo + 1) (by omega)
  unfold winI
  split
  · assumption
  · split <;> omega
theorem b_win (x lo hi : Int) (h1 : -1000 ≤ lo) (h2 : lo ≤ hi) (h3 : hi ≤ 1000) (w : World) :
    Calls Try.prog 20 #[.int .i64 x, .int .i64 lo, .int .i64 hi] w fun e w' => e = .returned (.int .i64 (winI x lo hi)) ∧ w = w' := by
  by_cases h : lo ≤ x ∧ x ≤ hi
  · rw [show winI x lo hi = x by unfold winI; rw [if_pos h]]
    obtain ⟨h0, h4⟩ := h
    go_enter Try.func20, Try.ntmps20
    go_wp2
    go_ret
    exact ⟨rfl, rfl⟩
  · obtain ⟨m, hm⟩ : ∃ m, hi - lo + 1 = m := ⟨_, rfl⟩
    obtain ⟨T, hT, T0, T1⟩ : ∃ T, x.tmod m = T ∧ -m < T ∧ T < m := ⟨_, rfl, (tmod_bd _ _ (by omega)).1, (tmod_bd _ _ (by omega)).2⟩
    have m0 : ¬ m = 0 := by omega
    have hv : winI x lo hi = if T < 0 then lo + (T + hi - lo + 1) else lo + T := by unfold winI; rw [if_neg h, hm, hT]
    have h' : x < lo ∨ hi < x := by omega
    rw [hv]
    clear h hv
    rcases h' with h | h
    · by_cases hn : T < 0
      · rw [if_pos hn]
        go_enter Try.func20, Try.ntmps20
        go_wp2
        go_ret
        exact ⟨ret_int (by omega), rfl⟩
      · rw [if_neg hn]
        go_enter Try.func20, Try.ntmps20
        go_wp2
        go_ret
        exact ⟨ret_int (by omega), rfl⟩
    · have h0 : lo ≤ x := by omega
      by_cases hn : T < 0
      · rw [if_pos hn]
        go_enter Try.func20, Try.ntmps20
        go_wp2
        go_ret
        exact ⟨ret_int (by omega), rfl⟩
      · rw [if_neg hn]
        go_enter Try.func20, Try.ntmps20
        go_wp2
        go_ret
        exact ⟨ret_int (by omega), rfl⟩

end Go.Proofs.Ytibgilaeepmheaa
