/- Contract of mutoscopebook.Within from 0 to One: a number from 0 to One; the world stays. -/
import Derived.Test.YtdpfkhliechkhaaRI5
namespace Go.Proofs.Ytdpfkhliechkhaa
open Go.RowKit
open M

/-- A number from 0 to One out of any. -/
def wone (x : Int) : Int := if 0 ≤ x ∧ x ≤ 65536 then x else if x.tmod 65537 < 0 then x.tmod 65537 + 65537 else x.tmod 65537
theorem wone_bd (x : Int) : 0 ≤ wone x ∧ wone x ≤ 65536 := by
  have := tmod_bd x 65537 (by decide)
  unfold wone
  split
  · omega
  · split <;> omega
theorem b_wone (x : Int) (w : World) :
    Calls Try.prog 14 #[.int .i64 x, .int .i64 0, .int .i64 65536] w fun e w' => e = .returned (.int .i64 (wone x)) ∧ w = w' := by
  by_cases h : 0 ≤ x ∧ x ≤ 65536
  · rw [show wone x = x from if_pos h]
    obtain ⟨h0, h1⟩ := h
    go_enter Try.func14, Try.ntmps14
    go_wp2
    go_ret
    exact ⟨rfl, rfl⟩
  · rw [show wone x = if x.tmod 65537 < 0 then x.tmod 65537 + 65537 else x.tmod 65537 from if_neg h]
    obtain ⟨T, hT, T0, T1⟩ : ∃ T, x.tmod 65537 = T ∧ -65537 < T ∧ T < 65537 := ⟨_, rfl, (tmod_bd _ _ (by decide)).1, (tmod_bd _ _ (by decide)).2⟩
    rw [hT]
    have h' : x < 0 ∨ 65536 < x := by omega
    clear h
    rcases h' with h | h
    · by_cases hn : T < 0
      · rw [if_pos hn]
        go_enter Try.func14, Try.ntmps14
        go_wp2
        go_ret
        exact ⟨ret_int (by omega), rfl⟩
      · rw [if_neg hn]
        go_enter Try.func14, Try.ntmps14
        go_wp2
        go_ret
        exact ⟨rfl, rfl⟩
    · have h0 : 0 ≤ x := by omega
      have hT2 : 0 ≤ T := by rw [← hT]; exact Int.tmod_nonneg _ h0
      have hT' : x % 65537 = T := by rw [← hT]; exact (Int.tmod_eq_emod_of_nonneg h0).symm
      rw [if_neg (by omega)]
      go_enter Try.func14, Try.ntmps14
      go_wp2
      go_ret
      exact ⟨rfl, rfl⟩

end Go.Proofs.Ytdpfkhliechkhaa
