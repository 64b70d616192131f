/- The walk of mutoscopelaw2.TrigTurns: for every number it returns true; the memory stays as it was but for draws. -/
import Derived.Test.YthdabgobnpdekaaK2
namespace Go.Proofs.Ythdabgobnpdekaa
open Go.RowKit
open M

theorem far_bd (a : Int) : -1099511627775 ≤ a.tmod 1099511627776 ∧ a.tmod 1099511627776 ≤ 1099511627775 := by
  have := tmod_lt a 1099511627776 (by decide); omega
theorem turns_facts (x : Int) : ∃ s c : Int, sin x = s ∧ cos x = c ∧ sin (x + 23592960) = s ∧ cos (x + 23592960) = c ∧ sin (x + 11796480) = -s ∧ -65536 ≤ s ∧ s ≤ 65536 ∧ -65536 ≤ c ∧ c ≤ 65536 ∧
    0 ≤ s * s ∧ s * s ≤ 4294967296 ∧ 0 ≤ c * c ∧ c * c ≤ 4294967296 ∧ 64881 * 65536 ≤ s * s + c * c ∧ s * s + c * c < 66191 * 65536 := by
  obtain ⟨s1, s2⟩ := sin_bd x
  obtain ⟨c1, c2⟩ := cos_bd x
  obtain ⟨n1, n2⟩ := squares_near x
  have a := sq_bound (x := sin x) (b := 65536) (by omega) (by omega)
  have b := sq_bound (x := cos x) (b := 65536) (by omega) (by omega)
  exact ⟨sin x, cos x, rfl, rfl, sin_round x, cos_round x, sin_half x, s1, s2, c1, c2, a.1, by have := a.2; omega, b.1, by have := b.2; omega, n1, n2⟩

set_option maxHeartbeats 400000 in
theorem trigTurns_walk (a : Int) (_ : (Lit.int .i64 a).wf = true) (w : World) :
    Calls Try.prog 5 #[.int .i64 a] w fun e w' => e = .returned (.bool true) ∧ Grown w w' := by
  obtain ⟨x1, x2⟩ := far_bd a
  obtain ⟨s, c, e1, e2, e3, e4, e5, s1, s2, c1, c2, m1, m2, m3, m4, n1, n2⟩ := turns_facts (a.tmod 1099511627776)
  have b1 : 64880 < (s * s + c * c) / 65536 := by omega
  have b2 : (s * s + c * c) / 65536 < 66191 := by omega
  go_enter Try.func5, Try.ntmps5
  go_wp2_with (first | (go_at_call 9; refine (t_sin _ _).mono ?_; rintro e w' ⟨rfl, n, rfl⟩; first | rw [e1] | rw [e3] | rw [e5]) | (go_at_call 10; refine (t_cos _ _).mono ?_; rintro e w' ⟨rfl, n, rfl⟩; first | rw [e2] | rw [e4]) | (go_at_call 8; refine (known2 _).mono ?_; rintro e w' ⟨rfl, n, rfl⟩))
  go_ret
  exact ⟨rfl, grown_drewN _ _⟩

end Go.Proofs.Ythdabgobnpdekaa
