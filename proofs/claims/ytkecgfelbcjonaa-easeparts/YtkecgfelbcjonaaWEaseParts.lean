/- The walk of mutoscopelaw4.EaseParts: for all numbers it returns true; of the memory nothing that was there turns. -/
import Derived.Test.YtkecgfelbcjonaaK4
namespace Go.Proofs.Ytkecgfelbcjonaa
open Go.RowKit
open M

theorem prt_late {a k t : Int} (a0 : -1073741824 < a) (a1 : a < 1073741824) (k0 : 1 ≤ k) (k1 : k ≤ 65536) (t0 : k ≤ t) (t1 : t ≤ 65535) : prt a (a + k) (a + t) = 65536 := by
  unfold prt
  rw [hold_in (a := a) (by omega) (by omega), hold_in (a := a + k) (by omega) (by omega), hold_in (a := a + t) (by omega) (by omega), if_neg (by omega), if_pos (by omega)]
theorem prt_mid {a k t : Int} (a0 : -1073741824 < a) (a1 : a < 1073741824) (k0 : 1 ≤ k) (k1 : k ≤ 65536) (t0 : 0 ≤ t) (t1 : t < k) : prt a (a + k) (a + t) = t * 65536 / k := by
  unfold prt
  rw [hold_in (a := a) (by omega) (by omega), hold_in (a := a + k) (by omega) (by omega), hold_in (a := a + t) (by omega) (by omega)]
  by_cases h : t = 0
  · subst h; rw [if_pos (by omega)]; simp
  · rw [if_neg (by omega), if_neg (by omega), show a + t - a = t by omega, show a + k - a = k by omega, Int.mul_comm]
theorem prt_early {a k : Int} (a0 : -1073741824 < a) (a1 : a < 1073741824) : prt a (a + k) a = 0 ∧ prt a (a + k) (a - 1) = 0 := by
  unfold prt
  rw [hold_in (a := a) (by omega) (by omega), hold_in (a := a - 1) (by omega) (by omega), if_pos (by omega), if_pos (by omega)]
  exact ⟨rfl, rfl⟩

set_option maxHeartbeats 400000 in
theorem easeParts_walk (x n t : Int) (_ : (Lit.int .i64 x).wf = true) (_ : (Lit.int .i64 n).wf = true) (_ : (Lit.int .i64 t).wf = true) (w : World) :
    Calls Try.prog 6 #[.int .i64 x, .int .i64 n, .int .i64 t] w fun e w' => e = .returned (.bool true) ∧ Below w.heap.size w w' := by
  have hk := and_one n
  have ht := and_one t
  have ha : (x.tmod 1073741824).natAbs < 1073741824 := tmod_lt x 1073741824 (by decide)
  have k0 : 0 ≤ n % 65536 := by omega
  have k1 : n % 65536 ≤ 65535 := by omega
  have t0 : 0 ≤ t % 65536 := by omega
  have t1 : t % 65536 ≤ 65535 := by omega
  obtain ⟨a, ea⟩ : ∃ a, x.tmod 1073741824 = a := ⟨_, rfl⟩
  obtain ⟨k, ek⟩ : ∃ k, n % 65536 = k := ⟨_, rfl⟩
  obtain ⟨s, es⟩ : ∃ s, t % 65536 = s := ⟨_, rfl⟩
  rw [ek] at hk k0 k1
  rw [es] at ht t0 t1
  rw [ea] at ha
  have a0 : -1073741824 < a := by omega
  have a1 : a < 1073741824 := by omega
  clear ek es ha
  by_cases h : 1 + k ≤ s
  · have p1 := Lib.hid (prt_late (k := 1 + k) (t := s) a0 a1 (by omega) (by omega) h t1)
    go_enter Try.func6, Try.ntmps6
    go_wp2_with (first | (go_at_call 9; refine (e_part _ _ _ _).mono ?_; rintro e w' ⟨rfl, rfl⟩; rw [p1.out]) | (go_at_call 11; refine (known4 _).mono ?_; rintro e w' ⟨rfl, hb⟩))
    go_ret
    exact ⟨rfl, hb⟩
  · have p1 := prt_mid (k := 1 + k) (t := s) a0 a1 (by omega) (by omega) t0 (by omega)
    obtain ⟨p2, p3⟩ := prt_early (k := 1 + k) a0 a1
    have q := quo_bd (n := s) (d := 1 + k) (by omega) (by omega) (by omega)
    rw [Int.mul_comm] at q
    have e1 : (s * 65536).tdiv (1 + k) = s * 65536 / (1 + k) := Int.tdiv_eq_ediv_of_nonneg (by omega)
    obtain ⟨V, hV⟩ : ∃ V, s * 65536 / (1 + k) = V := ⟨_, rfl⟩
    rw [hV] at p1 q e1
    clear hV
    have P1 := Lib.hid p1
    have P2 := Lib.hid p2
    have P3 := Lib.hid p3
    clear p1 p2 p3
    go_enter Try.func6, Try.ntmps6
    go_wp2_with (first | (go_at_call 9; refine (e_part _ _ _ _).mono ?_; rintro e w' ⟨rfl, rfl⟩; first | rw [P1.out] | rw [P2.out] | rw [P3.out]) | (go_at_call 11; refine (known4 _).mono ?_; rintro e w' ⟨rfl, hb⟩))
    go_ret
    exact ⟨rfl, hb⟩

end Go.Proofs.Ytkecgfelbcjonaa
