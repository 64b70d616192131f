/- Contracts of math/bits.Div64 where the upper half is 0, and where the divisor is 65536: quotient and rest; nothing in memory turns. -/
import Derived.Test.YtafaafaclijfiaaD
import Derived.Test.YtafaafaclijfiaaF
namespace Go.Proofs.Ytafaafaclijfiaa
open Go.RowKit
open M

theorem lz_one (w : World) : Calls Try.prog 65 #[.int .u64 65536] w fun e w' => e = .returned (.int .i64 47) ∧ w = w' := by
  have e0 : bl 65536 = 17 := by decide +kernel
  go_enter Try.func65, Try.ntmps65
  go_wp2_with (go_at_call 64; refine (len64n 65536 (by decide) _).mono ?_; rintro e w' ⟨rfl, rfl⟩)
  go_ret
  exact ⟨rfl, rfl⟩
theorem div64_zero (lo y : Int) (w : World) (h0 : 0 ≤ lo) (h1 : lo ≤ 18446744073709551615) (y0 : 0 < y) (y1 : y ≤ 18446744073709551615) :
    Calls Try.prog 63 #[.int .u64 0, .int .u64 lo, .int .u64 y] w fun e w' => e = .returned (.tuple #[.int .u64 (lo / y), .int .u64 (lo % y)]) ∧ w.drew = w' := by
  have hy : ¬ y = 0 := by omega
  have e1 : IntKind.u64.wrap (lo.tdiv y) = lo / y := IntWalk.u64_quo lo y ⟨h0, h1, by omega⟩
  have e2 : lo.tmod y = lo % y := Int.tmod_eq_emod_of_nonneg h0
  go_enter Try.func63, Try.ntmps63
  go_wp2
  go_region
  go_wp2
  go_ret2
  exact ⟨rfl, rfl⟩
set_option maxRecDepth 100000 in
theorem div64_core (h l U V T : Int) (w : World) (h0 : 0 < h) (h1 : h < 65536) (_l0 : 0 ≤ l) (_l1 : l ≤ 18446744073709551615)
    (e1 : bits .and .u64 9223372036854775808 4294967295 = 0)
    (e2 : bits .or .u64 (h * 140737488355328) (l / 131072) = U) (u0 : 0 ≤ U) (u1 : U ≤ 9223372036854775807)
    (e3 : IntKind.u64.wrap (l * 140737488355328) = V) (v0 : 0 ≤ V) (v1 : V ≤ 18446744073709551615)
    (e4 : bits .and .u64 V 4294967295 = 0)
    (e5 : IntKind.u64.wrap (IntKind.u64.wrap (IntKind.u64.wrap (U * 4294967296) + V / 4294967296) - IntKind.u64.wrap (U / 2147483648 * 9223372036854775808)) = T) (t0 : 0 ≤ T) (t1 : T ≤ 9223372036854775807)
    (g1 : Hid (U / 2147483648 * 4294967296 + T / 2147483648 = (h * 18446744073709551616 + l) / 65536))
    (g2 : Hid (IntKind.u64.wrap (IntKind.u64.wrap (IntKind.u64.wrap (T * 4294967296)) - IntKind.u64.wrap (T / 2147483648 * 9223372036854775808)) / 140737488355328 = l % 65536)) :
    Calls Try.prog 63 #[.int .u64 h, .int .u64 l, .int .u64 65536] w fun e w' => e = .returned (.tuple #[.int .u64 ((h * 18446744073709551616 + l) / 65536), .int .u64 (l % 65536)]) ∧ w = w' := by
  go_enter Try.func63, Try.ntmps63
  go_wp2_with (go_at_call 65; refine (lz_one _).mono ?_; rintro e w' ⟨rfl, rfl⟩)
  go_loop [15, 16] (fun a b => a = .int .u64 (U / 2147483648) ∧ b = .int .u64 (U - U / 2147483648 * 2147483648)) (fun _ _ => 0)
  case atStart => exact ⟨rfl, rfl⟩
  case round =>
    obtain ⟨rfl, rfl⟩ := hrel
    go_wp2
    clear e1 e2 e3 e4 e5
    go_loop [16, 18] (fun a b => a = .int .u64 (T - T / 2147483648 * 2147483648) ∧ b = .int .u64 (T / 2147483648)) (fun _ _ => 0)
    case atStart => exact ⟨rfl, rfl⟩
    case round =>
      obtain ⟨rfl, rfl⟩ := hrel
      go_wp2
      go_ret2
      exact ⟨ret_two g1.out g2.out, rfl⟩

theorem or_47 (h m : Int) (h0 : 0 ≤ h) (h1 : h < 65536) (m0 : 0 ≤ m) (m1 : m < 140737488355328) : bits .or .u64 (h * 140737488355328) m = h * 140737488355328 + m := by
  rw [u64_or _ _ (by omega) (by omega) m0 (by omega), nat_join 47 _ _ (by omega) (by omega)]
  omega
theorem and_32 (v : Int) (v0 : 0 ≤ v) (v1 : v < 18446744073709551616) : bits .and .u64 v 4294967295 = v % 4294967296 := by
  obtain ⟨n, rfl⟩ := Int.eq_ofNat_of_zero_le v0
  rw [mask32 n (by omega)]; omega
theorem d_T (q r s : Int) (r0 : 0 ≤ r) (r1 : r < 2147483648) (s0 : 0 ≤ s) (s1 : s < 131072) :
    IntKind.u64.wrap (IntKind.u64.wrap (IntKind.u64.wrap ((q * 2147483648 + r) * 4294967296) + s * 140737488355328 / 4294967296) - IntKind.u64.wrap (q * 9223372036854775808)) = r * 4294967296 + s * 32768 := by
  simp only [IntKind.wrap_u64]
  omega
theorem d_rem (t u : Int) (u0 : 0 ≤ u) (u1 : u < 2147483648) :
    IntKind.u64.wrap (IntKind.u64.wrap (IntKind.u64.wrap ((t * 2147483648 + u) * 4294967296)) - IntKind.u64.wrap (t * 9223372036854775808)) = u * 4294967296 := by
  simp only [IntKind.wrap_u64]
  omega
theorem div64_one (h l : Int) (w : World) (h0 : 0 < h) (h1 : h < 65536) (l0 : 0 ≤ l) (l1 : l ≤ 18446744073709551615) :
    Calls Try.prog 63 #[.int .u64 h, .int .u64 l, .int .u64 65536] w fun e w' => e = .returned (.tuple #[.int .u64 ((h * 18446744073709551616 + l) / 65536), .int .u64 (l % 65536)]) ∧ w = w' := by
  obtain ⟨m, s, em, m0, m1, s0, s1⟩ : ∃ m s : Int, l = m * 131072 + s ∧ 0 ≤ m ∧ m < 140737488355328 ∧ 0 ≤ s ∧ s < 131072 := ⟨l / 131072, l % 131072, by omega, by omega, by omega, by omega, by omega⟩
  obtain ⟨q, r, eq, q0, q1, r0, r1⟩ : ∃ q r : Int, h * 140737488355328 + m = q * 2147483648 + r ∧ 0 ≤ q ∧ q < 4294967296 ∧ 0 ≤ r ∧ r < 2147483648 := ⟨(h * 140737488355328 + m) / 2147483648, (h * 140737488355328 + m) % 2147483648, by omega, by omega, by omega, by omega, by omega⟩
  have em' : l / 131072 = m := by omega
  have eq' : (q * 2147483648 + r) / 2147483648 = q := by omega
  obtain ⟨t, u, et, u0, u1, tt⟩ : ∃ t u : Int, r * 4294967296 + s * 32768 = t * 2147483648 + u ∧ 0 ≤ u ∧ u < 2147483648 ∧ t = r * 2 + s / 65536 := ⟨r * 2 + s / 65536, s % 65536 * 32768, by omega, by omega, by omega, rfl⟩
  have et' : (r * 4294967296 + s * 32768) / 2147483648 = t := by omega
  refine div64_core h l (q * 2147483648 + r) (s * 140737488355328) (r * 4294967296 + s * 32768) w h0 h1 l0 l1 (by decide) ?_ (by omega) (by omega) ?_ (by omega) (by omega) ?_ ?_ (by omega) (by omega) ?_ ?_
  · rw [em', or_47 h m (by omega) h1 m0 m1, eq]
  · rw [IntKind.wrap_u64, em]; omega
  · rw [and_32 _ (by omega) (by omega)]; omega
  · rw [eq']; exact d_T q r s r0 r1 s0 s1
  · show _ = _
    rw [eq', et', em]; omega
  · show _ = _
    rw [et', et, d_rem t u u0 u1]; omega

theorem div64 (h l d : Int) (w : World) (h0 : 0 ≤ h) (l0 : 0 ≤ l) (l1 : l ≤ 18446744073709551615) (d0 : 0 < d) (d1 : d ≤ 18446744073709551615) (hc : h = 0 ∨ (d = 65536 ∧ h < 65536)) :
    Calls Try.prog 63 #[.int .u64 h, .int .u64 l, .int .u64 d] w (Drawn (.tuple #[.int .u64 ((h * 18446744073709551616 + l) / d), .int .u64 ((h * 18446744073709551616 + l) % d)]) w) := by
  by_cases hz : h = 0
  · subst hz
    rw [Int.zero_mul, Int.zero_add]
    exact (div64_zero l d w l0 l1 d0 d1).mono fun e w' ⟨he, hw⟩ => ⟨he, 1, hw.symm⟩
  · obtain ⟨rfl, h1⟩ : d = 65536 ∧ h < 65536 := by omega
    rw [show (h * 18446744073709551616 + l) % 65536 = l % 65536 by omega]
    exact (div64_one h l w (by omega) h1 l0 l1).mono fun e w' ⟨he, hw⟩ => ⟨he, 0, hw.symm⟩

end Go.Proofs.Ytafaafaclijfiaa
