/- Contracts of q.wholeRoot and mutoscoperef1.root: for every uint64 the greatest whole number whose square is at most it; the memory stays as it was. -/
import Derived.Test.YtafaafaclijfiaaC
import Derived.Test.YtafaafaclijfiaaE
import Derived.Lib.Hide
namespace Go.Proofs.Ytafaafaclijfiaa
open Go.RowKit
open M

def bl (n : Nat) : Int := Lib.bitLen n
theorem bl_pow (n : Nat) (hn : n < 18446744073709551616) : n < 2 ^ Lib.bitLen n := by
  induction n using Nat.strongRecOn with
  | ind n ih =>
    by_cases h0 : n = 0
    · subst h0; exact Nat.two_pow_pos _
    · have i := ih (n / 2) (by omega) (by omega)
      rw [Lib.bitLen_half n h0 hn, Nat.add_comm, Nat.pow_succ]
      omega
theorem bl_le (n : Nat) (hn : n < 18446744073709551616) : bl n ≤ 64 := by
  have := Lib.bitLen_le n 64 (Nat.le_refl _) hn
  unfold bl; omega
theorem bl_ge (n : Nat) (hn : n < 18446744073709551616) (h0 : 0 < n) : 1 ≤ bl n := by
  have := Lib.bitLen_half n (by omega) hn
  unfold bl; omega
theorem even_all : ∀ k : Fin 64, bits .andNot .i64 ((k.val : Nat) : Int) 1 = ((2 * (k.val / 2) : Nat) : Int) := by decide +kernel
theorem even_of (m : Int) (h0 : 0 ≤ m) (h1 : m ≤ 63) : bits .andNot .i64 m 1 = 2 * (m / 2) := by
  have := even_all ⟨m.toNat, by omega⟩
  simp only [Int.toNat_of_nonneg h0] at this
  rw [this]; omega
theorem len64n (n : Nat) (hn : n < 18446744073709551616) (w : World) :
    Calls Try.prog 64 #[.int .u64 (n : Int)] w fun e w' => e = .returned (.int .i64 (bl n)) ∧ w = w' := by
  have h := len64 (n : Int) w (by omega) (by omega)
  exact h

theorem shl_of (K : Nat) (hK : K ≤ 31) : Op.shift .shl .u64 1 .i64 (2 * (K : Int)) = pure (.int .u64 ((4 ^ K : Nat) : Int)) := by
  rw [shift_shl_any _ _ _ _ (by omega)]
  have e : min (2 * (K : Int)).toNat IntKind.u64.bits = 2 * K := by
    have : IntKind.u64.bits = 64 := rfl
    rw [this]; omega
  have p : (4 : Nat) ^ K = 2 ^ (2 * K) := by rw [Nat.pow_mul]
  have b : 2 ^ (2 * K) ≤ 2 ^ 62 := Nat.pow_le_pow_right (by decide) (by omega)
  have c : (1 : Int) * 2 ^ (2 * K) = ((2 ^ (2 * K) : Nat) : Int) := by simp
  rw [e, p, c, IntKind.wrap_u64]
  generalize 2 ^ (2 * K) = m at *
  rw [show ((m : Nat) : Int) % 18446744073709551616 = (m : Int) by omega]
theorem val_eq {k : IntKind} {a b : Int} (h : a = b) : Value.int k a = Value.int k b := by rw [h]
theorem wr_core (n : Nat) (hn : n < 18446744073709551616) (h0 : 0 < n) (w : World) (s : Int) (B : Nat) (b1 : 1 ≤ bl n) (b2 : bl n ≤ 64) (hk : bits .andNot .i64 (bl n - 1) 1 = s)
    (hs : Op.shift .shl .u64 1 .i64 s = pure (.int .u64 (B : Int))) (hi : Inv n n 0 B) :
    Calls Try.prog 61 #[.int .u64 n] w fun e w' => e = .returned (.int .i64 (isq n)) ∧ w = w' := by
  have h1 : ((n : Int) == 0) = false := by simp; omega
  have HI := Lib.hid hi
  clear hi
  go_enter Try.func61, Try.ntmps61
  go_wp2_with (go_at_call 64; refine (len64n _ hn _).mono ?_; rintro e w' ⟨rfl, rfl⟩)
  clear hs hk
  go_loop [0, 3, 4] (fun a b c => ∃ N R B : Nat, a = .int .u64 N ∧ b = .int .u64 R ∧ c = .int .u64 B ∧ Inv n N R B) (fun _ _ c => (intOf c).toNat)
  case atStart => exact ⟨n, 0, B, rfl, rfl, rfl, HI.out⟩
  case round =>
    clear HI
    obtain ⟨N, R, B, rfl, rfl, rfl, hi⟩ := hrel
    have hNn := hi.le
    have HI := Lib.hid hi
    clear hi
    by_cases hB : 0 < B
    · obtain ⟨u1, u2⟩ := HI.out.bound hB
      by_cases hN : R + B ≤ N
      · go_wp2
        go_round
        case rel => exact ⟨N - (R + B), R / 2 + B, B / 4, val_eq (by omega), val_eq (by omega), val_eq (by omega), HI.out.take hB hN⟩
        case measure => simp [intOf]; omega
      · go_wp2
        go_round
        case rel => exact ⟨N, R / 2, B / 4, rfl, val_eq (by omega), val_eq (by omega), HI.out.leave hB (by omega)⟩
        case measure => simp [intOf]; omega
    · obtain rfl : B = 0 := by omega
      obtain ⟨e, r1⟩ := HI.out.done
      have HE := Lib.hid e
      clear e
      go_wp2
      go_ret
      exact ⟨ret_int (by rw [HE.out]), rfl⟩

theorem q_wholeRoot (n : Nat) (hn : n < 18446744073709551616) (w : World) :
    Calls Try.prog 61 #[.int .u64 n] w fun e w' => e = .returned (.int .i64 (isq n)) ∧ w = w' := by
  by_cases h0 : n = 0
  · subst h0
    go_enter Try.func61, Try.ntmps61
    go_wp2
    go_ret
    exact ⟨rfl, rfl⟩
  · have b1 := bl_ge n hn (by omega)
    have b2 := bl_le n hn
    have p := bl_pow n hn
    refine wr_core n hn (by omega) w _ (4 ^ ((Lib.bitLen n - 1) / 2)) b1 b2 (even_of _ (by omega) (by omega)) ?_ ?_
    · have e : (bl n - 1) / 2 = (((Lib.bitLen n - 1) / 2 : Nat) : Int) := by unfold bl at b1 ⊢; omega
      rw [e]
      exact shl_of _ (by unfold bl at b2; omega)
    · refine Inv.begin ?_ (by unfold bl at b2; omega)
      have e : (4 : Nat) ^ ((Lib.bitLen n - 1) / 2 + 1) = 2 ^ (2 * ((Lib.bitLen n - 1) / 2 + 1)) := by rw [Nat.pow_mul]
      rw [e]
      exact Nat.lt_of_lt_of_le p (Nat.pow_le_pow_right (by decide) (by unfold bl at b1; omega))

end Go.Proofs.Ytafaafaclijfiaa
