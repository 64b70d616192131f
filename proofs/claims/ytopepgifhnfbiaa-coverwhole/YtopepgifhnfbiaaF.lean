/- Contracts of q.wholeRoot and mutoscoperef1.root: for every uint64 the greatest whole number whose square is at most it; the memory stays as it was. -/
import Derived.Test.YtopepgifhnfbiaaC
import Derived.Test.YtopepgifhnfbiaaE
import Derived.Lib.Hide
namespace Go.Proofs.Ytopepgifhnfbiaa
open Go.RowKit
open M

def bl (n : Nat) : Int := Lib.bitLen n
theorem bl_pow (n : Nat) (hn : n < 18446744073709551616) : n < 2 ^ Lib.bitLen n := by
  induction n using Nat.strongRecOn with
  | ind n ih =>
    by_cases h0 : n = 0
    · subst h0; exact Nat.two_pow_pos _
    · have i := ih (n / 2) (by omega) (by omega)
      rw [Lib.bitLen_half n h0 hn, Nat.add_comm, Nat.pow_succ]
      omega
theorem bl_le (n : Nat) (hn : n < 18446744073709551616) : bl n ≤ 64 := by
  have := Lib.bitLen_le n 64 (Nat.le_refl _) hn
  unfold bl; omega
theorem bl_ge (n : Nat) (hn : n < 18446744073709551616) (h0 : 0 < n) : 1 ≤ bl n := by
  have := Lib.bitLen_half n (by omega) hn
  unfold bl; omega
theorem even_all : ∀ k : Fin 64, bits .andNot .i64 ((k.val : Nat) : Int) 1 = ((2 * (k.val / 2) : Nat) : Int) := by decide +kernel
theorem even_of (m : Int) (h0 : 0 ≤ m) (h1 : m ≤ 63) : bits .andNot .i64 m 1 = 2 * (m / 2) := by
  have := even_all ⟨m.toNat, by omega⟩
  simp only [Int.toNat_of_nonneg h0] at this
  rw [this]; omega
theorem len64n (n : Nat) (hn : n < 18446744073709551616) (w : World) :
    Calls Try.prog 72 #[.int .u64 (n : Int)] w fun e w' => e = .returned (.int .i64 (bl n)) ∧ w = w' := by
  have h := len64 (n : Int) w (by omega) (by omega)
  exact h

theorem shl_of (K : Nat) (hK : K ≤ 31) : Op.shift .shl .u64 1 .i64 (2 * (K : Int)) = pure (.int .u64 ((4 ^ K : Nat) : Int)) := by
  rw [shift_shl_any _ _ _ _ (by omega)]
  have e : min (2 * (K : Int)).toNat IntKind.u64.bits = 2 * K := by
    have : IntKind.u64.bits = 64 := rfl
    rw [this]; omega
  have p : (4 : Nat) ^ K = 2 ^ (2 * K) := by rw [Nat.pow_mul]
  have b : 2 ^ (2 * K) ≤ 2 ^ 62 := Nat.pow_le_pow_right (by decide) (by omega)
  have c : (1 : Int) * 2 ^ (2 * K) = ((2 ^ (2 * K) : Nat) : Int) := by simp
  rw [e, p, c, IntKind.wrap_u64]
  generalize 2 ^ (2 * K) = m at *
  rw [show ((m : Nat) : Int) % 18446744073709551616 = (m : Int) by omega]
theorem val_eq {k : IntKind} {a b : Int} (h : a = b) : Value.int k a = Value.int k b := by rw [h]

end Go.Proofs.Ytopepgifhnfbiaa
