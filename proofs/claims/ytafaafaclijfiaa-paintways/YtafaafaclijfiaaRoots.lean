/- The plain arithmetic of two ways to find a whole root, bit by bit (what the loops keep, that it lasts through a round, what it gives at the end): no condition; no program is named here. -/
import Derived.Test.YtafaafaclijfiaaMath
namespace Go.Proofs.Ytafaafaclijfiaa
namespace M

def Inv (n0 N R B : Nat) : Prop := ∃ r j : Nat, B = 4 ^ j / 4 ∧ R = r * 2 ^ j ∧ N + r * r = n0 ∧ n0 < (r + 2 ^ j) * (r + 2 ^ j) ∧ r + 2 ^ j ≤ 4294967296
theorem four (k : Nat) : 4 ^ (k + 1) / 4 = 2 ^ k * 2 ^ k := by
  have : (4 : Nat) ^ k = 2 ^ k * 2 ^ k := by rw [← Nat.mul_pow]
  rw [Nat.pow_succ, this]; omega
theorem fourth (k : Nat) : 2 ^ k * 2 ^ k / 4 = 4 ^ k / 4 := by
  have : (4 : Nat) ^ k = 2 ^ k * 2 ^ k := by rw [← Nat.mul_pow]
  rw [this]
theorem Inv.open {n0 N R B : Nat} (h : Inv n0 N R B) (hB : 0 < B) : ∃ r p k : Nat, p = 2 ^ k ∧ B = p * p ∧ R = r * p * 2 ∧ N + r * r = n0 ∧ n0 < (r + 2 * p) * (r + 2 * p) ∧ r + 2 * p ≤ 4294967296 ∧ 0 < p := by
  obtain ⟨r, j, h1, h2, h3, h4, h5⟩ := h
  match j, h1, h2, h4, h5 with
  | 0, h1, _, _, _ => exact absurd h1 (by simp; omega)
  | k + 1, h1, h2, h4, h5 =>
    have e : 2 ^ (k + 1) = 2 * 2 ^ k := by rw [Nat.pow_succ]; omega
    rw [e] at h4 h5 h2
    rw [four] at h1
    refine ⟨r, 2 ^ k, k, rfl, h1, ?_, h3, h4, h5, Nat.two_pow_pos k⟩
    rw [h2, Nat.mul_comm 2, ← Nat.mul_assoc]
theorem sq_add (r p : Nat) : (r + p) * (r + p) = r * r + r * p * 2 + p * p := by
  simp only [Nat.add_mul, Nat.mul_add, Nat.mul_comm p r]; omega
theorem Inv.take {n0 N R B : Nat} (h : Inv n0 N R B) (hB : 0 < B) (hN : R + B ≤ N) : Inv n0 (N - (R + B)) (R / 2 + B) (B / 4) := by
  obtain ⟨r, p, k, hp, h1, h2, h3, h4, h5, h6⟩ := h.open hB
  have s := sq_add r p
  refine ⟨r + p, k, ?_, ?_, ?_, ?_, ?_⟩
  · rw [h1, hp]; exact fourth k
  · rw [← hp, Nat.add_mul, h2, h1]; omega
  · rw [s]; omega
  · rw [← hp]; rw [show r + p + p = r + 2 * p by omega]; exact h4
  · rw [← hp]; omega
theorem Inv.leave {n0 N R B : Nat} (h : Inv n0 N R B) (hB : 0 < B) (hN : N < R + B) : Inv n0 N (R / 2) (B / 4) := by
  obtain ⟨r, p, k, hp, h1, h2, h3, h4, h5, h6⟩ := h.open hB
  have s := sq_add r p
  refine ⟨r, k, ?_, ?_, h3, ?_, ?_⟩
  · rw [h1, hp]; exact fourth k
  · rw [← hp, h2]; omega
  · rw [← hp, s]; omega
  · rw [← hp]; omega
theorem Inv.bound {n0 N R B : Nat} (h : Inv n0 N R B) (hB : 0 < B) : R + B < 18446744073709551616 ∧ R / 2 + B < 18446744073709551616 := by
  obtain ⟨r, p, k, hp, h1, h2, h3, h4, h5, h6⟩ := h.open hB
  have s := sq_add r p
  have b : (r + p) * (r + p) ≤ 4294967295 * 4294967295 := Nat.mul_le_mul (by omega) (by omega)
  omega
theorem Inv.le {n0 N R B : Nat} (h : Inv n0 N R B) : N ≤ n0 := by
  obtain ⟨r, j, h1, h2, h3, h4, h5⟩ := h
  omega
theorem Inv.done {n0 N R : Nat} (h : Inv n0 N R 0) : isq n0 = R ∧ R < 4294967296 := by
  obtain ⟨r, j, h1, h2, h3, h4, h5⟩ := h
  match j, h1, h2, h4, h5 with
  | 0, _, h2, h4, h5 =>
    simp at h2 h4 h5
    subst h2
    exact ⟨isq_eq (by omega) h4, by omega⟩
  | k + 1, h1, _, _, _ =>
    have := Nat.two_pow_pos k
    rw [four] at h1
    exact absurd (Nat.mul_pos this this) (by omega)
theorem Inv.begin {n0 K : Nat} (h : n0 < 4 ^ (K + 1)) (hK : K ≤ 31) : Inv n0 n0 0 (4 ^ K) := by
  refine ⟨0, K + 1, ?_, by simp, by simp, ?_, ?_⟩
  · rw [Nat.pow_succ]; omega
  · have : (4 : Nat) ^ (K + 1) = 2 ^ (K + 1) * 2 ^ (K + 1) := by rw [← Nat.mul_pow]
    simp only [Nat.zero_add]; rw [← this]; exact h
  · have : 2 ^ (K + 1) ≤ 2 ^ 32 := Nat.pow_le_pow_right (by decide) (by omega)
    omega

def Inw (n R B : Nat) : Prop := ∃ j : Nat, B = 2 ^ j / 2 ∧ R * R ≤ n ∧ n < (R + 2 ^ j) * (R + 2 ^ j) ∧ R + 2 ^ j ≤ 4294967296
theorem Inw.open {n R B : Nat} (h : Inw n R B) (hB : 0 < B) : ∃ k : Nat, B = 2 ^ k ∧ R * R ≤ n ∧ n < (R + 2 * B) * (R + 2 * B) ∧ R + 2 * B ≤ 4294967296 := by
  obtain ⟨j, h1, h2, h3, h4⟩ := h
  match j, h1, h3, h4 with
  | 0, h1, _, _ => exact absurd h1 (by simp; omega)
  | k + 1, h1, h3, h4 =>
    have e : 2 ^ (k + 1) = 2 * 2 ^ k := by rw [Nat.pow_succ]; omega
    rw [e] at h1 h3 h4
    have h1' : B = 2 ^ k := by omega
    rw [← h1'] at h3 h4
    exact ⟨k, h1', h2, h3, h4⟩
theorem Inw.take {n R B : Nat} (h : Inw n R B) (hB : 0 < B) (hN : (R + B) * (R + B) ≤ n) : Inw n (R + B) (B / 2) := by
  obtain ⟨k, h1, h2, h3, h4⟩ := h.open hB
  refine ⟨k, by rw [h1], hN, ?_, ?_⟩
  · rw [← h1, show R + B + B = R + 2 * B by omega]; exact h3
  · rw [← h1]; omega
theorem Inw.leave {n R B : Nat} (h : Inw n R B) (hB : 0 < B) (hN : n < (R + B) * (R + B)) : Inw n R (B / 2) := by
  obtain ⟨k, h1, h2, h3, h4⟩ := h.open hB
  exact ⟨k, by rw [h1], h2, by rw [← h1]; exact hN, by rw [← h1]; omega⟩
theorem Inw.bound {n R B : Nat} (h : Inw n R B) (hB : 0 < B) : R + B < 4294967296 ∧ (R + B) * (R + B) < 18446744073709551616 := by
  obtain ⟨k, h1, h2, h3, h4⟩ := h.open hB
  have b : (R + B) * (R + B) ≤ 4294967295 * 4294967295 := Nat.mul_le_mul (by omega) (by omega)
  omega
theorem Inw.done {n R : Nat} (h : Inw n R 0) : isq n = R := by
  obtain ⟨j, h1, h2, h3, h4⟩ := h
  match j, h1, h3 with
  | 0, _, h3 => exact isq_eq h2 h3
  | k + 1, h1, _ =>
    have := Nat.two_pow_pos k
    rw [Nat.pow_succ] at h1
    omega
theorem Inw.begin {n : Nat} (h : n < 18446744073709551616) : Inw n 0 2147483648 := ⟨32, by decide, by omega, by simpa using h, by decide⟩

end M
end Go.Proofs.Ytafaafaclijfiaa
