/- Contract of mutoscopelaw5.rising: it returns keys of its own that rise (at most forty, of the ticks from -4 to 315, of numbers below Near); of the memory nothing that was there turns. -/
import Derived.Test.YtibgilaeepmheaaApp
import Derived.Test.YtibgilaeepmheaaK4
namespace Go.Proofs.Ytibgilaeepmheaa
open Go.RowKit
open M

theorem and_seven (c : Int) : bits .and .i64 c 7 = c % 8 := by
  show IntKind.i64.wrap ((BitVec.ofInt 64 c &&& BitVec.ofInt 64 (7 : Int)).toNat : Int) = _
  have e0 : (BitVec.ofInt 64 (7 : Int)).toNat = 7 := by decide
  have e1 : (BitVec.ofInt 64 c).toNat = (c % 18446744073709551616).toNat := by rw [BitVec.toNat_ofInt]; rfl
  have e2 : ∀ n : Nat, n &&& 7 = n % 8 := fun n => Nat.and_two_pow_sub_one_eq_mod n 3
  rw [BitVec.toNat_and, e0, e1, e2, IntKind.wrap_i64]
  omega
theorem and_three (c : Int) : bits .and .i64 c 3 = c % 4 := by
  show IntKind.i64.wrap ((BitVec.ofInt 64 c &&& BitVec.ofInt 64 (3 : Int)).toNat : Int) = _
  have e0 : (BitVec.ofInt 64 (3 : Int)).toNat = 3 := by decide
  have e1 : (BitVec.ofInt 64 c).toNat = (c % 18446744073709551616).toNat := by rw [BitVec.toNat_ofInt]; rfl
  have e2 : ∀ n : Nat, n &&& 3 = n % 4 := fun n => Nat.and_two_pow_sub_one_eq_mod n 2
  rw [BitVec.toNat_and, e0, e1, e2, IntKind.wrap_i64]
  omega
theorem and_byte (c : Int) : bits .and .i64 c 255 = c % 256 := by
  show IntKind.i64.wrap ((BitVec.ofInt 64 c &&& BitVec.ofInt 64 (255 : Int)).toNat : Int) = _
  have e0 : (BitVec.ofInt 64 (255 : Int)).toNat = 255 := by decide
  have e1 : (BitVec.ofInt 64 c).toNat = (c % 18446744073709551616).toNat := by rw [BitVec.toNat_ofInt]; rfl
  have e2 : ∀ n : Nat, n &&& 255 = n % 256 := fun n => Nat.and_two_pow_sub_one_eq_mod n 8
  rw [BitVec.toNat_and, e0, e1, e2, IntKind.wrap_i64]
  omega
theorem and_kilo (c : Int) : bits .and .i64 c 1023 = c % 1024 := by
  show IntKind.i64.wrap ((BitVec.ofInt 64 c &&& BitVec.ofInt 64 (1023 : Int)).toNat : Int) = _
  have e0 : (BitVec.ofInt 64 (1023 : Int)).toNat = 1023 := by decide
  have e1 : (BitVec.ofInt 64 c).toNat = (c % 18446744073709551616).toNat := by rw [BitVec.toNat_ofInt]; rfl
  have e2 : ∀ n : Nat, n &&& 1023 = n % 1024 := fun n => Nat.and_two_pow_sub_one_eq_mod n 10
  rw [BitVec.toNat_and, e0, e1, e2, IntKind.wrap_i64]
  omega
theorem tmod_bd (x n : Int) (h : 0 < n) : -n < x.tmod n ∧ x.tmod n < n := by
  rcases Int.le_total 0 x with h0 | h0
  · have a := Int.tmod_nonneg n h0
    have b := Int.tmod_lt_of_pos x h
    omega
  · have a := Int.tmod_nonneg n (show 0 ≤ -x by omega)
    have b := Int.tmod_lt_of_pos (-x) h
    rw [Int.neg_tmod] at a b
    omega

/-- Keys that rise, within the bounds of 'rising', all of them at most at the tick A. -/
structure Rise (rs : List Ky) (A : Int) : Prop where
  few : rs.length ≤ 40
  top : A ≤ 8 * rs.length - 5
  bot : -5 ≤ A
  tick : ∀ i, i < rs.length → -5 < (ky rs i).t ∧ (ky rs i).t ≤ A
  val : ∀ i, i < rs.length → -67108864 < (ky rs i).v ∧ (ky rs i).v < 67108864
  how : ∀ i, i < rs.length → 0 ≤ (ky rs i).h ∧ (ky rs i).h ≤ 2
  up : ∀ i, i + 1 < rs.length → (ky rs i).t < (ky rs (i + 1)).t
theorem ky_left {rs : List Ky} {k : Ky} {i : Nat} (h : i < rs.length) : ky (rs ++ [k]) i = ky rs i := by
  unfold ky; simp [List.getD, List.getElem?_append_left h]
theorem ky_last (rs : List Ky) (k : Ky) : ky (rs ++ [k]) rs.length = k := by unfold ky; simp [List.getD]
theorem Rise.nil : Rise [] (-5) := ⟨by simp, by simp, by decide, by simp, by simp, by simp, by simp⟩
theorem Rise.snoc {rs : List Ky} {A : Int} (h : Rise rs A) {k : Ky} (hl : rs.length < 40) (h1 : A + 1 ≤ k.t) (h2 : k.t ≤ A + 8) (v1 : -67108864 < k.v) (v2 : k.v < 67108864) (a1 : 0 ≤ k.h) (a2 : k.h ≤ 2) : Rise (rs ++ [k]) k.t := by
  have hb := h.bot
  have ht := h.top
  refine ⟨by simp; omega, by simp; omega, by omega, ?_, ?_, ?_, ?_⟩
  · intro i hi
    simp at hi
    by_cases e : i < rs.length
    · rw [ky_left e]; have := h.tick i e; omega
    · obtain rfl : i = rs.length := by omega
      rw [ky_last]; omega
  · intro i hi
    simp at hi
    by_cases e : i < rs.length
    · rw [ky_left e]; exact h.val i e
    · obtain rfl : i = rs.length := by omega
      rw [ky_last]; omega
  · intro i hi
    simp at hi
    by_cases e : i < rs.length
    · rw [ky_left e]; exact h.how i e
    · obtain rfl : i = rs.length := by omega
      rw [ky_last]; omega
  · intro i hi
    simp at hi
    by_cases e : i + 1 < rs.length
    · rw [ky_left e, ky_left (by omega)]; exact h.up i e
    · have e2 : i + 1 = rs.length := by omega
      rw [ky_left (by omega), e2, ky_last]
      have := (h.tick i (by omega)).2
      omega

theorem seven_cells {w : World} {k : Ky} {t : TypeId} {g : Nat} (hg : w.heap.size = g) : ∀ j u, (kl k)[j]? = some u → (w.alloc (.cells (kCells k) t)).cell? ((⟨g, 0, none⟩ : Addr).add j) = some u := by
  intro j u hj
  subst hg
  match j, hj with
  | 0, hj => simp [kl] at hj; subst hj; simp [Addr.add]
  | 1, hj => simp [kl] at hj; subst hj; simp [Addr.add]
  | 2, hj => simp [kl] at hj; subst hj; simp [Addr.add]
  | 3, hj => simp [kl] at hj; subst hj; simp [Addr.add]
  | 4, hj => simp [kl] at hj; subst hj; simp [Addr.add]
  | 5, hj => simp [kl] at hj; subst hj; simp [Addr.add]
  | 6, hj => simp [kl] at hj; subst hj; simp [Addr.add]

/-- A slice of keys that came in: none, or as many as its length says, of which the first forty are these. -/
def Arg (w : World) (v : Value) (ks : List Ky) : Prop := (ks = [] ∧ ∃ ao cap, v = .slice ao 0 cap) ∨ ∃ g o len cap, v = .slice (some ⟨g, o, none⟩) len cap ∧ 0 < len ∧ len ≤ cap ∧ cap ≤ 9223372036854775807 ∧ ks.length = min len 40 ∧ Row w g o ks

end Go.Proofs.Ytibgilaeepmheaa
