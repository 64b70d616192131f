/- Contracts of q.Root, q.Hyp: for all numbers what the plain arithmetic says; the memory stays as it was. -/
import Derived.Test.YtopepgifhnfbiaaD
import Derived.Test.YtopepgifhnfbiaaMidQ
import Derived.Test.YtopepgifhnfbiaaF
namespace Go.Proofs.Ytopepgifhnfbiaa
open Go.RowKit
open M

def isqi (x : Int) : Int := ((isq x.toNat : Nat) : Int)
theorem root_pos {a : Int} (h : 0 ≤ hold a) : hold (isqi (hold a * 65536)) = root a := by
  have e : (hold a * 65536).toNat = (hold a).toNat * 65536 := by omega
  have r : root a = isqi (hold a * 65536) := by
    unfold root isqi; rw [if_neg (by omega), e]
  have l := root_lo a
  have g := root_hi a
  rw [← r]
  exact hold_in (by omega) (by omega)


theorem hyp_eq (x y : Int) : hold (isqi (wide x * wide x + wide y * wide y)) = hyp x y := by
  have l := hyp_lo x y
  have g := hyp_hi x y
  exact hold_in (by unfold hyp at l; unfold isqi; omega) (by unfold hyp at g; unfold isqi; omega)
theorem k_mul : (mul (-1) 1 == -1) = true := by decide
theorem k_div : (dv 65536 0 == 0) = true := by decide
theorem k_root : (root 262144 == 131072) = true := by
  have : root 262144 = 131072 := by
    unfold root; rw [hold_in (by decide) (by decide), if_neg (by decide), isq_eq (r := 131072) (by decide) (by decide)]; rfl
  simp [this]
theorem k_hyp : (hyp 3 (-4) == 5) = true := by
  have : hyp 3 (-4) = 5 := by
    unfold hyp; rw [wide_in (by decide) (by decide), wide_in (by decide) (by decide), isq_eq (r := 5) (by decide) (by decide)]; rfl
  simp [this]
theorem k_add : (add 4611686018427387904 4611686018427387904 == 1099511627776) = true := by decide
theorem k_mid : (mid 0 10 32768 == 5) = true := by decide


end Go.Proofs.Ytopepgifhnfbiaa
