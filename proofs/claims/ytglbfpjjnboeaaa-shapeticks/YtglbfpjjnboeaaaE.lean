/- Contract of math/bits.Len64: for every uint64 the number of bits that it takes; the memory stays as it was. -/
import Derived.Test.YtglbfpjjnboeaaaA
import Derived.Test.YtglbfpjjnboeaaaRoots
import Derived.Lib.Strings
import Derived.Lib.Slices
import Derived.Lib.Small
import Derived.Lib.Walk
import Derived.Lib.BitFns
import Derived.Deep.Light
namespace Go.Proofs.Ytglbfpjjnboeaaa
open Go.RowKit
open M

set_option maxRecDepth 100000 in
theorem tab_size : (Lib.len8tab.size : Int) = 256 := by
  have : Lib.len8tab.size = 256 := by decide
  omega
theorem tab_get (y : Int) (h : y.toNat < Lib.len8tab.size) : ((Lib.len8tab[y.toNat]'h).toNat : Int) = Lib.len8 y := by
  unfold Lib.len8
  rw [getElem?_pos Lib.len8tab y.toNat h]
  rfl
theorem tab_add (k a b : Nat) (hk : k ≤ 56) (ha : a ≤ 8) (hb : b = k + a) : wrap64 ((k : Int) + wrap64 (a : Int)) = (b : Int) := by
  unfold wrap64; omega
theorem tab_shift (x k y : Nat) (h1 : 1 ≤ y) (hx : x < 18446744073709551616) (e : y = x / 2 ^ k) : Lib.bitLen x = k + Lib.bitLen y := by
  have p := Nat.two_pow_pos k
  have g : 1 ≤ x / 2 ^ k := by omega
  rw [e]
  exact Lib.bitLen_shift k x ((Nat.one_le_div_iff p).mp g) hx
theorem tab_fin (x : Int) (k : Nat) (y : Int) (h : y.toNat < Lib.len8tab.size) (s : Lib.bitLen x.toNat = k + Lib.bitLen y.toNat) (l : Lib.bitLen y.toNat ≤ 8) (h1 : 0 ≤ y) (h2 : y ≤ 255) (hk : k ≤ 56) :
    wrap64 ((k : Int) + wrap64 ((Lib.len8tab[y.toNat]'h).toNat : Int)) = (Lib.bitLen x.toNat : Int) := by
  rw [tab_get y h, Lib.len8_of y h1 h2]
  exact tab_add k _ _ hk l s
theorem tab_two (a : Nat) (ha : a ≤ 8) : wrap64 (wrap64 (a : Int)) = (a : Int) := by
  unfold wrap64; omega

end Go.Proofs.Ytglbfpjjnboeaaa
