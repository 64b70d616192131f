/- Contract of math/bits.Len64: for every uint64 the number of bits that it takes; the memory stays as it was. -/
import Derived.Test.YtafaafaclijfiaaA
import Derived.Test.YtafaafaclijfiaaRoots
import Derived.Lib.Strings
import Derived.Lib.Slices
import Derived.Lib.Small
import Derived.Lib.Walk
import Derived.Lib.BitFns
import Derived.Deep.Light
namespace Go.Proofs.Ytafaafaclijfiaa
open Go.RowKit
open M

set_option maxRecDepth 100000 in
theorem tab_size : (Lib.len8tab.size : Int) = 256 := by
  have : Lib.len8tab.size = 256 := by decide
  omega
theorem tab_get (y : Int) (h : y.toNat < Lib.len8tab.size) : ((Lib.len8tab[y.toNat]'h).toNat : Int) = Lib.len8 y := by
  unfold Lib.len8
  rw [getElem?_pos Lib.len8tab y.toNat h]
  rfl
theorem tab_add (k a b : Nat) (hk : k ≤ 56) (ha : a ≤ 8) (hb : b = k + a) : wrap64 ((k : Int) + wrap64 (a : Int)) = (b : Int) := by
  unfold wrap64; omega
theorem tab_shift (x k y : Nat) (h1 : 1 ≤ y) (hx : x < 18446744073709551616) (e : y = x / 2 ^ k) : Lib.bitLen x = k + Lib.bitLen y := by
  have p := Nat.two_pow_pos k
  have g : 1 ≤ x / 2 ^ k := by omega
  rw [e]
  exact Lib.bitLen_shift k x ((Nat.one_le_div_iff p).mp g) hx
theorem tab_fin (x : Int) (k : Nat) (y : Int) (h : y.toNat < Lib.len8tab.size) (s : Lib.bitLen x.toNat = k + Lib.bitLen y.toNat) (l : Lib.bitLen y.toNat ≤ 8) (h1 : 0 ≤ y) (h2 : y ≤ 255) (hk : k ≤ 56) :
    wrap64 ((k : Int) + wrap64 ((Lib.len8tab[y.toNat]'h).toNat : Int)) = (Lib.bitLen x.toNat : Int) := by
  rw [tab_get y h, Lib.len8_of y h1 h2]
  exact tab_add k _ _ hk l s
theorem tab_two (a : Nat) (ha : a ≤ 8) : wrap64 (wrap64 (a : Int)) = (a : Int) := by
  unfold wrap64; omega

set_option maxHeartbeats 4000000 in
set_option maxRecDepth 100000 in
theorem len64 (x : Int) (w : World) (h0 : 0 ≤ x) (h1 : x ≤ 18446744073709551615) :
    Calls Try.prog 64 #[.int .u64 x] w fun e w' => e = .returned (.int .i64 (Lib.bitLen x.toNat)) ∧ w = w' := by
  go_enter Try.func64, Try.ntmps64
  go_wp2
  all_goals first
    | (go_ret; refine ⟨congrArg Ending.returned (congrArg (Value.int IntKind.i64) ?_), rfl⟩; go_light)
    | (exfalso
       go_light
       have hs := tab_size
       omega)
  · exact tab_fin x 56 (x / 4294967296 / 65536 / 256) _ (tab_shift _ 56 _ (by omega) (by omega) (by omega)) (Lib.bitLen_le8' _ (by omega) (by omega)) (by omega) (by omega) (by omega)
  · exact tab_fin x 48 (x / 4294967296 / 65536) _ (tab_shift _ 48 _ (by omega) (by omega) (by omega)) (Lib.bitLen_le8' _ (by omega) (by omega)) (by omega) (by omega) (by omega)
  · exact tab_fin x 40 (x / 4294967296 / 256) _ (tab_shift _ 40 _ (by omega) (by omega) (by omega)) (Lib.bitLen_le8' _ (by omega) (by omega)) (by omega) (by omega) (by omega)
  · exact tab_fin x 32 (x / 4294967296) _ (tab_shift _ 32 _ (by omega) (by omega) (by omega)) (Lib.bitLen_le8' _ (by omega) (by omega)) (by omega) (by omega) (by omega)
  · exact tab_fin x 24 (x / 65536 / 256) _ (tab_shift _ 24 _ (by omega) (by omega) (by omega)) (Lib.bitLen_le8' _ (by omega) (by omega)) (by omega) (by omega) (by omega)
  · exact tab_fin x 16 (x / 65536) _ (tab_shift _ 16 _ (by omega) (by omega) (by omega)) (Lib.bitLen_le8' _ (by omega) (by omega)) (by omega) (by omega) (by omega)
  · exact tab_fin x 8 (x / 256) _ (tab_shift _ 8 _ (by omega) (by omega) (by omega)) (Lib.bitLen_le8' _ (by omega) (by omega)) (by omega) (by omega) (by omega)
  · rw [tab_get x _, Lib.len8_of x (by omega) (by omega)]
    exact tab_two _ (Lib.bitLen_le8' x (by omega) (by omega))

end Go.Proofs.Ytafaafaclijfiaa
