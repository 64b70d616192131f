/- Contract of mutoscopelaw4.known: it returns true; of the memory nothing that was there turns. -/
import Derived.Test.YtibgilaeepmheaaE4
import Derived.Laws.BitsAllLaws
namespace Go.Proofs.Ytibgilaeepmheaa
open Go.RowKit
open M

theorem and_one (c : Int) : bits .and .i64 c 65535 = c % 65536 := by
  show IntKind.i64.wrap ((BitVec.ofInt 64 c &&& BitVec.ofInt 64 (65535 : Int)).toNat : Int) = _
  have e0 : (BitVec.ofInt 64 (65535 : Int)).toNat = 65535 := by decide
  have e1 : (BitVec.ofInt 64 c).toNat = (c % 18446744073709551616).toNat := by rw [BitVec.toNat_ofInt]; rfl
  have e2 : ∀ n : Nat, n &&& 65535 = n % 65536 := fun n => Nat.and_two_pow_sub_one_eq_mod n 16
  rw [BitVec.toNat_and, e0, e1, e2, IntKind.wrap_i64]
  omega

theorem k4_at0 (x1 y1 x2 y2 : Int) : curve x1 y1 x2 y2 0 = 0 := if_pos (by omega)
theorem k4_at1 (x1 y1 x2 y2 : Int) : curve x1 y1 x2 y2 65536 = 65536 := by unfold curve; rw [if_neg (by omega), if_pos (by omega)]
theorem has_new0 {w : World} {cs : Array Value} {t : TypeId} : Has (w.alloc (.cells cs t)) w.heap.size cs t := has_new rfl
theorem k4_keep {w w1 : World} {cs : Array Value} {t : TypeId} (h : Has (w.alloc (.cells cs t)) w.heap.size cs t) (hq : Below (w.alloc (.cells cs t)).heap.size (w.alloc (.cells cs t)) w1) : Has w1 w.heap.size cs t ∧ Below w.heap.size w w1 :=
  ⟨h.below hq h.lt, ((Below.refl _ _).alloc (Nat.le_refl _) _).trans (hq.mono (by simp))⟩
theorem keep_on {w w1 w2 : World} {g : Nat} {cs : Array Value} {t : TypeId} (h : Has w1 g cs t) (hb : Below w.heap.size w w1) (hq : Below w1.heap.size w1 w2) : Has w2 g cs t ∧ Below w.heap.size w w2 :=
  ⟨h.below hq h.lt, hb.trans (hq.mono hb.size)⟩

end Go.Proofs.Ytibgilaeepmheaa
