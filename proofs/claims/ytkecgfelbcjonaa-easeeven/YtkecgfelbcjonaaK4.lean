/- Contract of mutoscopelaw4.known: it returns true; of the memory nothing that was there turns. -/
import Derived.Test.YtkecgfelbcjonaaE4
import Derived.Laws.BitsAllLaws
namespace Go.Proofs.Ytkecgfelbcjonaa
open Go.RowKit
open M

theorem and_one (c : Int) : bits .and .i64 c 65535 = c % 65536 := by
  show IntKind.i64.wrap ((BitVec.ofInt 64 c &&& BitVec.ofInt 64 (65535 : Int)).toNat : Int) = _
  have e0 : (BitVec.ofInt 64 (65535 : Int)).toNat = 65535 := by decide
  have e1 : (BitVec.ofInt 64 c).toNat = (c % 18446744073709551616).toNat := by rw [BitVec.toNat_ofInt]; rfl
  have e2 : ∀ n : Nat, n &&& 65535 = n % 65536 := fun n => Nat.and_two_pow_sub_one_eq_mod n 16
  rw [BitVec.toNat_and, e0, e1, e2, IntKind.wrap_i64]
  omega

theorem k4_at0 (x1 y1 x2 y2 : Int) : curve x1 y1 x2 y2 0 = 0 := if_pos (by omega)
theorem k4_at1 (x1 y1 x2 y2 : Int) : curve x1 y1 x2 y2 65536 = 65536 := by unfold curve; rw [if_neg (by omega), if_pos (by omega)]
theorem has_new0 {w : World} {cs : Array Value} {t : TypeId} : Has (w.alloc (.cells cs t)) w.heap.size cs t := has_new rfl
theorem k4_keep {w w1 : World} {cs : Array Value} {t : TypeId} (h : Has (w.alloc (.cells cs t)) w.heap.size cs t) (hq : Below (w.alloc (.cells cs t)).heap.size (w.alloc (.cells cs t)) w1) : Has w1 w.heap.size cs t ∧ Below w.heap.size w w1 :=
  ⟨h.below hq h.lt, ((Below.refl _ _).alloc (Nat.le_refl _) _).trans (hq.mono (by simp))⟩
theorem keep_on {w w1 w2 : World} {g : Nat} {cs : Array Value} {t : TypeId} (h : Has w1 g cs t) (hb : Below w.heap.size w w1) (hq : Below w1.heap.size w1 w2) : Has w2 g cs t ∧ Below w.heap.size w w2 :=
  ⟨h.below hq h.lt, hb.trans (hq.mono hb.size)⟩
set_option maxHeartbeats 1000000 in
theorem known4 (w : World) :
    Calls Try.prog 11 #[] w fun r w' => r = .returned (.bool true) ∧ Below w.heap.size w w' := by
  go_enter Try.func11, Try.ntmps11
  have a0 := k4_at0 32768 0 32768 65536
  have a1 := k4_at1 32768 0 32768 65536
  have a2 : prt 0 4 1 = 16384 := by decide
  have a3 : okE 32768 0 32768 65536 = true := by decide
  have a4 : okE (-1) 0 0 0 = false := by decide
  have a5 := bend_one 0 65536
  go_wp2_with fail
  refine (e_at _ _ _ _ _ _).mono ?_
  rw [a0]
  rintro e w1 ⟨rfl, hq⟩
  obtain ⟨H0, HB⟩ := k4_keep has_new0 hq
  clear hq
  have c0 := H0.cell 0 _ rfl
  have c1 := H0.cell 1 _ rfl
  have c2 := H0.cell 2 _ rfl
  have c3 := H0.cell 3 _ rfl
  have HH := Lib.hid H0
  have HBB := Lib.hid HB
  clear H0 HB
  go_wp2_with fail
  refine (e_at _ _ _ _ _ _).mono ?_
  rw [a1]
  rintro e w2 ⟨rfl, hq⟩
  have H0 := HH.out.below hq HH.out.lt
  have HB : Below w.heap.size w w2 := HBB.out.trans (hq.mono HBB.out.size)
  clear hq HH HBB c0 c1 c2 c3
  have c0 := H0.cell 0 _ rfl
  have c1 := H0.cell 1 _ rfl
  have c2 := H0.cell 2 _ rfl
  have c3 := H0.cell 3 _ rfl
  have HBB := Lib.hid HB
  clear H0 HB
  go_wp2_with (first | (go_at_call 9; refine (e_part _ _ _ _).mono ?_; rintro e w' ⟨rfl, rfl⟩; rw [a2]))
  refine (e_right _ _ _ _ _).mono ?_
  rw [a3]
  rintro e w3 ⟨rfl, hq⟩
  have HB : Below w.heap.size w w3 := HBB.out.trans (hq.mono HBB.out.size)
  clear hq HBB c0 c1 c2 c3
  have HBB := Lib.hid HB
  clear HB
  go_wp2_with fail
  refine (e_right _ _ _ _ _).mono ?_
  rw [a4]
  rintro e w4 ⟨rfl, hq⟩
  have HB : Below w.heap.size w w4 := HBB.out.trans (hq.mono HBB.out.size)
  clear hq HBB
  have HBB := Lib.hid HB
  clear HB
  go_wp2_with (first | (go_at_call 17; refine (e_bend _ _ _ _).mono ?_; rintro e w' ⟨rfl, rfl⟩; rw [a5]))
  go_ret
  exact ⟨rfl, HBB.out⟩

end Go.Proofs.Ytkecgfelbcjonaa
