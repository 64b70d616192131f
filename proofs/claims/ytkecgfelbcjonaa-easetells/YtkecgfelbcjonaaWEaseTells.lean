/- The walk of mutoscopelaw4.EaseTells: for all numbers it returns true; of the memory nothing that was there turns. -/
import Derived.Test.YtkecgfelbcjonaaS4
namespace Go.Proofs.Ytkecgfelbcjonaa
open Go.RowKit
open M

set_option maxHeartbeats 2000000 in
theorem easeTells_walk (x1 y1 x2 y2 x f o t : Int) (_ : (Lit.int .i64 x1).wf = true) (_ : (Lit.int .i64 y1).wf = true) (_ : (Lit.int .i64 x2).wf = true) (_ : (Lit.int .i64 y2).wf = true) (_ : (Lit.int .i64 x).wf = true) (_ : (Lit.int .i64 f).wf = true) (_ : (Lit.int .i64 o).wf = true) (_ : (Lit.int .i64 t).wf = true) (w : World) :
    Calls Try.prog 4 #[.agg #[.int .i64 x1, .int .i64 y1, .int .i64 x2, .int .i64 y2], .int .i64 x, .int .i64 f, .int .i64 o, .int .i64 t] w fun r w' => r = .returned (.bool true) ∧ Below w.heap.size w w' := by
  obtain ⟨a, b, c, d, hr⟩ := l4_right x1 y1 x2 y2
  have HR := Lib.hid hr
  clear hr
  go_enter Try.func4, Try.ntmps4
  go_wp2_with fail
  refine (l4_same _ _ _ _ _ _).mono ?_
  rintro e w1 ⟨rfl, hq⟩
  obtain ⟨H0, HB⟩ := k4_keep has_new0 hq
  clear hq
  have c0 := H0.cell 0 _ rfl
  have c1 := H0.cell 1 _ rfl
  have c2 := H0.cell 2 _ rfl
  have c3 := H0.cell 3 _ rfl
  have HH := Lib.hid H0
  have HBB := Lib.hid HB
  clear H0 HB
  go_wp2_with fail
  refine (HR.out _).mono ?_
  rintro e w2 ⟨rfl, hq⟩
  obtain ⟨H0, HB⟩ := keep_on HH.out HBB.out hq
  clear hq HH HBB c0 c1 c2 c3
  have c0 := H0.cell 0 _ rfl
  have c1 := H0.cell 1 _ rfl
  have c2 := H0.cell 2 _ rfl
  have c3 := H0.cell 3 _ rfl
  have HH := Lib.hid H0
  have HBB := Lib.hid HB
  clear H0 HB
  go_wp2_with fail
  refine (l4_same _ _ _ _ _ _).mono ?_
  rintro e w3 ⟨rfl, hq⟩
  obtain ⟨H0, HB⟩ := keep_on HH.out HBB.out hq
  clear hq HH HBB c0 c1 c2 c3
  have c0 := H0.cell 0 _ rfl
  have c1 := H0.cell 1 _ rfl
  have c2 := H0.cell 2 _ rfl
  have c3 := H0.cell 3 _ rfl
  have HH := Lib.hid H0
  have HBB := Lib.hid HB
  clear H0 HB
  go_wp2_with fail
  refine (l4_same _ _ _ _ _ _).mono ?_
  rintro e w4 ⟨rfl, hq⟩
  obtain ⟨H0, HB⟩ := keep_on HH.out HBB.out hq
  clear hq HH HBB c0 c1 c2 c3
  have c0 := H0.cell 0 _ rfl
  have c1 := H0.cell 1 _ rfl
  have c2 := H0.cell 2 _ rfl
  have c3 := H0.cell 3 _ rfl
  have HH := Lib.hid H0
  have HBB := Lib.hid HB
  clear H0 HB
  go_wp2_with (first | (go_at_call 9; refine (e_part _ _ _ _).mono ?_; rintro e w' ⟨rfl, rfl⟩) | (go_at_call 10; refine (r5_part _ _ _ _).mono ?_; rintro e w' ⟨rfl, rfl⟩))
  refine (known4 _).mono ?_
  rintro e w5 ⟨rfl, hq⟩
  obtain ⟨H0, HB⟩ := keep_on HH.out HBB.out hq
  have HB5 := Lib.hid HB
  clear hq HH HBB c0 c1 c2 c3 H0 HB
  go_wp2
  go_ret
  exact ⟨rfl, HB5.out⟩

end Go.Proofs.Ytkecgfelbcjonaa
