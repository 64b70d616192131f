/- Contract of mutoscopelaw5.same: it returns true for all keys; of the memory nothing that was there turns. -/
import Derived.Test.YteikhmendjahnaaKR5
import Derived.Test.YteikhmendjahnaaRR5
namespace Go.Proofs.Yteikhmendjahnaa
open Go.RowKit
open M

set_option maxHeartbeats 1000000 in
theorem l5_same {v : Value} {ks : List Ky} {w : World} (h : Sl w v ks) (t no : Int) :
    Calls Try.prog 8 #[v, .int .i64 t, .int .i64 no] w fun r w' => r = .returned (.bool true) ∧ Below w.heap.size w w' := by
  have HS := Lib.hid h
  clear h
  go_enter Try.func8, Try.ntmps8
  go_wp2_with fail
  refine (k_right HS.out).mono ?_
  rintro e w1 ⟨rfl, hq⟩
  have HS1 := Lib.hid (HS.out.below hq)
  have HB1 := Lib.hid hq
  clear hq HS
  go_wp2_with fail
  refine (r5_right HS1.out).mono ?_
  rintro e w2 ⟨rfl, hq⟩
  have HS2 := Lib.hid (HS1.out.below hq)
  have HB2 := Lib.hid (HB1.out.trans (hq.mono HB1.out.size))
  clear hq HS1 HB1
  go_wp2_with fail
  refine (k_find HS2.out t).mono ?_
  rintro e _ ⟨rfl, rfl⟩
  go_wp2_with fail
  refine (r5_find HS2.out t).mono ?_
  rintro e _ ⟨rfl, rfl⟩
  go_wp2_with fail
  refine (k_at HS2.out t no).mono ?_
  rintro e w3 ⟨rfl, hq⟩
  have HS3 := Lib.hid (HS2.out.below hq)
  have HB3 := Lib.hid (HB2.out.trans (hq.mono HB2.out.size))
  clear hq HS2 HB2
  go_wp2_with fail
  refine (r5_atk HS3.out t no).mono ?_
  rintro e w4 ⟨rfl, hq⟩
  have HB4 := Lib.hid (HB3.out.trans (hq.mono HB3.out.size))
  clear hq HS3 HB3
  go_wp2
  go_ret
  exact ⟨rfl, HB4.out⟩

end Go.Proofs.Yteikhmendjahnaa
