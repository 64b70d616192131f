/- Contracts of mutoscopelaw5.known: it returns true; of the memory nothing that was there turns. -/
import Derived.Test.YteikhmendjahnaaApp
import Derived.Test.YteikhmendjahnaaKR5
namespace Go.Proofs.Yteikhmendjahnaa
open Go.RowKit
open M

def knA : List Ky := [⟨0, 0, 1, 0, 0, 0, 0⟩, ⟨10, 10, 0, 0, 0, 0, 0⟩]
def knB : List Ky := [⟨1, 0, 0, 0, 0, 0, 0⟩, ⟨1, 0, 0, 0, 0, 0, 0⟩]
def knAc : Array Value := #[.int .i64 0, .int .i64 0, .int .i64 1, .int .i64 0, .int .i64 0, .int .i64 0, .int .i64 0, .int .i64 10, .int .i64 10, .int .i64 0, .int .i64 0, .int .i64 0, .int .i64 0, .int .i64 0]
def knBc : Array Value := #[.int .i64 1, .int .i64 0, .int .i64 0, .int .i64 0, .int .i64 0, .int .i64 0, .int .i64 0, .int .i64 1, .int .i64 0, .int .i64 0, .int .i64 0, .int .i64 0, .int .i64 0, .int .i64 0]
theorem sl_lit {w : World} {g : Nat} {ks : List Ky} {cs : Array Value} {t : TypeId} (n c : Nat) (hn : ks.length = n) (h0 : 0 < n) (hf : n ≤ 1000) (h : Has w g cs t) (hc : cs.toList = kls ks) : Sl w (.slice (some ⟨g, 0, none⟩) n c) ks := by
  subst hn
  exact Or.inr ⟨h0, g, 0, c, rfl, row_has hf h hc⟩
theorem kn_at : atk knA 5 7 = 5 := by decide +kernel
theorem kn_f1 : find knA (-1) = -1 := by decide
theorem kn_f2 : find knA 99 = 1 := by decide
theorem kn_r1 : right knA = true := by decide
theorem kn_r2 : right knB = false := by decide

set_option maxHeartbeats 1000000 in
theorem known5 (w : World) :
    Calls Try.prog 11 #[] w fun r w' => r = .returned (.bool true) ∧ Below w.heap.size w w' := by
  go_enter Try.func11, Try.ntmps11
  go_wp2_with fail
  have H0 : Has (w.alloc (.cells knAc 26)) w.heap.size knAc 26 := has_new0
  have HB : Below w.heap.size w (w.alloc (.cells knAc 26)) := (Below.refl _ _).alloc (Nat.le_refl _) _
  have HS := Lib.hid (sl_lit (ks := knA) 2 2 rfl (by decide) (by decide) H0 rfl)
  have HBB := Lib.hid HB
  clear H0 HB
  refine (k_at HS.out 5 7).mono ?_
  rw [kn_at]
  rintro e w1 ⟨rfl, hq⟩
  have HS1 := Lib.hid (HS.out.below hq)
  have HB1 := Lib.hid (HBB.out.trans (hq.mono HBB.out.size))
  clear hq HS HBB
  go_wp2_with fail
  refine (k_at (ks := []) (Or.inl ⟨rfl, none, 0, rfl⟩) 5 7).mono ?_
  rw [show atk [] 5 7 = 7 from rfl]
  rintro e w2 ⟨rfl, hq⟩
  have HS2 := Lib.hid (HS1.out.below hq)
  have HB2 := Lib.hid (HB1.out.trans (hq.mono HB1.out.size))
  clear hq HS1 HB1
  go_wp2_with fail
  refine (k_find HS2.out (-1)).mono ?_
  rw [kn_f1]
  rintro e _ ⟨rfl, rfl⟩
  go_wp2_with fail
  refine (k_find HS2.out 99).mono ?_
  rw [kn_f2]
  rintro e _ ⟨rfl, rfl⟩
  go_wp2_with fail
  refine (k_right HS2.out).mono ?_
  rw [kn_r1]
  rintro e w3 ⟨rfl, hq⟩
  have HB3 := Lib.hid (HB2.out.trans (hq.mono HB2.out.size))
  clear hq HS2 HB2
  have H0 : Has (w3.alloc (.cells knBc 26)) w3.heap.size knBc 26 := has_new0
  have HB4 := Lib.hid (HB3.out.alloc HB3.out.size (.cells knBc 26))
  have HS4 := Lib.hid (sl_lit (ks := knB) 2 2 rfl (by decide) (by decide) H0 rfl)
  clear H0 HB3
  go_wp2_with fail
  refine (k_right HS4.out).mono ?_
  rw [kn_r2]
  rintro e w5 ⟨rfl, hq⟩
  have HB5 := Lib.hid (HB4.out.trans (hq.mono HB4.out.size))
  clear hq HS4 HB4
  go_wp2
  go_ret
  exact ⟨rfl, HB5.out⟩

end Go.Proofs.Yteikhmendjahnaa
