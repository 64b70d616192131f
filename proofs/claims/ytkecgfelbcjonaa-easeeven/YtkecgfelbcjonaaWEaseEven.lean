/- The walk of mutoscopelaw4.EaseEven: for all numbers it returns true; of the memory nothing that was there turns. -/
import Derived.Test.YtkecgfelbcjonaaK4
namespace Go.Proofs.Ytkecgfelbcjonaa
open Go.RowKit
open M

theorem even_all4 (x : Int) (x0 : 0 ≤ x) (x1 : x ≤ 65535) : x - 32 ≤ curve 21845 21845 43690 43690 x ∧ curve 21845 21845 43690 43690 x ≤ x + 32 := by
  rcases curve_cases 21845 21845 43690 43690 x with ⟨h1, e⟩ | ⟨h1, h2, e⟩ | ⟨h1, h2, e⟩
  · omega
  · omega
  · have := even_at (x := x) (by omega) h2
    omega

set_option maxHeartbeats 400000 in
theorem easeEven_walk (x : Int) (_ : (Lit.int .i64 x).wf = true) (w : World) :
    Calls Try.prog 7 #[.int .i64 x] w fun e w' => e = .returned (.bool true) ∧ Below w.heap.size w w' := by
  have hk := and_one x
  have k0 : 0 ≤ x % 65536 := by omega
  have k1 : x % 65536 ≤ 65535 := by omega
  obtain ⟨a, ha⟩ : ∃ a, x % 65536 = a := ⟨_, rfl⟩
  rw [ha] at hk k0 k1
  clear ha
  obtain ⟨f1, f2⟩ := even_all4 a k0 k1
  obtain ⟨Y, hY⟩ : ∃ Y, curve 21845 21845 43690 43690 a = Y := ⟨_, rfl⟩
  rw [hY] at f1 f2
  have HY := Lib.hid hY
  clear hY
  have a3 : okE 21845 21845 43690 43690 = true := by decide
  go_enter Try.func7, Try.ntmps7
  go_wp2_with fail
  refine (e_at _ _ _ _ _ _).mono ?_
  rw [HY.out]
  rintro e w1 ⟨rfl, hq⟩
  obtain ⟨H0, HB⟩ := k4_keep has_new0 hq
  clear hq
  have c0 := H0.cell 0 _ rfl
  have c1 := H0.cell 1 _ rfl
  have c2 := H0.cell 2 _ rfl
  have c3 := H0.cell 3 _ rfl
  have HBB := Lib.hid HB
  clear H0 HB
  go_wp2_with fail
  refine (e_right _ _ _ _ _).mono ?_
  rw [a3]
  rintro e w2 ⟨rfl, hq⟩
  have HB : Below w.heap.size w w2 := HBB.out.trans (hq.mono HBB.out.size)
  clear hq HBB c0 c1 c2 c3
  have HBB := Lib.hid HB
  clear HB
  go_wp2_with fail
  refine (known4 _).mono ?_
  rintro e w3 ⟨rfl, hq⟩
  have HB : Below w.heap.size w w3 := HBB.out.trans (hq.mono HBB.out.size)
  clear hq HBB
  have HBB := Lib.hid HB
  clear HB
  go_wp2
  go_ret
  exact ⟨rfl, HBB.out⟩

end Go.Proofs.Ytkecgfelbcjonaa
