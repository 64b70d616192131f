/- Contracts of arc.placed, .long, .Sides, .side, and of the reference's placed, far, Sides, side: for all numbers what the plain arithmetic says; of the memory nothing that was there turns. -/
import Derived.Test.YtopepgifhnfbiaaNMath
import Derived.Test.YtopepgifhnfbiaaPB
import Derived.Test.YtopepgifhnfbiaaG
import Derived.Test.YtopepgifhnfbiaaN
import Derived.Test.YtopepgifhnfbiaaMake
import Derived.Test.YtopepgifhnfbiaaQt
namespace Go.Proofs.Ytopepgifhnfbiaa
open Go Go.RowKit
open M

set_option maxHeartbeats 1000000 in
theorem r9_placed (p : Pt) (w : World) :
    Calls Try.prog 53 #[.agg (pCells p)] w fun r w' => r = .returned (.agg (pCells (plc p))) ∧ Below w.heap.size w w' := by
  obtain ⟨x, y⟩ := p
  go_enter Try.func53, Try.ntmps53
  go_wp2
  refine wp_region_draws_tail 7 (by kernel_rfl) (by kernel_rfl) (by kernel_rfl) (by kernel_rfl) ?_
  simp only [List.take_succ_cons, List.take_zero, List.drop_succ_cons, List.drop_zero]
  repeat (go_big_quiet_step (first | (go_at_call 27; exact quiet1 (r_place _ _))))
  refine wpQuiet_nil ?_
  rintro _ ⟨nq, rfl⟩
  obtain ⟨w1, hw1⟩ : ∃ w1, w.drewN nq = w1 := ⟨_, rfl⟩
  have hs : w.heap.size = w1.heap.size := by rw [← hw1]; rfl
  have hb : Below w.heap.size w w1 := by rw [← hw1]; exact below_drewN (Below.refl _ _) _
  change wpList _ _ _ _ _ (((w.drewN nq).alloc _).alloc _)
  rw [hw1]
  have HB := Lib.hid hb
  clear hb hw1
  go_wp2
  refine bodyPost_ret (v := .agg #[.int .i64 (place x), .int .i64 (place y)]) (by simp [results, Try.results53, go_sem, hs]) rfl ⟨rfl, ?_⟩
  repeat (first | exact HB.out | refine Below.alloc ?_ (by first | (simp [hs]; done) | (simp [hs]; omega)) _)

theorem r9_sides (c : Bool) (ao : Option Addr) (N cap : Nat) (hN : N ≤ 8796093022208) (w : World) :
    Calls Try.prog 48 #[.agg #[.bool c, .slice ao N cap]] w fun r w' => r = .returned (.int .i64 (sidesN c N : Nat)) ∧ Below w.heap.size w w' := by
  have HB := Lib.hid ((Below.refl w.heap.size w).alloc (Nat.le_refl _) (.cells #[.bool c, .slice ao N cap] 31))
  by_cases h : N < 2
  · have o1 : (N : Int) < 2 := by omega
    rw [sidesN_few c h]
    go_enter Try.func48, Try.ntmps48
    go_wp2
    go_ret
    exact ⟨rfl, HB.out⟩
  · have o1 : ¬ (N : Int) < 2 := by omega
    cases c with
    | true =>
      rw [sidesN_closed h]
      go_enter Try.func48, Try.ntmps48
      go_wp2
      go_ret
      exact ⟨rfl, HB.out⟩
    | false =>
      rw [sidesN_open h]
      go_enter Try.func48, Try.ntmps48
      go_wp2
      go_ret
      exact ⟨ret_int (by omega), HB.out⟩

/-- A place whose numbers are held. -/
def Pld (p : Pt) : Prop := -536870912 ≤ p.x ∧ p.x ≤ 536870912 ∧ -536870912 ≤ p.y ∧ p.y ≤ 536870912
theorem pld_plc (p : Pt) : Pld (plc p) := ⟨place_lo _, place_hi _, place_lo _, place_hi _⟩
theorem r9_far (p q : Pt) (w : World) (hp : Pld p) (hq : Pld q) :
    Calls Try.prog 50 #[.agg (pCells p), .agg (pCells q)] w fun r w' => r = .returned (.int .i64 (longP p q)) ∧ Below w.heap.size w w' := by
  obtain ⟨x, y⟩ := p
  obtain ⟨x2, y2⟩ := q
  obtain ⟨h1, h2, h3, h4⟩ := hp
  obtain ⟨k1, k2, k3, k4⟩ := hq
  simp only at h1 h2 h3 h4 k1 k2 k3 k4
  have HB : Hid (Below w.heap.size w ((w.alloc (.cells #[.int .i64 x, .int .i64 y] 28)).alloc (.cells #[.int .i64 x2, .int .i64 y2] 28))) := Lib.hid (((Below.refl _ _).alloc (Nat.le_refl _) _).alloc (by simp) _)
  go_enter Try.func50, Try.ntmps50
  go_wp2_with fail
  refine (r_hyp _ _ _).mono ?_
  rintro e w' ⟨rfl, rfl⟩
  go_wp2
  go_ret
  exact ⟨rfl, HB.out⟩

end Go.Proofs.Ytopepgifhnfbiaa
