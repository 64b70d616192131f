/- Contracts of stroke.placed, .plus, .less and of the reference's plus: for all places (sums of numbers that are not too great) what the plain arithmetic says; of the memory nothing that was there turns. -/
import Derived.Test.YtmdokohdafeilaaUMath
import Derived.Test.YtmdokohdafeilaaN1
namespace Go.Proofs.Ytmdokohdafeilaa
open Go Go.RowKit
open M

/-- Numbers whose sums do not go round. -/
def Wd (p : Pt) : Prop := -4398046511104 ≤ p.x ∧ p.x ≤ 4398046511104 ∧ -4398046511104 ≤ p.y ∧ p.y ≤ 4398046511104
theorem Wd.of {p : Pt} (h : Big p) : Wd p := by unfold Big at h; unfold Wd; omega
theorem Wd.ad {p q : Pt} {k : Int} (hp : Big p) (hq : Big q) (hk : k = 1 ∨ k = -1) : Wd (ad p q k) := by
  unfold Big at hp hq
  rcases hk with rfl | rfl <;> (unfold Wd M.ad; simp only; omega)
set_option maxHeartbeats 1000000 in
theorem s_placed (p : Pt) (w : World) :
    Calls Try.prog 26 #[.agg (pCells p)] w fun r w' => r = .returned (.agg (pCells (plc p))) ∧ Below w.heap.size w w' := by
  obtain ⟨x, y⟩ := p
  go_enter Try.func26, Try.ntmps26
  go_wp2
  refine wp_region_draws_tail 7 (by kernel_rfl) (by kernel_rfl) (by kernel_rfl) (by kernel_rfl) ?_
  simp only [List.take_succ_cons, List.take_zero, List.drop_succ_cons, List.drop_zero]
  repeat (go_big_quiet_step (first | (go_at_call 43; exact quiet1 (q_place _ _))))
  refine wpQuiet_nil ?_
  rintro _ ⟨nq, rfl⟩
  obtain ⟨w1, hw1⟩ : ∃ w1, w.drewN nq = w1 := ⟨_, rfl⟩
  have hs : w.heap.size = w1.heap.size := by rw [← hw1]; rfl
  have hb : Below w.heap.size w w1 := by rw [← hw1]; exact below_drewN (Below.refl _ _) _
  change wpList _ _ _ _ _ (((w.drewN nq).alloc _).alloc _)
  rw [hw1]
  have HB := Lib.hid hb
  clear hb hw1
  go_wp2
  refine bodyPost_ret (v := .agg #[.int .i64 (place x), .int .i64 (place y)]) (by simp [results, Try.results26, go_sem, hs]) rfl ⟨rfl, ?_⟩
  repeat (first | exact HB.out | refine Below.alloc ?_ (by first | (simp [hs]; done) | (simp [hs]; omega)) _)

theorem s_plus (p q : Pt) (w : World) (hp : Wd p) (hq : Wd q) :
    Calls Try.prog 40 #[.agg (pCells p), .agg (pCells q)] w fun r w' => r = .returned (.agg (pCells (ad p q 1))) ∧ Below w.heap.size w w' := by
  obtain ⟨x, y⟩ := p
  obtain ⟨x2, y2⟩ := q
  obtain ⟨h1, h2, h3, h4⟩ := hp
  obtain ⟨k1, k2, k3, k4⟩ := hq
  simp only at h1 h2 h3 h4 k1 k2 k3 k4
  have e : ad ⟨x, y⟩ ⟨x2, y2⟩ 1 = ⟨x + x2, y + y2⟩ := by simp [ad]
  rw [e]
  go_enter Try.func40, Try.ntmps40
  go_wp2
  refine bodyPost_ret (v := .agg #[.int .i64 (x + x2), .int .i64 (y + y2)]) (by simp [results, Try.results40, go_sem]) rfl ⟨rfl, ?_⟩
  repeat (first | exact Below.refl _ _ | refine Below.alloc ?_ (by first | (simp; done) | (simp; omega)) _ | refine Below.setCell ?_ (by simp; omega) _)
theorem s_less (p q : Pt) (w : World) (hp : Wd p) (hq : Wd q) :
    Calls Try.prog 39 #[.agg (pCells p), .agg (pCells q)] w fun r w' => r = .returned (.agg (pCells (ad p q (-1)))) ∧ Below w.heap.size w w' := by
  obtain ⟨x, y⟩ := p
  obtain ⟨x2, y2⟩ := q
  obtain ⟨h1, h2, h3, h4⟩ := hp
  obtain ⟨k1, k2, k3, k4⟩ := hq
  simp only at h1 h2 h3 h4 k1 k2 k3 k4
  have e : ad ⟨x, y⟩ ⟨x2, y2⟩ (-1) = ⟨x - x2, y - y2⟩ := by simp [ad]; omega
  rw [e]
  go_enter Try.func39, Try.ntmps39
  go_wp2
  refine bodyPost_ret (v := .agg #[.int .i64 (x - x2), .int .i64 (y - y2)]) (by simp [results, Try.results39, go_sem]) rfl ⟨rfl, ?_⟩
  repeat (first | exact Below.refl _ _ | refine Below.alloc ?_ (by first | (simp; done) | (simp; omega)) _ | refine Below.setCell ?_ (by simp; omega) _)
theorem r9_plus (p q : Pt) (k : Int) (w : World) (hp : Wd p) (hq : Wd q) (hk : k = 1 ∨ k = -1) :
    Calls Try.prog 31 #[.agg (pCells p), .agg (pCells q), .int .i64 k] w fun r w' => r = .returned (.agg (pCells (ad p q k))) ∧ Below w.heap.size w w' := by
  obtain ⟨x, y⟩ := p
  obtain ⟨x2, y2⟩ := q
  obtain ⟨h1, h2, h3, h4⟩ := hp
  obtain ⟨k1, k2, k3, k4⟩ := hq
  simp only at h1 h2 h3 h4 k1 k2 k3 k4
  have b1 : -4398046511104 ≤ k * x2 ∧ k * x2 ≤ 4398046511104 := by rcases hk with rfl | rfl <;> omega
  have b2 : -4398046511104 ≤ k * y2 ∧ k * y2 ≤ 4398046511104 := by rcases hk with rfl | rfl <;> omega
  obtain ⟨b1, b1'⟩ := b1
  obtain ⟨b2, b2'⟩ := b2
  go_enter Try.func31, Try.ntmps31
  go_wp2
  refine bodyPost_ret (v := .agg #[.int .i64 (x + k * x2), .int .i64 (y + k * y2)]) (by simp [results, Try.results31, go_sem]) rfl ⟨rfl, ?_⟩
  repeat (first | exact Below.refl _ _ | refine Below.alloc ?_ (by first | (simp; done) | (simp; omega)) _ | refine Below.setCell ?_ (by simp; omega) _)

end Go.Proofs.Ytmdokohdafeilaa
