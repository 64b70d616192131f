/- Contracts of flat.half, .Half, .halved, .Bend, and of the reference's half, Half: for all places of 64 bits what the plain arithmetic says; of the memory nothing that was there turns (halved: but for the list that it adds to). -/
import Derived.Test.YtegckonhfdlbbaaPM
import Derived.Test.YtegckonhfdlbbaaFMath
import Derived.Test.YtegckonhfdlbbaaMake
namespace Go.Proofs.Ytegckonhfdlbbaa
open Go Go.RowKit
open M

def hf (x y : Int) : Int := wrap64 (bits .and .i64 x y + bits .xor .i64 x y / 2)
def hr (x y : Int) : Int := wrap64 (wrap64 (x / 2 + y / 2) + bits .and .i64 (bits .and .i64 x y) 1)
def hfP (p q : Pt) : Pt := ⟨hf p.x q.x, hf p.y q.y⟩
def hrP (p q : Pt) : Pt := ⟨hr p.x q.x, hr p.y q.y⟩
theorem hfP_eq {p q : Pt} (hp : Rg p) (hq : Rg q) : hfP p q = hvP p q := by
  unfold hfP hvP hf
  rw [half_bits hp.1 hq.1, half_bits hp.2 hq.2]
theorem hrP_eq {p q : Pt} (hp : Rg p) (hq : Rg q) : hrP p q = hvP p q := by
  unfold hrP hvP hr
  rw [half_ref hp.1 hq.1, half_ref hp.2 hq.2]
theorem f_half (x y : Int) (w : World) : Calls Try.prog 21 #[.int .i64 x, .int .i64 y] w fun e w' => e = .returned (.int .i64 (hf x y)) ∧ w = w' := by
  go_enter Try.func21, Try.ntmps21
  go_wp2
  go_ret
  exact ⟨rfl, rfl⟩
theorem r8_half (x y : Int) (w : World) : Calls Try.prog 22 #[.int .i64 x, .int .i64 y] w fun e w' => e = .returned (.int .i64 (hr x y)) ∧ w = w' := by
  go_enter Try.func22, Try.ntmps22
  go_wp2
  go_ret
  exact ⟨rfl, rfl⟩

set_option maxHeartbeats 1000000 in
theorem f_Half (p q : Pt) (w : World) :
    Calls Try.prog 8 #[.agg (pCells p), .agg (pCells q)] w fun r w' => r = .returned (.agg (pCells (hfP p q))) ∧ Below w.heap.size w w' := by
  obtain ⟨x, y⟩ := p
  obtain ⟨x2, y2⟩ := q
  go_enter Try.func8, Try.ntmps8
  go_wp2
  refine wp_region_draws_tail 11 (by kernel_rfl) (by kernel_rfl) (by kernel_rfl) (by kernel_rfl) ?_
  simp only [List.take_succ_cons, List.take_zero, List.drop_succ_cons, List.drop_zero]
  repeat (go_big_quiet_step (first | (go_at_call 21; exact quiet1 (f_half _ _ _))))
  refine wpQuiet_nil ?_
  rintro _ ⟨nq, rfl⟩
  obtain ⟨w1, hw1⟩ : ∃ w1, w.drewN nq = w1 := ⟨_, rfl⟩
  have hs : w.heap.size = w1.heap.size := by rw [← hw1]; rfl
  have hb : Below w.heap.size w w1 := by rw [← hw1]; exact below_drewN (Below.refl _ _) _
  change wpList _ _ _ _ _ ((((w.drewN nq).alloc _).alloc _).alloc _)
  rw [hw1]
  have HB := Lib.hid hb
  clear hb hw1
  go_wp2
  refine bodyPost_ret (v := .agg #[.int .i64 (hf x x2), .int .i64 (hf y y2)]) (by simp [results, Try.results8, go_sem, hs]) rfl ⟨rfl, ?_⟩
  repeat (first | exact HB.out | refine Below.alloc ?_ (by first | (simp [hs]; done) | (simp [hs]; omega)) _)

set_option maxHeartbeats 1000000 in
theorem r8_Half (p q : Pt) (w : World) :
    Calls Try.prog 9 #[.agg (pCells p), .agg (pCells q)] w fun r w' => r = .returned (.agg (pCells (hrP p q))) ∧ Below w.heap.size w w' := by
  obtain ⟨x, y⟩ := p
  obtain ⟨x2, y2⟩ := q
  go_enter Try.func9, Try.ntmps9
  go_wp2
  refine wp_region_draws_tail 11 (by kernel_rfl) (by kernel_rfl) (by kernel_rfl) (by kernel_rfl) ?_
  simp only [List.take_succ_cons, List.take_zero, List.drop_succ_cons, List.drop_zero]
  repeat (go_big_quiet_step (first | (go_at_call 22; exact quiet1 (r8_half _ _ _))))
  refine wpQuiet_nil ?_
  rintro _ ⟨nq, rfl⟩
  obtain ⟨w1, hw1⟩ : ∃ w1, w.drewN nq = w1 := ⟨_, rfl⟩
  have hs : w.heap.size = w1.heap.size := by rw [← hw1]; rfl
  have hb : Below w.heap.size w w1 := by rw [← hw1]; exact below_drewN (Below.refl _ _) _
  change wpList _ _ _ _ _ ((((w.drewN nq).alloc _).alloc _).alloc _)
  rw [hw1]
  have HB := Lib.hid hb
  clear hb hw1
  go_wp2
  refine bodyPost_ret (v := .agg #[.int .i64 (hr x x2), .int .i64 (hr y y2)]) (by simp [results, Try.results9, go_sem, hs]) rfl ⟨rfl, ?_⟩
  repeat (first | exact HB.out | refine Below.alloc ?_ (by first | (simp [hs]; done) | (simp [hs]; omega)) _)

end Go.Proofs.Ytegckonhfdlbbaa
