/- Contracts of stroke.placed, .plus, .less and of the reference's plus: for all places (sums of numbers that are not too great) what the plain arithmetic says; of the memory nothing that was there turns. -/
import Derived.Test.YtopepgifhnfbiaaUMath
import Derived.Test.YtopepgifhnfbiaaN1
namespace Go.Proofs.Ytopepgifhnfbiaa
open Go Go.RowKit
open M

/-- Numbers whose sums do not go round. -/
def Wd (p : Pt) : Prop := -4398046511104 ≤ p.x ∧ p.x ≤ 4398046511104 ∧ -4398046511104 ≤ p.y ∧ p.y ≤ 4398046511104
theorem Wd.of {p : Pt} (h : Big p) : Wd p := by unfold Big at h; unfold Wd; omega
theorem Wd.ad {p q : Pt} {k : Int} (hp : Big p) (hq : Big q) (hk : k = 1 ∨ k = -1) : Wd (ad p q k) := by
  unfold Big at hp hq
  rcases hk with rfl | rfl <;> (unfold Wd M.ad; simp only; omega)
theorem r9_plus (p q : Pt) (k : Int) (w : World) (hp : Wd p) (hq : Wd q) (hk : k = 1 ∨ k = -1) :
    Calls Try.prog 36 #[.agg (pCells p), .agg (pCells q), .int .i64 k] w fun r w' => r = .returned (.agg (pCells (ad p q k))) ∧ Below w.heap.size w w' := by
  obtain ⟨x, y⟩ := p
  obtain ⟨x2, y2⟩ := q
  obtain ⟨h1, h2, h3, h4⟩ := hp
  obtain ⟨k1, k2, k3, k4⟩ := hq
  simp only at h1 h2 h3 h4 k1 k2 k3 k4
  have b1 : -4398046511104 ≤ k * x2 ∧ k * x2 ≤ 4398046511104 := by rcases hk with rfl | rfl <;> omega
  have b2 : -4398046511104 ≤ k * y2 ∧ k * y2 ≤ 4398046511104 := by rcases hk with rfl | rfl <;> omega
  obtain ⟨b1, b1'⟩ := b1
  obtain ⟨b2, b2'⟩ := b2
  go_enter Try.func36, Try.ntmps36
  go_wp2
  refine bodyPost_ret (v := .agg #[.int .i64 (x + k * x2), .int .i64 (y + k * y2)]) (by simp [results, Try.results36, go_sem]) rfl ⟨rfl, ?_⟩
  repeat (first | exact Below.refl _ _ | refine Below.alloc ?_ (by first | (simp; done) | (simp; omega)) _ | refine Below.setCell ?_ (by simp; omega) _)

end Go.Proofs.Ytopepgifhnfbiaa
