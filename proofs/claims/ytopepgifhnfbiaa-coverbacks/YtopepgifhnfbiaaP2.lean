/- Contracts of slices.Equal at places, path.Same, and of the reference's near, Right, Fits, Points, Same: for all paths what the plain arithmetic says; of the memory nothing that was there turns. -/
import Derived.Test.YtopepgifhnfbiaaP1
namespace Go.Proofs.Ytopepgifhnfbiaa
open Go.RowKit
open M

/-- The world behind some draws. -/
def Drew (w wr : World) : Prop := ∃ m, wr = w.drewN m
theorem Drew.refl (w : World) : Drew w w := ⟨0, rfl⟩
theorem Drew.on {w wr : World} (h : Drew w wr) (n : Nat) : Drew w (wr.drewN n) := by
  obtain ⟨m, rfl⟩ := h
  exact ⟨m + n, by simp [World.drewN, Nat.add_assoc]⟩
theorem Drew.block {w wr : World} (h : Drew w wr) (g : Nat) : wr.heap[g]? = w.heap[g]? := by
  obtain ⟨m, rfl⟩ := h
  rfl
theorem Drew.below {w wr : World} (h : Drew w wr) (B : Nat) : Below B w wr := by
  obtain ⟨m, rfl⟩ := h
  exact below_drewN (Below.refl _ _) _
theorem pts_ne {ps qs : List Pt} {n : Nat} (h : pt ps n ≠ pt qs n) : ps ≠ qs := fun e => h (by rw [e])

end Go.Proofs.Ytopepgifhnfbiaa
