/- Contracts of path.Empty, .Fits, .isNear, .rightLength, .allNear, .Right, .Same (slices.Equal), and of the reference's near, Right, Fits, Points, Same: for all paths what the plain arithmetic says; of the memory nothing that was there turns. -/
import Derived.Test.YtopepgifhnfbiaaPC
namespace Go.Proofs.Ytopepgifhnfbiaa
open Go.RowKit
open M

theorem ret_b {a b : Bool} (h : a = b) : Ending.returned (.bool a) = .returned (.bool b) := by rw [h]
theorem eqz {N : Nat} (h : ¬ N = 0) : ((N : Int) == 0) = false := by simp; omega

theorem fits_ne {c d : Bool} {ps qs : List Pt} (h : ¬ ps.length = qs.length) : fits c ps d qs = false := by simp [fits, h]
theorem fits_eq {c d : Bool} {ps qs : List Pt} (h : ps.length = qs.length) : fits c ps d qs = (c == d) := by simp [fits, h]
theorem okP_zero {c : Bool} {ps : List Pt} (h : ps.length = 0) : okP c ps = !c := by simp [okP, h]
theorem okP_pos {c : Bool} {ps : List Pt} (h : ¬ ps.length = 0) : okP c ps = (okLen ps.length && nearL ps ps.length) := by simp [okP, h]
end Go.Proofs.Ytopepgifhnfbiaa
