/- Contract of path.Map: for all maps and paths what the plain arithmetic says, in memory of its own; of the memory nothing that was there turns. -/
import Derived.Test.YtglbfpjjnboeaaaGreatPM
import Derived.Test.YtglbfpjjnboeaaaGreatC
import Derived.Test.YtglbfpjjnboeaaaGreatTail
import Derived.Test.YtglbfpjjnboeaaaGreatQt
namespace Go.Proofs.YtglbfpjjnboeaaaGreat
open Go.RowKit
open M

abbrev mCells (a b c d e f : Int) : Array Value := #[.int .i64 a, .int .i64 b, .int .i64 c, .int .i64 d, .int .i64 e, .int .i64 f]
theorem mapL_range (a b c d e f : Int) (ps : List Pt) : (List.range ps.length).map (fun i => applyP a b c d e f (pt ps i)) = mapL a b c d e f ps := by
  apply pts_ext (by simp [mapL])
  intro i hi
  have hi' : i < ps.length := by simpa using hi
  rw [pt_mapIdx _ hi']
  unfold mapL
  rw [pt_map _ hi']

end Go.Proofs.YtglbfpjjnboeaaaGreat
