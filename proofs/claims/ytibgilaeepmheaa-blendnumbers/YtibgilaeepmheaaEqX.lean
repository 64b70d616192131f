/- Two pixels compared: true just if each of the four is the same. -/
import Derived.Test.YtibgilaeepmheaaEqC
namespace Go.Proofs.Ytibgilaeepmheaa
open Go Go.RowKit
open M

theorem eq_pixel (w : World) (a b c d a' b' c' d' : Int) :
    (Op.equalIn 10000 25 (.agg #[.int .u8 a, .int .u8 b, .int .u8 c, .int .u8 d]) (.agg #[.int .u8 a', .int .u8 b', .int .u8 c', .int .u8 d'])).run Try.prog w = .ok ((a == a') && ((b == b') && ((c == c') && (d == d')))) w :=
  run_equalIn_four w 9998 Try.underlying25 Try.underlying5 (size_u8 w) a b c d a' b' c' d'

end Go.Proofs.Ytibgilaeepmheaa
