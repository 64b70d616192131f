/- Two paints compared: of one and the same paint true. -/
import Derived.Test.YtafaafaclijfiaaPaD
import Derived.Test.YtafaafaclijfiaaEqC
import Derived.Laws.StructEq
namespace Go.Proofs.Ytafaafaclijfiaa
open Go Go.RowKit
open M

theorem eq_colorD (D : Nat) (w : World) (x : Cr) : (Op.equalIn (D + 1 + 1) 23 (.agg (cCells x)) (.agg (cCells x))).run Try.prog w = .ok true w := by
  have := run_equalIn_four w D Try.underlying23 Try.underlying5 (size_u8 w) x.r x.g x.b x.q x.r x.g x.b x.q
  simpa using this
set_option maxRecDepth 100000 in
theorem eq_paint (w : World) (c : Pa) : (Op.equalIn 10000 27 (.agg (paCells c)) (.agg (paCells c))).run Try.prog w = .ok true w := by
  have ha : (Op.equalIn 9999 23 (.agg #[.int .u8 c.a.r, .int .u8 c.a.g, .int .u8 c.a.b, .int .u8 c.a.q]) (.agg #[.int .u8 c.a.r, .int .u8 c.a.g, .int .u8 c.a.b, .int .u8 c.a.q])).run Try.prog w = .ok true w := eq_colorD 9997 w c.a
  have hb : (Op.equalIn 9999 23 (.agg #[.int .u8 c.b.r, .int .u8 c.b.g, .int .u8 c.b.b, .int .u8 c.b.q]) (.agg #[.int .u8 c.b.r, .int .u8 c.b.g, .int .u8 c.b.b, .int .u8 c.b.q])).run Try.prog w = .ok true w := eq_colorD 9997 w c.b
  rw [run_equalIn_agg w 9999 27 _ _ Try.underlying27 (by kernel_rfl)]
  simp [go_sem, Op.eqFields, ha, hb]

end Go.Proofs.Ytafaafaclijfiaa
