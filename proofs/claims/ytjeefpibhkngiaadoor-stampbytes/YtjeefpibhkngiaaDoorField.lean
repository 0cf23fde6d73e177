/-
  A stamp's field, of a stamp that is no variable.
-/
import Derived.Test.YtjeefpibhkngiaaDoorText
namespace Go.Proofs.YtjeefpibhkngiaaDoor
open Go.RowKit

theorem field0 (x y : Int) (w : World) : (Instr.field 23 (.agg #[.int .i64 x, .int .i64 y]) 0).run Tryd.prog w = .ok (.int .i64 x) w := by
  simp [Instr.field, asAgg, go_sem]

end Go.Proofs.YtjeefpibhkngiaaDoor
