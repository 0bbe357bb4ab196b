/- A field of where a block ends. -/
import Derived.Test.YtfhjnblcnkjooaaList05
namespace Go.Proofs.Ytfhjnblcnkjooaa
open Go Go.RowKit
theorem fld_at (x a : Int) (w : World) : Sem.run Try.prog (Instr.field 55 (.agg #[.int .i64 x, .int .i64 a]) 1) w = .ok (.int .i64 a) w := by
  simp [Instr.field, go_sem, part, asAgg]
theorem fld_doc (x a : Int) (w : World) : Sem.run Try.prog (Instr.field 55 (.agg #[.int .i64 x, .int .i64 a]) 0) w = .ok (.int .i64 x) w := by
  simp [Instr.field, go_sem, part, asAgg]
end Go.Proofs.Ytfhjnblcnkjooaa
