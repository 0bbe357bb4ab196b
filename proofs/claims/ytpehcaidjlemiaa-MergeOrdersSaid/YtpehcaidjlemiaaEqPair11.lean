/- Two arrays of two numbers, compared. -/
import Derived.Test.YtpehcaidjlemiaaInts
import Derived.Maps.RangeRun
set_option linter.unusedVariables false
namespace Go.Proofs.Ytpehcaidjlemiaa
open Go Go.RowKit

set_option maxHeartbeats 4000000 in
theorem run_equal_pair (a b c d : Int) (w : World) : (Op.equalIn 10000 30 (.agg #[.int .i64 a, .int .i64 b]) (.agg #[.int .i64 c, .int .i64 d])).run Try.prog w = .ok (a == c && b == d) w := by
  have h : ∀ k : Nat, (Op.equalIn (k + 2) 30 (.agg #[.int .i64 a, .int .i64 b]) (.agg #[.int .i64 c, .int .i64 d])).run Try.prog w = .ok (a == c && b == d) w := fun k => by
    simp only [Op.equalIn, part]
    simp [run_underlying Try.underlying30, Try.sizeOf3]
    rw [show List.range' 0 2 = [0, 1] from rfl]
    simp only [List.forIn_cons, List.forIn_nil]
    by_cases h1 : a = c <;> by_cases h2 : b = d <;> simp [h1, h2, run_underlying Try.underlying3, Try.sizeOf3, Try.isAgg3]
  exact h 9998
end Go.Proofs.Ytpehcaidjlemiaa
