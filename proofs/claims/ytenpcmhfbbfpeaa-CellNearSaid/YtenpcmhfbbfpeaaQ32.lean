/- How two cells, and two chunks' places, are compared. -/
import Derived.Test.YtenpcmhfbbfpeaaR30
set_option linter.unusedVariables false
namespace Go.Proofs.Ytenpcmhfbbfpeaa
open Go.ChangeShapes Go.WideShapes Go.ChangeAt Go.RowKit
def eq2B (x z x' z' : Int) : Bool := decide (x = x' ∧ z = z')
theorem eq3c_run (x y z x' y' z' : Int) (w : World) : (binOp .eql 28 (.agg #[.int .i64 x, .int .i64 y, .int .i64 z]) (.agg #[.int .i64 x', .int .i64 y', .int .i64 z'])).run Try.prog w = .ok (.bool (eq3B x y z x' y' z')) w := by
  unfold eq3B
  by_cases h1 : x = x' <;> by_cases h2 : y = y' <;> by_cases h3 : z = z' <;> simp [go_sem, h1, h2, h3]
theorem ne3c_run (x y z x' y' z' : Int) (w : World) : (binOp .neq 28 (.agg #[.int .i64 x, .int .i64 y, .int .i64 z]) (.agg #[.int .i64 x', .int .i64 y', .int .i64 z'])).run Try.prog w = .ok (.bool (!eq3B x y z x' y' z')) w := by
  unfold eq3B
  by_cases h1 : x = x' <;> by_cases h2 : y = y' <;> by_cases h3 : z = z' <;> simp [go_sem, h1, h2, h3]
theorem eq2p_run (x z x' z' : Int) (w : World) : (binOp .eql 38 (.agg #[.int .i64 x, .int .i64 z]) (.agg #[.int .i64 x', .int .i64 z'])).run Try.prog w = .ok (.bool (eq2B x z x' z')) w := by
  unfold eq2B
  by_cases h1 : x = x' <;> by_cases h3 : z = z' <;> simp [go_sem, h1, h3]
theorem ne2p_run (x z x' z' : Int) (w : World) : (binOp .neq 38 (.agg #[.int .i64 x, .int .i64 z]) (.agg #[.int .i64 x', .int .i64 z'])).run Try.prog w = .ok (.bool (!eq2B x z x' z')) w := by
  unfold eq2B
  by_cases h1 : x = x' <;> by_cases h3 : z = z' <;> simp [go_sem, h1, h3]
end Go.Proofs.Ytenpcmhfbbfpeaa
