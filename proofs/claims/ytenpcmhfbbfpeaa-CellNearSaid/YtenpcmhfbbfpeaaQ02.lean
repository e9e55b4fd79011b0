/- How two ways are compared. -/
import Derived.Test.YtenpcmhfbbfpeaaC01
import Derived.Test.YtenpcmhfbbfpeaaK02
set_option linter.unusedVariables false
namespace Go.Proofs.Ytenpcmhfbbfpeaa
open Go.ChangeShapes Go.WideShapes Go.ChangeAt Go.RowKit
theorem eq3_run (x y z x' y' z' : Int) (w : World) : (binOp .eql 27 (.agg #[.int .i64 x, .int .i64 y, .int .i64 z]) (.agg #[.int .i64 x', .int .i64 y', .int .i64 z'])).run Try.prog w = .ok (.bool (eq3B x y z x' y' z')) w := by
  unfold eq3B
  by_cases h1 : x = x' <;> by_cases h2 : y = y' <;> by_cases h3 : z = z' <;> simp [go_sem, h1, h2, h3]
end Go.Proofs.Ytenpcmhfbbfpeaa
