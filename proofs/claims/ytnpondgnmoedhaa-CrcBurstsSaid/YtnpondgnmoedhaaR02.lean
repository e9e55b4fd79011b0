/- Contracts of layer 2's reference. -/
import Derived.Test.YtnpondgnmoedhaaQ02
import Derived.Test.YtnpondgnmoedhaaD01
set_option linter.unusedVariables false
namespace Go.Proofs.Ytnpondgnmoedhaa
open Go.ChangeShapes Go.WideShapes Go.ChangeAt Go.RowKit
attribute [local go_sem ↓] Go.wp_at_zero Go.wp_at_succ
