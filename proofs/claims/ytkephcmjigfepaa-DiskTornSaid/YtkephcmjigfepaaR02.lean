/- Contracts of layer 2's reference. -/
import Derived.Test.YtkephcmjigfepaaQ02
import Derived.Test.YtkephcmjigfepaaD01
set_option linter.unusedVariables false
namespace Go.Proofs.Ytkephcmjigfepaa
open Go.ChangeShapes Go.WideShapes Go.ChangeAt Go.RowKit
attribute [local go_sem ↓] Go.wp_at_zero Go.wp_at_succ
