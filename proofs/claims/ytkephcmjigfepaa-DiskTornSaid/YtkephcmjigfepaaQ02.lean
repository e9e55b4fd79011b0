/- How two ways are compared. -/
import Derived.Test.YtkephcmjigfepaaC01
import Derived.Test.YtkephcmjigfepaaK02
set_option linter.unusedVariables false
namespace Go.Proofs.Ytkephcmjigfepaa
open Go.ChangeShapes Go.WideShapes Go.ChangeAt Go.RowKit
