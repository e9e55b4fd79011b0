/- How two ways are compared. -/
import Derived.Test.YtnpondgnmoedhaaC01
import Derived.Test.YtnpondgnmoedhaaK02
set_option linter.unusedVariables false
namespace Go.Proofs.Ytnpondgnmoedhaa
open Go.ChangeShapes Go.WideShapes Go.ChangeAt Go.RowKit
