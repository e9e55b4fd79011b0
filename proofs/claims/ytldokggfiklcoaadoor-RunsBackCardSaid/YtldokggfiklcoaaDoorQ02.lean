/- How two ways are compared. -/
import Derived.Test.YtldokggfiklcoaaDoorC01
import Derived.Test.YtldokggfiklcoaaDoorK02
set_option linter.unusedVariables false
namespace Go.Proofs.YtldokggfiklcoaaDoor
open Go.ChangeShapes Go.WideShapes Go.ChangeAt Go.RowKit
