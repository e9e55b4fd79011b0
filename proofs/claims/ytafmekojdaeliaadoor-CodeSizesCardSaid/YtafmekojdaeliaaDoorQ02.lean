/- How two ways are compared. -/
import Derived.Test.YtafmekojdaeliaaDoorC01
import Derived.Test.YtafmekojdaeliaaDoorK02
set_option linter.unusedVariables false
namespace Go.Proofs.YtafmekojdaeliaaDoor
open Go.ChangeShapes Go.WideShapes Go.ChangeAt Go.RowKit
