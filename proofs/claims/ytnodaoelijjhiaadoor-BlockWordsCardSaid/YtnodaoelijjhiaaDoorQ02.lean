/- How two ways are compared. -/
import Derived.Test.YtnodaoelijjhiaaDoorC01
import Derived.Test.YtnodaoelijjhiaaDoorK02
set_option linter.unusedVariables false
namespace Go.Proofs.YtnodaoelijjhiaaDoor
open Go.ChangeShapes Go.WideShapes Go.ChangeAt Go.RowKit
