/- Contracts of layer 1's reference, and of the example that every statement ends in. -/
import Derived.Test.YtafmekojdaeliaaDoorC01
set_option linter.unusedVariables false
namespace Go.Proofs.YtafmekojdaeliaaDoor
open Go.ChangeShapes Go.WideShapes Go.ChangeAt Go.RowKit
