/- Contracts of layer 1's reference, and of the example that every statement ends in. -/
import Derived.Test.YtldokggfiklcoaaDoorC01
set_option linter.unusedVariables false
namespace Go.Proofs.YtldokggfiklcoaaDoor
open Go.ChangeShapes Go.WideShapes Go.ChangeAt Go.RowKit
