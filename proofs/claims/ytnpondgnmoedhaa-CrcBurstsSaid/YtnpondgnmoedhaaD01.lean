/- Contracts of layer 1's reference, and of the example that every statement ends in. -/
import Derived.Test.YtnpondgnmoedhaaC01
set_option linter.unusedVariables false
namespace Go.Proofs.Ytnpondgnmoedhaa
open Go.ChangeShapes Go.WideShapes Go.ChangeAt Go.RowKit
