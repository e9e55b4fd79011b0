/- Contracts of layer 1's reference, and of the example that every statement ends in. -/
import Derived.Test.YtkephcmjigfepaaC01
set_option linter.unusedVariables false
namespace Go.Proofs.Ytkephcmjigfepaa
open Go.ChangeShapes Go.WideShapes Go.ChangeAt Go.RowKit
