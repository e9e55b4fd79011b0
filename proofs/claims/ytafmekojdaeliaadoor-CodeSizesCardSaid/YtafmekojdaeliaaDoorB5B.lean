/- Contracts of layer 5 (runs), of the landed code: May, At, Cut. -/
import Derived.Test.YtafmekojdaeliaaDoorB5A
set_option linter.unusedVariables false
set_option linter.unusedSimpArgs false
namespace Go.Proofs.YtafmekojdaeliaaDoor
open Go.ChangeShapes Go.WideShapes Go.ChangeAt Go.RowKit
