/- Contracts of layer 5 (runs), of the landed code: the library's Clone of runs, Fill, Set. -/
import Derived.Test.YtafmekojdaeliaaDoorB5B
import Derived.Lib.Walk
import Derived.Lib.SliceRun
set_option linter.unusedVariables false
set_option linter.unusedSimpArgs false
namespace Go.Proofs.YtafmekojdaeliaaDoor
open Go.ChangeShapes Go.WideShapes Go.ChangeAt Go.RowKit
