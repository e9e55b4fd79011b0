/- Contracts of layer 1 (fixed) and of its reference: what each call answers. -/
import Derived.Test.YtkephcmjigfepaaRows
import Derived.Test.YtkephcmjigfepaaM01
import Derived.Test.YtkephcmjigfepaaShelf
import Derived.WalkKit
import Derived.ProofKit
import Derived.OpenShut
import Derived.WalkLawsBesides
import Derived.WalkSpells
import Derived.Deep.QuietTactic
import Derived.BigQuiet
import Derived.Lib.Hide
import Derived.Handy
import Derived.Lib.MinMax
import Derived.WalkSmall
set_option linter.unusedVariables false
namespace Go.Proofs.Ytkephcmjigfepaa
open Go.ChangeShapes Go.WideShapes Go.ChangeAt Go.RowKit
