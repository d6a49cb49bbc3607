/- Is there a place? What the laws of tree begin with: whether a world fits. -/
import Derived.Test.YtkhjmgedamndhaaRows
import Derived.Test.YtkhjmgedamndhaaKit
import Derived.Test.YtkhjmgedamndhaaStrs
import Derived.Test.YtkhjmgedamndhaaCoin
import Derived.Test.YtkhjmgedamndhaaBlk
import Derived.Test.YtkhjmgedamndhaaHolds
import Derived.Test.YtkhjmgedamndhaaWorldMath
import Derived.Test.YtkhjmgedamndhaaWorldAt
import Derived.Test.YtkhjmgedamndhaaDescNest
import Derived.Test.YtkhjmgedamndhaaRefDescA
import Derived.Test.YtkhjmgedamndhaaRefRight
import Derived.Test.YtkhjmgedamndhaaTreeMath
import Derived.WalkKit
import Derived.ProofKit
import Derived.OpenShut
import Derived.IntWalk
namespace Go.Proofs.Ytkhjmgedamndhaa
open Go.ChangeShapes Go.WideShapes Go.ChangeAt Go.RowKit
set_option linter.unusedVariables false
open Go.RowKit
def isPl (x : Wd) (y : Pl) : Bool := decide (0 ≤ y.id) && ((decide (y.kind = 0) && decide (y.id < x.d.exits.length)) || ((decide (y.kind = 1) && decide (y.id < x.at_.length)) || (decide (y.kind = 2) && decide (y.id < x.wher.length))))
def fitsB (x : Wd) : Bool := fewB x && rightW x
end Go.Proofs.Ytkhjmgedamndhaa
