/- An item that is seen: its number, its place. -/
import Derived.Test.YtkhjmgedamndhaaRows
import Derived.Test.YtkhjmgedamndhaaKit
import Derived.WalkKit
import Derived.ProofKit
import Derived.OpenShut
import Derived.IntWalk
namespace Go.Proofs.Ytkhjmgedamndhaa
open Go.ChangeShapes Go.WideShapes Go.ChangeAt Go.RowKit
set_option linter.unusedVariables false
/-- An item that is seen: its number, its place. -/
structure Sn where
  item : Int
  kind : Int
  id : Int
deriving DecidableEq
end Go.Proofs.Ytkhjmgedamndhaa
