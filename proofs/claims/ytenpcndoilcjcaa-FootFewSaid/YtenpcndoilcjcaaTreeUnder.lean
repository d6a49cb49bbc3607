/- tree.Under: what hangs from a place. -/
import Derived.Test.YtenpcndoilcjcaaGTreeA
import Derived.Test.YtenpcndoilcjcaaGTreeL
namespace Go.Proofs.Ytenpcndoilcjcaa
open Go.ChangeShapes Go.WideShapes Go.ChangeAt Go.RowKit
set_option linter.unusedVariables false
open Go.RowKit
end Go.Proofs.Ytenpcndoilcjcaa
