/- The document's own Right: the loops. -/
import Derived.Test.YtgmkcddgkgcbbaaGRefMay
namespace Go.Proofs.Ytgmkcddgkgcbbaa
open Go.ChangeShapes Go.WideShapes Go.ChangeAt Go.RowKit
set_option linter.unusedVariables false
open Go.RowKit
open List (setIfInBounds_toArray)
/-- The two boxes of the call. -/
def RR (w : World) (A B : Array Value) (wr : World) : Prop := Holds w w.heap.size A wr ∧ Holds w (w.heap.size + 1) B wr
end Go.Proofs.Ytgmkcddgkgcbbaa
