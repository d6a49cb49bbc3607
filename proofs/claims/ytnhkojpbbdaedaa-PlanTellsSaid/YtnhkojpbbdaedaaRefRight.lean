/- The document's own Right: the loops. -/
import Derived.Test.YtnhkojpbbdaedaaGRefMay
namespace Go.Proofs.Ytnhkojpbbdaedaa
open Go.ChangeShapes Go.WideShapes Go.ChangeAt Go.RowKit
set_option linter.unusedVariables false
open Go.RowKit
open List (setIfInBounds_toArray)
def RR (w:World) (A B:Array Value) (wr:World):Prop:=Ac w w.heap.size A wr∧Ac w (w.heap.size+1) B wr
end Go.Proofs.Ytnhkojpbbdaedaa
