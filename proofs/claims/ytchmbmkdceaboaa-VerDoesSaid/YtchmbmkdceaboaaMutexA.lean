/- mutex: the code's isPlace, Holder, has, with. -/
import Derived.Test.YtchmbmkdceaboaaMutexMath
import Derived.Test.YtchmbmkdceaboaaMutexOwn
import Derived.BigQuiet
namespace Go.Proofs.Ytchmbmkdceaboaa
open Go.ChangeShapes Go.WideShapes Go.ChangeAt Go.RowKit
set_option linter.unusedVariables false
open Go.RowKit Go
def Ro (l:List Int) (p:Int):Int:=if Yy l p then Dt6 l p-1 else 0
end Go.Proofs.Ytchmbmkdceaboaa
