/- What the laws of sessions want besides: an arm of the walk that fails at once where the operation is another one. -/
import Derived.Test.YtaeclpjofclbeaaDoorSessFew
namespace Go.Proofs.YtaeclpjofclbeaaDoor
open Go.ChangeShapes Go.WideShapes Go.ChangeAt Go.RowKit
set_option linter.unusedVariables false
open Go.RowKit Go
theorem wl_op {P:Program} {ops:Array Oper} {rest:List Oper} {o:Oper} {a:Act} {Q:Exit→Act→World→Prop} {w:World} (p:Op) (h:o.op=p) (k:wpList P ops Q (o :: rest) a w):wpList P ops Q (o :: rest) a w:=k
theorem few_lens19 {s:Sl} (h:sfewB s=true):s.c.gives.length≤1000000∧s.c.wants.length≤1000000:=by
 simp [sfewB,Dz] at h;omega
end Go.Proofs.YtaeclpjofclbeaaDoor
