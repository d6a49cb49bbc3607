/- strings.Clone: the shelf's contract of its own, laid at this translation by name. No condition but its own. -/
import Derived.Shelf.LaysM
import Derived.Shelf.Strconv.Clone
import Derived.Test.YtaeclpjofclbeaaDoorRows
import Derived.Test.YtaeclpjofclbeaaDoorKit
import Derived.WalkKit
import Derived.OpenShut
import Derived.IntWalk
namespace Go.Proofs.YtaeclpjofclbeaaDoor
open Go.ChangeShapes Go.WideShapes Go.ChangeAt Go.RowKit
set_option linter.unusedVariables false
end Go.Proofs.YtaeclpjofclbeaaDoor
namespace Go.Proofs
open Go.Shelf Go.RowKit
def Tryd.laysM316_ren:Go.Shelf.Ren:=⟨fun|316=>59|n=>n,fun|0=>0|3=>3|4=>4|5=>5|9=>9|37=>112|127=>113|n=>n,fun |n=>n⟩
theorem Tryd.laysM316:Go.Proofs.LaysM.n316 Tryd.prog Tryd.laysM316_ren:={
 mixed:=by kernel_rfl
 f316:=Tryd.func59.trans (congrArg some (by kernel_rfl))
 t0:=Tryd.underlying0
 a0:=Tryd.isAgg0
 z0:=Tryd.sizeOf0
 v0:=Tryd.zeroValue0
 t3:=Tryd.underlying3
 a3:=Tryd.isAgg3
 z3:=Tryd.sizeOf3
 v3:=Tryd.zeroValue3
 t4:=Tryd.underlying4
 a4:=Tryd.isAgg4
 z4:=Tryd.sizeOf4
 v4:=Tryd.zeroValue4
 t9:=Tryd.underlying9
 a9:=Tryd.isAgg9
 z9:=Tryd.sizeOf9
 v9:=Tryd.zeroValue9
 t37:=Tryd.underlying112
 a37:=Tryd.isAgg112
 z37:=Tryd.sizeOf112
 v37:=Tryd.zeroValue112
 t127:=Tryd.underlying113
 a127:=Tryd.isAgg113
 z127:=Tryd.sizeOf113
 v127:=Tryd.zeroValue113
 t5:=Tryd.underlying5
 a5:=Tryd.isAgg5
 z5:=Tryd.sizeOf5
 v5:=Tryd.zeroValue5
 i0:=by kernel_rfl
 i3:=by kernel_rfl
 i4:=by kernel_rfl
 i5:=by kernel_rfl
 i9:=by kernel_rfl
 i37:=by kernel_rfl
 i127:=by kernel_rfl }
theorem Tryd.stringslite_Clone (s:ByteArray) (w:World) (hlim:s.size≤281474976710656) :
 Calls Tryd.prog 59 #[.string s] w fun e w'=>e=.returned (.string s)∧Below w.heap.size w w':=Any.stringslite_Clone Tryd.laysM316 s w hlim
end Go.Proofs
namespace Go.Proofs.YtaeclpjofclbeaaDoor
open Go.RowKit
theorem Ba9 (s:ByteArray) (w:World) (hs:s.size≤281474976710656) :
 Calls Tryd.prog 47 #[.string s] w fun e w'=>e=.returned (.string s)∧Below w.heap.size w w':=by
 go_enter Tryd.func47,Tryd.ntmps47
 go_wp2_with fail
 refine (Tryd.stringslite_Clone s _ hs).mono ?_
 rintro e w1 ⟨rfl,b1⟩
 go_wp2_with fail
 go_ret
 exact ⟨rfl,b1⟩
end Go.Proofs.YtaeclpjofclbeaaDoor
