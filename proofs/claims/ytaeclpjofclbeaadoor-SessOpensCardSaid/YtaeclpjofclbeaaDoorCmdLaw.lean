/- cmd's laws: what each of them needs: the tables out of the row. -/
import Derived.Test.YtaeclpjofclbeaaDoorGLineA
import Derived.Test.YtaeclpjofclbeaaDoorCmdRead
import Derived.Test.YtaeclpjofclbeaaDoorTie
import Derived.Test.YtaeclpjofclbeaaDoorCards
import Derived.Lay
import Derived.SevenTiedAt
import Derived.MakeChecks
namespace Go.Proofs.YtaeclpjofclbeaaDoor
open Go.ChangeShapes Go.WideShapes Go.ChangeAt Go.RowKit
set_option linter.unusedVariables false
open Go.RowKit
theorem Wv (W : World) {rest : List (String × DataW Unit)} (h : laidMet Tryd.prog (("innkeep/cmd.kindNames", Rows.laid_innkeep_cmd_kindNames) :: rest) W) : KTab W :=
 Yo (g:=0) (ss:=kindNames) (by kernel_rfl) (by kernel_rfl) Tryd.underlying105 Tryd.underlying9 (by kernel_rfl) (by kernel_rfl) h
theorem Au3 (W : World) {rest : List (String × DataW Unit)} (h : laidMet Tryd.prog (("innkeep/cmd.wayNames", Rows.laid_innkeep_cmd_wayNames) :: rest) W) : WTab W :=
 Yo (g:=1) (ss:=wayNames) (by kernel_rfl) (by kernel_rfl) Tryd.underlying114 Tryd.underlying9 (by kernel_rfl) (by kernel_rfl) h
end Go.Proofs.YtaeclpjofclbeaaDoor
