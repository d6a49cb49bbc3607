/- cmd's laws: what each of them needs: the tables out of the row. -/
import Derived.Test.YtaeclpjofclbeaaGreatDoorGLineA
import Derived.Test.YtaeclpjofclbeaaGreatDoorCmdRead
import Derived.Test.YtaeclpjofclbeaaGreatDoorTie
import Derived.Test.YtaeclpjofclbeaaGreatDoorCards
import Derived.Lay
import Derived.SevenTiedAt
import Derived.MakeChecks
namespace Go.Proofs.YtaeclpjofclbeaaGreatDoor
open Go.ChangeShapes Go.WideShapes Go.ChangeAt Go.RowKit
set_option linter.unusedVariables false
open Go.RowKit
theorem Wv (W : World) {rest : List (String × DataW Unit)} (h : laidMet Tryz.prog (("innkeep/cmd.kindNames", Rows.laid_innkeep_cmd_kindNames) :: rest) W) : KTab W :=
 Yo (g:=0) (ss:=kindNames) (by kernel_rfl) (by kernel_rfl) Tryz.underlying111 Tryz.underlying9 (by kernel_rfl) (by kernel_rfl) h
theorem Au3 (W : World) {rest : List (String × DataW Unit)} (h : laidMet Tryz.prog (("innkeep/cmd.wayNames", Rows.laid_innkeep_cmd_wayNames) :: rest) W) : WTab W :=
 Yo (g:=1) (ss:=wayNames) (by kernel_rfl) (by kernel_rfl) Tryz.underlying119 Tryz.underlying9 (by kernel_rfl) (by kernel_rfl) h
end Go.Proofs.YtaeclpjofclbeaaGreatDoor
