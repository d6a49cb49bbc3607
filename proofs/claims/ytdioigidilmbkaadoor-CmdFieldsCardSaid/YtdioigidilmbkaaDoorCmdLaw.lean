/- cmd's laws: what each of them needs: the tables out of the row. -/
import Derived.Test.YtdioigidilmbkaaDoorRows
import Derived.Test.YtdioigidilmbkaaDoorKit
import Derived.Test.YtdioigidilmbkaaDoorStrs
import Derived.Test.YtdioigidilmbkaaDoorStrTab
import Derived.Test.YtdioigidilmbkaaDoorCmdMath
import Derived.Test.YtdioigidilmbkaaDoorNameMath
import Derived.Test.YtdioigidilmbkaaDoorCmdNames1
import Derived.Test.YtdioigidilmbkaaDoorCmdRead
import Derived.Test.YtdioigidilmbkaaDoorTie
import Derived.Test.YtdioigidilmbkaaDoorCards
import Derived.Lay
import Derived.SevenTiedAt
import Derived.MakeChecks
import Derived.Stop.LaidErr
import Derived.Lib.LaidTab
import Derived.WalkKit
import Derived.ProofKit
import Derived.OpenShut
import Derived.IntWalk
namespace Go.Proofs.YtdioigidilmbkaaDoor
open Go.ChangeShapes Go.WideShapes Go.ChangeAt Go.RowKit
set_option linter.unusedVariables false
open Go.RowKit
theorem KTab_laid (W : World) {rest : List (String × DataW Unit)} (h : laidMet Tryd.prog (("innkeep/cmd.kindNames", Rows.laid_innkeep_cmd_kindNames) :: rest) W) : KTab W :=
  strTab_of_head (g := 0) (ss := kindNames) (by kernel_rfl) (by kernel_rfl) Tryd.underlying45 Tryd.underlying9 (by kernel_rfl) (by kernel_rfl) h
theorem WTab_laid (W : World) {rest : List (String × DataW Unit)} (h : laidMet Tryd.prog (("innkeep/cmd.wayNames", Rows.laid_innkeep_cmd_wayNames) :: rest) W) : WTab W :=
  strTab_of_head (g := 1) (ss := wayNames) (by kernel_rfl) (by kernel_rfl) Tryd.underlying46 Tryd.underlying9 (by kernel_rfl) (by kernel_rfl) h
end Go.Proofs.YtdioigidilmbkaaDoor
