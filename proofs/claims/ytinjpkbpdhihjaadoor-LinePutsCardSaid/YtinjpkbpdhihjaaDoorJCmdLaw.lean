import Derived.Test.YtinjpkbpdhihjaaDoorRows
import Derived.Test.YtinjpkbpdhihjaaDoorKit
import Derived.Test.YtinjpkbpdhihjaaDoorStrs
import Derived.Test.YtinjpkbpdhihjaaDoorJTab
import Derived.Test.YtinjpkbpdhihjaaDoorJMath
import Derived.Test.YtinjpkbpdhihjaaDoorJCmdNames1
import Derived.Test.YtinjpkbpdhihjaaDoorJCmdRead
import Derived.Test.YtinjpkbpdhihjaaDoorTie
import Derived.Test.YtinjpkbpdhihjaaDoorCards
import Derived.Lay
import Derived.SevenTiedAt
import Derived.MakeChecks
import Derived.Stop.LaidErr
import Derived.Lib.LaidTab
import Derived.WalkKit
import Derived.ProofKit
import Derived.OpenShut
import Derived.IntWalk
/- cmd's laws: what each of them needs: the tables out of the row. -/
namespace Go.Proofs.YtinjpkbpdhihjaaDoor
open Go.ChangeShapes Go.WideShapes Go.ChangeAt Go.RowKit
set_option linter.unusedVariables false
open Go.RowKit
theorem KTab_laid (W : World) {rest : List (String × DataW Unit)} (h : laidMet Tryd.prog (("innkeep/cmd.kindNames", Rows.laid_innkeep_cmd_kindNames) :: rest) W) : KTab W :=
  strTab_of_head (g := 0) (ss := kindNames) (by kernel_rfl) (by kernel_rfl) Tryd.underlying92 Tryd.underlying9 (by kernel_rfl) (by kernel_rfl) h
theorem WTab_laid (W : World) {rest : List (String × DataW Unit)} (h : laidMet Tryd.prog (("innkeep/cmd.wayNames", Rows.laid_innkeep_cmd_wayNames) :: rest) W) : WTab W :=
  strTab_of_head (g := 1) (ss := wayNames) (by kernel_rfl) (by kernel_rfl) Tryd.underlying97 Tryd.underlying9 (by kernel_rfl) (by kernel_rfl) h
end Go.Proofs.YtinjpkbpdhihjaaDoor
