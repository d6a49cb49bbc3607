/- A right world's players. -/
import Derived.Test.YtniblphklgbpnaaRows
import Derived.Test.YtniblphklgbpnaaKit
import Derived.Test.YtniblphklgbpnaaStrs
import Derived.Test.YtniblphklgbpnaaCoin
import Derived.Test.YtniblphklgbpnaaWorldMath
import Derived.Test.YtniblphklgbpnaaWorldAt
import Derived.Test.YtniblphklgbpnaaDescNest
import Derived.Test.YtniblphklgbpnaaDescMay
import Derived.Test.YtniblphklgbpnaaDescRight
import Derived.Test.YtniblphklgbpnaaDescAs
import Derived.WalkKit
import Derived.ProofKit
import Derived.OpenShut
import Derived.IntWalk
namespace Go.Proofs.Ytniblphklgbpnaa
open Go.ChangeShapes Go.WideShapes Go.ChangeAt Go.RowKit
set_option linter.unusedVariables false
open Go.RowKit
theorem right_new_lens {x : Wd} (h : rightW x = true) : x.d.players.length = x.at_.length ∧ x.d.coins.length = x.at_.length := by
  simp only [rightW, Bool.and_eq_true] at h
  have hf := may_few h.1
  have h1 := h.2.1
  simp only [playersB, Bool.and_eq_true, decide_eq_true_eq] at h1
  omega
end Go.Proofs.Ytniblphklgbpnaa
