/- desc.areNested: the walk. -/
import Derived.Test.YtkhjmgedamndhaaRows
import Derived.Test.YtkhjmgedamndhaaKit
import Derived.Test.YtkhjmgedamndhaaStrs
import Derived.Test.YtkhjmgedamndhaaCoin
import Derived.Test.YtkhjmgedamndhaaBlk
import Derived.Test.YtkhjmgedamndhaaHolds
import Derived.Test.YtkhjmgedamndhaaWorldMath
import Derived.Test.YtkhjmgedamndhaaWorldAt
import Derived.Test.YtkhjmgedamndhaaDescNest
import Derived.Deep.QuietTactic
import Derived.BigQuiet
import Derived.Deep.RegionHeld3
import Derived.WalkKit
import Derived.ProofKit
import Derived.OpenShut
import Derived.IntWalk
namespace Go.Proofs.Ytkhjmgedamndhaa
open Go.ChangeShapes Go.WideShapes Go.ChangeAt Go.RowKit
set_option linter.unusedVariables false
open Go.RowKit
theorem cell_lt {w : World} {p : Addr} {v : Value} (h : w.cell? p = some v) : p.block < w.heap.size := by
  apply Decidable.byContradiction; intro hn
  have e : w.heap[p.block]? = none := by simp; omega
  simp [World.cell?, e] at h
end Go.Proofs.Ytkhjmgedamndhaa
