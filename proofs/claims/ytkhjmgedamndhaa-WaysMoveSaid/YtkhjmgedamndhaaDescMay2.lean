/- desc.May. -/
import Derived.Test.YtkhjmgedamndhaaRows
import Derived.Test.YtkhjmgedamndhaaKit
import Derived.Test.YtkhjmgedamndhaaStrs
import Derived.Test.YtkhjmgedamndhaaCoin
import Derived.Test.YtkhjmgedamndhaaBlk
import Derived.Test.YtkhjmgedamndhaaHolds
import Derived.Test.YtkhjmgedamndhaaWorldMath
import Derived.Test.YtkhjmgedamndhaaWorldAt
import Derived.Test.YtkhjmgedamndhaaDescA
import Derived.Test.YtkhjmgedamndhaaDescRooms
import Derived.Test.YtkhjmgedamndhaaDescB
import Derived.Test.YtkhjmgedamndhaaDescMay
import Derived.Deep.QuietTactic
import Derived.BigQuiet
import Derived.WalkKit
import Derived.ProofKit
import Derived.OpenShut
import Derived.IntWalk
namespace Go.Proofs.Ytkhjmgedamndhaa
open Go.ChangeShapes Go.WideShapes Go.ChangeAt Go.RowKit
set_option linter.unusedVariables false
open Go.RowKit
theorem ints3 {w : World} {n : Nat} {t : TypeId} {a b c : Int} (h : Blk w n t #[.int .i64 a, .int .i64 b, .int .i64 c]) : IntsAt w (some ⟨n, 0, none⟩) [a, b, c] :=
  h.ints (by simp [maxLen]) (fun i hi => by
    obtain rfl | rfl | rfl : i = 0 ∨ i = 1 ∨ i = 2 := by simp at hi; omega
    · rfl
    · rfl
    · rfl)
end Go.Proofs.Ytkhjmgedamndhaa
