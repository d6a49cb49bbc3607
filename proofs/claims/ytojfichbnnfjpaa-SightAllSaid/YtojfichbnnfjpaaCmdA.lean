/- cmd: kinds, ways, numbers and lists within their limits; lists held against one another, by the code and by the document's own definition. -/
import Derived.Test.YtojfichbnnfjpaaRows
import Derived.Test.YtojfichbnnfjpaaKit
import Derived.Test.YtojfichbnnfjpaaGMem
import Derived.Test.YtojfichbnnfjpaaCmdMath
import Derived.Deep.QuietTactic
import Derived.BigQuiet
import Derived.WalkKit
import Derived.ProofKit
import Derived.OpenShut
import Derived.IntWalk
namespace Go.Proofs.Ytojfichbnnfjpaa
open Go.ChangeShapes Go.WideShapes Go.ChangeAt Go.RowKit
set_option linter.unusedVariables false
open Go.RowKit

theorem areB_snoc {xs : List Int} {k : Nat} (h : k < xs.length) (ha : areB (xs.take k) = true) (hk : okN xs[k] = true) : areB (xs.take (k + 1)) = true := by
  rw [List.take_succ_eq_append_getElem h]
  simp only [areB, List.all_append] at *
  simp [ha, hk]
theorem areB_no {xs : List Int} {k : Nat} (h : k < xs.length) (hk : okN xs[k] = false) : areB xs = false := by
  rw [Bool.eq_false_iff]; intro h2
  have := List.all_eq_true.1 h2 xs[k] (List.getElem_mem h)
  rw [hk] at this; cases this
theorem areB_all {xs : List Int} (h : areB (xs.take xs.length) = true) : areB xs = true := by
  rwa [List.take_of_length_le (Nat.le_refl _)] at h

end Go.Proofs.Ytojfichbnnfjpaa
