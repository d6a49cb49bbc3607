/- reply: numbers, kinds of places, players and items within their limits; the document's own fit, Few. -/
import Derived.Test.YtojfichbnnfjpaaRows
import Derived.Test.YtojfichbnnfjpaaKit
import Derived.Test.YtojfichbnnfjpaaGMem
import Derived.Test.YtojfichbnnfjpaaCmdMath
import Derived.Test.YtojfichbnnfjpaaCmdA
import Derived.Test.YtojfichbnnfjpaaRepMath
import Derived.Test.YtojfichbnnfjpaaGWorld
import Derived.Deep.QuietTactic
import Derived.BigQuiet
import Derived.WalkKit
import Derived.ProofKit
import Derived.OpenShut
import Derived.IntWalk
namespace Go.Proofs.Ytojfichbnnfjpaa
open Go.ChangeShapes Go.WideShapes Go.ChangeAt Go.RowKit
set_option linter.unusedVariables false
open Go.RowKit
theorem reffit_any (n : Int) (w : World) : Calls Try.prog 28 #[.int .i64 n] w fun e w' => e = .returned (.bool (okN n)) ∧ w = w' := by
  unfold okN
  by_cases h1 : 0 ≤ n <;> by_cases h2 : n ≤ 1073741824
  all_goals
    go_enter Try.func28, Try.ntmps28
    go_wp2_with fail
    go_ret
    exact ⟨by simp [*], rfl⟩
theorem ints_pair (x y : Int) (w : World) : IntsAt (w.alloc (.cells #[.int .i64 x, .int .i64 y] 3)) (some ⟨w.heap.size, 0, none⟩) [x, y] := by
  refine ⟨by simp [maxLen], .inr ⟨w.heap.size, 0, rfl, by simp, fun i hi => ?_⟩⟩
  rw [World.cell?_alloc_at _ _ _ _ rfl]
  match i, hi with
  | 0, _ => rfl
  | 1, _ => rfl
theorem snall_snoc {xs : List Sn} {k : Nat} (h : k < xs.length) (ha : (xs.take k).all snB = true) (hk : snB xs[k] = true) : (xs.take (k + 1)).all snB = true := by
  rw [List.take_succ_eq_append_getElem h, List.all_append, ha, Bool.true_and]
  simpa using hk
theorem snall_no {xs : List Sn} {k : Nat} (h : k < xs.length) (hk : snB xs[k] = false) : xs.all snB = false := by
  rw [Bool.eq_false_iff]; intro h2
  have := List.all_eq_true.1 h2 xs[k] (List.getElem_mem h)
  rw [hk] at this; cases this
theorem snall_all {xs : List Sn} (h : (xs.take xs.length).all snB = true) : xs.all snB = true := by
  rwa [List.take_of_length_le (Nat.le_refl _)] at h
end Go.Proofs.Ytojfichbnnfjpaa
