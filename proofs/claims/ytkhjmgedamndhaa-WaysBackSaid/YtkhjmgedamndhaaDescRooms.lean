/- desc.areRooms: rooms' exits lead to rooms. -/
import Derived.Test.YtkhjmgedamndhaaRows
import Derived.Test.YtkhjmgedamndhaaKit
import Derived.Test.YtkhjmgedamndhaaStrs
import Derived.Test.YtkhjmgedamndhaaCoin
import Derived.Test.YtkhjmgedamndhaaBlk
import Derived.Test.YtkhjmgedamndhaaWorldMath
import Derived.Test.YtkhjmgedamndhaaWorldAt
import Derived.Test.YtkhjmgedamndhaaDescA
import Derived.Deep.QuietTactic
import Derived.BigQuiet
import Derived.WalkKit
import Derived.ProofKit
import Derived.OpenShut
import Derived.IntWalk
namespace Go.Proofs.Ytkhjmgedamndhaa
open Go.ChangeShapes Go.WideShapes Go.ChangeAt Go.RowKit
set_option linter.unusedVariables false
open Go.RowKit
/-- An exit of the four, by its number. -/
def Ex.get (e : Ex) : Nat → Int
  | 0 => e.n
  | 1 => e.e
  | 2 => e.s
  | _ => e.w
theorem exB_get (r : Int) (e : Ex) : exB r e = true ↔ ∀ j, j < 4 → toB r (e.get j) = true := by
  simp only [exB, Bool.and_eq_true]
  constructor
  · rintro ⟨h0, h1, h2, h3⟩ j hj
    match j, hj with
    | 0, _ => exact h0
    | 1, _ => exact h1
    | 2, _ => exact h2
    | 3, _ => exact h3
  · intro h
    exact ⟨h 0 (by omega), h 1 (by omega), h 2 (by omega), h 3 (by omega)⟩
theorem exB_not {r : Int} {e : Ex} {j : Nat} (hj : j < 4) (h : toB r (e.get j) = false) : exB r e = false := by
  rw [Bool.eq_false_iff]; intro h2
  rw [(exB_get r e).1 h2 j hj] at h; cases h
theorem toB_split {r t : Int} (h : toB r t = true) : t = -1 ∨ (t ≠ -1 ∧ inB t r = true) := by
  by_cases h1 : t = -1
  · exact .inl h1
  · right; simp [toB, h1] at h; exact ⟨h1, h⟩
theorem toB_no {r t : Int} (h : toB r t = false) : t ≠ -1 ∧ inB t r = false := by
  simp [toB] at h; exact h
theorem run_dir (e : Ex) (j : Nat) (hj : j < 4) (w : World) : (Instr.index 41 (.agg #[.int .i64 e.n, .int .i64 e.e, .int .i64 e.s, .int .i64 e.w]) (.int .i64 (j : Int))).run Try.prog w = .ok (.int .i64 (e.get j)) w := by
  obtain rfl | rfl | rfl | rfl : j = 0 ∨ j = 1 ∨ j = 2 ∨ j = 3 := by omega
  all_goals
    simp [Instr.index, run_underlying Try.underlying41, asIntOf, go_sem, Ex.get]
end Go.Proofs.Ytkhjmgedamndhaa
