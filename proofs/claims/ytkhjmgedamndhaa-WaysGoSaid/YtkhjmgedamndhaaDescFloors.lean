/- desc.floors: the places of items in these rooms. -/
import Derived.Test.YtkhjmgedamndhaaRows
import Derived.Test.YtkhjmgedamndhaaKit
import Derived.Test.YtkhjmgedamndhaaStrs
import Derived.Test.YtkhjmgedamndhaaCoin
import Derived.Test.YtkhjmgedamndhaaBlk
import Derived.Test.YtkhjmgedamndhaaWorldMath
import Derived.Test.YtkhjmgedamndhaaWorldAt
import Derived.Deep.QuietTactic
import Derived.BigQuiet
import Derived.WalkKit
import Derived.ProofKit
import Derived.OpenShut
import Derived.IntWalk
namespace Go.Proofs.Ytkhjmgedamndhaa
open Go.ChangeShapes Go.WideShapes Go.ChangeAt Go.RowKit
set_option linter.unusedVariables false
open Go.RowKit
theorem place_info : (Try.prog.info? 57).map (fun i => (i.zero, i.size, i.bytes)) = some (some (.agg #[.int .i64 0, .int .i64 0]), 2, 16) := by kernel_rfl
theorem make_places (n : Nat) (h : n ≤ 1000000) (W : World) : (Instr.makeSlice 27 (.int .i64 (n : Int)) (.int .i64 (n : Int))).run Try.prog W = .ok (.slice (some ⟨W.heap.size, 0, none⟩) n n) (W.alloc (.cells (madeCells (Value.agg #[.int .i64 0, .int .i64 0]).cells (n * 2)) 57)) := by
  obtain ⟨i0, hi0, hz0, hz1, hz2⟩ := info_parts place_info
  have hr := run_make (P := Try.prog) W 27 57 i0 (.agg #[.int .i64 0, .int .i64 0]) Try.underlying27 hi0 hz0 .i64 .i64 n n (by omega) (by omega) (by rw [hz2]; omega) (by omega)
  rw [Int.toNat_natCast, hz1] at hr
  exact hr
/-- What the floors' block holds after so many rounds. -/
def FlAt (xs : List Int) (k : Nat) (cs : Array Value) : Prop := cs.size = xs.length * 2 ∧ ∀ i (hi : i < xs.length), i < k → cs[i * 2]? = some (.int .i64 0) ∧ cs[i * 2 + 1]? = some (.int .i64 xs[i])
theorem FlAt.start (xs : List Int) (z : Array Value) : FlAt xs 0 (madeCells z (xs.length * 2)) := ⟨by simp [size_madeCells], fun i _ h => absurd h (by omega)⟩
theorem FlAt.step {xs : List Int} {k : Nat} {cs : Array Value} (h : FlAt xs k cs) (hk : k < xs.length) : FlAt xs (k + 1) ((cs.setIfInBounds (k * 2) (.int .i64 0)).setIfInBounds (k * 2 + 1) (.int .i64 xs[k])) := by
  obtain ⟨h1, h2⟩ := h
  refine ⟨by simp [h1], fun i hi hik => ?_⟩
  by_cases e : i = k
  · subst e
    constructor
    · rw [Array.getElem?_setIfInBounds_ne (by omega), Array.getElem?_setIfInBounds_self_of_lt (by omega)]
    · rw [Array.getElem?_setIfInBounds_self_of_lt (by simp; omega)]
  · obtain ⟨h3, h4⟩ := h2 i hi (by omega)
    constructor
    · rw [Array.getElem?_setIfInBounds_ne (by omega), Array.getElem?_setIfInBounds_ne (by omega), h3]
    · rw [Array.getElem?_setIfInBounds_ne (by omega), Array.getElem?_setIfInBounds_ne (by omega), h4]
theorem FlAt.cell {xs : List Int} {k : Nat} {cs : Array Value} (h : FlAt xs k cs) {i : Nat} (hi : i < xs.length * 2) : ∃ u, cs[i]? = some u := ⟨cs[i]'(by rw [h.1]; exact hi), Array.getElem?_eq_getElem _⟩
theorem FlAt.row {xs : List Int} {cs : Array Value} {W : World} {n : Nat} {t : TypeId} (h : FlAt xs xs.length cs) (hb : Blk W n t cs) (hl : xs.length ≤ 1000000) : PlsAt W (some ⟨n, 0, none⟩) (floorsL xs) := by
  refine ⟨by simp [floorsL, maxLen]; omega, .inr ⟨n, 0, rfl, hb.lt, fun i hi j hj => ?_⟩⟩
  have hi2 : i < xs.length := by simpa [floorsL] using hi
  obtain ⟨h1, h2⟩ := h.2 i hi2 hi2
  rw [hb.cell]
  obtain rfl | rfl : j = 0 ∨ j = 1 := by omega
  · simpa [floorsL, plC] using h1
  · simpa [floorsL, plC] using h2
end Go.Proofs.Ytkhjmgedamndhaa
