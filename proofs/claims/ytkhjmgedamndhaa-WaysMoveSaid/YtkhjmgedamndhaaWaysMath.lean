/- Where exits lead; who goes, and is pushed: plain mathematics. -/
import Derived.Test.YtkhjmgedamndhaaRows
import Derived.Test.YtkhjmgedamndhaaKit
import Derived.Test.YtkhjmgedamndhaaStrs
import Derived.Test.YtkhjmgedamndhaaWorldMath
import Derived.Test.YtkhjmgedamndhaaWorldAt
import Derived.Test.YtkhjmgedamndhaaDescMay
import Derived.Test.YtkhjmgedamndhaaDescRight
import Derived.Test.YtkhjmgedamndhaaDescAs
import Derived.WalkKit
import Derived.ProofKit
import Derived.OpenShut
import Derived.IntWalk
namespace Go.Proofs.Ytkhjmgedamndhaa
open Go.ChangeShapes Go.WideShapes Go.ChangeAt Go.RowKit
set_option linter.unusedVariables false
open Go.RowKit
def exitN (e : Ex) : Nat → Int
  | 0 => e.n
  | 1 => e.e
  | 2 => e.s
  | _ => e.w
/-- Where a room's exit leads. -/
def toW (x : Wd) (r d : Nat) : Int := exitN (x.d.exits.getD r ⟨0, 0, 0, 0⟩) d
/-- The room where a player is. -/
def roomOf (x : Wd) (i : Nat) : Nat := (x.at_.getD i 0).toNat
def goW (x : Wd) (i : Nat) (t : Int) : Wd := ⟨x.d, x.at_.set i t, x.coins, x.wher⟩
/-- Who goes by a way: the world, the room, the error. -/
def moveW (x : Wd) (i d : Nat) : Wd × Int × Int := if toW x (roomOf x i) d = -1 then (x, 0, 4) else (goW x i (toW x (roomOf x i) d), toW x (roomOf x i) d, 0)
/-- Who is pushed. -/
def pushW (x : Wd) (i : Nat) (q : Int) (d : Nat) : Wd × Int × Int :=
  if inB q x.at_.length = false then (x, 0, 3) else if q = i then (x, 0, 12) else if ¬ roomOf x i = roomOf x q.toNat then (x, 0, 5) else moveW x q.toNat d
theorem exC_at (e : Ex) {d : Nat} (hd : d < 4) : (exC e)[d]? = some (.int .i64 (exitN e d)) := by
  obtain rfl | rfl | rfl | rfl : d = 0 ∨ d = 1 ∨ d = 2 ∨ d = 3 := by omega
  all_goals rfl
theorem exits_to {x : Wd} {r : Nat} (hr : r < x.d.exits.length) (d : Nat) : exitN x.d.exits[r] d = toW x r d := by
  simp [toW, List.getD, List.getElem?_eq_getElem hr]
theorem toW_in {x : Wd} (h : rightW x = true) {r d : Nat} (hr : r < x.d.exits.length) (hd : d < 4) : toW x r d = -1 ∨ (0 ≤ toW x r d ∧ toW x r d < x.d.exits.length) := by
  have hm := (right_lens h).2.2.2.2.2
  simp only [mayD, roomsB, Bool.and_eq_true, List.all_eq_true] at hm
  have he := hm.1.2.2 _ (List.getElem_mem hr)
  simp only [exB, Bool.and_eq_true, toB_iff] at he
  rw [← exits_to hr]
  obtain rfl | rfl | rfl | rfl : d = 0 ∨ d = 1 ∨ d = 2 ∨ d = 3 := by omega
  · exact he.1
  · exact he.2.1
  · exact he.2.2.1
  · exact he.2.2.2
theorem room_at {x : Wd} (h : rightW x = true) {i : Nat} (hi : i < x.at_.length) : x.at_[i] = ((roomOf x i : Nat) : Int) ∧ roomOf x i < x.d.exits.length := by
  have h1 := (right_in h).1 _ (List.getElem_mem hi)
  have e : x.at_.getD i 0 = x.at_[i] := by simp [List.getD, List.getElem?_eq_getElem hi]
  unfold roomOf
  rw [e]
  exact ⟨by omega, by omega⟩
theorem goW_right {x : Wd} (h : rightW x = true) {i : Nat} {t : Int} (ht : 0 ≤ t ∧ t < x.d.exits.length) : rightW (goW x i t) = true := by
  have h0 := (right_in h).1
  have h1 := h
  simp only [rightW, playersB, Bool.and_eq_true, decide_eq_true_eq] at h1 ⊢
  refine ⟨h1.1, ⟨by simpa [goW] using h1.2.1.1, h1.2.1.2.1, ?_, h1.2.1.2.2.2⟩, h1.2.2⟩
  rw [ofB_iff]
  intro n hn
  rcases List.mem_or_eq_of_mem_set hn with hn | rfl
  · exact h0 n hn
  · exact ht
theorem move_right {x : Wd} (h : rightW x = true) {i d : Nat} (hi : i < x.at_.length) (hd : d < 4) : rightW (moveW x i d).1 = true := by
  unfold moveW
  split
  · exact h
  · exact goW_right h ((toW_in h (room_at h hi).2 hd).resolve_left (by assumption))
theorem move_shape (x : Wd) (i d : Nat) : Shape x (moveW x i d).1 := by
  unfold moveW
  split
  · exact Shape.refl x
  · exact ⟨rfl, rfl, rfl, rfl, rfl, rfl, rfl, rfl, by simp [goW], rfl, rfl⟩
theorem goW_shape (x : Wd) (i : Nat) (t : Int) : Shape x (goW x i t) := ⟨rfl, rfl, rfl, rfl, rfl, rfl, rfl, rfl, by simp [goW], rfl, rfl⟩
theorem push_shape (x : Wd) (i : Nat) (q : Int) (d : Nat) : Shape x (pushW x i q d).1 := by
  unfold pushW
  split
  · exact Shape.refl x
  · split
    · exact Shape.refl x
    · split
      · exact Shape.refl x
      · exact move_shape _ _ _
end Go.Proofs.Ytkhjmgedamndhaa
