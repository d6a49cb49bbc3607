/- cmd: a command with another number in one field: plain mathematics. -/
import Derived.Test.YtdioigidilmbkaaDoorRows
import Derived.Test.YtdioigidilmbkaaDoorKit
import Derived.Test.YtdioigidilmbkaaDoorStrs
import Derived.Test.YtdioigidilmbkaaDoorCmdMath
import Derived.WalkKit
import Derived.ProofKit
import Derived.OpenShut
import Derived.IntWalk
namespace Go.Proofs.YtdioigidilmbkaaDoor
open Go.ChangeShapes Go.WideShapes Go.ChangeAt Go.RowKit
set_option linter.unusedVariables false
open Go.RowKit
def has0 (k : Int) : Bool := decide (3 ≤ k) && decide (k ≤ 7)
def has1 (k : Int) : Bool := decide (k = 5) || decide (k = 6)
def has2 (k : Int) : Bool := decide (k = 2) || decide (k = 7) || decide (k = 8)
def has3 (k : Int) : Bool := decide (k = 8)
def has4 (k : Int) : Bool := decide (k = 8)
theorem fit_has {V : Int} {x : Bool} (h0 : 0 ≤ V) (h1 : V < 1073741824) : fitB V x = (x || (V == 0)) := by
  cases x
  · simp [fitB]; rw [Bool.eq_iff_iff]; simp
  · simp [fitB, okN]; omega
theorem has_0 (k : Int) : has k [3, 4, 5, 6, 7] = has0 k := by
  unfold has has0; rw [Bool.eq_iff_iff]; simp; omega
theorem has_1 (k : Int) : has k [5, 6] = has1 k := by
  unfold has has1; rw [Bool.eq_iff_iff]; simp
theorem has_2 (k : Int) : has k [2, 7, 8] = has2 k := by
  unfold has has2; rw [Bool.eq_iff_iff]; simp; omega
theorem has_3 (k : Int) : has k [8] = has3 k := by
  unfold has has3; rw [Bool.eq_iff_iff]; simp
theorem may_f0 {k d i b h p f V : Int} {gs ws : List Int} (hm : refMayB ⟨k, d, i, b, h, gs, p, ws, f⟩ = true) (h0 : 0 ≤ V) (h1 : V < 1073741824) : mayB ⟨k, d, V, b, h, gs, p, ws, f⟩ = (has0 k || (V == 0)) := by
  rw [may_eq]
  simp only [refMayB, Bool.and_eq_true, has_0, has_1, has_2, has_3] at hm ⊢
  obtain ⟨⟨⟨⟨⟨⟨⟨a1, a2⟩, a3⟩, a4⟩, a5⟩, a6⟩, a7⟩, a8⟩ := hm
  have a1' : headB ⟨k, d, V, b, h, gs, p, ws, f⟩ = true := a1
  simp only [a1', a2, a3, a4, a5, a6, a7, a8, Bool.true_and, Bool.and_true, fit_has h0 h1]
  try rfl
theorem same_f0 {k d i b h p f V : Int} {gs ws : List Int} : sameB ⟨k, d, V, b, h, gs, p, ws, f⟩ ⟨k, d, i, b, h, gs, p, ws, f⟩ = (V == i) := by
  rw [Bool.eq_iff_iff]; simp [sameB, numsB]
theorem may_f1 {k d i b h p f V : Int} {gs ws : List Int} (hm : refMayB ⟨k, d, i, b, h, gs, p, ws, f⟩ = true) (h0 : 0 ≤ V) (h1 : V < 1073741824) : mayB ⟨k, d, i, V, h, gs, p, ws, f⟩ = (has1 k || (V == 0)) := by
  rw [may_eq]
  simp only [refMayB, Bool.and_eq_true, has_0, has_1, has_2, has_3] at hm ⊢
  obtain ⟨⟨⟨⟨⟨⟨⟨a1, a2⟩, a3⟩, a4⟩, a5⟩, a6⟩, a7⟩, a8⟩ := hm
  have a1' : headB ⟨k, d, i, V, h, gs, p, ws, f⟩ = true := a1
  simp only [a1', a2, a3, a4, a5, a6, a7, a8, Bool.true_and, Bool.and_true, fit_has h0 h1]
  try rfl
theorem same_f1 {k d i b h p f V : Int} {gs ws : List Int} : sameB ⟨k, d, i, V, h, gs, p, ws, f⟩ ⟨k, d, i, b, h, gs, p, ws, f⟩ = (V == b) := by
  rw [Bool.eq_iff_iff]; simp [sameB, numsB]
theorem may_f2 {k d i b h p f V : Int} {gs ws : List Int} (hm : refMayB ⟨k, d, i, b, h, gs, p, ws, f⟩ = true) (h0 : 0 ≤ V) (h1 : V < 1073741824) : mayB ⟨k, d, i, b, V, gs, p, ws, f⟩ = (has2 k || (V == 0)) := by
  rw [may_eq]
  simp only [refMayB, Bool.and_eq_true, has_0, has_1, has_2, has_3] at hm ⊢
  obtain ⟨⟨⟨⟨⟨⟨⟨a1, a2⟩, a3⟩, a4⟩, a5⟩, a6⟩, a7⟩, a8⟩ := hm
  have a1' : headB ⟨k, d, i, b, V, gs, p, ws, f⟩ = true := a1
  simp only [a1', a2, a3, a4, a5, a6, a7, a8, Bool.true_and, Bool.and_true, fit_has h0 h1]
  try rfl
theorem same_f2 {k d i b h p f V : Int} {gs ws : List Int} : sameB ⟨k, d, i, b, V, gs, p, ws, f⟩ ⟨k, d, i, b, h, gs, p, ws, f⟩ = (V == h) := by
  rw [Bool.eq_iff_iff]; simp [sameB, numsB]
theorem may_f3 {k d i b h p f V : Int} {gs ws : List Int} (hm : refMayB ⟨k, d, i, b, h, gs, p, ws, f⟩ = true) (h0 : 0 ≤ V) (h1 : V < 1073741824) : mayB ⟨k, d, i, b, h, gs, V, ws, f⟩ = (has3 k || (V == 0)) := by
  rw [may_eq]
  simp only [refMayB, Bool.and_eq_true, has_0, has_1, has_2, has_3] at hm ⊢
  obtain ⟨⟨⟨⟨⟨⟨⟨a1, a2⟩, a3⟩, a4⟩, a5⟩, a6⟩, a7⟩, a8⟩ := hm
  have a1' : headB ⟨k, d, i, b, h, gs, V, ws, f⟩ = true := a1
  simp only [a1', a2, a3, a4, a5, a6, a7, a8, Bool.true_and, Bool.and_true, fit_has h0 h1]
  try rfl
theorem same_f3 {k d i b h p f V : Int} {gs ws : List Int} : sameB ⟨k, d, i, b, h, gs, V, ws, f⟩ ⟨k, d, i, b, h, gs, p, ws, f⟩ = (V == p) := by
  rw [Bool.eq_iff_iff]; simp [sameB, numsB]
theorem may_f4 {k d i b h p f V : Int} {gs ws : List Int} (hm : refMayB ⟨k, d, i, b, h, gs, p, ws, f⟩ = true) (h0 : 0 ≤ V) (h1 : V < 1073741824) : mayB ⟨k, d, i, b, h, gs, p, ws, V⟩ = (has4 k || (V == 0)) := by
  rw [may_eq]
  simp only [refMayB, Bool.and_eq_true, has_0, has_1, has_2, has_3] at hm ⊢
  obtain ⟨⟨⟨⟨⟨⟨⟨a1, a2⟩, a3⟩, a4⟩, a5⟩, a6⟩, a7⟩, a8⟩ := hm
  have a1' : headB ⟨k, d, i, b, h, gs, p, ws, V⟩ = true := a1
  simp only [a1', a2, a3, a4, a5, a6, a7, a8, Bool.true_and, Bool.and_true, fit_has h0 h1]
  try rfl
theorem same_f4 {k d i b h p f V : Int} {gs ws : List Int} : sameB ⟨k, d, i, b, h, gs, p, ws, V⟩ ⟨k, d, i, b, h, gs, p, ws, f⟩ = (V == f) := by
  rw [Bool.eq_iff_iff]; simp [sameB, numsB]
end Go.Proofs.YtdioigidilmbkaaDoor
