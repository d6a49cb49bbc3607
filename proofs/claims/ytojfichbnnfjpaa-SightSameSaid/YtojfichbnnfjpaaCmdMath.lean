/- Commands: whether they may be, and are the same: plain mathematics. -/
import Derived.Test.YtojfichbnnfjpaaRows
import Derived.Test.YtojfichbnnfjpaaKit
import Derived.Test.YtojfichbnnfjpaaGMem
import Derived.WalkKit
import Derived.ProofKit
import Derived.OpenShut
import Derived.IntWalk
namespace Go.Proofs.Ytojfichbnnfjpaa
open Go.ChangeShapes Go.WideShapes Go.ChangeAt Go.RowKit
set_option linter.unusedVariables false
open Go.RowKit

/-- A command's fields. -/
structure Cm where
  kind : Int
  dir : Int
  item : Int
  box : Int
  who : Int
  gives : List Int
  pay : Int
  wants : List Int
  fee : Int

def okN (n : Int) : Bool := decide (0 ≤ n) && decide (n ≤ 1073741824)
def isKindB (n : Int) : Bool := decide (1 ≤ n) && decide (n ≤ 10)
def isDirB (n : Int) : Bool := decide (0 ≤ n) && decide (n < 4)
def areB (xs : List Int) : Bool := xs.all okN
def sideB (xs : List Int) : Bool := decide (xs.length ≤ 16) && areB xs
def withinB (c : Cm) : Bool := isDirB c.dir && areB [c.item, c.box, c.who, c.pay, c.fee] && sideB c.gives && sideB c.wants
def numsB (a b : Cm) : Bool := decide (a.kind = b.kind ∧ a.dir = b.dir ∧ a.item = b.item ∧ a.box = b.box ∧ a.who = b.who ∧ a.pay = b.pay ∧ a.fee = b.fee)
def sameB (a b : Cm) : Bool := numsB a b && decide (a.gives = b.gives) && decide (a.wants = b.wants)
def keep (k : Int) (ks : List Int) (n : Int) : Int := if k ∈ ks then n else 0
def keepL (k : Int) (xs : List Int) : List Int := if k = 8 then xs else []
/-- A command with the fields alone that its kind has. -/
def ownC (c : Cm) : Cm :=
  ⟨c.kind, keep c.kind [1, 2] c.dir, keep c.kind [3, 4, 5, 6, 7] c.item, keep c.kind [5, 6] c.box, keep c.kind [2, 7, 8] c.who, keepL c.kind c.gives, keep c.kind [8] c.pay, keepL c.kind c.wants, keep c.kind [8] c.fee⟩
/-- By the code: may it be? -/
def mayB (c : Cm) : Bool := isKindB c.kind && withinB c && sameB c (ownC c)

def cfitB (n : Int) (has : Bool) : Bool := if has then okN n else decide (n = 0)
def rowB (xs : List Int) (has : Bool) : Bool := if has then areB xs && decide (xs.length ≤ 16) else decide (xs.length = 0)
def headB (c : Cm) : Bool := isKindB c.kind && isDirB c.dir && (decide (c.dir = 0) || decide (c.kind ≤ 2))
def has (k : Int) (ks : List Int) : Bool := decide (k ∈ ks)
/-- By the document's definition: may it be? -/
def refMayB (c : Cm) : Bool :=
  headB c && cfitB c.item (has c.kind [3, 4, 5, 6, 7]) && cfitB c.box (has c.kind [5, 6]) && cfitB c.who (has c.kind [2, 7, 8]) && cfitB c.pay (has c.kind [8]) && cfitB c.fee (has c.kind [8]) && rowB c.gives (has c.kind [8]) && rowB c.wants (has c.kind [8])

theorem sameB_iff (a b : Cm) : sameB a b = true ↔ a = b := by
  obtain ⟨a1, a2, a3, a4, a5, a6, a7, a8, a9⟩ := a
  obtain ⟨b1, b2, b3, b4, b5, b6, b7, b8, b9⟩ := b
  simp [sameB, numsB]
  constructor
  · rintro ⟨⟨⟨rfl, rfl, rfl, rfl, rfl, rfl, rfl⟩, rfl⟩, rfl⟩; simp
  · rintro ⟨rfl, rfl, rfl, rfl, rfl, rfl, rfl, rfl, rfl⟩; simp
theorem sameB_refl (a : Cm) : sameB a a = true := (sameB_iff a a).2 rfl
theorem kinds {k : Int} (h : isKindB k = true) : k = 1 ∨ k = 2 ∨ k = 3 ∨ k = 4 ∨ k = 5 ∨ k = 6 ∨ k = 7 ∨ k = 8 ∨ k = 9 ∨ k = 10 := by
  simp [isKindB] at h; omega
theorem may_eq (c : Cm) : mayB c = refMayB c := by
  cases hk : isKindB c.kind
  · simp [mayB, refMayB, headB, hk]
  · obtain ⟨k, a2, a3, a4, a5, a6, a7, a8, a9⟩ := c
    simp only at hk
    rw [Bool.eq_iff_iff]
    rcases kinds hk with rfl | rfl | rfl | rfl | rfl | rfl | rfl | rfl | rfl | rfl
    all_goals
      simp [mayB, refMayB, headB, isKindB, withinB, sameB, numsB, ownC, keep, keepL, cfitB, rowB, has, areB, okN, sideB, isDirB]
      by_cases e6 : a6 = [] <;> by_cases e8 : a8 = [] <;> (try subst e6) <;> (try subst e8) <;> first | (simp [*]; omega) | grind
end Go.Proofs.Ytojfichbnnfjpaa
