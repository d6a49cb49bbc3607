/- The names of kinds and ways: plain mathematics. -/
import Derived.Test.YtojfichbnnfjpaaRows
import Derived.Test.YtojfichbnnfjpaaKit
import Derived.Test.YtojfichbnnfjpaaGMem
import Derived.Test.YtojfichbnnfjpaaCmdMath
import Derived.WalkKit
import Derived.ProofKit
import Derived.OpenShut
import Derived.IntWalk
namespace Go.Proofs.Ytojfichbnnfjpaa
open Go.ChangeShapes Go.WideShapes Go.ChangeAt Go.RowKit
set_option linter.unusedVariables false
open Go.RowKit
def kindNames : List (List UInt8) := [[109, 111, 118, 101], [112, 117, 115, 104], [103, 101, 116], [100, 114, 111, 112], [112, 117, 116], [116, 97, 107, 101], [103, 105, 118, 101], [116, 114, 97, 100, 101], [108, 111, 111, 107], [111, 119, 110]]
def wayNames : List (List UInt8) := [[110, 111, 114, 116, 104], [101, 97, 115, 116], [115, 111, 117, 116, 104], [119, 101, 115, 116]]
def nameOf (n : Int) : List UInt8 := if 1 ≤ n ∧ n ≤ 10 then kindNames.getD (n - 1).toNat [] else []
def wayOf (n : Int) : List UInt8 := if 0 ≤ n ∧ n < 4 then wayNames.getD n.toNat [] else []
/-- Where a text stands in a table. -/
def posN (ss : List (List UInt8)) (x : List UInt8) : Nat := ss.idxOf x
def kindB (x : List UInt8) : Bool := decide (x ∈ kindNames)
def kindN (x : List UInt8) : Int := if kindB x then (posN kindNames x : Int) + 1 else 0
def dirB (x : List UInt8) : Bool := decide (x ∈ wayNames)
def dirN (x : List UInt8) : Int := if dirB x then (posN wayNames x : Int) else 0
theorem posN_at {ss : List (List UInt8)} {k : Nat} (h : k < ss.length) (hn : ss.getD k [] ∉ ss.take k) : posN ss (ss.getD k []) = k := by
  unfold posN
  induction ss generalizing k with
  | nil => simp at h
  | cons a ss ih =>
    cases k with
    | zero => simp
    | succ k =>
      simp only [List.getD_cons_succ, List.take_succ_cons, List.mem_cons, not_or] at hn ⊢
      rw [List.idxOf_cons]
      have := ih (k := k) (by simpa using h) hn.2
      rw [this, show (a == ss.getD k []) = false by simpa using fun e => hn.1 e.symm]
      rfl
theorem mem_getD {ss : List (List UInt8)} {k : Nat} (h : k < ss.length) : ss.getD k [] ∈ ss := by
  simp [List.getD, List.getElem?_eq_getElem h]
theorem not_mem_succ {ss : List (List UInt8)} {k : Nat} {x : List UInt8} (h : k < ss.length) (h1 : x ∉ ss.take k) (h2 : ¬ ss.getD k [] = x) : x ∉ ss.take (k + 1) := by
  rw [List.take_succ_eq_append_getElem h]
  simp [List.getD, List.getElem?_eq_getElem h] at h2
  simp only [List.mem_append, List.mem_singleton, not_or]
  exact ⟨h1, fun e => h2 e.symm⟩
theorem kind_hit {k : Nat} (h : k < 10) (hn : kindNames.getD k [] ∉ kindNames.take k) : kindN (kindNames.getD k []) = (k : Int) + 1 ∧ kindB (kindNames.getD k []) = true := by
  have hm : kindNames.getD k [] ∈ kindNames := mem_getD (by simpa [kindNames] using h)
  have hb : kindB (kindNames.getD k []) = true := by unfold kindB; exact decide_eq_true hm
  exact ⟨by unfold kindN; rw [hb, posN_at (by simpa [kindNames] using h) hn]; rfl, hb⟩
theorem kind_miss {x : List UInt8} (h : x ∉ kindNames.take 10) : kindN x = 0 ∧ kindB x = false := by
  have hb : kindB x = false := by unfold kindB; exact decide_eq_false h
  exact ⟨by unfold kindN; rw [hb]; rfl, hb⟩
theorem dir_hit {k : Nat} (h : k < 4) (hn : wayNames.getD k [] ∉ wayNames.take k) : dirN (wayNames.getD k []) = (k : Int) ∧ dirB (wayNames.getD k []) = true := by
  have hm : wayNames.getD k [] ∈ wayNames := mem_getD (by simpa [wayNames] using h)
  have hb : dirB (wayNames.getD k []) = true := by unfold dirB; exact decide_eq_true hm
  exact ⟨by unfold dirN; rw [hb, posN_at (by simpa [wayNames] using h) hn]; rfl, hb⟩
theorem dir_miss {x : List UInt8} (h : x ∉ wayNames.take 4) : dirN x = 0 ∧ dirB x = false := by
  have hb : dirB x = false := by unfold dirB; exact decide_eq_false h
  exact ⟨by unfold dirN; rw [hb]; rfl, hb⟩
theorem nameOf_succ {k : Nat} (h : k < 10) : nameOf ((k : Int) + 1) = kindNames.getD k [] := by
  unfold nameOf; rw [if_pos (by omega)]; congr 1; omega
theorem wayOf_nat {k : Nat} (h : k < 4) : wayOf (k : Int) = wayNames.getD k [] := by
  unfold wayOf; rw [if_pos (by omega)]; rfl
/-- A name's number has that name. -/
theorem name_kind {x : List UInt8} (h : kindB x = true) : nameOf (kindN x) = x := by
  have hm : x ∈ kindNames := of_decide_eq_true h
  simp only [kindNames, List.mem_cons, List.not_mem_nil, or_false] at hm
  rcases hm with rfl | rfl | rfl | rfl | rfl | rfl | rfl | rfl | rfl | rfl <;> decide
theorem way_dir {x : List UInt8} (h : dirB x = true) : wayOf (dirN x) = x := by
  have hm : x ∈ wayNames := of_decide_eq_true h
  simp only [wayNames, List.mem_cons, List.not_mem_nil, or_false] at hm
  rcases hm with rfl | rfl | rfl | rfl <;> decide
theorem name_len (n : Int) : (nameOf n).length ≤ 5 := by
  unfold nameOf
  split
  · rename_i h
    have : (n - 1).toNat < 10 := by omega
    generalize (n - 1).toNat = k at *
    match k, this with
    | 0, _ | 1, _ | 2, _ | 3, _ | 4, _ | 5, _ | 6, _ | 7, _ | 8, _ | 9, _ => decide
  · decide
theorem way_len (n : Int) : (wayOf n).length ≤ 5 := by
  unfold wayOf
  split
  · rename_i h
    have : n.toNat < 4 := by omega
    generalize n.toNat = k at *
    match k, this with
    | 0, _ | 1, _ | 2, _ | 3, _ => decide
  · decide
end Go.Proofs.Ytojfichbnnfjpaa
