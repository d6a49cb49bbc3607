/- Lists of locks, as plain data. Over whatever program. -/
import Derived.Test.YtbbjgkinkkgjoaaGMem
namespace Go.Proofs.Ytbbjgkinkkgjoaa
open Go.ChangeShapes Go.WideShapes Go.ChangeAt Go.RowKit
set_option linter.unusedVariables false
open Go.RowKit
/-- Is it a place of n locks? -/
def plB (n : Nat) (p : Int) : Bool := decide (0 ≤ p) && decide (p < n)
/-- Who has the lock, and one more. -/
def lockN (l : List Int) (p : Int) : Int := l.getD p.toNat 0
def freeB (l : List Int) (p : Int) : Bool := plB l.length p && lockN l p == 0
def hasB (l : List Int) (p s : Int) : Bool := plB l.length p && lockN l p == s + 1
def heldB (l : List Int) (p : Int) : Bool := plB l.length p && decide (0 < lockN l p)
def takeL (l : List Int) (p s : Int) : List Int := if freeB l p then l.set p.toNat (s + 1) else l
def giveL (l : List Int) (p s : Int) : List Int := if hasB l p s then l.set p.toNat 0 else l
/-- The places among the first k that s has. -/
def ownN (l : List Int) (s : Int) (k : Nat) : List Int := ((List.range k).filter fun i => l.getD i 0 == s + 1).map fun (i : Nat) => (i : Int)
/-- Locks: numbers from 0 on. -/
def Locks (l : List Int) : Prop := l.length ≤ 100 ∧ ∀ x ∈ l, 0 ≤ x ∧ x ≤ 9223372036854775807
theorem takeL_len (l : List Int) (p s : Int) : (takeL l p s).length = l.length := by unfold takeL; split <;> simp
theorem giveL_len (l : List Int) (p s : Int) : (giveL l p s).length = l.length := by unfold giveL; split <;> simp
theorem plB_nat {n : Nat} {p : Int} (h : plB n p = true) : ∃ k : Nat, p = k ∧ k < n := by
 simp [plB] at h; exact ⟨p.toNat, by omega, by omega⟩
theorem plB_of {n k : Nat} (h : k < n) : plB n (k : Int) = true := by simp [plB]; omega
theorem lockN_at {l : List Int} {k : Nat} (h : k < l.length) : lockN l (k : Int) = l[k] := by simp [lockN, h]
theorem ownN_more {l : List Int} {s : Int} {k : Nat} (h : k < l.length) : ownN l s (k + 1) = if l[k] = s + 1 then ownN l s k ++ [(k : Int)] else ownN l s k := by
 unfold ownN
 have hg : (l.getD k 0 == s + 1) = decide (l[k] = s + 1) := by simp [List.getD, h]; rfl
 rw [List.range_succ, List.filter_append, List.map_append, List.filter_cons, hg]
 by_cases he : l[k] = s + 1 <;> simp [he]
theorem ownN_len (l : List Int) (s : Int) (k : Nat) : (ownN l s k).length ≤ k := by
 unfold ownN; rw [List.length_map]; exact Nat.le_trans (List.length_filter_le _ _) (by simp)
theorem set_locks {l : List Int} (h : Locks l) (k : Nat) {x : Int} (h0 : 0 ≤ x) (h1 : x ≤ 9223372036854775807) : Locks (l.set k x) := by
 refine ⟨by simpa using h.1, fun y hy => ?_⟩
 rcases List.mem_or_eq_of_mem_set hy with h2 | h2
 ·exact h.2 y h2
 ·rw [h2]; exact ⟨h0, h1⟩
theorem takeL_locks {l : List Int} (h : Locks l) (p : Int) {s : Int} (h0 : 0 ≤ s) (h1 : s ≤ 1073741824) : Locks (takeL l p s) := by
 unfold takeL; split
 ·exact set_locks h _ (by omega) (by omega)
 ·exact h
theorem giveL_locks {l : List Int} (h : Locks l) (p s : Int) : Locks (giveL l p s) := by
 unfold giveL; split
 ·exact set_locks h _ (by omega) (by omega)
 ·exact h
/-- One more is held. -/
theorem ownN_set {l : List Int} {s : Int} {p : Nat} (hp : p < l.length) (hn : l[p] ≠ s + 1) (k : Nat) (hk : k ≤ l.length) : (ownN (l.set p (s + 1)) s k).length = (ownN l s k).length + if p < k then 1 else 0 := by
 induction k with
 | zero => simp [ownN]
 | succ k ih =>
   have hk2 : k < l.length := by omega
   rw [ownN_more (show k < (l.set p (s + 1)).length by simpa using hk2), ownN_more hk2, List.getElem_set]
   by_cases he : p = k
   ·subst he
    have hi := ih (by omega)
    simp only [Nat.lt_irrefl, if_false, Nat.add_zero] at hi
    simp [hi, hn]
   ·have hi := ih (by omega)
    rw [if_neg he]
    have e1 : (p < k + 1) = (p < k) := by simp; omega
    simp only [e1]
    split <;> simp [hi] <;> omega
end Go.Proofs.Ytbbjgkinkkgjoaa
