/- cmd: a trade with other lists: plain mathematics. -/
import Derived.Test.YtdioigidilmbkaaDoorRows
import Derived.Test.YtdioigidilmbkaaDoorKit
import Derived.Test.YtdioigidilmbkaaDoorStrs
import Derived.Test.YtdioigidilmbkaaDoorCmdMath
import Derived.WalkKit
import Derived.ProofKit
import Derived.OpenShut
import Derived.IntWalk
namespace Go.Proofs.YtdioigidilmbkaaDoor
open Go.ChangeShapes Go.WideShapes Go.ChangeAt Go.RowKit
set_option linter.unusedVariables false
open Go.RowKit
/-- Two neighbours turned. -/
def swapL (xs : List Int) (k : Nat) : List Int := (xs.set k (xs.getD (k + 1) 0)).set (k + 1) (xs.getD k 0)
theorem swapL_len (xs : List Int) (k : Nat) : (swapL xs k).length = xs.length := by simp [swapL]
theorem swapL_get (xs : List Int) (k i : Nat) (h : k + 1 < xs.length) (hi : i < (swapL xs k).length) : (swapL xs k)[i] = if i = k + 1 then xs.getD k 0 else if i = k then xs.getD (k + 1) 0 else xs.getD i 0 := by
  have hi2 : i < xs.length := by rw [swapL_len] at hi; exact hi
  have hi' : i < ((xs.set k (xs.getD (k + 1) 0)).set (k + 1) (xs.getD k 0)).length := by simpa using hi2
  show ((xs.set k (xs.getD (k + 1) 0)).set (k + 1) (xs.getD k 0))[i]'hi' = _
  rw [List.getElem_set]
  by_cases h1 : k + 1 = i
  · subst h1; simp
  · rw [if_neg h1, if_neg (fun e => h1 e.symm), List.getElem_set]
    by_cases h2 : k = i
    · subst h2; simp
    · rw [if_neg h2, if_neg (fun e => h2 e.symm)]
      simp [List.getD, List.getElem?_eq_getElem hi2]
theorem getD_get {xs : List Int} {i : Nat} (h : i < xs.length) : xs.getD i 0 = xs[i] := by simp [List.getD, List.getElem?_eq_getElem h]
theorem swapL_eq (xs : List Int) (k : Nat) (h : k + 1 < xs.length) : swapL xs k = xs ↔ xs.getD k 0 = xs.getD (k + 1) 0 := by
  constructor
  · intro e
    have h1 := swapL_get xs k k h (by rw [swapL_len]; omega)
    have h2 : (swapL xs k)[k]'(by rw [swapL_len]; omega) = xs[k]'(by omega) := by simp only [e]
    rw [h1, if_neg (by omega), if_pos rfl] at h2
    rw [h2, getD_get (by omega)]
  · intro e
    apply List.ext_getElem (swapL_len xs k)
    intro i h1 h2
    rw [swapL_get xs k i h h1]
    split
    · rename_i e1; subst e1; rw [e, getD_get h2]
    · split
      · rename_i e1 e2; subst e2; rw [← e, getD_get h2]
      · exact getD_get h2
theorem swapL_are (xs : List Int) (k : Nat) (h : k + 1 < xs.length) (ha : areB xs = true) : areB (swapL xs k) = true := by
  unfold areB at *
  rw [List.all_eq_true] at *
  intro x hx
  obtain ⟨i, hi, rfl⟩ := List.getElem_of_mem hx
  have hi2 : i < xs.length := by rw [swapL_len] at hi; exact hi
  rw [swapL_get xs k i h hi]
  split
  · rw [getD_get (by omega)]; exact ha _ (List.getElem_mem _)
  · split
    · rw [getD_get (by omega)]; exact ha _ (List.getElem_mem _)
    · rw [getD_get hi2]; exact ha _ (List.getElem_mem _)
theorem row8 {d i b h p f : Int} {gs ws : List Int} (hm : refMayB ⟨8, d, i, b, h, gs, p, ws, f⟩ = true) : areB gs = true ∧ gs.length ≤ 16 ∧ areB ws = true ∧ ws.length ≤ 16 := by
  simp only [refMayB, Bool.and_eq_true] at hm
  obtain ⟨⟨_, a7⟩, a8⟩ := hm
  simp [rowB, has] at a7 a8
  exact ⟨a7.1, a7.2, a8.1, a8.2⟩
theorem may8 {d i b h p f : Int} {gs ws : List Int} (hm : refMayB ⟨8, d, i, b, h, gs, p, ws, f⟩ = true) (gs' : List Int) : mayB ⟨8, d, i, b, h, gs', p, ws, f⟩ = (areB gs' && decide (gs'.length ≤ 16)) := by
  rw [may_eq]
  simp only [refMayB, Bool.and_eq_true] at hm ⊢
  obtain ⟨⟨⟨⟨⟨⟨⟨a1, a2⟩, a3⟩, a4⟩, a5⟩, a6⟩, a7⟩, a8⟩ := hm
  have a1' : headB ⟨8, d, i, b, h, gs', p, ws, f⟩ = true := a1
  simp only [a1', a2, a3, a4, a5, a6, a8, Bool.true_and, Bool.and_true]
  simp [rowB, has]
theorem may8w {d i b h p f : Int} {gs ws : List Int} (hm : refMayB ⟨8, d, i, b, h, gs, p, ws, f⟩ = true) (ws' : List Int) : mayB ⟨8, d, i, b, h, gs, p, ws', f⟩ = (areB ws' && decide (ws'.length ≤ 16)) := by
  rw [may_eq]
  simp only [refMayB, Bool.and_eq_true] at hm ⊢
  obtain ⟨⟨⟨⟨⟨⟨⟨a1, a2⟩, a3⟩, a4⟩, a5⟩, a6⟩, a7⟩, a8⟩ := hm
  have a1' : headB ⟨8, d, i, b, h, gs, p, ws', f⟩ = true := a1
  simp only [a1', a2, a3, a4, a5, a6, a7, Bool.true_and, Bool.and_true]
  simp [rowB, has]
theorem same8 {d i b h p f : Int} {gs ws gs' : List Int} : sameB ⟨8, d, i, b, h, gs', p, ws, f⟩ ⟨8, d, i, b, h, gs, p, ws, f⟩ = decide (gs' = gs) := by
  simp [sameB, numsB]
def zeros (n : Nat) : List Int := List.replicate n 0
theorem zeros_are (n : Nat) : areB (zeros n) = true := by simp [areB, zeros, okN]
theorem zeros_get (n j : Nat) (h : j < (zeros n).length) : (zeros n)[j] = 0 := by simp [zeros]
theorem mod_less (n m : Nat) (h : 1 ≤ m) : ((n : Int) % ((m : Int) - 1)) = ((n % (m - 1) : Nat) : Int) := by
  have e : ((m - 1 : Nat) : Int) = (m : Int) - 1 := by omega
  rw [← e]; exact (Int.natCast_emod _ _).symm
end Go.Proofs.YtdioigidilmbkaaDoor
