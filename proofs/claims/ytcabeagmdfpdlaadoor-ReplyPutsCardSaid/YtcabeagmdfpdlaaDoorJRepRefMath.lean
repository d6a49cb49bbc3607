import Derived.Test.YtcabeagmdfpdlaaDoorRows
import Derived.Test.YtcabeagmdfpdlaaDoorKit
import Derived.Test.YtcabeagmdfpdlaaDoorStrs
import Derived.Test.YtcabeagmdfpdlaaDoorJMath
import Derived.Test.YtcabeagmdfpdlaaDoorJTokJoin
import Derived.Test.YtcabeagmdfpdlaaDoorJRepMath
import Derived.Test.YtcabeagmdfpdlaaDoorJRepWords
import Derived.OrdersHeld
import Derived.Orders
import Derived.WalkKit
import Derived.ProofKit
import Derived.OpenShut
import Derived.IntWalk
/- An answer's text, as the document's own Put makes it: plain mathematics. -/
namespace Go.Proofs.YtcabeagmdfpdlaaDoor
open Go.ChangeShapes Go.WideShapes Go.ChangeAt Go.RowKit
set_option linter.unusedVariables false
open Go.RowKit Go
theorem wpAnyH_mono {P : Program} {md : Region.Mode} {ops : Array Oper} {Q : Exit → Act → World → Prop} {S S' : World → Prop} (hS : ∀ w, S' w → S w) : ∀ (fuel : Nat) (listed : Array Bool) (a : Act) (w : World), wpAnyH P md ops Q S' fuel listed a w → wpAnyH P md ops Q S fuel listed a w
  | 0, _, _, _, h => h
  | fuel + 1, _, _, _, h => ⟨h.1, fun i hi => wpOp_mono (fun a' w' h' => ⟨hS _ h'.1, wpAnyH_mono hS fuel _ a' w' h'.2⟩) (h.2 i hi)⟩
def sp (x : List UInt8) : List UInt8 := 32 :: x
theorem glue_cons (x : List UInt8) (ys : List (List UInt8)) : glue (x :: ys) = x ++ ys.flatMap sp := by
  induction ys generalizing x with
  | nil => simp [glue]
  | cons y ys ih =>
    rw [glue, ih]
    · rfl
def seenT (s : Sn) : List UInt8 := ((32 :: nw s.item) ++ (32 :: (placeOf s.kind ++ [32]))) ++ nw s.id
theorem seenT_of (s : Sn) : (seenW s).flatMap sp = seenT s := by simp [seenW, sp, seenT]
theorem seens_of (is : List Sn) : (is.flatMap seenW).flatMap sp = is.flatMap seenT := by
  induction is with
  | nil => rfl
  | cons s r ih => rw [List.flatMap_cons, List.flatMap_append, ih, seenT_of, List.flatMap_cons]
theorem players_of (ps : List Int) : (ps.map nw).flatMap sp = ps.flatMap fun n => sp (nw n) := by
  induction ps with
  | nil => rfl
  | cons s r ih => simp [List.flatMap_cons, ih]
theorem items_of (is : List Sn) : (itemsW is).flatMap sp = sp sItems ++ is.flatMap seenT := by
  rw [itemsW, List.flatMap_cons, seens_of]
variable {k m c : Int} {ps : List Int} {is : List Sn}
theorem text_err {e : Int} (h : ¬ e = 0) : textR ⟨e, k, m, ps, is, c⟩ = [101, 114, 114, 111, 114, 32] ++ nw e := by
  have e2 : rwords ⟨e, k, m, ps, is, c⟩ = [sError, nw e] := by simp [rwords, h]
  rw [textR, e2, glue_cons]; simp [sError, sp]
theorem text_move (h : k = 1 ∨ k = 2) : textR ⟨0, k, m, ps, is, c⟩ = (nameOf k ++ [32]) ++ nw m := by
  have e2 : rwords ⟨0, k, m, ps, is, c⟩ = [nameOf k, nw m] := by simp [rwords, h]
  rw [textR, e2, glue_cons]; simp [sp]
theorem text_look : textR ⟨0, 9, m, ps, is, c⟩ = (((((nameOf 9 ++ [32]) ++ nw m) ++ [32, 112, 108, 97, 121, 101, 114, 115]) ++ ps.flatMap fun n => sp (nw n)) ++ [32, 105, 116, 101, 109, 115]) ++ is.flatMap seenT := by
  have e2 : rwords ⟨0, 9, m, ps, is, c⟩ = nameOf 9 :: ([nw m, sPlayers] ++ (ps.map nw ++ itemsW is)) := by simp [rwords]
  rw [textR, e2, glue_cons, List.flatMap_append, List.flatMap_append, players_of, items_of]; simp [sp, sPlayers, sItems]
theorem text_own : textR ⟨0, 10, m, ps, is, c⟩ = (((nameOf 10 ++ [32]) ++ nw c) ++ [32, 105, 116, 101, 109, 115]) ++ is.flatMap seenT := by
  have e2 : rwords ⟨0, 10, m, ps, is, c⟩ = nameOf 10 :: ([nw c] ++ itemsW is) := by simp [rwords]
  rw [textR, e2, glue_cons, List.flatMap_append, items_of]; simp [sp, sItems]
theorem text_else (h1 : ¬ (k = 1 ∨ k = 2)) (h9 : ¬ k = 9) (h10 : ¬ k = 10) : textR ⟨0, k, m, ps, is, c⟩ = nameOf k := by
  have e2 : rwords ⟨0, k, m, ps, is, c⟩ = [nameOf k] := by simp [rwords, h1, h9, h10]
  rw [textR, e2, glue_cons]; simp
theorem ptake_succ (ps : List Int) (j : Nat) (h : j < ps.length) : ((ps.take (j + 1)).flatMap fun n => sp (nw n)) = ((ps.take j).flatMap fun n => sp (nw n)) ++ sp (nw ps[j]) := by
  rw [List.take_succ_eq_append_getElem h]; simp only [List.flatMap_append, List.flatMap_cons, List.flatMap_nil, List.append_nil]
theorem itake_succ (is : List Sn) (j : Nat) (h : j < is.length) : (is.take (j + 1)).flatMap seenT = (is.take j).flatMap seenT ++ seenT is[j] := by
  rw [List.take_succ_eq_append_getElem h]; simp only [List.flatMap_append, List.flatMap_cons, List.flatMap_nil, List.append_nil]
theorem ptake_len (ps : List Int) (h : ∀ n ∈ ps, okN n = true) : (ps.flatMap fun n => sp (nw n)).length ≤ 11 * ps.length := by
  induction ps with
  | nil => simp
  | cons n r ih =>
    have h1 := nw_len (h n (by simp))
    have h2 := ih (fun x hx => h x (List.mem_cons_of_mem _ hx))
    simp only [List.flatMap_cons, List.length_append, sp, List.length_cons] at h2 ⊢
    omega
theorem itake_len (is : List Sn) (h : ∀ s ∈ is, snB s = true) : (is.flatMap seenT).length ≤ 30 * is.length := by
  induction is with
  | nil => simp
  | cons s r ih =>
    obtain ⟨p1, p2, p3⟩ := snB_parts (h s (by simp))
    have h1 := nw_len p2
    have h3 := nw_len p3
    have h4 := (place_plain p1).2
    have h2 := ih (fun x hx => h x (List.mem_cons_of_mem _ hx))
    simp only [List.flatMap_cons, List.length_append, seenT, List.length_cons, List.length_nil] at h2 ⊢
    omega
end Go.Proofs.YtcabeagmdfpdlaaDoor
