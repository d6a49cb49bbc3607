/- Lists of integers held against one another: slices.Equal, and the document's own Ints. -/
import Derived.Test.YtkhjmgedamndhaaRows
import Derived.Test.YtkhjmgedamndhaaKit
import Derived.Test.YtkhjmgedamndhaaStrs
import Derived.Deep.QuietTactic
import Derived.BigQuiet
import Derived.WalkKit
import Derived.ProofKit
import Derived.OpenShut
import Derived.IntWalk
namespace Go.Proofs.Ytkhjmgedamndhaa
open Go.ChangeShapes Go.WideShapes Go.ChangeAt Go.RowKit
set_option linter.unusedVariables false
open Go.RowKit

theorem ints_cells (a b : Option Addr) (ca cb : Nat) (xs ys : List Int) (w : World) (hl : xs.length = ys.length) (h1 : IntsAt w a xs) (h2 : IntsAt w b ys) :
    Calls Try.prog 17 #[.slice a xs.length ca, .slice b ys.length cb] w fun e w' => e = .returned (.bool (decide (xs = ys))) ∧ Below w.heap.size w w' := by
  have hm := h1.len
  have H1 := Lib.hid h1
  have H2 := Lib.hid h2
  have HL := Lib.hid hl
  rw [← hl]
  clear h1 h2 hl
  go_enter Try.func17, Try.ntmps17
  go_wp2_with fail
  go_loopw [5] (fun i wr => ∃ k : Nat, k ≤ xs.length ∧ i = .int .i64 k ∧ xs.take k = ys.take k ∧ Below w.heap.size w wr) (fun i _ => xs.length - (intOf i).toNat)
  case atStart => exact ⟨0, Nat.zero_le _, rfl, rfl, Below.refl _ _⟩
  case round =>
    obtain ⟨k, hk, rfl, htk, hbel⟩ := hrel
    have HT := Lib.hid htk
    clear htk
    by_cases hlt : k < xs.length
    · have hy : k < ys.length := by have := HL.out; omega
      obtain ⟨xb, xo, rfl, hxb, hxc⟩ := H1.out.at_ hlt
      obtain ⟨yb, yo, rfl, hyb, hyc⟩ := H2.out.at_ hy
      have h1 := (hbel.cell (p := ⟨xb, xo + k, none⟩) hxb).trans (hxc k hlt)
      have h2 := (hbel.cell (p := ⟨yb, yo + k, none⟩) hyb).trans (hyc k hy)
      clear hxc hyc H1 H2
      have HX := Lib.hid (take_eq_succ hlt hy HT.out)
      have HN : Hid (¬ xs[k] = ys[k] → ¬ xs = ys) := Lib.hid (fun h e => by subst e; exact h rfl)
      generalize hx : xs[k] = x at *
      generalize hyy : ys[k] = y at *
      have G1 := Lib.hid hx
      have G2 := Lib.hid hyy
      clear hx hyy
      by_cases he : x = y
      · subst he
        have HX2 := Lib.hid (HX.out rfl)
        go_wp2_with fail
        go_quiet (fail)
        go_wp2_with fail
        go_roundw
        case rel => exact ⟨k + 1, by omega, by go_num, HX2.out, bdrew hbel _⟩
        case measure => simp [intOf]; omega
      · have hne : (x != y) = true := by simpa using he
        have hne2 : (x == y) = false := by simpa using he
        have HD := Lib.hid (show decide (xs = ys) = false by simpa using HN.out he)
        clear he
        go_wp2_with fail
        go_quiet (fail)
        go_wp2_with fail
        go_ret
        exact ⟨ret_bool (by rw [HD.out]), bdrew hbel _⟩
    · have hke : k = xs.length := by omega
      subst hke
      have HD := Lib.hid (show decide (xs = ys) = true by
        have := HT.out
        rw [List.take_of_length_le (Nat.le_refl _), HL.out, List.take_of_length_le (Nat.le_refl _)] at this
        simpa using this)
      clear H1 H2
      go_wp2_with fail
      go_ret
      exact ⟨ret_bool (by rw [HD.out]), hbel⟩
theorem ints_any (a b : Option Addr) (ca cb : Nat) (xs ys : List Int) (w : World) (h1 : IntsAt w a xs) (h2 : IntsAt w b ys) :
    Calls Try.prog 17 #[.slice a xs.length ca, .slice b ys.length cb] w fun e w' => e = .returned (.bool (decide (xs = ys))) ∧ Below w.heap.size w w' := by
  by_cases h : xs.length = ys.length
  · exact ints_cells a b ca cb xs ys w h h1 h2
  · have HD := Lib.hid (show decide (xs = ys) = false by rw [decide_eq_false_iff_not]; intro e; exact h (by rw [e]))
    rw [HD.out]
    have hl := h1.len
    have hl2 := h2.len
    clear h1 h2
    have hb : ((xs.length : Int) == (ys.length : Int)) = false := by rw [beq_eq_false_iff_ne]; omega
    have hb2 : ((xs.length : Int) != (ys.length : Int)) = true := by rw [bne, hb]; rfl
    go_enter Try.func17, Try.ntmps17
    go_wp2_with fail
    go_ret
    exact ⟨rfl, Below.refl _ _⟩
end Go.Proofs.Ytkhjmgedamndhaa
