/- Lists of a world held against one another: slices.Equal of them, and the document's own Places. -/
import Derived.Test.YtkhjmgedamndhaaRows
import Derived.Test.YtkhjmgedamndhaaKit
import Derived.Test.YtkhjmgedamndhaaStrs
import Derived.Test.YtkhjmgedamndhaaBlk
import Derived.Test.YtkhjmgedamndhaaWorldMath
import Derived.Test.YtkhjmgedamndhaaWorldAt
import Derived.Deep.QuietTactic
import Derived.BigQuiet
import Derived.WalkKit
import Derived.ProofKit
import Derived.OpenShut
import Derived.IntWalk
namespace Go.Proofs.Ytkhjmgedamndhaa
open Go.ChangeShapes Go.WideShapes Go.ChangeAt Go.RowKit
set_option linter.unusedVariables false
open Go.RowKit
theorem run_pl (a1 a2 b1 b2 : Int) (w : World) : (binOp .neq 57 (.agg #[.int .i64 a1, .int .i64 a2]) (.agg #[.int .i64 b1, .int .i64 b2])).run Try.prog w = .ok (.bool (!decide ((⟨a1, a2⟩ : Pl) = ⟨b1, b2⟩))) w := by
  by_cases e1 : a1 = b1
  · by_cases e2 : a2 = b2
    · subst e1 e2; go_simp
    · go_simp
  · go_simp
theorem run_eq4 (a1 a2 a3 a4 b1 b2 b3 b4 : Int) (w : World) : (Op.equalIn (9999 + 1) 41 (.agg #[.int .i64 a1, .int .i64 a2, .int .i64 a3, .int .i64 a4]) (.agg #[.int .i64 b1, .int .i64 b2, .int .i64 b3, .int .i64 b4])).run Try.prog w = .ok (decide ((⟨a1, a2, a3, a4⟩ : Ex) = ⟨b1, b2, b3, b4⟩)) w := by
  have hu := Try.underlying3
  unfold Op.equalIn
  simp [run_underlying Try.underlying41, List.range', go_sem]
  by_cases e1 : a1 = b1
  · by_cases e2 : a2 = b2
    · by_cases e3 : a3 = b3
      · by_cases e4 : a4 = b4
        · simp [e1, e2, e3, e4]
        · simp [e1, e2, e3, e4]
      · simp [e1, e2, e3]
    · simp [e1, e2]
  · simp [e1]
theorem run_ex (a1 a2 a3 a4 b1 b2 b3 b4 : Int) (w : World) : (binOp .neq 41 (.agg #[.int .i64 a1, .int .i64 a2, .int .i64 a3, .int .i64 a4]) (.agg #[.int .i64 b1, .int .i64 b2, .int .i64 b3, .int .i64 b4])).run Try.prog w = .ok (.bool (!decide ((⟨a1, a2, a3, a4⟩ : Ex) = ⟨b1, b2, b3, b4⟩))) w := by
  rw [run_neq_struct, run_eq4]; rfl
theorem refplaces_cells (a b : Option Addr) (ca cb : Nat) (xs ys : List Pl) (w : World) (hl : xs.length = ys.length) (h1 : PlsAt w a xs) (h2 : PlsAt w b ys) :
    Calls Try.prog 16 #[.slice a xs.length ca, .slice b ys.length cb] w fun e w' => e = .returned (.bool (decide (xs = ys))) ∧ Below w.heap.size w w' := by
  have hm := h1.len
  have H1 := Lib.hid h1
  have H2 := Lib.hid h2
  have HL := Lib.hid hl
  rw [← hl]
  clear h1 h2 hl
  go_enter Try.func16, Try.ntmps16
  go_wp2_with fail
  go_loopw [5] (fun i wr => ∃ k : Nat, k ≤ xs.length ∧ i = .int .i64 k ∧ xs.take k = ys.take k ∧ Below w.heap.size w wr) (fun i _ => xs.length - (intOf i).toNat)
  case atStart => exact ⟨0, Nat.zero_le _, rfl, rfl, Below.refl _ _⟩
  case round =>
    obtain ⟨k, hk, rfl, htk, hbel⟩ := hrel
    have HT := Lib.hid htk
    clear htk
    by_cases hlt : k < xs.length
    · have hy : k < ys.length := by have := HL.out; omega
      obtain ⟨xb, xo, rfl, hxb, c0, c1⟩ := PlsAt.cells (RowAt.below H1.out hbel (Nat.le_refl _)) hlt
      obtain ⟨yb, yo, rfl, hyb, d0, d1⟩ := PlsAt.cells (RowAt.below H2.out hbel (Nat.le_refl _)) hy
      clear H1 H2
      have HX := Lib.hid (take_eq_succ hlt hy HT.out)
      have HN : Hid (¬ xs[k] = ys[k] → ¬ xs = ys) := Lib.hid (fun h e => by subst e; exact h rfl)
      generalize hx : xs[k] = x at *
      generalize hyy : ys[k] = y at *
      have G1 := Lib.hid hx
      have G2 := Lib.hid hyy
      clear hx hyy
      have hrun := run_pl x.kind x.id y.kind y.id
      obtain ⟨x0, x1⟩ := x
      obtain ⟨y0, y1⟩ := y
      by_cases he : (⟨x0, x1⟩ : Pl) = ⟨y0, y1⟩
      · have HX2 := Lib.hid (HX.out he)
        simp only [he, decide_true, Bool.not_true] at hrun
        clear he
        go_wp2_with fail
        go_quiet (fail)
        go_wp2_with fail
        go_roundw
        case rel => exact ⟨k + 1, by omega, by go_num, HX2.out, bdrew hbel _⟩
        case measure => simp [intOf]; omega
      · have HD := Lib.hid (show decide (xs = ys) = false by simpa using HN.out he)
        simp only [he, decide_false, Bool.not_false] at hrun
        clear he
        go_wp2_with fail
        go_quiet (fail)
        go_wp2_with fail
        go_ret
        exact ⟨ret_bool (by rw [HD.out]), bdrew hbel _⟩
    · have hke : k = xs.length := by omega
      subst hke
      have HD := Lib.hid (show decide (xs = ys) = true by
        have := HT.out
        rw [List.take_of_length_le (Nat.le_refl _), HL.out, List.take_of_length_le (Nat.le_refl _)] at this
        simpa using this)
      clear H1 H2
      go_wp2_with fail
      go_ret
      exact ⟨ret_bool (by rw [HD.out]), hbel⟩
theorem refplaces_any (a b : Option Addr) (ca cb : Nat) (xs ys : List Pl) (w : World) (h1 : PlsAt w a xs) (h2 : PlsAt w b ys) :
    Calls Try.prog 16 #[.slice a xs.length ca, .slice b ys.length cb] w fun e w' => e = .returned (.bool (decide (xs = ys))) ∧ Below w.heap.size w w' := by
  by_cases h : xs.length = ys.length
  · exact refplaces_cells a b ca cb xs ys w h h1 h2
  · have HD := Lib.hid (show decide (xs = ys) = false by rw [decide_eq_false_iff_not]; intro e; exact h (by rw [e]))
    rw [HD.out]
    have hl := h1.len
    have hl2 := h2.len
    clear h1 h2
    have hb : ((xs.length : Int) == (ys.length : Int)) = false := by rw [beq_eq_false_iff_ne]; omega
    have hb2 : ((xs.length : Int) != (ys.length : Int)) = true := by rw [bne, hb]; rfl
    go_enter Try.func16, Try.ntmps16
    go_wp2_with fail
    go_ret
    exact ⟨rfl, Below.refl _ _⟩
end Go.Proofs.Ytkhjmgedamndhaa
