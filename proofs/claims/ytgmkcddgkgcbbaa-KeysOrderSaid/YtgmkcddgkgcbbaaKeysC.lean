/- keys: the document's Same. -/
import Derived.Test.YtgmkcddgkgcbbaaKeysB
namespace Go.Proofs.Ytgmkcddgkgcbbaa
open Go.ChangeShapes Go.WideShapes Go.ChangeAt Go.RowKit
open Lib (hid)
set_option linter.unusedVariables false
open Go.RowKit Go
theorem run_kne (a1 a2 b1 b2 : Int) (w : World) : (binOp .neq 24 (.agg #[.int .i64 a1, .int .i64 a2]) (.agg #[.int .i64 b1, .int .i64 b2])).run Try.prog w = .ok (.bool (!decide ((⟨a1, a2⟩ : Pl) = ⟨b1, b2⟩))) w := by
 by_cases e1 : a1 = b1
 ·by_cases e2 : a2 = b2
  ·subst e1 e2; go_simp
  ·go_simp
 ·go_simp
theorem run_keq (a1 a2 b1 b2 : Int) (w : World) : (binOp .eql 24 (.agg #[.int .i64 a1, .int .i64 a2]) (.agg #[.int .i64 b1, .int .i64 b2])).run Try.prog w = .ok (.bool (decide ((⟨a1, a2⟩ : Pl) = ⟨b1, b2⟩))) w := by
 by_cases e1 : a1 = b1
 ·by_cases e2 : a2 = b2
  ·subst e1 e2; go_simp
  ·go_simp
 ·go_simp
theorem kcell_call {W W1 : World} {p : Addr} {v : Value} (h : W.cell? p = some v) (hp : p.block < W.heap.size) (hb : Below W.heap.size W W1) : W1.cell? p = some v := (hb.cell hp).trans h
theorem take_eq_succK {xs ys : List Pl} {k : Nat} (hx : k < xs.length) (hy : k < ys.length) (h : xs.take k = ys.take k) (e : xs[k] = ys[k]) : xs.take (k + 1) = ys.take (k + 1) := by
 rw [List.take_succ_eq_append_getElem hx, List.take_succ_eq_append_getElem hy, h, e]
set_option maxRecDepth 100000 in
theorem ksame_any (a b : Option Addr) (ca cb : Nat) (xs ys : List Pl) (w : World) (h1 : PlsAt w a xs) (h2 : PlsAt w b ys) :
 Calls Try.prog 11 #[.slice a xs.length ca, .slice b ys.length cb] w fun e w' => e = .returned (.bool (decide (xs = ys))) ∧ Below w.heap.size w w' := by
 have hm := h1.len
 have hm2 := h2.len
 by_cases hl : xs.length = ys.length
 ·have HL := hid hl
  have H1 := hid h1
  have H2 := hid h2
  have hq : ((xs.length : Int) != (ys.length : Int)) = false := by simp; omega
  clear h1 h2 hl
  go_enter Try.func11, Try.ntmps11
  go_wp2_with fail
  go_loopw [5] (fun i wr => ∃ k : Nat, k ≤ xs.length ∧ i = .int .i64 k ∧ xs.take k = ys.take k ∧ Below w.heap.size w wr) (fun i _ => xs.length - (intOf i).toNat)
  case atStart => exact ⟨0, Nat.zero_le _, rfl, rfl, Below.refl _ _⟩
  case round =>
   obtain ⟨k, hk, rfl, htk, hbel⟩ := hrel
   have HT := hid htk
   clear htk
   by_cases hlt : k < xs.length
   ·have hy : k < ys.length := by have := HL.out; omega
    obtain ⟨xb, xo, rfl, hxb, hx0, hx1⟩ := H1.out.cells hlt
    obtain ⟨yb, yo, rfl, hyb, hy0, hy1⟩ := H2.out.cells hy
    have c0 := kcell_call hx0 hxb hbel
    have c1 := kcell_call hx1 hxb hbel
    have c2 := kcell_call hy0 hyb hbel
    have c3 := kcell_call hy1 hyb hbel
    clear hx0 hx1 hy0 hy1 H1 H2
    have HX := hid (take_eq_succK hlt hy HT.out)
    have HN := hid (show ¬ xs[k] = ys[k] → ¬ xs = ys from fun h e => by subst e; exact h rfl)
    generalize hx : xs[k] = x at *
    generalize hyy : ys[k] = y at *
    obtain ⟨x0, x1⟩ := x
    obtain ⟨y0, y1⟩ := y
    simp only at c0 c1 c2 c3
    clear hx hyy
    have hrun := run_kne x0 x1 y0 y1
    have HB := hid hbel
    clear hbel
    by_cases he : (⟨x0, x1⟩ : Pl) = ⟨y0, y1⟩
    ·have HX2 := hid (HX.out he)
     simp only [he, decide_true, Bool.not_true] at hrun
     clear he HX HN
     go_wp2_with fail
     go_quiet (fail)
     go_wp2_with fail
     go_roundw
     case rel => exact ⟨k + 1, by omega, by go_num, HX2.out, bdrew HB.out _⟩
     case measure => simp [intOf]; omega
    ·have HD := hid (show decide (xs = ys) = false by simpa using HN.out he)
     simp only [he, decide_false, Bool.not_false] at hrun
     clear he HX HN
     go_wp2_with fail
     go_quiet (fail)
     go_wp2_with fail
     go_ret
     exact ⟨ret_bool HD.out.symm, bdrew HB.out _⟩
   ·have hke : k = xs.length := by omega
    subst hke
    have HD := hid (show decide (xs = ys) = true by
     have := HT.out
     rw [List.take_of_length_le (Nat.le_refl _), HL.out, List.take_of_length_le (Nat.le_refl _)] at this
     simpa using this)
    clear H1 H2
    go_wp2_with fail
    go_ret
    exact ⟨ret_bool HD.out.symm, hbel⟩
 ·have HD := hid (show decide (xs = ys) = false by rw [decide_eq_false_iff_not]; intro e; exact hl (by rw [e]))
  have hq : ((xs.length : Int) != (ys.length : Int)) = true := by simp; omega
  clear h1 h2 hl
  go_enter Try.func11, Try.ntmps11
  go_wp2_with fail
  go_ret
  exact ⟨ret_bool HD.out.symm, Below.refl _ _⟩
end Go.Proofs.Ytgmkcddgkgcbbaa
