import Derived.Test.YtinjpkbpdhihjaaDoorRows
import Derived.Test.YtinjpkbpdhihjaaDoorKit
import Derived.Test.YtinjpkbpdhihjaaDoorStrs
import Derived.Test.YtinjpkbpdhihjaaDoorJMath
import Derived.Deep.QuietTactic
import Derived.BigQuiet
import Derived.WalkKit
import Derived.ProofKit
import Derived.OpenShut
import Derived.IntWalk
import Derived.Test.YtinjpkbpdhihjaaDoorJTab
/- cmd: kinds, ways, numbers and lists within their limits; lists held against one another, by the code and by the document's own definition. -/
namespace Go.Proofs.YtinjpkbpdhihjaaDoor
open Go.ChangeShapes Go.WideShapes Go.ChangeAt Go.RowKit
set_option linter.unusedVariables false
open Go.RowKit

theorem iskind_any (n : Int) (w : World) : Calls Tryd.prog 36 #[.int .i64 n] w fun e w' => e = .returned (.bool (isKindB n)) ∧ w = w' := by
  unfold isKindB
  by_cases h1 : 1 ≤ n <;> by_cases h2 : n ≤ 10
  all_goals
    go_enter Tryd.func36, Tryd.ntmps36
    go_wp2_with fail
    go_ret
    exact ⟨by simp [*], rfl⟩
theorem isdir_any (n : Int) (w : World) : Calls Tryd.prog 54 #[.int .i64 n] w fun e w' => e = .returned (.bool (isDirB n)) ∧ w = w' := by
  unfold isDirB
  by_cases h1 : 0 ≤ n <;> by_cases h2 : n < 4
  all_goals
    go_enter Tryd.func54, Tryd.ntmps54
    go_wp2_with fail
    go_ret
    exact ⟨by simp [*], rfl⟩
theorem fit_any (n : Int) (b : Bool) (w : World) : Calls Tryd.prog 34 #[.int .i64 n, .bool b] w fun e w' => e = .returned (.bool (fitB n b)) ∧ w = w' := by
  cases b
  ·
    go_enter Tryd.func34, Tryd.ntmps34
    go_wp2_with fail
    go_ret
    exact ⟨rfl, rfl⟩
  · by_cases h1 : 0 ≤ n <;> by_cases h2 : n ≤ 1073741824
    all_goals
      have HB := Lib.hid (show fitB n true = okN n from rfl)
      go_enter Tryd.func34, Tryd.ntmps34
      go_wp2_with fail
      go_ret
      exact ⟨ret_bool (by rw [HB.out]; simp [okN, *]), rfl⟩

theorem areB_snoc {xs : List Int} {k : Nat} (h : k < xs.length) (ha : areB (xs.take k) = true) (hk : okN xs[k] = true) : areB (xs.take (k + 1)) = true := by
  rw [List.take_succ_eq_append_getElem h]
  simp only [areB, List.all_append] at *
  simp [ha, hk]
theorem areB_no {xs : List Int} {k : Nat} (h : k < xs.length) (hk : okN xs[k] = false) : areB xs = false := by
  rw [Bool.eq_false_iff]; intro h2
  have := List.all_eq_true.1 h2 xs[k] (List.getElem_mem h)
  rw [hk] at this; cases this
theorem areB_all {xs : List Int} (h : areB (xs.take xs.length) = true) : areB xs = true := by
  rwa [List.take_of_length_le (Nat.le_refl _)] at h

theorem are_any (a : Option Addr) (cap : Nat) (xs : List Int) (w : World) (h : IntsAt w a xs) :
    Calls Tryd.prog 55 #[.slice a xs.length cap] w fun e w' => e = .returned (.bool (areB xs)) ∧ w = w' := by
  have hl := h.len
  have H := Lib.hid h
  clear h
  go_enter Tryd.func55, Tryd.ntmps55
  go_wp2_with fail
  go_loop [4, 7] (fun _ i => ∃ k : Nat, k ≤ xs.length ∧ i = .int .i64 k ∧ areB (xs.take k) = true) (fun _ i => xs.length - (intOf i).toNat)
  case atStart => exact ⟨0, Nat.zero_le _, rfl, rfl⟩
  case round =>
    obtain ⟨k, hk, rfl, ha⟩ := hrel
    have HA := Lib.hid ha
    clear ha
    by_cases hlt : k < xs.length
    · obtain ⟨b, off, rfl, hb, hc⟩ := H.out.at_ hlt
      have hcell := hc k hlt
      clear hc
      have HS := Lib.hid (areB_snoc hlt HA.out)
      have HN := Lib.hid (areB_no hlt)
      by_cases h0 : 0 ≤ xs[k] <;> by_cases h1 : xs[k] ≤ 1073741824
      · have H2 := Lib.hid (HS.out (by simp [okN, h0, h1]))
        go_wp2_with fail
        go_round
        case rel => exact ⟨k + 1, by omega, by go_num, H2.out⟩
        case measure => simp [intOf]; omega
      all_goals
        have H2 := Lib.hid (HN.out (by simp [okN]; omega))
        go_wp2_with fail
        go_ret
        exact ⟨ret_bool H2.out.symm, rfl⟩
    · have hke : k = xs.length := by omega
      subst hke
      have H2 := Lib.hid (areB_all HA.out)
      go_wp2_with fail
      go_ret
      exact ⟨ret_bool H2.out.symm, rfl⟩

theorem side_any (a : Option Addr) (cap : Nat) (xs : List Int) (w : World) (h : IntsAt w a xs) :
    Calls Tryd.prog 56 #[.slice a xs.length cap] w fun e w' => e = .returned (.bool (sideB xs)) ∧ w = w' := by
  have hl := h.len
  have H := Lib.hid h
  clear h
  by_cases h1 : xs.length ≤ 16
  · have HB := Lib.hid (show sideB xs = areB xs by simp [sideB, h1])
    go_enter Tryd.func56, Tryd.ntmps56
    go_wp2_with fail
    refine (are_any a cap xs _ H.out).mono ?_
    rintro e w' ⟨rfl, rfl⟩
    go_wp2_with fail
    go_ret
    exact ⟨ret_bool HB.out.symm, rfl⟩
  · have HB := Lib.hid (show sideB xs = false by simp [sideB]; omega)
    go_enter Tryd.func56, Tryd.ntmps56
    go_wp2_with fail
    go_ret
    exact ⟨ret_bool HB.out.symm, rfl⟩

theorem row_any (a : Option Addr) (cap : Nat) (xs : List Int) (b : Bool) (w : World) (h : IntsAt w a xs) :
    Calls Tryd.prog 35 #[.slice a xs.length cap, .bool b] w fun e w' => e = .returned (.bool (rowB xs b)) ∧ w = w' := by
  have hl := h.len
  have H := Lib.hid h
  clear h
  cases b
  · have HB := Lib.hid (show rowB xs false = decide (xs.length = 0) from rfl)
    by_cases h0 : xs.length = 0
    · have h2 := Lib.hid h0
      rw [h0]
      clear h0
      go_enter Tryd.func35, Tryd.ntmps35
      go_wp2_with fail
      go_ret
      exact ⟨ret_bool (by rw [HB.out, h2.out]; rfl), rfl⟩
    · have hb : ((xs.length : Int) == 0) = false := by rw [beq_eq_false_iff_ne]; omega
      have h2 := Lib.hid h0
      clear h0
      go_enter Tryd.func35, Tryd.ntmps35
      go_wp2_with fail
      go_ret
      exact ⟨ret_bool (by rw [HB.out]; simp [h2.out]), rfl⟩
  · have HB := Lib.hid (show rowB xs true = (areB xs && decide (xs.length ≤ 16)) from rfl)
    go_enter Tryd.func35, Tryd.ntmps35
    go_wp2_with fail
    go_loop [5] (fun i => ∃ k : Nat, k ≤ xs.length ∧ i = .int .i64 k ∧ areB (xs.take k) = true) (fun i => xs.length - (intOf i).toNat)
    case atStart => exact ⟨0, Nat.zero_le _, rfl, rfl⟩
    case round =>
      obtain ⟨k, hk, rfl, ha⟩ := hrel
      have HA := Lib.hid ha
      clear ha
      by_cases hlt : k < xs.length
      · obtain ⟨b, off, rfl, hb, hc⟩ := H.out.at_ hlt
        have hcell := hc k hlt
        clear hc
        have HS := Lib.hid (areB_snoc hlt HA.out)
        have HN := Lib.hid (areB_no hlt)
        cases ho : okN xs[k]
        · have H2 := Lib.hid (HN.out ho)
          have HF := Lib.hid (show fitB xs[k] true = false from ho)
          clear ho
          go_wp2_with fail
          refine (fit_any _ _ _).mono ?_
          rintro e w' ⟨rfl, rfl⟩
          rw [HF.out]
          go_wp2_with fail
          go_ret
          exact ⟨ret_bool (by rw [HB.out, H2.out]; rfl), rfl⟩
        · have H2 := Lib.hid (HS.out ho)
          have HF := Lib.hid (show fitB xs[k] true = true from ho)
          clear ho
          go_wp2_with fail
          refine (fit_any _ _ _).mono ?_
          rintro e w' ⟨rfl, rfl⟩
          rw [HF.out]
          go_wp2_with fail
          go_round
          case rel => exact ⟨k + 1, by omega, by go_num, H2.out⟩
          case measure => simp [intOf]; omega
      · have hke : k = xs.length := by omega
        subst hke
        have H2 := Lib.hid (areB_all HA.out)
        go_wp2_with fail
        go_ret
        exact ⟨ret_bool (by rw [HB.out, H2.out, Bool.true_and]; exact decide_eq_decide.2 (by omega)), rfl⟩
end Go.Proofs.YtinjpkbpdhihjaaDoor
/- Lists of integers held against one another: slices.Equal, and the document's own Ints. -/
namespace Go.Proofs.YtinjpkbpdhihjaaDoor
open Go.ChangeShapes Go.WideShapes Go.ChangeAt Go.RowKit
set_option linter.unusedVariables false
open Go.RowKit

theorem ints_cells (a b : Option Addr) (ca cb : Nat) (xs ys : List Int) (w : World) (hl : xs.length = ys.length) (h1 : IntsAt w a xs) (h2 : IntsAt w b ys) :
    Calls Tryd.prog 33 #[.slice a xs.length ca, .slice b ys.length cb] w fun e w' => e = .returned (.bool (decide (xs = ys))) ∧ Below w.heap.size w w' := by
  have hm := h1.len
  have H1 := Lib.hid h1
  have H2 := Lib.hid h2
  have HL := Lib.hid hl
  rw [← hl]
  clear h1 h2 hl
  go_enter Tryd.func33, Tryd.ntmps33
  go_wp2_with fail
  go_loopw [5] (fun i wr => ∃ k : Nat, k ≤ xs.length ∧ i = .int .i64 k ∧ xs.take k = ys.take k ∧ Below w.heap.size w wr) (fun i _ => xs.length - (intOf i).toNat)
  case atStart => exact ⟨0, Nat.zero_le _, rfl, rfl, Below.refl _ _⟩
  case round =>
    obtain ⟨k, hk, rfl, htk, hbel⟩ := hrel
    have HT := Lib.hid htk
    clear htk
    by_cases hlt : k < xs.length
    · have hy : k < ys.length := by have := HL.out; omega
      obtain ⟨xb, xo, rfl, hxb, hxc⟩ := H1.out.at_ hlt
      obtain ⟨yb, yo, rfl, hyb, hyc⟩ := H2.out.at_ hy
      have h1 := (hbel.cell (p := ⟨xb, xo + k, none⟩) hxb).trans (hxc k hlt)
      have h2 := (hbel.cell (p := ⟨yb, yo + k, none⟩) hyb).trans (hyc k hy)
      clear hxc hyc H1 H2
      have HX := Lib.hid (take_eq_succ hlt hy HT.out)
      have HN : Hid (¬ xs[k] = ys[k] → ¬ xs = ys) := Lib.hid (fun h e => by subst e; exact h rfl)
      generalize hx : xs[k] = x at *
      generalize hyy : ys[k] = y at *
      have G1 := Lib.hid hx
      have G2 := Lib.hid hyy
      clear hx hyy
      by_cases he : x = y
      · subst he
        have HX2 := Lib.hid (HX.out rfl)
        go_wp2_with fail
        go_quiet (fail)
        go_wp2_with fail
        go_roundw
        case rel => exact ⟨k + 1, by omega, by go_num, HX2.out, bdrew hbel _⟩
        case measure => simp [intOf]; omega
      · have hne : (x != y) = true := by simpa using he
        have hne2 : (x == y) = false := by simpa using he
        have HD := Lib.hid (show decide (xs = ys) = false by simpa using HN.out he)
        clear he
        go_wp2_with fail
        go_quiet (fail)
        go_wp2_with fail
        go_ret
        exact ⟨ret_bool (by rw [HD.out]), bdrew hbel _⟩
    · have hke : k = xs.length := by omega
      subst hke
      have HD := Lib.hid (show decide (xs = ys) = true by
        have := HT.out
        rw [List.take_of_length_le (Nat.le_refl _), HL.out, List.take_of_length_le (Nat.le_refl _)] at this
        simpa using this)
      clear H1 H2
      go_wp2_with fail
      go_ret
      exact ⟨ret_bool (by rw [HD.out]), hbel⟩
theorem ints_any (a b : Option Addr) (ca cb : Nat) (xs ys : List Int) (w : World) (h1 : IntsAt w a xs) (h2 : IntsAt w b ys) :
    Calls Tryd.prog 33 #[.slice a xs.length ca, .slice b ys.length cb] w fun e w' => e = .returned (.bool (decide (xs = ys))) ∧ Below w.heap.size w w' := by
  by_cases h : xs.length = ys.length
  · exact ints_cells a b ca cb xs ys w h h1 h2
  · have HD := Lib.hid (show decide (xs = ys) = false by rw [decide_eq_false_iff_not]; intro e; exact h (by rw [e]))
    rw [HD.out]
    have hl := h1.len
    have hl2 := h2.len
    clear h1 h2
    have hb : ((xs.length : Int) == (ys.length : Int)) = false := by rw [beq_eq_false_iff_ne]; omega
    have hb2 : ((xs.length : Int) != (ys.length : Int)) = true := by rw [bne, hb]; rfl
    go_enter Tryd.func33, Tryd.ntmps33
    go_wp2_with fail
    go_ret
    exact ⟨rfl, Below.refl _ _⟩
end Go.Proofs.YtinjpkbpdhihjaaDoor
/- Lists of integers held against one another: slices.Equal, and the document's own Ints. -/
namespace Go.Proofs.YtinjpkbpdhihjaaDoor
open Go.ChangeShapes Go.WideShapes Go.ChangeAt Go.RowKit
set_option linter.unusedVariables false
open Go.RowKit

theorem equal_cells (a b : Option Addr) (ca cb : Nat) (xs ys : List Int) (w : World) (hl : xs.length = ys.length) (h1 : IntsAt w a xs) (h2 : IntsAt w b ys) :
    Calls Tryd.prog 58 #[.slice a xs.length ca, .slice b ys.length cb] w fun e w' => e = .returned (.bool (decide (xs = ys))) ∧ Below w.heap.size w w' := by
  have hm := h1.len
  have H1 := Lib.hid h1
  have H2 := Lib.hid h2
  have HL := Lib.hid hl
  rw [← hl]
  clear h1 h2 hl
  go_enter Tryd.func58, Tryd.ntmps58
  go_wp2_with fail
  go_loopw [5, 13] (fun _ i wr => ∃ k : Nat, k ≤ xs.length ∧ i = .int .i64 k ∧ xs.take k = ys.take k ∧ Below w.heap.size w wr) (fun _ i _ => xs.length - (intOf i).toNat)
  case atStart => exact ⟨0, Nat.zero_le _, rfl, rfl, Below.refl _ _⟩
  case round =>
    obtain ⟨k, hk, rfl, htk, hbel⟩ := hrel
    have HT := Lib.hid htk
    clear htk
    by_cases hlt : k < xs.length
    · have hy : k < ys.length := by have := HL.out; omega
      obtain ⟨xb, xo, rfl, hxb, hxc⟩ := H1.out.at_ hlt
      obtain ⟨yb, yo, rfl, hyb, hyc⟩ := H2.out.at_ hy
      have h1 := (hbel.cell (p := ⟨xb, xo + k, none⟩) hxb).trans (hxc k hlt)
      have h2 := (hbel.cell (p := ⟨yb, yo + k, none⟩) hyb).trans (hyc k hy)
      clear hxc hyc H1 H2
      have HX := Lib.hid (take_eq_succ hlt hy HT.out)
      have HN : Hid (¬ xs[k] = ys[k] → ¬ xs = ys) := Lib.hid (fun h e => by subst e; exact h rfl)
      generalize hx : xs[k] = x at *
      generalize hyy : ys[k] = y at *
      have G1 := Lib.hid hx
      have G2 := Lib.hid hyy
      clear hx hyy
      by_cases he : x = y
      · subst he
        have HX2 := Lib.hid (HX.out rfl)
        go_wp2_with fail
        go_quiet (fail)
        go_wp2_with fail
        go_roundw
        case rel => exact ⟨k + 1, by omega, by go_num, HX2.out, bdrew hbel _⟩
        case measure => simp [intOf]; omega
      · have hne : (x != y) = true := by simpa using he
        have hne2 : (x == y) = false := by simpa using he
        have HD := Lib.hid (show decide (xs = ys) = false by simpa using HN.out he)
        clear he
        go_wp2_with fail
        go_quiet (fail)
        go_wp2_with fail
        go_ret
        exact ⟨ret_bool (by rw [HD.out]), bdrew hbel _⟩
    · have hke : k = xs.length := by omega
      subst hke
      have HD := Lib.hid (show decide (xs = ys) = true by
        have := HT.out
        rw [List.take_of_length_le (Nat.le_refl _), HL.out, List.take_of_length_le (Nat.le_refl _)] at this
        simpa using this)
      clear H1 H2
      go_wp2_with fail
      go_ret
      exact ⟨ret_bool (by rw [HD.out]), hbel⟩
theorem equal_any (a b : Option Addr) (ca cb : Nat) (xs ys : List Int) (w : World) (h1 : IntsAt w a xs) (h2 : IntsAt w b ys) :
    Calls Tryd.prog 58 #[.slice a xs.length ca, .slice b ys.length cb] w fun e w' => e = .returned (.bool (decide (xs = ys))) ∧ Below w.heap.size w w' := by
  by_cases h : xs.length = ys.length
  · exact equal_cells a b ca cb xs ys w h h1 h2
  · have HD := Lib.hid (show decide (xs = ys) = false by rw [decide_eq_false_iff_not]; intro e; exact h (by rw [e]))
    rw [HD.out]
    have hl := h1.len
    have hl2 := h2.len
    clear h1 h2
    have hb : ((xs.length : Int) == (ys.length : Int)) = false := by rw [beq_eq_false_iff_ne]; omega
    have hb2 : ((xs.length : Int) != (ys.length : Int)) = true := by rw [bne, hb]; rfl
    go_enter Tryd.func58, Tryd.ntmps58
    go_wp2_with fail
    go_ret
    exact ⟨rfl, Below.refl _ _⟩
end Go.Proofs.YtinjpkbpdhihjaaDoor
/- cmd: within: a command's fields within their limits. -/
namespace Go.Proofs.YtinjpkbpdhihjaaDoor
open Go.ChangeShapes Go.WideShapes Go.ChangeAt Go.RowKit
set_option linter.unusedVariables false
open Go.RowKit
theorem ints_five (a b c d e : Int) (w : World) : IntsAt (w.alloc (.cells #[.int .i64 a, .int .i64 b, .int .i64 c, .int .i64 d, .int .i64 e] 3)) (some ⟨w.heap.size, 0, none⟩) [a, b, c, d, e] := by
  refine ⟨by simp [maxLen], .inr ⟨w.heap.size, 0, rfl, by simp, fun i hi => ?_⟩⟩
  rw [World.cell?_alloc_at _ _ _ _ rfl]
  match i, hi with
  | 0, _ => rfl
  | 1, _ => rfl
  | 2, _ => rfl
  | 3, _ => rfl
  | 4, _ => rfl
theorem are_five (n : Nat) (a b c d e : Int) (w : World) (hn : n = w.heap.size) : Calls Tryd.prog 55 #[.slice (some ⟨n, 0, none⟩) 5 5] (w.alloc (.cells #[.int .i64 a, .int .i64 b, .int .i64 c, .int .i64 d, .int .i64 e] 3)) fun e' w' => e' = .returned (.bool (areB [a, b, c, d, e])) ∧ (w.alloc (.cells #[.int .i64 a, .int .i64 b, .int .i64 c, .int .i64 d, .int .i64 e] 3)) = w' := by
  subst hn
  exact are_any (some ⟨w.heap.size, 0, none⟩) 5 [a, b, c, d, e] _ (ints_five a b c d e w)

theorem within_any (c : Cm) (ga wa : Option Addr) (gc wc : Nat) (w : World) (h1 : IntsAt w ga c.gives) (h2 : IntsAt w wa c.wants) :
    Calls Tryd.prog 37 #[.agg #[.int .i64 c.kind, .int .i64 c.dir, .int .i64 c.item, .int .i64 c.box, .int .i64 c.who, .slice ga c.gives.length gc, .int .i64 c.pay, .slice wa c.wants.length wc, .int .i64 c.fee]] w fun e w' => e = .returned (.bool (withinB c)) ∧ Below w.heap.size w w' := by
  have H1 := Lib.hid h1
  have H2 := Lib.hid h2
  clear h1 h2
  cases k1 : isDirB c.dir
  · have K1 := Lib.hid k1
    have HB := Lib.hid (show withinB c = false by simp [withinB, k1])
    clear k1
    go_enter Tryd.func37, Tryd.ntmps37
    go_wp2_with fail
    refine (isdir_any _ _).mono ?_
    rintro e w' ⟨rfl, rfl⟩
    rw [K1.out]
    go_wp2_with fail
    go_ret
    exact ⟨ret_bool HB.out.symm, (Below.refl _ _).alloc (Nat.le_refl _) _⟩
  · cases k2 : areB [c.item, c.box, c.who, c.pay, c.fee]
    · have K1 := Lib.hid k1
      have K2 := Lib.hid k2
      have HB := Lib.hid (show withinB c = false by simp [withinB, k2])
      clear k1 k2
      go_enter Tryd.func37, Tryd.ntmps37
      go_wp2_with fail
      refine (isdir_any _ _).mono ?_
      rintro e w' ⟨rfl, rfl⟩
      rw [K1.out]
      go_wp2_with fail
      refine (are_five _ _ _ _ _ _ _ (by simp)).mono ?_
      rintro e w' ⟨rfl, rfl⟩
      rw [K2.out]
      go_wp2_with fail
      go_ret
      exact ⟨ret_bool HB.out.symm, ((Below.refl _ _).alloc (Nat.le_refl _) _).alloc (by simp) _⟩
    · cases k3 : sideB c.gives
      · have K1 := Lib.hid k1
        have K2 := Lib.hid k2
        have K3 := Lib.hid k3
        have HB := Lib.hid (show withinB c = false by simp [withinB, k3])
        clear k1 k2 k3
        go_enter Tryd.func37, Tryd.ntmps37
        go_wp2_with fail
        refine (isdir_any _ _).mono ?_
        rintro e w' ⟨rfl, rfl⟩
        rw [K1.out]
        go_wp2_with fail
        refine (are_five _ _ _ _ _ _ _ (by simp)).mono ?_
        rintro e w' ⟨rfl, rfl⟩
        rw [K2.out]
        go_wp2_with fail
        refine (side_any _ _ _ _ ((H1.out.alloc _).alloc _)).mono ?_
        rintro e w' ⟨rfl, rfl⟩
        rw [K3.out]
        go_wp2_with fail
        go_ret
        exact ⟨ret_bool HB.out.symm, ((Below.refl _ _).alloc (Nat.le_refl _) _).alloc (by simp) _⟩
      · have K1 := Lib.hid k1
        have K2 := Lib.hid k2
        have K3 := Lib.hid k3
        have HB := Lib.hid (show withinB c = sideB c.wants by simp [withinB, k1, k2, k3])
        clear k1 k2 k3
        go_enter Tryd.func37, Tryd.ntmps37
        go_wp2_with fail
        refine (isdir_any _ _).mono ?_
        rintro e w' ⟨rfl, rfl⟩
        rw [K1.out]
        go_wp2_with fail
        refine (are_five _ _ _ _ _ _ _ (by simp)).mono ?_
        rintro e w' ⟨rfl, rfl⟩
        rw [K2.out]
        go_wp2_with fail
        refine (side_any _ _ _ _ ((H1.out.alloc _).alloc _)).mono ?_
        rintro e w' ⟨rfl, rfl⟩
        rw [K3.out]
        go_wp2_with fail
        refine (side_any _ _ _ _ ((H2.out.alloc _).alloc _)).mono ?_
        rintro e w' ⟨rfl, rfl⟩
        go_wp2_with fail
        go_ret
        exact ⟨ret_bool HB.out.symm, ((Below.refl _ _).alloc (Nat.le_refl _) _).alloc (by simp) _⟩
end Go.Proofs.YtinjpkbpdhihjaaDoor
/- The document's own Same, Few, of commands. -/
namespace Go.Proofs.YtinjpkbpdhihjaaDoor
open Go.ChangeShapes Go.WideShapes Go.ChangeAt Go.RowKit
set_option linter.unusedVariables false
open Go.RowKit
theorem bcell {W w1 : World} (hb : Below W.heap.size W w1) : ∀ b o, b < W.heap.size → w1.cell? ⟨b, o, none⟩ = W.cell? ⟨b, o, none⟩ := fun b o h => hb.cell (p := ⟨b, o, none⟩) h
set_option maxRecDepth 100000 in
theorem refsame_no (a1 a2 a3 a4 a5 a7 a9 b1 b2 b3 b4 b5 b7 b9 : Int) (a6 a8 b6 b8 : List Int) (ga wa gb wb : Option Addr) (gca wca gcb wcb : Nat) (w : World) (hn : ¬ (a1 = b1 ∧ a2 = b2 ∧ a3 = b3 ∧ a4 = b4 ∧ a5 = b5 ∧ a7 = b7 ∧ a9 = b9)) :
    Calls Tryd.prog 15 #[.agg #[.int .i64 a1, .int .i64 a2, .int .i64 a3, .int .i64 a4, .int .i64 a5, .slice ga a6.length gca, .int .i64 a7, .slice wa a8.length wca, .int .i64 a9], .agg #[.int .i64 b1, .int .i64 b2, .int .i64 b3, .int .i64 b4, .int .i64 b5, .slice gb b6.length gcb, .int .i64 b7, .slice wb b8.length wcb, .int .i64 b9]] w fun e w' => e = .returned (.bool false) ∧ Below w.heap.size w w' := by
  by_cases e1 : a1 = b1
  case neg =>
    have hd : (a1 == b1) = false := by rw [beq_eq_false_iff_ne]; exact e1
    clear hn e1
    go_enter Tryd.func15, Tryd.ntmps15
    go_wp2_with fail
    go_ret
    exact ⟨rfl, ((Below.refl _ _).alloc (Nat.le_refl _) _).alloc (by simp) _⟩
  subst e1
  by_cases e2 : a2 = b2
  case neg =>
    have hd : (a2 == b2) = false := by rw [beq_eq_false_iff_ne]; exact e2
    clear hn e2
    go_enter Tryd.func15, Tryd.ntmps15
    go_wp2_with fail
    go_ret
    exact ⟨rfl, ((Below.refl _ _).alloc (Nat.le_refl _) _).alloc (by simp) _⟩
  subst e2
  by_cases e3 : a3 = b3
  case neg =>
    have hd : (a3 == b3) = false := by rw [beq_eq_false_iff_ne]; exact e3
    clear hn e3
    go_enter Tryd.func15, Tryd.ntmps15
    go_wp2_with fail
    go_ret
    exact ⟨rfl, ((Below.refl _ _).alloc (Nat.le_refl _) _).alloc (by simp) _⟩
  subst e3
  by_cases e4 : a4 = b4
  case neg =>
    have hd : (a4 == b4) = false := by rw [beq_eq_false_iff_ne]; exact e4
    clear hn e4
    go_enter Tryd.func15, Tryd.ntmps15
    go_wp2_with fail
    go_ret
    exact ⟨rfl, ((Below.refl _ _).alloc (Nat.le_refl _) _).alloc (by simp) _⟩
  subst e4
  by_cases e5 : a5 = b5
  case neg =>
    have hd : (a5 == b5) = false := by rw [beq_eq_false_iff_ne]; exact e5
    clear hn e5
    go_enter Tryd.func15, Tryd.ntmps15
    go_wp2_with fail
    go_ret
    exact ⟨rfl, ((Below.refl _ _).alloc (Nat.le_refl _) _).alloc (by simp) _⟩
  subst e5
  by_cases e7 : a7 = b7
  case neg =>
    have hd : (a7 == b7) = false := by rw [beq_eq_false_iff_ne]; exact e7
    clear hn e7
    go_enter Tryd.func15, Tryd.ntmps15
    go_wp2_with fail
    go_ret
    exact ⟨rfl, ((Below.refl _ _).alloc (Nat.le_refl _) _).alloc (by simp) _⟩
  subst e7
  by_cases e9 : a9 = b9
  case neg =>
    have hd : (a9 == b9) = false := by rw [beq_eq_false_iff_ne]; exact e9
    clear hn e9
    go_enter Tryd.func15, Tryd.ntmps15
    go_wp2_with fail
    go_ret
    exact ⟨rfl, ((Below.refl _ _).alloc (Nat.le_refl _) _).alloc (by simp) _⟩
  subst e9
  exact absurd ⟨rfl, rfl, rfl, rfl, rfl, rfl, rfl⟩ hn
set_option maxRecDepth 100000 in
theorem refsame_yes (v : Bool) (a1 a2 a3 a4 a5 a7 a9 : Int) (a6 a8 b6 b8 : List Int) (ga wa gb wb : Option Addr) (gca wca gcb wcb : Nat) (w : World) (hg : decide (a6 = b6) = v) (h1 : IntsAt w ga a6) (h2 : IntsAt w wa a8) (h3 : IntsAt w gb b6) (h4 : IntsAt w wb b8) :
    Calls Tryd.prog 15 #[.agg #[.int .i64 a1, .int .i64 a2, .int .i64 a3, .int .i64 a4, .int .i64 a5, .slice ga a6.length gca, .int .i64 a7, .slice wa a8.length wca, .int .i64 a9], .agg #[.int .i64 a1, .int .i64 a2, .int .i64 a3, .int .i64 a4, .int .i64 a5, .slice gb b6.length gcb, .int .i64 a7, .slice wb b8.length wcb, .int .i64 a9]] w fun e w' => e = .returned (.bool (v && decide (a8 = b8))) ∧ Below w.heap.size w w' := by
  have HG := Lib.hid hg
  have H1 := Lib.hid h1
  have H2 := Lib.hid h2
  have H3 := Lib.hid h3
  have H4 := Lib.hid h4
  clear hg h1 h2 h3 h4
  cases v
  all_goals
    go_enter Tryd.func15, Tryd.ntmps15
    go_wp2_with fail
    refine (ints_any _ _ _ _ _ _ _ ((H1.out.alloc _).alloc _) ((H3.out.alloc _).alloc _)).mono ?_
    rintro e w1 ⟨rfl, hb⟩
    rw [HG.out]
    have hbw := Lib.hid ((((Below.refl _ w).alloc (Nat.le_refl _) _).alloc (by simp) _).trans (hb.mono (by simp; omega)))
    have hc := bcell hb
    have HB := Lib.hid hb
    clear hb
    go_wp2_with fail
    try (refine (ints_any _ _ _ _ _ _ _ (((H2.out.alloc _).alloc _).below HB.out (Nat.le_refl _)) (((H4.out.alloc _).alloc _).below HB.out (Nat.le_refl _))).mono ?_; rintro e w2 ⟨rfl, hb2⟩; have hbw := Lib.hid (bl hbw.out hb2); clear hb2; go_wp2_with fail)
    go_ret
    exact ⟨by simp, hbw.out⟩

theorem refsame_any (a b : Cm) (ga wa gb wb : Option Addr) (gca wca gcb wcb : Nat) (w : World) (h1 : IntsAt w ga a.gives) (h2 : IntsAt w wa a.wants) (h3 : IntsAt w gb b.gives) (h4 : IntsAt w wb b.wants) :
    Calls Tryd.prog 15 #[.agg #[.int .i64 a.kind, .int .i64 a.dir, .int .i64 a.item, .int .i64 a.box, .int .i64 a.who, .slice ga a.gives.length gca, .int .i64 a.pay, .slice wa a.wants.length wca, .int .i64 a.fee], .agg #[.int .i64 b.kind, .int .i64 b.dir, .int .i64 b.item, .int .i64 b.box, .int .i64 b.who, .slice gb b.gives.length gcb, .int .i64 b.pay, .slice wb b.wants.length wcb, .int .i64 b.fee]] w fun e w' => e = .returned (.bool (sameB a b)) ∧ Below w.heap.size w w' := by
  obtain ⟨a1, a2, a3, a4, a5, a6, a7, a8, a9⟩ := a
  obtain ⟨b1, b2, b3, b4, b5, b6, b7, b8, b9⟩ := b
  by_cases h : a1 = b1 ∧ a2 = b2 ∧ a3 = b3 ∧ a4 = b4 ∧ a5 = b5 ∧ a7 = b7 ∧ a9 = b9
  · obtain ⟨rfl, rfl, rfl, rfl, rfl, rfl, rfl⟩ := h
    rw [show sameB ⟨a1, a2, a3, a4, a5, a6, a7, a8, a9⟩ ⟨a1, a2, a3, a4, a5, b6, a7, b8, a9⟩ = (decide (a6 = b6) && decide (a8 = b8)) by simp [sameB, numsB]]
    exact refsame_yes _ a1 a2 a3 a4 a5 a7 a9 a6 a8 b6 b8 ga wa gb wb gca wca gcb wcb w rfl h1 h2 h3 h4
  · rw [show sameB ⟨a1, a2, a3, a4, a5, a6, a7, a8, a9⟩ ⟨b1, b2, b3, b4, b5, b6, b7, b8, b9⟩ = false by simp only [sameB, numsB, decide_eq_false h, Bool.false_and]]
    exact refsame_no a1 a2 a3 a4 a5 a7 a9 b1 b2 b3 b4 b5 b7 b9 a6 a8 b6 b8 ga wa gb wb gca wca gcb wcb w h

def fewB (c : Cm) : Bool := decide (c.gives.length ≤ 40) && decide (c.wants.length ≤ 40)
theorem few_any (c : Cm) (ga wa : Option Addr) (gc wc : Nat) (w : World) (h1 : IntsAt w ga c.gives) (h2 : IntsAt w wa c.wants) :
    Calls Tryd.prog 10 #[.agg #[.int .i64 c.kind, .int .i64 c.dir, .int .i64 c.item, .int .i64 c.box, .int .i64 c.who, .slice ga c.gives.length gc, .int .i64 c.pay, .slice wa c.wants.length wc, .int .i64 c.fee]] w fun e w' => e = .returned (.bool (fewB c)) ∧ Below w.heap.size w w' := by
  have l1 := h1.len
  have l2 := h2.len
  clear h1 h2
  by_cases k1 : c.gives.length ≤ 40
  · by_cases k2 : c.wants.length ≤ 40
    · have HF := Lib.hid (show fewB c = true by simp [fewB, k1, k2])
      go_enter Tryd.func10, Tryd.ntmps10
      go_wp2_with fail
      go_ret
      exact ⟨by rw [HF.out]; simp; omega, (Below.refl _ _).alloc (Nat.le_refl _) _⟩
    · have HF := Lib.hid (show fewB c = false by simp [fewB, k2])
      go_enter Tryd.func10, Tryd.ntmps10
      go_wp2_with fail
      go_ret
      exact ⟨by rw [HF.out]; simp; omega, (Below.refl _ _).alloc (Nat.le_refl _) _⟩
  · have HF := Lib.hid (show fewB c = false by simp [fewB, k1])
    go_enter Tryd.func10, Tryd.ntmps10
    go_wp2_with fail
    go_ret
    exact ⟨ret_bool HF.out.symm, (Below.refl _ _).alloc (Nat.le_refl _) _⟩
end Go.Proofs.YtinjpkbpdhihjaaDoor
