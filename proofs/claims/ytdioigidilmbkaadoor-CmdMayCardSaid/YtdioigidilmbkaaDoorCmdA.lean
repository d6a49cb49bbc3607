/- cmd: kinds, ways, numbers and lists within their limits; lists held against one another, by the code and by the document's own definition. -/
import Derived.Test.YtdioigidilmbkaaDoorRows
import Derived.Test.YtdioigidilmbkaaDoorKit
import Derived.Test.YtdioigidilmbkaaDoorStrs
import Derived.Test.YtdioigidilmbkaaDoorCmdMath
import Derived.Deep.QuietTactic
import Derived.BigQuiet
import Derived.WalkKit
import Derived.ProofKit
import Derived.OpenShut
import Derived.IntWalk
namespace Go.Proofs.YtdioigidilmbkaaDoor
open Go.ChangeShapes Go.WideShapes Go.ChangeAt Go.RowKit
set_option linter.unusedVariables false
open Go.RowKit

theorem iskind_any (n : Int) (w : World) : Calls Tryd.prog 21 #[.int .i64 n] w fun e w' => e = .returned (.bool (isKindB n)) ∧ w = w' := by
  unfold isKindB
  by_cases h1 : 1 ≤ n <;> by_cases h2 : n ≤ 10
  all_goals
    go_enter Tryd.func21, Tryd.ntmps21
    go_wp2_with fail
    go_ret
    exact ⟨by simp [*], rfl⟩
theorem isdir_any (n : Int) (w : World) : Calls Tryd.prog 30 #[.int .i64 n] w fun e w' => e = .returned (.bool (isDirB n)) ∧ w = w' := by
  unfold isDirB
  by_cases h1 : 0 ≤ n <;> by_cases h2 : n < 4
  all_goals
    go_enter Tryd.func30, Tryd.ntmps30
    go_wp2_with fail
    go_ret
    exact ⟨by simp [*], rfl⟩
theorem fit_any (n : Int) (b : Bool) (w : World) : Calls Tryd.prog 24 #[.int .i64 n, .bool b] w fun e w' => e = .returned (.bool (fitB n b)) ∧ w = w' := by
  cases b
  ·
    go_enter Tryd.func24, Tryd.ntmps24
    go_wp2_with fail
    go_ret
    exact ⟨rfl, rfl⟩
  · by_cases h1 : 0 ≤ n <;> by_cases h2 : n ≤ 1073741824
    all_goals
      have HB := Lib.hid (show fitB n true = okN n from rfl)
      go_enter Tryd.func24, Tryd.ntmps24
      go_wp2_with fail
      go_ret
      exact ⟨ret_bool (by rw [HB.out]; simp [okN, *]), rfl⟩

theorem areB_snoc {xs : List Int} {k : Nat} (h : k < xs.length) (ha : areB (xs.take k) = true) (hk : okN xs[k] = true) : areB (xs.take (k + 1)) = true := by
  rw [List.take_succ_eq_append_getElem h]
  simp only [areB, List.all_append] at *
  simp [ha, hk]
theorem areB_no {xs : List Int} {k : Nat} (h : k < xs.length) (hk : okN xs[k] = false) : areB xs = false := by
  rw [Bool.eq_false_iff]; intro h2
  have := List.all_eq_true.1 h2 xs[k] (List.getElem_mem h)
  rw [hk] at this; cases this
theorem areB_all {xs : List Int} (h : areB (xs.take xs.length) = true) : areB xs = true := by
  rwa [List.take_of_length_le (Nat.le_refl _)] at h

theorem are_any (a : Option Addr) (cap : Nat) (xs : List Int) (w : World) (h : IntsAt w a xs) :
    Calls Tryd.prog 31 #[.slice a xs.length cap] w fun e w' => e = .returned (.bool (areB xs)) ∧ w = w' := by
  have hl := h.len
  have H := Lib.hid h
  clear h
  go_enter Tryd.func31, Tryd.ntmps31
  go_wp2_with fail
  go_loop [4, 7] (fun _ i => ∃ k : Nat, k ≤ xs.length ∧ i = .int .i64 k ∧ areB (xs.take k) = true) (fun _ i => xs.length - (intOf i).toNat)
  case atStart => exact ⟨0, Nat.zero_le _, rfl, rfl⟩
  case round =>
    obtain ⟨k, hk, rfl, ha⟩ := hrel
    have HA := Lib.hid ha
    clear ha
    by_cases hlt : k < xs.length
    · obtain ⟨b, off, rfl, hb, hc⟩ := H.out.at_ hlt
      have hcell := hc k hlt
      clear hc
      have HS := Lib.hid (areB_snoc hlt HA.out)
      have HN := Lib.hid (areB_no hlt)
      by_cases h0 : 0 ≤ xs[k] <;> by_cases h1 : xs[k] ≤ 1073741824
      · have H2 := Lib.hid (HS.out (by simp [okN, h0, h1]))
        go_wp2_with fail
        go_round
        case rel => exact ⟨k + 1, by omega, by go_num, H2.out⟩
        case measure => simp [intOf]; omega
      all_goals
        have H2 := Lib.hid (HN.out (by simp [okN]; omega))
        go_wp2_with fail
        go_ret
        exact ⟨ret_bool H2.out.symm, rfl⟩
    · have hke : k = xs.length := by omega
      subst hke
      have H2 := Lib.hid (areB_all HA.out)
      go_wp2_with fail
      go_ret
      exact ⟨ret_bool H2.out.symm, rfl⟩

theorem side_any (a : Option Addr) (cap : Nat) (xs : List Int) (w : World) (h : IntsAt w a xs) :
    Calls Tryd.prog 32 #[.slice a xs.length cap] w fun e w' => e = .returned (.bool (sideB xs)) ∧ w = w' := by
  have hl := h.len
  have H := Lib.hid h
  clear h
  by_cases h1 : xs.length ≤ 16
  · have HB := Lib.hid (show sideB xs = areB xs by simp [sideB, h1])
    go_enter Tryd.func32, Tryd.ntmps32
    go_wp2_with fail
    refine (are_any a cap xs _ H.out).mono ?_
    rintro e w' ⟨rfl, rfl⟩
    go_wp2_with fail
    go_ret
    exact ⟨ret_bool HB.out.symm, rfl⟩
  · have HB := Lib.hid (show sideB xs = false by simp [sideB]; omega)
    go_enter Tryd.func32, Tryd.ntmps32
    go_wp2_with fail
    go_ret
    exact ⟨ret_bool HB.out.symm, rfl⟩

theorem row_any (a : Option Addr) (cap : Nat) (xs : List Int) (b : Bool) (w : World) (h : IntsAt w a xs) :
    Calls Tryd.prog 25 #[.slice a xs.length cap, .bool b] w fun e w' => e = .returned (.bool (rowB xs b)) ∧ w = w' := by
  have hl := h.len
  have H := Lib.hid h
  clear h
  cases b
  · have HB := Lib.hid (show rowB xs false = decide (xs.length = 0) from rfl)
    by_cases h0 : xs.length = 0
    · have h2 := Lib.hid h0
      rw [h0]
      clear h0
      go_enter Tryd.func25, Tryd.ntmps25
      go_wp2_with fail
      go_ret
      exact ⟨ret_bool (by rw [HB.out, h2.out]; rfl), rfl⟩
    · have hb : ((xs.length : Int) == 0) = false := by rw [beq_eq_false_iff_ne]; omega
      have h2 := Lib.hid h0
      clear h0
      go_enter Tryd.func25, Tryd.ntmps25
      go_wp2_with fail
      go_ret
      exact ⟨ret_bool (by rw [HB.out]; simp [h2.out]), rfl⟩
  · have HB := Lib.hid (show rowB xs true = (areB xs && decide (xs.length ≤ 16)) from rfl)
    go_enter Tryd.func25, Tryd.ntmps25
    go_wp2_with fail
    go_loop [5] (fun i => ∃ k : Nat, k ≤ xs.length ∧ i = .int .i64 k ∧ areB (xs.take k) = true) (fun i => xs.length - (intOf i).toNat)
    case atStart => exact ⟨0, Nat.zero_le _, rfl, rfl⟩
    case round =>
      obtain ⟨k, hk, rfl, ha⟩ := hrel
      have HA := Lib.hid ha
      clear ha
      by_cases hlt : k < xs.length
      · obtain ⟨b, off, rfl, hb, hc⟩ := H.out.at_ hlt
        have hcell := hc k hlt
        clear hc
        have HS := Lib.hid (areB_snoc hlt HA.out)
        have HN := Lib.hid (areB_no hlt)
        cases ho : okN xs[k]
        · have H2 := Lib.hid (HN.out ho)
          have HF := Lib.hid (show fitB xs[k] true = false from ho)
          clear ho
          go_wp2_with fail
          refine (fit_any _ _ _).mono ?_
          rintro e w' ⟨rfl, rfl⟩
          rw [HF.out]
          go_wp2_with fail
          go_ret
          exact ⟨ret_bool (by rw [HB.out, H2.out]; rfl), rfl⟩
        · have H2 := Lib.hid (HS.out ho)
          have HF := Lib.hid (show fitB xs[k] true = true from ho)
          clear ho
          go_wp2_with fail
          refine (fit_any _ _ _).mono ?_
          rintro e w' ⟨rfl, rfl⟩
          rw [HF.out]
          go_wp2_with fail
          go_round
          case rel => exact ⟨k + 1, by omega, by go_num, H2.out⟩
          case measure => simp [intOf]; omega
      · have hke : k = xs.length := by omega
        subst hke
        have H2 := Lib.hid (areB_all HA.out)
        go_wp2_with fail
        go_ret
        exact ⟨ret_bool (by rw [HB.out, H2.out, Bool.true_and]; exact decide_eq_decide.2 (by omega)), rfl⟩
end Go.Proofs.YtdioigidilmbkaaDoor
