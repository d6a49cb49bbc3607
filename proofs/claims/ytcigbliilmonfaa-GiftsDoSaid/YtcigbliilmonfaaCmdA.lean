/- cmd: kinds, ways, numbers and lists within their limits; lists held against one another, by the code and by the document's own definition. -/
import Derived.Test.YtcigbliilmonfaaRows
import Derived.Test.YtcigbliilmonfaaKit
import Derived.Test.YtcigbliilmonfaaGMem
import Derived.Test.YtcigbliilmonfaaCmdMath
import Derived.Deep.QuietTactic
import Derived.BigQuiet
import Derived.WalkKit
import Derived.ProofKit
import Derived.OpenShut
import Derived.IntWalk
namespace Go.Proofs.Ytcigbliilmonfaa
open Go.ChangeShapes Go.WideShapes Go.ChangeAt Go.RowKit
set_option linter.unusedVariables false
open Go.RowKit

theorem cfit_any (n : Int) (b : Bool) (w : World) : Calls Try.prog 24 #[.int .i64 n, .bool b] w fun e w' => e = .returned (.bool (cfitB n b)) ∧ w = w' := by
  cases b
  ·
    go_enter Try.func24, Try.ntmps24
    go_wp2_with fail
    go_ret
    exact ⟨rfl, rfl⟩
  · by_cases h1 : 0 ≤ n <;> by_cases h2 : n ≤ 1073741824
    all_goals
      have HB := Lib.hid (show cfitB n true = okN n from rfl)
      go_enter Try.func24, Try.ntmps24
      go_wp2_with fail
      go_ret
      exact ⟨ret_bool (by rw [HB.out]; simp [okN, *]), rfl⟩

theorem areB_snoc {xs : List Int} {k : Nat} (h : k < xs.length) (ha : areB (xs.take k) = true) (hk : okN xs[k] = true) : areB (xs.take (k + 1)) = true := by
  rw [List.take_succ_eq_append_getElem h]
  simp only [areB, List.all_append] at *
  simp [ha, hk]
theorem areB_no {xs : List Int} {k : Nat} (h : k < xs.length) (hk : okN xs[k] = false) : areB xs = false := by
  rw [Bool.eq_false_iff]; intro h2
  have := List.all_eq_true.1 h2 xs[k] (List.getElem_mem h)
  rw [hk] at this; cases this
theorem areB_all {xs : List Int} (h : areB (xs.take xs.length) = true) : areB xs = true := by
  rwa [List.take_of_length_le (Nat.le_refl _)] at h

theorem row_any (a : Option Addr) (cap : Nat) (xs : List Int) (b : Bool) (w : World) (h : IntsAt w a xs) :
    Calls Try.prog 25 #[.slice a xs.length cap, .bool b] w fun e w' => e = .returned (.bool (rowB xs b)) ∧ w = w' := by
  have hl := h.len
  have H := Lib.hid h
  clear h
  cases b
  · have HB := Lib.hid (show rowB xs false = decide (xs.length = 0) from rfl)
    by_cases h0 : xs.length = 0
    · have h2 := Lib.hid h0
      rw [h0]
      clear h0
      go_enter Try.func25, Try.ntmps25
      go_wp2_with fail
      go_ret
      exact ⟨ret_bool (by rw [HB.out, h2.out]; rfl), rfl⟩
    · have hb : ((xs.length : Int) == 0) = false := by rw [beq_eq_false_iff_ne]; omega
      have h2 := Lib.hid h0
      clear h0
      go_enter Try.func25, Try.ntmps25
      go_wp2_with fail
      go_ret
      exact ⟨ret_bool (by rw [HB.out]; simp [h2.out]), rfl⟩
  · have HB := Lib.hid (show rowB xs true = (areB xs && decide (xs.length ≤ 16)) from rfl)
    go_enter Try.func25, Try.ntmps25
    go_wp2_with fail
    go_loop [5] (fun i => ∃ k : Nat, k ≤ xs.length ∧ i = .int .i64 k ∧ areB (xs.take k) = true) (fun i => xs.length - (intOf i).toNat)
    case atStart => exact ⟨0, Nat.zero_le _, rfl, rfl⟩
    case round =>
      obtain ⟨k, hk, rfl, ha⟩ := hrel
      have HA := Lib.hid ha
      clear ha
      by_cases hlt : k < xs.length
      · obtain ⟨b, off, rfl, hb, hc⟩ := H.out.at_ hlt
        have hcell := hc k hlt
        clear hc
        have HS := Lib.hid (areB_snoc hlt HA.out)
        have HN := Lib.hid (areB_no hlt)
        cases ho : okN xs[k]
        · have H2 := Lib.hid (HN.out ho)
          have HF := Lib.hid (show cfitB xs[k] true = false from ho)
          clear ho
          go_wp2_with fail
          refine (cfit_any _ _ _).mono ?_
          rintro e w' ⟨rfl, rfl⟩
          rw [HF.out]
          go_wp2_with fail
          go_ret
          exact ⟨ret_bool (by rw [HB.out, H2.out]; rfl), rfl⟩
        · have H2 := Lib.hid (HS.out ho)
          have HF := Lib.hid (show cfitB xs[k] true = true from ho)
          clear ho
          go_wp2_with fail
          refine (cfit_any _ _ _).mono ?_
          rintro e w' ⟨rfl, rfl⟩
          rw [HF.out]
          go_wp2_with fail
          go_round
          case rel => exact ⟨k + 1, by omega, by go_num, H2.out⟩
          case measure => simp [intOf]; omega
      · have hke : k = xs.length := by omega
        subst hke
        have H2 := Lib.hid (areB_all HA.out)
        go_wp2_with fail
        go_ret
        exact ⟨ret_bool (by rw [HB.out, H2.out, Bool.true_and]; exact decide_eq_decide.2 (by omega)), rfl⟩
end Go.Proofs.Ytcigbliilmonfaa
