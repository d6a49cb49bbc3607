/- The contracts of coin.Swap, coin.Pay, their reference twins, and of awake, built from the single cases. -/
import Derived.Test.YtgmkcddgkgcbbaaGreatCoin
import Derived.Test.YtgmkcddgkgcbbaaGreatKit
namespace Go.Proofs.YtgmkcddgkgcbbaaGreat
open Go.ChangeShapes Go.WideShapes Go.ChangeAt Go.RowKit
open Lib (hid)
set_option linter.unusedVariables false

theorem isB_iff (n : Int) : isB n = true ↔ (0 ≤ n ∧ n ≤ 1073741824) := by unfold isB; simp

theorem swap_any (a b pay fee : Int) (w : World) (a0 : 0 ≤ a) (a1 : a ≤ 1073741824) (b0 : 0 ≤ b) (b1 : b ≤ 1073741824) :
 Calls Tryz.prog 101 #[.int .i64 a, .int .i64 b, .int .i64 pay, .int .i64 fee] w fun e w' => e = .returned (.tuple #[.int .i64 (swapA a b pay fee), .int .i64 (swapB a b pay fee), .int .i64 (swapE a b pay fee)]) ∧ Below w.heap.size w w' := by
 by_cases h : pay < 0 ∨ fee < 0
 ·refine (swap_arg a b pay fee w h).mono ?_
  rintro e w' ⟨rfl, rfl⟩
  exact ⟨by simp [swapA, swapB, swapE, h], Below.refl _ _⟩
 by_cases h2 : a < pay ∨ b < fee
 ·refine (swap_poor a b pay fee w (by omega) (by omega) h2).mono ?_
  rintro e w' ⟨rfl, rfl⟩
  exact ⟨by simp [swapA, swapB, swapE, h, h2], Below.refl _ _⟩
 refine (swap_go a b pay fee w a0 a1 b0 b1 (by omega) (by omega) (by omega) (by omega)).mono ?_
 rintro e w' ⟨rfl, hb⟩
 refine ⟨?_, hb⟩
 by_cases h3 : a - pay + fee ≤ 1073741824 ∧ b - fee + pay ≤ 1073741824
 ·have h4 : (isB (a - pay + fee) && isB (b - fee + pay)) = true := by
   rw [Bool.and_eq_true, isB_iff, isB_iff]; omega
  simp [swapA, swapB, swapE, h, h2, h3, h4]
 ·have h4 : (isB (a - pay + fee) && isB (b - fee + pay)) = false := by
   rw [Bool.eq_false_iff]; intro h; rw [Bool.and_eq_true, isB_iff, isB_iff] at h; omega
  simp [swapA, swapB, swapE, h, h2, h3, h4]

theorem refswap_any (a b pay fee : Int) (w : World) (a0 : 0 ≤ a) (a1 : a ≤ 1073741824) (b0 : 0 ≤ b) (b1 : b ≤ 1073741824) :
 Calls Tryz.prog 72 #[.int .i64 a, .int .i64 b, .int .i64 pay, .int .i64 fee] w fun e w' => e = .returned (.tuple #[.int .i64 (swapA a b pay fee), .int .i64 (swapB a b pay fee), .int .i64 (swapE a b pay fee)]) ∧ w = w' := by
 have fin : ∀ p, p = (swapA a b pay fee, swapB a b pay fee, swapE a b pay fee) → Ending.returned (.tuple #[.int .i64 p.1, .int .i64 p.2.1, .int .i64 p.2.2]) = Ending.returned (.tuple #[.int .i64 (swapA a b pay fee), .int .i64 (swapB a b pay fee), .int .i64 (swapE a b pay fee)]) := by
  rintro p rfl; rfl
 have FIN := hid fin
 clear fin
 by_cases h : pay < 0 ∨ fee < 0
 ·have HH := hid h
  by_cases h1 : pay < 0 <;> by_cases h2 : fee < 0
  all_goals first | omega | skip
  all_goals
   clear h
   go_enter Tryz.func72, Tryz.ntmps72
   go_wp2
   go_ret3
   exact ⟨FIN.out (a, b, 1) (by simp [swapA, swapB, swapE, HH.out]), rfl⟩
 by_cases h2 : a < pay ∨ b < fee
 ·have HH := hid h
  have HH2 := hid h2
  have p0 : 0 ≤ pay := by omega
  have f0 : 0 ≤ fee := by omega
  by_cases h3 : a < pay <;> by_cases h4 : b < fee
  all_goals first | omega | skip
  all_goals
   clear h h2
   go_enter Tryz.func72, Tryz.ntmps72
   go_wp2
   go_ret3
   exact ⟨FIN.out (a, b, 10) (by simp [swapA, swapB, swapE, HH.out, HH2.out]), rfl⟩
 have HH := hid h
 have HH2 := hid h2
 have p0 : 0 ≤ pay := by omega
 have f0 : 0 ≤ fee := by omega
 have p1 : pay ≤ a := by omega
 have f1 : fee ≤ b := by omega
 clear h h2
 have e11 : (isB (a + fee - pay) && isB (b + pay - fee)) = false → (a, b, 11) = (swapA a b pay fee, swapB a b pay fee, swapE a b pay fee) := by
  intro h
  have h3 : ¬ (a - pay + fee ≤ 1073741824 ∧ b - fee + pay ≤ 1073741824) := by
   intro h4; rw [Bool.eq_false_iff] at h; apply h; rw [Bool.and_eq_true, isB_iff, isB_iff]; omega
  simp [swapA, swapB, swapE, HH.out, HH2.out, h3]
 have e0 : (isB (a + fee - pay) && isB (b + pay - fee)) = true → (a + fee - pay, b + pay - fee, 0) = (swapA a b pay fee, swapB a b pay fee, swapE a b pay fee) := by
  intro h
  rw [Bool.and_eq_true, isB_iff, isB_iff] at h
  have h3 : (a - pay + fee ≤ 1073741824 ∧ b - fee + pay ≤ 1073741824) := by omega
  simp [swapA, swapB, swapE, HH.out, HH2.out, h3]; omega
 cases k1 : isB (a + fee - pay) <;> cases k2 : isB (b + pay - fee)
 all_goals
  simp only [k1, k2, Bool.and_self, Bool.and_true, Bool.and_false, forall_const, reduceCtorEq, false_implies] at e11 e0
  have E := hid e11
  have E0 := hid e0
  have K1 := hid k1
  have K2 := hid k2
  clear k1 k2 e11 e0
  go_enter Tryz.func72, Tryz.ntmps72
  go_wp2_with fail
  refine (refis_any _ _).mono ?_
  rintro e w' ⟨rfl, rfl⟩
  rw [K1.out]
  go_wp2_with fail
  try (refine (refis_any _ _).mono ?_; rintro e w' ⟨rfl, rfl⟩; rw [K2.out]; go_wp2_with fail)
  go_ret3
  first
   | exact ⟨FIN.out _ E.out, rfl⟩
   | exact ⟨FIN.out _ E0.out, rfl⟩


end Go.Proofs.YtgmkcddgkgcbbaaGreat
