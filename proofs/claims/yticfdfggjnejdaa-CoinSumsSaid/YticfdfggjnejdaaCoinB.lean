/- The contracts of coin.Swap, coin.Pay, their reference twins, and of awake, built from the single cases. -/
import Derived.Test.YticfdfggjnejdaaCoin
import Derived.Test.YticfdfggjnejdaaKit
namespace Go.Proofs.Yticfdfggjnejdaa
open Go.ChangeShapes Go.WideShapes Go.ChangeAt Go.RowKit
set_option linter.unusedVariables false

theorem isB_iff (n : Int) : isB n = true ↔ (0 ≤ n ∧ n ≤ 1073741824) := by unfold isB; simp

theorem swap_any (a b pay fee : Int) (w : World) (a0 : 0 ≤ a) (a1 : a ≤ 1073741824) (b0 : 0 ≤ b) (b1 : b ≤ 1073741824) :
    Calls Try.prog 13 #[.int .i64 a, .int .i64 b, .int .i64 pay, .int .i64 fee] w fun e w' => e = .returned (.tuple #[.int .i64 (swapA a b pay fee), .int .i64 (swapB a b pay fee), .int .i64 (swapE a b pay fee)]) ∧ Below w.heap.size w w' := by
  by_cases h : pay < 0 ∨ fee < 0
  · refine (swap_arg a b pay fee w h).mono ?_
    rintro e w' ⟨rfl, rfl⟩
    exact ⟨by simp [swapA, swapB, swapE, h], Below.refl _ _⟩
  by_cases h2 : a < pay ∨ b < fee
  · refine (swap_poor a b pay fee w (by omega) (by omega) h2).mono ?_
    rintro e w' ⟨rfl, rfl⟩
    exact ⟨by simp [swapA, swapB, swapE, h, h2], Below.refl _ _⟩
  refine (swap_go a b pay fee w a0 a1 b0 b1 (by omega) (by omega) (by omega) (by omega)).mono ?_
  rintro e w' ⟨rfl, hb⟩
  refine ⟨?_, hb⟩
  by_cases h3 : a - pay + fee ≤ 1073741824 ∧ b - fee + pay ≤ 1073741824
  · have h4 : (isB (a - pay + fee) && isB (b - fee + pay)) = true := by
      rw [Bool.and_eq_true, isB_iff, isB_iff]; omega
    simp [swapA, swapB, swapE, h, h2, h3, h4]
  · have h4 : (isB (a - pay + fee) && isB (b - fee + pay)) = false := by
      rw [Bool.eq_false_iff]; intro h; rw [Bool.and_eq_true, isB_iff, isB_iff] at h; omega
    simp [swapA, swapB, swapE, h, h2, h3, h4]

theorem pay_any (a b pay : Int) (w : World) (a0 : 0 ≤ a) (a1 : a ≤ 1073741824) (b0 : 0 ≤ b) (b1 : b ≤ 1073741824) :
    Calls Try.prog 11 #[.int .i64 a, .int .i64 b, .int .i64 pay] w fun e w' => e = .returned (.tuple #[.int .i64 (swapA a b pay 0), .int .i64 (swapB a b pay 0), .int .i64 (swapE a b pay 0)]) ∧ Below w.heap.size w w' := by
  go_enter Try.func11, Try.ntmps11
  go_wp2_with fail
  refine (swap_any a b pay 0 _ a0 a1 b0 b1).mono ?_
  rintro e w' ⟨rfl, hb⟩
  go_wp2_with fail
  go_ret3
  exact ⟨rfl, hb⟩

theorem refpay_any (a b pay : Int) (w : World) (a0 : 0 ≤ a) (a1 : a ≤ 1073741824) (b0 : 0 ≤ b) (b1 : b ≤ 1073741824) :
    Calls Try.prog 12 #[.int .i64 a, .int .i64 b, .int .i64 pay] w fun e w' => e = .returned (.tuple #[.int .i64 (swapA a b pay 0), .int .i64 (swapB a b pay 0), .int .i64 (swapE a b pay 0)]) ∧ w = w' := by
  have fin : ∀ p, p = (swapA a b pay 0, swapB a b pay 0, swapE a b pay 0) → Ending.returned (.tuple #[.int .i64 p.1, .int .i64 p.2.1, .int .i64 p.2.2]) = Ending.returned (.tuple #[.int .i64 (swapA a b pay 0), .int .i64 (swapB a b pay 0), .int .i64 (swapE a b pay 0)]) := by
    rintro p rfl; rfl
  have FIN := Lib.hid fin
  clear fin
  by_cases h : pay < 0
  · have E := Lib.hid (FIN.out (a, b, 1) (by simp [swapA, swapB, swapE, h]))
    go_enter Try.func12, Try.ntmps12
    go_wp2
    go_ret3
    exact ⟨E.out, rfl⟩
  by_cases h2 : a < pay
  · have E := Lib.hid (FIN.out (a, b, 10) (by simp [swapA, swapB, swapE, h, h2]))
    go_enter Try.func12, Try.ntmps12
    go_wp2
    go_ret3
    exact ⟨E.out, rfl⟩
  have h6 : ¬ b < 0 := by omega
  by_cases h3 : b + pay ≤ 1073741824
  · have h5 : a - pay ≤ 1073741824 := by omega
    have E := Lib.hid (FIN.out (a - pay, b + pay, 0) (by simp [swapA, swapB, swapE, h, h2, h3, h5, h6]))
    go_enter Try.func12, Try.ntmps12
    go_wp2
    go_ret3
    exact ⟨E.out, rfl⟩
  · have E := Lib.hid (FIN.out (a, b, 11) (by simp [swapA, swapB, swapE, h, h2, h3, h6]))
    go_enter Try.func12, Try.ntmps12
    go_wp2
    go_ret3
    exact ⟨E.out, rfl⟩

theorem refswap_any (a b pay fee : Int) (w : World) (a0 : 0 ≤ a) (a1 : a ≤ 1073741824) (b0 : 0 ≤ b) (b1 : b ≤ 1073741824) :
    Calls Try.prog 14 #[.int .i64 a, .int .i64 b, .int .i64 pay, .int .i64 fee] w fun e w' => e = .returned (.tuple #[.int .i64 (swapA a b pay fee), .int .i64 (swapB a b pay fee), .int .i64 (swapE a b pay fee)]) ∧ w = w' := by
  have fin : ∀ p, p = (swapA a b pay fee, swapB a b pay fee, swapE a b pay fee) → Ending.returned (.tuple #[.int .i64 p.1, .int .i64 p.2.1, .int .i64 p.2.2]) = Ending.returned (.tuple #[.int .i64 (swapA a b pay fee), .int .i64 (swapB a b pay fee), .int .i64 (swapE a b pay fee)]) := by
    rintro p rfl; rfl
  have FIN := Lib.hid fin
  clear fin
  by_cases h : pay < 0 ∨ fee < 0
  · have HH := Lib.hid h
    by_cases h1 : pay < 0 <;> by_cases h2 : fee < 0
    all_goals first | omega | skip
    all_goals
      clear h
      go_enter Try.func14, Try.ntmps14
      go_wp2
      go_ret3
      exact ⟨FIN.out (a, b, 1) (by simp [swapA, swapB, swapE, HH.out]), rfl⟩
  by_cases h2 : a < pay ∨ b < fee
  · have HH := Lib.hid h
    have HH2 := Lib.hid h2
    have p0 : 0 ≤ pay := by omega
    have f0 : 0 ≤ fee := by omega
    by_cases h3 : a < pay <;> by_cases h4 : b < fee
    all_goals first | omega | skip
    all_goals
      clear h h2
      go_enter Try.func14, Try.ntmps14
      go_wp2
      go_ret3
      exact ⟨FIN.out (a, b, 10) (by simp [swapA, swapB, swapE, HH.out, HH2.out]), rfl⟩
  have HH := Lib.hid h
  have HH2 := Lib.hid h2
  have p0 : 0 ≤ pay := by omega
  have f0 : 0 ≤ fee := by omega
  have p1 : pay ≤ a := by omega
  have f1 : fee ≤ b := by omega
  clear h h2
  have e11 : (isB (a + fee - pay) && isB (b + pay - fee)) = false → (a, b, 11) = (swapA a b pay fee, swapB a b pay fee, swapE a b pay fee) := by
    intro h
    have h3 : ¬ (a - pay + fee ≤ 1073741824 ∧ b - fee + pay ≤ 1073741824) := by
      intro h4; rw [Bool.eq_false_iff] at h; apply h; rw [Bool.and_eq_true, isB_iff, isB_iff]; omega
    simp [swapA, swapB, swapE, HH.out, HH2.out, h3]
  have e0 : (isB (a + fee - pay) && isB (b + pay - fee)) = true → (a + fee - pay, b + pay - fee, 0) = (swapA a b pay fee, swapB a b pay fee, swapE a b pay fee) := by
    intro h
    rw [Bool.and_eq_true, isB_iff, isB_iff] at h
    have h3 : (a - pay + fee ≤ 1073741824 ∧ b - fee + pay ≤ 1073741824) := by omega
    simp [swapA, swapB, swapE, HH.out, HH2.out, h3]; omega
  cases k1 : isB (a + fee - pay) <;> cases k2 : isB (b + pay - fee)
  all_goals
    simp only [k1, k2, Bool.and_self, Bool.and_true, Bool.and_false, Bool.true_and, Bool.false_and, forall_const, reduceCtorEq, false_implies] at e11 e0
    have E := Lib.hid e11
    have E0 := Lib.hid e0
    have K1 := Lib.hid k1
    have K2 := Lib.hid k2
    clear k1 k2 e11 e0
    go_enter Try.func14, Try.ntmps14
    go_wp2_with fail
    refine (refis_any _ _).mono ?_
    rintro e w' ⟨rfl, rfl⟩
    rw [K1.out]
    go_wp2_with fail
    try (refine (refis_any _ _).mono ?_; rintro e w' ⟨rfl, rfl⟩; rw [K2.out]; go_wp2_with fail)
    go_ret3
    first
      | exact ⟨FIN.out _ E.out, rfl⟩
      | exact ⟨FIN.out _ E0.out, rfl⟩


/-- The statements' own anchor holds. -/
theorem awake_any (w : World) : Calls Try.prog 8 #[] w fun e w' => e = .returned (.bool true) ∧ Below w.heap.size w w' := by
  have q1 : swapE 5 1 5 0 = 0 := by decide
  go_enter Try.func8, Try.ntmps8
  go_wp2_with fail
  refine (pay_any 5 1 5 _ (by omega) (by omega) (by omega) (by omega)).mono ?_
  rintro e w1 ⟨rfl, b1⟩
  rw [show swapA 5 1 5 0 = 0 from by decide, show swapB 5 1 5 0 = 6 from by decide, show swapE 5 1 5 0 = 0 from by decide]
  go_wp2_with fail
  refine (swap_any 5 1 5 1 _ (by omega) (by omega) (by omega) (by omega)).mono ?_
  rintro e w2 ⟨rfl, b2⟩
  rw [show swapA 5 1 5 1 = 1 from by decide, show swapB 5 1 5 1 = 5 from by decide, show swapE 5 1 5 1 = 0 from by decide]
  go_wp2_with fail
  refine (pay_any 5 1 6 _ (by omega) (by omega) (by omega) (by omega)).mono ?_
  rintro e w3 ⟨rfl, b3⟩
  rw [show swapA 5 1 6 0 = 5 from by decide, show swapB 5 1 6 0 = 1 from by decide, show swapE 5 1 6 0 = 10 from by decide]
  go_wp2_with fail
  refine (pay_any 5 1073741824 1 _ (by omega) (by omega) (by omega) (by omega)).mono ?_
  rintro e w4 ⟨rfl, b4⟩
  rw [show swapA 5 1073741824 1 0 = 5 from by decide, show swapB 5 1073741824 1 0 = 1073741824 from by decide, show swapE 5 1073741824 1 0 = 11 from by decide]
  go_wp2_with fail
  refine (pay_any 5 1 (-1) _ (by omega) (by omega) (by omega) (by omega)).mono ?_
  rintro e w5 ⟨rfl, b5⟩
  rw [show swapA 5 1 (-1) 0 = 5 from by decide, show swapB 5 1 (-1) 0 = 1 from by decide, show swapE 5 1 (-1) 0 = 1 from by decide]
  go_wp2_with fail
  refine (sum_any [1, 2, 3] w5.heap.size 0 3 _ (by simp) ?_ ?_).mono ?_
  · intro k h
    match k, h with
    | 0, _ => simp
    | 1, _ => simp
    | 2, _ => simp
  · intro k h
    rw [World.cell?_alloc_at _ _ _ _ rfl]
    match k, h with
    | 0, _ => rfl
    | 1, _ => rfl
    | 2, _ => rfl
  rintro e w6 ⟨rfl, rfl⟩
  rw [show ([1, 2, 3] : List Int).sum = 6 from by decide]
  go_wp2_with fail
  refine (is_any _ _).mono ?_
  rintro e w6 ⟨rfl, rfl⟩
  rw [show isB 0 = true from by decide]
  go_wp2_with fail
  refine (is_any _ _).mono ?_
  rintro e w6 ⟨rfl, rfl⟩
  rw [show isB 1073741824 = true from by decide]
  go_wp2_with fail
  refine (is_any _ _).mono ?_
  rintro e w6 ⟨rfl, rfl⟩
  rw [show isB (-1) = false from by decide]
  go_wp2_with fail
  refine (is_any _ _).mono ?_
  rintro e w6 ⟨rfl, rfl⟩
  rw [show isB 1073741825 = false from by decide]
  go_wp2_with fail
  go_ret
  exact ⟨rfl, bl (bl (bl (bl (bl b1 b2) b3) b4) b5) ((Below.refl _ _).alloc (Nat.le_refl _) _)⟩

end Go.Proofs.Yticfdfggjnejdaa
