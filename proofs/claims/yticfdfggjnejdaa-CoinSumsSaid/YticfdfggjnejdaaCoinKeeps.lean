/- CoinKeeps: for every input, a swap keeps the sum and both purses, what is refused stays, paying back undoes, and paying is a swap for nothing: the statement answers true. No condition. -/
import Derived.Test.YticfdfggjnejdaaRows
import Derived.Test.YticfdfggjnejdaaCoinB
import Derived.WalkKit
import Derived.ProofKit
import Derived.OpenShut
import Derived.IntWalk
namespace Go.Proofs.Yticfdfggjnejdaa
open Go.ChangeShapes Go.WideShapes Go.ChangeAt Go.RowKit
set_option linter.unusedVariables false

theorem no_isB {n : Int} (h : ¬ (0 ≤ n ∧ n ≤ 1073741824)) : isB n = false := by rw [Bool.eq_false_iff]; intro k; exact h ((isB_iff n).1 k)
theorem yes_isB {n : Int} (h : 0 ≤ n ∧ n ≤ 1073741824) : isB n = true := (isB_iff n).2 h

/-- What a swap comes to, in two cases. -/
theorem swap_two (a b pay fee : Int) (a0 : 0 ≤ a) (a1 : a ≤ 1073741824) (b0 : 0 ≤ b) (b1 : b ≤ 1073741824) :
    (swapE a b pay fee = 0 ∧ swapA a b pay fee = a - pay + fee ∧ swapB a b pay fee = b - fee + pay ∧ 0 ≤ pay ∧ 0 ≤ fee ∧ pay ≤ a ∧ fee ≤ b ∧ a - pay + fee ≤ 1073741824 ∧ b - fee + pay ≤ 1073741824) ∨
    (0 < swapE a b pay fee ∧ swapA a b pay fee = a ∧ swapB a b pay fee = b) := by
  by_cases h : swapE a b pay fee = 0
  · left
    refine ⟨h, by simp [swapA, h], by simp [swapB, h], ?_⟩
    unfold swapE at h
    split at h
    · omega
    · split at h
      · omega
      · split at h <;> omega
  · right
    refine ⟨?_, by simp [swapA, h], by simp [swapB, h]⟩
    unfold swapE at h ⊢
    split
    · omega
    · split
      · omega
      · split <;> omega

theorem walk_coinKeeps_no (a b pay fee : Int) (w : World) (h : ¬ (0 ≤ a ∧ a ≤ 1073741824) ∨ ¬ (0 ≤ b ∧ b ≤ 1073741824)) :
    Calls Try.prog 4 #[.int .i64 a, .int .i64 b, .int .i64 pay, .int .i64 fee] w fun e w' => e = .returned (.bool true) ∧ Below w.heap.size w w' := by
  by_cases ha : 0 ≤ a ∧ a ≤ 1073741824
  · have A1 := Lib.hid (yes_isB ha)
    have B1 := Lib.hid (no_isB (n := b) (by omega))
    clear ha h
    go_enter Try.func4, Try.ntmps4
    go_wp2_with fail
    refine (awake_any _).mono ?_
    rintro e w1 ⟨rfl, b1⟩
    go_wp2_with fail
    refine (refis_any _ _).mono ?_
    rintro e w' ⟨rfl, rfl⟩
    rw [A1.out]
    go_wp2_with fail
    refine (refis_any _ _).mono ?_
    rintro e w' ⟨rfl, rfl⟩
    rw [B1.out]
    go_wp2_with fail
    refine (awake_any _).mono ?_
    rintro e w2 ⟨rfl, b2⟩
    go_wp2_with fail
    go_ret
    exact ⟨rfl, bl b1 b2⟩
  · have A1 := Lib.hid (no_isB ha)
    clear ha h
    go_enter Try.func4, Try.ntmps4
    go_wp2_with fail
    refine (awake_any _).mono ?_
    rintro e w1 ⟨rfl, b1⟩
    go_wp2_with fail
    refine (refis_any _ _).mono ?_
    rintro e w' ⟨rfl, rfl⟩
    rw [A1.out]
    go_wp2_with fail
    refine (awake_any _).mono ?_
    rintro e w2 ⟨rfl, b2⟩
    go_wp2_with fail
    go_ret
    exact ⟨rfl, bl b1 b2⟩

/-- The first swap comes to X, Y, E: all later steps. -/
theorem walk_coinKeeps_yes (a b pay fee : Int) (w : World) (a0 : 0 ≤ a) (a1 : a ≤ 1073741824) (b0 : 0 ≤ b) (b1 : b ≤ 1073741824) :
    Calls Try.prog 4 #[.int .i64 a, .int .i64 b, .int .i64 pay, .int .i64 fee] w fun e w' => e = .returned (.bool true) ∧ Below w.heap.size w w' := by
  have A1 := Lib.hid (yes_isB ⟨a0, a1⟩)
  have B1 := Lib.hid (yes_isB ⟨b0, b1⟩)
  have t1 := swap_two a b pay fee a0 a1 b0 b1
  have t2 := swap_two a b pay 0 a0 a1 b0 b1
  have s1 := fun w => swap_any a b pay fee w a0 a1 b0 b1
  have s2 := fun w => swap_any a b pay 0 w a0 a1 b0 b1
  have s3 := fun w => pay_any a b pay w a0 a1 b0 b1
  have X1 := Lib.hid (yes_isB (n := swapA a b pay fee) (by rcases t1 with h | h <;> omega))
  have Y1 := Lib.hid (yes_isB (n := swapB a b pay fee) (by rcases t1 with h | h <;> omega))
  have xy : swapA a b pay fee + swapB a b pay fee = a + b := by rcases t1 with h | h <;> omega
  have xs : ¬ swapE a b pay fee = 0 → swapA a b pay fee = a ∧ swapB a b pay fee = b := by rcases t1 with h | h <;> omega
  have x0 : 0 ≤ swapA a b pay fee ∧ swapA a b pay fee ≤ 1073741824 ∧ 0 ≤ swapB a b pay fee ∧ swapB a b pay fee ≤ 1073741824 := by rcases t1 with h | h <;> omega
  have xe : 0 ≤ swapE a b pay fee := by rcases t1 with h | h <;> omega
  clear t1
  generalize swapA a b pay fee = X at *
  generalize swapB a b pay fee = Y at *
  generalize swapE a b pay fee = E at *
  have bk : swapE a b pay 0 = 0 → ∀ w, Calls Try.prog 11 #[.int .i64 (swapB a b pay 0), .int .i64 (swapA a b pay 0), .int .i64 pay] w fun e w' => e = .returned (.tuple #[.int .i64 b, .int .i64 a, .int .i64 0]) ∧ Below w.heap.size w w' := by
    intro h w
    rcases t2 with t | t
    · obtain ⟨-, e1, e2, p0, -, p1, -, p2, p3⟩ := t
      rw [e1, e2]
      refine (pay_any _ _ pay w (by omega) (by omega) (by omega) (by omega)).mono ?_
      rintro e w' ⟨rfl, hb⟩
      refine ⟨?_, hb⟩
      have q : swapE (b - 0 + pay) (a - pay + 0) pay 0 = 0 := by
        unfold swapE; rw [if_neg (by omega), if_neg (by omega), if_pos (by omega)]
      unfold swapA swapB
      rw [q]
      simp only [if_true]
      rw [show b - 0 + pay - pay + 0 = b by omega, show a - pay + 0 - 0 + pay = a by omega]
    · omega
  have BK := Lib.hid bk
  clear bk t2
  generalize swapA a b pay 0 = U at *
  generalize swapB a b pay 0 = V at *
  generalize swapE a b pay 0 = F at *
  have S1 := Lib.hid s1
  have S2 := Lib.hid s2
  have S3 := Lib.hid s3
  clear s1 s2 s3
  obtain ⟨x0, x1, y0, y1⟩ := x0
  have ab : a + b ≤ 2147483648 := by omega
  by_cases hE : E = 0
  · clear xs
    subst hE
    by_cases hF : F = 0
    · subst hF
      have BK2 := Lib.hid (BK.out rfl)
      clear BK
      go_enter Try.func4, Try.ntmps4
      go_wp2_with fail
      refine (awake_any _).mono ?_
      rintro e w1 ⟨rfl, b1⟩
      go_wp2_with fail
      refine (refis_any _ _).mono ?_
      rintro e w' ⟨rfl, rfl⟩
      rw [A1.out]
      go_wp2_with fail
      refine (refis_any _ _).mono ?_
      rintro e w' ⟨rfl, rfl⟩
      rw [B1.out]
      go_wp2_with fail
      refine (S1.out _).mono ?_
      rintro e w2 ⟨rfl, b2⟩
      go_wp2_with fail
      refine (is_any _ _).mono ?_
      rintro e w' ⟨rfl, rfl⟩
      rw [X1.out]
      go_wp2_with fail
      refine (is_any _ _).mono ?_
      rintro e w' ⟨rfl, rfl⟩
      rw [Y1.out]
      go_wp2_with fail
      refine (S3.out _).mono ?_
      rintro e w3 ⟨rfl, b3⟩
      go_wp2_with fail
      refine (S2.out _).mono ?_
      rintro e w4 ⟨rfl, b4⟩
      go_wp2_with fail
      refine (BK2.out _).mono ?_
      rintro e w5 ⟨rfl, b5⟩
      go_wp2_with fail
      go_ret
      exact ⟨rfl, bl (bl (bl (bl b1 b2) b3) b4) b5⟩
    · clear BK
      go_enter Try.func4, Try.ntmps4
      go_wp2_with fail
      refine (awake_any _).mono ?_
      rintro e w1 ⟨rfl, b1⟩
      go_wp2_with fail
      refine (refis_any _ _).mono ?_
      rintro e w' ⟨rfl, rfl⟩
      rw [A1.out]
      go_wp2_with fail
      refine (refis_any _ _).mono ?_
      rintro e w' ⟨rfl, rfl⟩
      rw [B1.out]
      go_wp2_with fail
      refine (S1.out _).mono ?_
      rintro e w2 ⟨rfl, b2⟩
      go_wp2_with fail
      refine (is_any _ _).mono ?_
      rintro e w' ⟨rfl, rfl⟩
      rw [X1.out]
      go_wp2_with fail
      refine (is_any _ _).mono ?_
      rintro e w' ⟨rfl, rfl⟩
      rw [Y1.out]
      go_wp2_with fail
      refine (S3.out _).mono ?_
      rintro e w3 ⟨rfl, b3⟩
      go_wp2_with fail
      refine (S2.out _).mono ?_
      rintro e w4 ⟨rfl, b4⟩
      go_wp2_with fail
      go_ret
      exact ⟨rfl, bl (bl (bl b1 b2) b3) b4⟩
  · obtain ⟨rfl, rfl⟩ := xs hE
    clear xs xy
    by_cases hF : F = 0
    · subst hF
      have BK2 := Lib.hid (BK.out rfl)
      clear BK
      go_enter Try.func4, Try.ntmps4
      go_wp2_with fail
      refine (awake_any _).mono ?_
      rintro e w1 ⟨rfl, b1⟩
      go_wp2_with fail
      refine (refis_any _ _).mono ?_
      rintro e w' ⟨rfl, rfl⟩
      rw [A1.out]
      go_wp2_with fail
      refine (refis_any _ _).mono ?_
      rintro e w' ⟨rfl, rfl⟩
      rw [B1.out]
      go_wp2_with fail
      refine (S1.out _).mono ?_
      rintro e w2 ⟨rfl, b2⟩
      go_wp2_with fail
      refine (is_any _ _).mono ?_
      rintro e w' ⟨rfl, rfl⟩
      rw [X1.out]
      go_wp2_with fail
      refine (is_any _ _).mono ?_
      rintro e w' ⟨rfl, rfl⟩
      rw [Y1.out]
      go_wp2_with fail
      refine (S3.out _).mono ?_
      rintro e w3 ⟨rfl, b3⟩
      go_wp2_with fail
      refine (S2.out _).mono ?_
      rintro e w4 ⟨rfl, b4⟩
      go_wp2_with fail
      refine (BK2.out _).mono ?_
      rintro e w5 ⟨rfl, b5⟩
      go_wp2_with fail
      go_ret
      exact ⟨rfl, bl (bl (bl (bl b1 b2) b3) b4) b5⟩
    · clear BK
      go_enter Try.func4, Try.ntmps4
      go_wp2_with fail
      refine (awake_any _).mono ?_
      rintro e w1 ⟨rfl, b1⟩
      go_wp2_with fail
      refine (refis_any _ _).mono ?_
      rintro e w' ⟨rfl, rfl⟩
      rw [A1.out]
      go_wp2_with fail
      refine (refis_any _ _).mono ?_
      rintro e w' ⟨rfl, rfl⟩
      rw [B1.out]
      go_wp2_with fail
      refine (S1.out _).mono ?_
      rintro e w2 ⟨rfl, b2⟩
      go_wp2_with fail
      refine (is_any _ _).mono ?_
      rintro e w' ⟨rfl, rfl⟩
      rw [X1.out]
      go_wp2_with fail
      refine (is_any _ _).mono ?_
      rintro e w' ⟨rfl, rfl⟩
      rw [Y1.out]
      go_wp2_with fail
      refine (S3.out _).mono ?_
      rintro e w3 ⟨rfl, b3⟩
      go_wp2_with fail
      refine (S2.out _).mono ?_
      rintro e w4 ⟨rfl, b4⟩
      go_wp2_with fail
      go_ret
      exact ⟨rfl, bl (bl (bl b1 b2) b3) b4⟩

theorem walk_coinKeeps (a b pay fee : Int) (w0 : (Lit.int .i64 a).wf = true) (w1 : (Lit.int .i64 b).wf = true) (w2 : (Lit.int .i64 pay).wf = true) (w3 : (Lit.int .i64 fee).wf = true) (w : World) :
    Calls Try.prog 4 #[.int .i64 a, .int .i64 b, .int .i64 pay, .int .i64 fee] w fun e w' => e = .returned (.bool true) ∧ Below w.heap.size w w' := by
  by_cases h : (0 ≤ a ∧ a ≤ 1073741824) ∧ (0 ≤ b ∧ b ≤ 1073741824)
  · exact walk_coinKeeps_yes a b pay fee w h.1.1 h.1.2 h.2.1 h.2.2
  · exact walk_coinKeeps_no a b pay fee w (by omega)

theorem own_coinKeeps : ownKnob Try.prog.godebug = none := by kernel_rfl
set_option maxRecDepth 100000 in
theorem lifted_coinKeeps (os : Os) (started : os.Started) (H : Type) (enc : TypeId × Value → H) :
    ReturnsInHanded {} Try.checked os 4 .any (Rows.coinKeepsSpec.pre6 enc Try.prog Try.f4 Rows.coinKeepsRow.domain false) (Rows.coinKeepsSpec.post enc Try.prog Try.f4 false true false false) := by
  refine returnsInHanded_of_change (C := Try.checked) own_coinKeeps started (by kernel_rfl) Try.func4
    (ChangeSpec.witness6 (enc := enc) (C := Try.checked) false ⟨#[], #[.int .i64 0, .int .i64 0, .int .i64 0, .int .i64 0], []⟩ 8 (by kernel_rfl) (by kernel_rfl) (by kernel_rfl) (by kernel_rfl)) ?_
  intro W base args ds gs before hval0 hW hcnd _
  have hval : ∀ (j : Nat) t v, Try.f4.params[j]? = some t → args[j]? = some v → Value.okWide Try.prog W .any base t v := hval0
  have hW' := hW
  obtain ⟨p, q, hA0, hV, rfl, hfz, hnd⟩ := hW
  have hA : DataW.TrodAll enc Try.prog W 0 (fun _ => true) true Try.f4.params.toList args.toList ds p := hA0
  rw [Try.params4] at hA hval
  obtain ⟨v0, vs0, d0, ds0, p0, q0, hargs, rfl, rfl, h0, r0⟩ := trodAll_cons hA
  obtain ⟨v1, vs1, d1, ds1, p1, q1, rfl, rfl, rfl, h1, r1⟩ := trodAll_cons r0
  obtain ⟨v2, vs2, d2, ds2, p2, q2, rfl, rfl, rfl, h2, r2⟩ := trodAll_cons r1
  obtain ⟨v3, vs3, d3, ds3, p3, q3, rfl, rfl, rfl, h3, r3⟩ := trodAll_cons r2
  obtain ⟨rfl, rfl, rfl⟩ := trodAll_nil r3
  obtain rfl : args = #[v0, v1, v2, v3] := by cases args; simp_all
  obtain ⟨rfl, rfl⟩ := trodVars_none hV
  obtain ⟨a0, rfl, rfl, rfl, w0⟩ := open_int Try.underlying3 (hval 0 3 v0 rfl rfl) h0
  obtain ⟨a1, rfl, rfl, rfl, w1⟩ := open_int Try.underlying3 (hval 1 3 v1 rfl rfl) h1
  obtain ⟨a2, rfl, rfl, rfl, w2⟩ := open_int Try.underlying3 (hval 2 3 v2 rfl rfl) h2
  obtain ⟨a3, rfl, rfl, rfl, w3⟩ := open_int Try.underlying3 (hval 3 3 v3 rfl rfl) h3
  clear hA0 hval0
  simp only [List.append_nil] at hW'
  refine (walk_coinKeeps a0 a1 a2 a3 w0 w1 w2 w3 W).mono fun e W' ⟨he, hg⟩ => ?_
  subst he
  exact ⟨_, rfl, law_post (by kernel_rfl) rfl (by rw [Try.params4]; decide +kernel) rfl rfl Try.underlying4 hW' hg⟩

/-- ████ THE STATEMENT ████ -/
theorem proved_coinKeeps : Rows.CoinKeepsSaid :=
  OpenClaim.holds_of_wide 4 Try.f4 rfl rfl rfl rfl rfl rfl rfl ⟨rfl, rfl, rfl, rfl, rfl⟩ rfl rfl rfl rfl rfl (by kernel_rfl) Try.func4 (by kernel_rfl)
    (of_decide_eq_true (by kernel_rfl)) (by unfold Func.isWrapper; first | (rw [if_pos (by decide +kernel)]; kernel_rfl) | (rw [if_neg (by decide +kernel)]; exact ⟨rfl, rfl⟩))
    (fun os started H enc _ => lifted_coinKeeps os started H enc)
#print axioms proved_coinKeeps
end Go.Proofs.Yticfdfggjnejdaa
