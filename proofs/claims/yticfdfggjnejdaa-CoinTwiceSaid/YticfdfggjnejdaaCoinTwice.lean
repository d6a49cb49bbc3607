/- CoinTwice: for every input, two payments one behind the other come to what one of both together does: the statement answers true. No condition. -/
import Derived.Test.YticfdfggjnejdaaRows
import Derived.Test.YticfdfggjnejdaaCoinKeeps
import Derived.WalkKit
import Derived.ProofKit
import Derived.OpenShut
import Derived.IntWalk
namespace Go.Proofs.Yticfdfggjnejdaa
open Go.ChangeShapes Go.WideShapes Go.ChangeAt Go.RowKit
set_option linter.unusedVariables false

theorem walk_coinTwice_no (a b m n : Int) (w : World) (h : ¬ (0 ≤ a ∧ a ≤ 1073741824) ∨ ¬ (0 ≤ b ∧ b ≤ 1073741824)) :
    Calls Try.prog 6 #[.int .i64 a, .int .i64 b, .int .u32 m, .int .u32 n] w fun e w' => e = .returned (.bool true) ∧ Below w.heap.size w w' := by
  by_cases ha : 0 ≤ a ∧ a ≤ 1073741824
  · have A1 := Lib.hid (yes_isB ha)
    have B1 := Lib.hid (no_isB (n := b) (by omega))
    clear ha h
    go_enter Try.func6, Try.ntmps6
    go_wp2_with fail
    refine (awake_any _).mono ?_
    rintro e w1 ⟨rfl, b1⟩
    go_wp2_with fail
    refine (refis_any _ _).mono ?_
    rintro e w' ⟨rfl, rfl⟩
    rw [A1.out]
    go_wp2_with fail
    refine (refis_any _ _).mono ?_
    rintro e w' ⟨rfl, rfl⟩
    rw [B1.out]
    go_wp2_with fail
    refine (awake_any _).mono ?_
    rintro e w2 ⟨rfl, b2⟩
    go_wp2_with fail
    go_ret
    exact ⟨rfl, bl b1 b2⟩
  · have A1 := Lib.hid (no_isB ha)
    clear ha h
    go_enter Try.func6, Try.ntmps6
    go_wp2_with fail
    refine (awake_any _).mono ?_
    rintro e w1 ⟨rfl, b1⟩
    go_wp2_with fail
    refine (refis_any _ _).mono ?_
    rintro e w' ⟨rfl, rfl⟩
    rw [A1.out]
    go_wp2_with fail
    refine (awake_any _).mono ?_
    rintro e w2 ⟨rfl, b2⟩
    go_wp2_with fail
    go_ret
    exact ⟨rfl, bl b1 b2⟩

/-- A payment, and a second one, beside one of both. -/
theorem pay_twice (a b m n : Int) (a0 : 0 ≤ a) (a1 : a ≤ 1073741824) (b0 : 0 ≤ b) (b1 : b ≤ 1073741824) (m0 : 0 ≤ m) (n0 : 0 ≤ n) (h : swapE a b m 0 = 0) :
    0 ≤ swapA a b m 0 ∧ swapA a b m 0 ≤ 1073741824 ∧ 0 ≤ swapB a b m 0 ∧ swapB a b m 0 ≤ 1073741824 ∧
    swapE (swapA a b m 0) (swapB a b m 0) n 0 = swapE a b (m + n) 0 ∧
    (swapE a b (m + n) 0 = 0 → swapA (swapA a b m 0) (swapB a b m 0) n 0 = swapA a b (m + n) 0 ∧ swapB (swapA a b m 0) (swapB a b m 0) n 0 = swapB a b (m + n) 0) := by
  rcases swap_two a b m 0 a0 a1 b0 b1 with t | t
  · obtain ⟨-, e1, e2, p0, -, p1, -, p2, p3⟩ := t
    rw [e1, e2]
    have key : swapE (a - m + 0) (b - 0 + m) n 0 = swapE a b (m + n) 0 := by
      have f1 : ¬ (n < 0 ∨ (0 : Int) < 0) := by omega
      have f2 : ¬ (m + n < 0 ∨ (0 : Int) < 0) := by omega
      have c1 : (a - m + 0 < n ∨ b - 0 + m < 0) ↔ (a < m + n ∨ b < 0) := by omega
      have c2 : (a - m + 0 - n + 0 ≤ 1073741824 ∧ b - 0 + m - 0 + n ≤ 1073741824) ↔ (a - (m + n) + 0 ≤ 1073741824 ∧ b - 0 + (m + n) ≤ 1073741824) := by omega
      unfold swapE
      simp only [f1, f2, c1, c2]
    refine ⟨by omega, by omega, by omega, by omega, key, fun h0 => ?_⟩
    have h1 := key.trans h0
    unfold swapA swapB
    rw [h0, h1]
    simp only [if_true]
    exact ⟨by omega, by omega⟩
  · omega

theorem walk_coinTwice_yes (a b m n : Int) (w : World) (a0 : 0 ≤ a) (a1 : a ≤ 1073741824) (b0 : 0 ≤ b) (b1 : b ≤ 1073741824) (m0 : 0 ≤ m) (m1 : m ≤ 4294967295) (n0 : 0 ≤ n) (n1 : n ≤ 4294967295) :
    Calls Try.prog 6 #[.int .i64 a, .int .i64 b, .int .u32 m, .int .u32 n] w fun e w' => e = .returned (.bool true) ∧ Below w.heap.size w w' := by
  have A1 := Lib.hid (yes_isB ⟨a0, a1⟩)
  have B1 := Lib.hid (yes_isB ⟨b0, b1⟩)
  have t1 := swap_two a b m 0 a0 a1 b0 b1
  have t2 := pay_twice a b m n a0 a1 b0 b1 m0 n0
  have s1 := fun w => pay_any a b m w a0 a1 b0 b1
  have s2 := fun w => pay_any a b (m + n) w a0 a1 b0 b1
  have s3 : swapE a b m 0 = 0 → ∀ w, Calls Try.prog 11 #[.int .i64 (swapA a b m 0), .int .i64 (swapB a b m 0), .int .i64 n] w fun e w' => e = .returned (.tuple #[.int .i64 (swapA (swapA a b m 0) (swapB a b m 0) n 0), .int .i64 (swapB (swapA a b m 0) (swapB a b m 0) n 0), .int .i64 (swapE (swapA a b m 0) (swapB a b m 0) n 0)]) ∧ Below w.heap.size w w' :=
    fun h w => pay_any _ _ n w (t2 h).1 (t2 h).2.1 (t2 h).2.2.1 (t2 h).2.2.2.1
  have t3 : swapE a b m 0 = 0 → swapE (swapA a b m 0) (swapB a b m 0) n 0 = swapE a b (m + n) 0 := fun h => (t2 h).2.2.2.2.1
  have t4 : swapE a b m 0 = 0 → swapE a b (m + n) 0 = 0 → swapA (swapA a b m 0) (swapB a b m 0) n 0 = swapA a b (m + n) 0 ∧ swapB (swapA a b m 0) (swapB a b m 0) n 0 = swapB a b (m + n) 0 := fun h => (t2 h).2.2.2.2.2
  have t5 : ¬ swapE a b m 0 = 0 → swapA a b m 0 = a ∧ swapB a b m 0 = b := by rcases t1 with h | h <;> omega
  clear t2 t1
  generalize swapA (swapA a b m 0) (swapB a b m 0) n 0 = U at *
  generalize swapB (swapA a b m 0) (swapB a b m 0) n 0 = V at *
  generalize swapE (swapA a b m 0) (swapB a b m 0) n 0 = F at *
  generalize swapA a b (m + n) 0 = C at *
  generalize swapB a b (m + n) 0 = D at *
  generalize swapE a b (m + n) 0 = G at *
  generalize swapA a b m 0 = X at *
  generalize swapB a b m 0 = Y at *
  generalize swapE a b m 0 = E at *
  by_cases hE : E = 0
  · subst hE
    obtain rfl := t3 rfl
    have t6 := t4 rfl
    have S3 := Lib.hid (s3 rfl)
    have S1 := Lib.hid s1
    have S2 := Lib.hid s2
    clear s1 s2 s3 t3 t4 t5
    by_cases hF : F = 0
    · subst hF
      obtain ⟨rfl, rfl⟩ := t6 rfl
      clear t6
      go_enter Try.func6, Try.ntmps6
      go_wp2_with fail
      refine (awake_any _).mono ?_
      rintro e w1 ⟨rfl, b1⟩
      go_wp2_with fail
      refine (refis_any _ _).mono ?_
      rintro e w' ⟨rfl, rfl⟩
      rw [A1.out]
      go_wp2_with fail
      refine (refis_any _ _).mono ?_
      rintro e w' ⟨rfl, rfl⟩
      rw [B1.out]
      go_wp2_with fail
      refine (S1.out _).mono ?_
      rintro e w2 ⟨rfl, b2⟩
      go_wp2_with fail
      refine (S3.out _).mono ?_
      rintro e w3 ⟨rfl, b3⟩
      go_wp2_with fail
      refine (S2.out _).mono ?_
      rintro e w4 ⟨rfl, b4⟩
      go_wp2_with fail
      go_ret
      exact ⟨rfl, bl (bl (bl b1 b2) b3) b4⟩
    · clear t6
      go_enter Try.func6, Try.ntmps6
      go_wp2_with fail
      refine (awake_any _).mono ?_
      rintro e w1 ⟨rfl, b1⟩
      go_wp2_with fail
      refine (refis_any _ _).mono ?_
      rintro e w' ⟨rfl, rfl⟩
      rw [A1.out]
      go_wp2_with fail
      refine (refis_any _ _).mono ?_
      rintro e w' ⟨rfl, rfl⟩
      rw [B1.out]
      go_wp2_with fail
      refine (S1.out _).mono ?_
      rintro e w2 ⟨rfl, b2⟩
      go_wp2_with fail
      refine (S3.out _).mono ?_
      rintro e w3 ⟨rfl, b3⟩
      go_wp2_with fail
      refine (S2.out _).mono ?_
      rintro e w4 ⟨rfl, b4⟩
      go_wp2_with fail
      go_ret
      exact ⟨rfl, bl (bl (bl b1 b2) b3) b4⟩
  · obtain ⟨rfl, rfl⟩ := t5 hE
    have S1 := Lib.hid s1
    clear s1 s2 s3 t3 t4 t5
    go_enter Try.func6, Try.ntmps6
    go_wp2_with fail
    refine (awake_any _).mono ?_
    rintro e w1 ⟨rfl, b1⟩
    go_wp2_with fail
    refine (refis_any _ _).mono ?_
    rintro e w' ⟨rfl, rfl⟩
    rw [A1.out]
    go_wp2_with fail
    refine (refis_any _ _).mono ?_
    rintro e w' ⟨rfl, rfl⟩
    rw [B1.out]
    go_wp2_with fail
    refine (S1.out _).mono ?_
    rintro e w2 ⟨rfl, b2⟩
    go_wp2_with fail
    go_ret
    exact ⟨rfl, bl b1 b2⟩

theorem walk_coinTwice (a b m n : Int) (w0 : (Lit.int .i64 a).wf = true) (w1 : (Lit.int .i64 b).wf = true) (w2 : (Lit.int .u32 m).wf = true) (w3 : (Lit.int .u32 n).wf = true) (w : World) :
    Calls Try.prog 6 #[.int .i64 a, .int .i64 b, .int .u32 m, .int .u32 n] w fun e w' => e = .returned (.bool true) ∧ Below w.heap.size w w' := by
  have e2 : 0 ≤ m ∧ m ≤ 4294967295 := wf_u32 w2
  have e3 : 0 ≤ n ∧ n ≤ 4294967295 := wf_u32 w3
  by_cases h : (0 ≤ a ∧ a ≤ 1073741824) ∧ (0 ≤ b ∧ b ≤ 1073741824)
  · exact walk_coinTwice_yes a b m n w h.1.1 h.1.2 h.2.1 h.2.2 e2.1 e2.2 e3.1 e3.2
  · exact walk_coinTwice_no a b m n w (by omega)

theorem own_coinTwice : ownKnob Try.prog.godebug = none := by kernel_rfl
set_option maxRecDepth 100000 in
theorem lifted_coinTwice (os : Os) (started : os.Started) (H : Type) (enc : TypeId × Value → H) :
    ReturnsInHanded {} Try.checked os 6 .any (Rows.coinTwiceSpec.pre6 enc Try.prog Try.f6 Rows.coinTwiceRow.domain false) (Rows.coinTwiceSpec.post enc Try.prog Try.f6 false true false false) := by
  refine returnsInHanded_of_change (C := Try.checked) own_coinTwice started (by kernel_rfl) Try.func6
    (ChangeSpec.witness6 (enc := enc) (C := Try.checked) false ⟨#[], #[.int .i64 0, .int .i64 0, .int .u32 0, .int .u32 0], []⟩ 8 (by kernel_rfl) (by kernel_rfl) (by kernel_rfl) (by kernel_rfl)) ?_
  intro W base args ds gs before hval0 hW hcnd _
  have hval : ∀ (j : Nat) t v, Try.f6.params[j]? = some t → args[j]? = some v → Value.okWide Try.prog W .any base t v := hval0
  have hW' := hW
  obtain ⟨p, q, hA0, hV, rfl, hfz, hnd⟩ := hW
  have hA : DataW.TrodAll enc Try.prog W 0 (fun _ => true) true Try.f6.params.toList args.toList ds p := hA0
  rw [Try.params6] at hA hval
  obtain ⟨v0, vs0, d0, ds0, p0, q0, hargs, rfl, rfl, h0, r0⟩ := trodAll_cons hA
  obtain ⟨v1, vs1, d1, ds1, p1, q1, rfl, rfl, rfl, h1, r1⟩ := trodAll_cons r0
  obtain ⟨v2, vs2, d2, ds2, p2, q2, rfl, rfl, rfl, h2, r2⟩ := trodAll_cons r1
  obtain ⟨v3, vs3, d3, ds3, p3, q3, rfl, rfl, rfl, h3, r3⟩ := trodAll_cons r2
  obtain ⟨rfl, rfl, rfl⟩ := trodAll_nil r3
  obtain rfl : args = #[v0, v1, v2, v3] := by cases args; simp_all
  obtain ⟨rfl, rfl⟩ := trodVars_none hV
  obtain ⟨a0, rfl, rfl, rfl, w0⟩ := open_int Try.underlying3 (hval 0 3 v0 rfl rfl) h0
  obtain ⟨a1, rfl, rfl, rfl, w1⟩ := open_int Try.underlying3 (hval 1 3 v1 rfl rfl) h1
  obtain ⟨a2, rfl, rfl, rfl, w2⟩ := open_int Try.underlying35 (hval 2 35 v2 rfl rfl) h2
  obtain ⟨a3, rfl, rfl, rfl, w3⟩ := open_int Try.underlying35 (hval 3 35 v3 rfl rfl) h3
  clear hA0 hval0
  simp only [List.append_nil] at hW'
  refine (walk_coinTwice a0 a1 a2 a3 w0 w1 w2 w3 W).mono fun e W' ⟨he, hg⟩ => ?_
  subst he
  exact ⟨_, rfl, law_post (by kernel_rfl) rfl (by rw [Try.params6]; decide +kernel) rfl rfl Try.underlying4 hW' hg⟩

/-- ████ THE STATEMENT ████ -/
theorem proved_coinTwice : Rows.CoinTwiceSaid :=
  OpenClaim.holds_of_wide 6 Try.f6 rfl rfl rfl rfl rfl rfl rfl ⟨rfl, rfl, rfl, rfl, rfl⟩ rfl rfl rfl rfl rfl (by kernel_rfl) Try.func6 (by kernel_rfl)
    (of_decide_eq_true (by kernel_rfl)) (by unfold Func.isWrapper; first | (rw [if_pos (by decide +kernel)]; kernel_rfl) | (rw [if_neg (by decide +kernel)]; exact ⟨rfl, rfl⟩))
    (fun os started H enc _ => lifted_coinTwice os started H enc)
#print axioms proved_coinTwice
end Go.Proofs.Yticfdfggjnejdaa
