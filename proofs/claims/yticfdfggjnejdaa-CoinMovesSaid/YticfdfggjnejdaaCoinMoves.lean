/- CoinMoves: for every input, of purses Pay and Swap answer as the document's own definitions do, and Is tells purses: the statement answers true. No condition. -/
import Derived.Test.YticfdfggjnejdaaRows
import Derived.Test.YticfdfggjnejdaaCoinKeeps
import Derived.WalkKit
import Derived.ProofKit
import Derived.OpenShut
import Derived.IntWalk
namespace Go.Proofs.Yticfdfggjnejdaa
open Go.ChangeShapes Go.WideShapes Go.ChangeAt Go.RowKit
set_option linter.unusedVariables false

theorem walk_coinMoves (a b pay fee : Int) (w0 : (Lit.int .i64 a).wf = true) (w1 : (Lit.int .i64 b).wf = true) (w2 : (Lit.int .i64 pay).wf = true) (w3 : (Lit.int .i64 fee).wf = true) (w : World) :
    Calls Try.prog 3 #[.int .i64 a, .int .i64 b, .int .i64 pay, .int .i64 fee] w fun e w' => e = .returned (.bool true) ∧ Below w.heap.size w w' := by
  clear w0 w1 w2 w3
  by_cases ha : 0 ≤ a ∧ a ≤ 1073741824
  · have A1 := Lib.hid (yes_isB ha)
    by_cases hb : 0 ≤ b ∧ b ≤ 1073741824
    · have B1 := Lib.hid (yes_isB hb)
      obtain ⟨ha0, ha1⟩ := ha
      obtain ⟨hb0, hb1⟩ := hb
      go_enter Try.func3, Try.ntmps3
      go_wp2_with fail
      refine (awake_any _).mono ?_
      rintro e w1 ⟨rfl, b1⟩
      go_wp2_with fail
      refine (is_any _ _).mono ?_
      rintro e w' ⟨rfl, rfl⟩
      rw [A1.out]
      go_wp2_with fail
      refine (refis_any _ _).mono ?_
      rintro e w' ⟨rfl, rfl⟩
      rw [A1.out]
      go_wp2_with fail
      refine (refis_any _ _).mono ?_
      rintro e w' ⟨rfl, rfl⟩
      rw [A1.out]
      go_wp2_with fail
      refine (refis_any _ _).mono ?_
      rintro e w' ⟨rfl, rfl⟩
      rw [B1.out]
      go_wp2_with fail
      refine (pay_any a b pay _ ha0 ha1 hb0 hb1).mono ?_
      rintro e w2 ⟨rfl, b2⟩
      go_wp2_with fail
      refine (refpay_any a b pay _ ha0 ha1 hb0 hb1).mono ?_
      rintro e w' ⟨rfl, rfl⟩
      go_wp2_with fail
      refine (swap_any a b pay fee _ ha0 ha1 hb0 hb1).mono ?_
      rintro e w3 ⟨rfl, b3⟩
      go_wp2_with fail
      refine (refswap_any a b pay fee _ ha0 ha1 hb0 hb1).mono ?_
      rintro e w' ⟨rfl, rfl⟩
      go_wp2_with fail
      go_ret
      exact ⟨rfl, bl (bl b1 b2) b3⟩
    · have B1 := Lib.hid (no_isB hb)
      clear hb ha
      go_enter Try.func3, Try.ntmps3
      go_wp2_with fail
      refine (awake_any _).mono ?_
      rintro e w1 ⟨rfl, b1⟩
      go_wp2_with fail
      refine (is_any _ _).mono ?_
      rintro e w' ⟨rfl, rfl⟩
      rw [A1.out]
      go_wp2_with fail
      refine (refis_any _ _).mono ?_
      rintro e w' ⟨rfl, rfl⟩
      rw [A1.out]
      go_wp2_with fail
      refine (refis_any _ _).mono ?_
      rintro e w' ⟨rfl, rfl⟩
      rw [A1.out]
      go_wp2_with fail
      refine (refis_any _ _).mono ?_
      rintro e w' ⟨rfl, rfl⟩
      rw [B1.out]
      go_wp2_with fail
      go_ret
      exact ⟨rfl, b1⟩
  · have A1 := Lib.hid (no_isB ha)
    clear ha
    go_enter Try.func3, Try.ntmps3
    go_wp2_with fail
    refine (awake_any _).mono ?_
    rintro e w1 ⟨rfl, b1⟩
    go_wp2_with fail
    refine (is_any _ _).mono ?_
    rintro e w' ⟨rfl, rfl⟩
    rw [A1.out]
    go_wp2_with fail
    refine (refis_any _ _).mono ?_
    rintro e w' ⟨rfl, rfl⟩
    rw [A1.out]
    go_wp2_with fail
    refine (refis_any _ _).mono ?_
    rintro e w' ⟨rfl, rfl⟩
    rw [A1.out]
    go_wp2_with fail
    go_ret
    exact ⟨rfl, b1⟩

theorem own_coinMoves : ownKnob Try.prog.godebug = none := by kernel_rfl
set_option maxRecDepth 100000 in
theorem lifted_coinMoves (os : Os) (started : os.Started) (H : Type) (enc : TypeId × Value → H) :
    ReturnsInHanded {} Try.checked os 3 .any (Rows.coinMovesSpec.pre6 enc Try.prog Try.f3 Rows.coinMovesRow.domain false) (Rows.coinMovesSpec.post enc Try.prog Try.f3 false true false false) := by
  refine returnsInHanded_of_change (C := Try.checked) own_coinMoves started (by kernel_rfl) Try.func3
    (ChangeSpec.witness6 (enc := enc) (C := Try.checked) false ⟨#[], #[.int .i64 0, .int .i64 0, .int .i64 0, .int .i64 0], []⟩ 8 (by kernel_rfl) (by kernel_rfl) (by kernel_rfl) (by kernel_rfl)) ?_
  intro W base args ds gs before hval0 hW hcnd _
  have hval : ∀ (j : Nat) t v, Try.f3.params[j]? = some t → args[j]? = some v → Value.okWide Try.prog W .any base t v := hval0
  have hW' := hW
  obtain ⟨p, q, hA0, hV, rfl, hfz, hnd⟩ := hW
  have hA : DataW.TrodAll enc Try.prog W 0 (fun _ => true) true Try.f3.params.toList args.toList ds p := hA0
  rw [Try.params3] at hA hval
  obtain ⟨v0, vs0, d0, ds0, p0, q0, hargs, rfl, rfl, h0, r0⟩ := trodAll_cons hA
  obtain ⟨v1, vs1, d1, ds1, p1, q1, rfl, rfl, rfl, h1, r1⟩ := trodAll_cons r0
  obtain ⟨v2, vs2, d2, ds2, p2, q2, rfl, rfl, rfl, h2, r2⟩ := trodAll_cons r1
  obtain ⟨v3, vs3, d3, ds3, p3, q3, rfl, rfl, rfl, h3, r3⟩ := trodAll_cons r2
  obtain ⟨rfl, rfl, rfl⟩ := trodAll_nil r3
  obtain rfl : args = #[v0, v1, v2, v3] := by cases args; simp_all
  obtain ⟨rfl, rfl⟩ := trodVars_none hV
  obtain ⟨a0, rfl, rfl, rfl, w0⟩ := open_int Try.underlying3 (hval 0 3 v0 rfl rfl) h0
  obtain ⟨a1, rfl, rfl, rfl, w1⟩ := open_int Try.underlying3 (hval 1 3 v1 rfl rfl) h1
  obtain ⟨a2, rfl, rfl, rfl, w2⟩ := open_int Try.underlying3 (hval 2 3 v2 rfl rfl) h2
  obtain ⟨a3, rfl, rfl, rfl, w3⟩ := open_int Try.underlying3 (hval 3 3 v3 rfl rfl) h3
  clear hA0 hval0
  simp only [List.append_nil] at hW'
  refine (walk_coinMoves a0 a1 a2 a3 w0 w1 w2 w3 W).mono fun e W' ⟨he, hg⟩ => ?_
  subst he
  exact ⟨_, rfl, law_post (by kernel_rfl) rfl (by rw [Try.params3]; decide +kernel) rfl rfl Try.underlying4 hW' hg⟩

/-- ████ THE STATEMENT ████ -/
theorem proved_coinMoves : Rows.CoinMovesSaid :=
  OpenClaim.holds_of_wide 3 Try.f3 rfl rfl rfl rfl rfl rfl rfl ⟨rfl, rfl, rfl, rfl, rfl⟩ rfl rfl rfl rfl rfl (by kernel_rfl) Try.func3 (by kernel_rfl)
    (of_decide_eq_true (by kernel_rfl)) (by unfold Func.isWrapper; first | (rw [if_pos (by decide +kernel)]; kernel_rfl) | (rw [if_neg (by decide +kernel)]; exact ⟨rfl, rfl⟩))
    (fun os started H enc _ => lifted_coinMoves os started H enc)
#print axioms proved_coinMoves
end Go.Proofs.Yticfdfggjnejdaa
