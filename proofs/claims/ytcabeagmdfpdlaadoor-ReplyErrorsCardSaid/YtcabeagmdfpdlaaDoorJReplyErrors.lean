/- ReplyErrors: for every answer and every two errors: each error has a text of its own, that isn't the text of anything else: the statement answers true. No condition but that the program's and the library's tables lie as their text lays them (tied). -/
import Derived.Test.YtcabeagmdfpdlaaDoorRows
import Derived.Test.YtcabeagmdfpdlaaDoorKit
import Derived.Test.YtcabeagmdfpdlaaDoorStrs
import Derived.Test.YtcabeagmdfpdlaaDoorJTab
import Derived.Test.YtcabeagmdfpdlaaDoorJBlk
import Derived.Test.YtcabeagmdfpdlaaDoorJMath
import Derived.Test.YtcabeagmdfpdlaaDoorJNum
import Derived.Test.YtcabeagmdfpdlaaDoorJTokWord
import Derived.Test.YtcabeagmdfpdlaaDoorJTokJoin
import Derived.Test.YtcabeagmdfpdlaaDoorJCmdNames1
import Derived.Test.YtcabeagmdfpdlaaDoorJRepMath
import Derived.Test.YtcabeagmdfpdlaaDoorJRepItems
import Derived.Test.YtcabeagmdfpdlaaDoorJRepSame
import Derived.Test.YtcabeagmdfpdlaaDoorJRepWords
import Derived.Test.YtcabeagmdfpdlaaDoorJRepPut
import Derived.Test.YtcabeagmdfpdlaaDoorJRepPut3
import Derived.Test.YtcabeagmdfpdlaaDoorJRepRead1
import Derived.Test.YtcabeagmdfpdlaaDoorJRepGet
import Derived.Test.YtcabeagmdfpdlaaDoorJRepAwake
import Derived.Test.YtcabeagmdfpdlaaDoorJRepArg
import Derived.Test.YtcabeagmdfpdlaaDoorJRepLaw
import Derived.Test.YtcabeagmdfpdlaaDoorTie
import Derived.Test.YtcabeagmdfpdlaaDoorCards
import Derived.Lay
import Derived.SevenTiedAt
import Derived.MakeChecks
import Derived.WalkKit
import Derived.ProofKit
import Derived.OpenShut
import Derived.IntWalk
namespace Go.Proofs.YtcabeagmdfpdlaaDoor
open Go.ChangeShapes Go.WideShapes Go.ChangeAt Go.RowKit
set_option linter.unusedVariables false
open Go.RowKit Go
theorem err_may {n : Int} (h1 : 1 ≤ n) (h2 : n ≤ 13) : rmayB ⟨n, 0, 0, [], [], 0⟩ = true := by
  have hn : ¬ n = 0 := by omega
  simp [rmayB, someB, rwithinB, ownR, hn, rsameB, areB, okN, plB, itB]
  omega
set_option maxRecDepth 100000 in
set_option maxHeartbeats 2000000 in
theorem walk_replyErrors (c : Rp) (ga wa : Option Addr) (gc wc : Nat) (a b : Int) (w : World) (ha : (Lit.int .u8 a).wf = true) (hb : (Lit.int .u8 b).wf = true) (h1 : IntsAt w ga c.players) (h2 : SnsAt w wa c.items) (_ : c.players.length ≤ gc ∧ c.items.length ≤ wc) (hk : KTab w) (hp : PTab w) (ht : Tab w) :
    Calls Tryd.prog 6 #[.agg #[.int .i64 c.err, .int .i64 c.kind, .int .i64 c.room, .slice ga c.players.length gc, .slice wa c.items.length wc, .int .i64 c.coins], .int .u8 a, .int .u8 b] w fun e w' => e = .returned (.bool true) ∧ Below w.heap.size w w' := by
  have HT := Lib.hid (show RTabs w from ⟨hk, hp, ht⟩)
  have ha := wf_u8 ha
  have hb := wf_u8 hb
  obtain ⟨a0, a1⟩ := ha
  obtain ⟨b0, b1⟩ := hb
  have P0 := Lib.hid (OneR.start (gc := gc) (wc := wc) h1 h2)
  clear h1 h2 hk hp ht
  cases f1 : rfewB c
  · have F1 := Lib.hid f1
    clear f1
    go_enter Tryd.func6, Tryd.ntmps6
    go_wp2_with fail
    refine (rawake_any _ (HT.out.call P0.out.1)).mono ?_
    rintro e w1 ⟨rfl, b1⟩
    have P1 := Lib.hid (P0.out.call b1)
    have hA := P1.out.2.1.cell
    clear b1 P0
    go_wp2_with fail
    refine (rfew_any _ _ _ _ _ _ P1.out.2.2.1 P1.out.2.2.2).mono ?_
    rintro e w2 ⟨rfl, b2⟩
    rw [F1.out]
    have P2 := Lib.hid (P1.out.call b2)
    clear b2 P1 hA
    go_wp2_with fail
    refine (rawake_any _ (HT.out.call P2.out.1)).mono ?_
    rintro e w3 ⟨rfl, b3⟩
    have P3 := Lib.hid (P2.out.call b3)
    clear b3
    go_wp2_with fail
    go_ret
    exact ⟨rfl, P3.out.1⟩
  · have F1 := Lib.hid f1
    clear f1
    go_enter Tryd.func6, Tryd.ntmps6
    go_wp2_with fail
    refine (rawake_any _ (HT.out.call P0.out.1)).mono ?_
    rintro e w1 ⟨rfl, b1⟩
    have P1 := Lib.hid (P0.out.call b1)
    have hA := P1.out.2.1.cell
    clear b1 P0
    go_wp2_with fail
    refine (rfew_any _ _ _ _ _ _ P1.out.2.2.1 P1.out.2.2.2).mono ?_
    rintro e w2 ⟨rfl, b2⟩
    rw [F1.out]
    have P2 := Lib.hid (P1.out.call b2)
    clear b2 P1 hA
    have hA := P2.out.2.1.cell
    go_wp2_with fail
    obtain ⟨x, hx⟩ : ∃ x, 1 + a % 13 = x := ⟨_, rfl⟩
    obtain ⟨y, hy⟩ : ∃ y, 1 + b % 13 = y := ⟨_, rfl⟩
    rw [hx, hy]
    have hx1 : 1 ≤ x ∧ x ≤ 13 := by omega
    have hy1 : 1 ≤ y ∧ y ≤ 13 := by omega
    clear hx hy hA
    have HX := Lib.hid (err_may hx1.1 hx1.2)
    have HY := Lib.hid (err_may hy1.1 hy1.2)
    obtain ⟨A, hA1, hA2, -⟩ := rput_yes HX.out
    obtain ⟨B, hB1, hB2, -⟩ := rput_yes HY.out
    obtain ⟨v, hv⟩ : ∃ v, (x == y) = v := ⟨_, rfl⟩
    have hE : (A.toList == B.toList) = v := by
      rw [rput_apart HX.out HY.out hA2 hB2, ← hv, Bool.eq_iff_iff, rsameB_iff, beq_iff_eq]
      simp
    have HA1 := Lib.hid hA1
    have HA2 := Lib.hid hA2
    have HB1 := Lib.hid hB1
    have HXN := Lib.hid hx1
    clear hA1 hA2 hB1 hB2 hx1 hy1
    have P3 := Lib.hid ((P2.out.alloc (.cells #[.int .i64 x, .int .i64 0, .int .i64 0, .slice none 0 0, .slice none 0 0, .int .i64 0] 26)).alloc (.cells #[.int .i64 y, .int .i64 0, .int .i64 0, .slice none 0 0, .slice none 0 0, .int .i64 0] 26))
    have X3 := Lib.hid ((Blk.new w2 26 #[.int .i64 x, .int .i64 0, .int .i64 0, .slice none 0 0, .slice none 0 0, .int .i64 0]).alloc (.cells #[.int .i64 y, .int .i64 0, .int .i64 0, .slice none 0 0, .slice none 0 0, .int .i64 0] 26))
    have Y3 := Lib.hid (Blk.newn (w2.alloc (.cells #[.int .i64 x, .int .i64 0, .int .i64 0, .slice none 0 0, .slice none 0 0, .int .i64 0] 26)) 26 #[.int .i64 y, .int .i64 0, .int .i64 0, .slice none 0 0, .slice none 0 0, .int .i64 0] (n := w2.heap.size + 1) (by simp))
    clear P2
    refine (rput_any ⟨x, 0, 0, [], [], 0⟩ none none 0 0 _ (IntsAt.nil _ _) (SnsAt.nil _ _) (HT.out.call P3.out.1)).mono ?_
    rintro e w4 ⟨rfl, b4⟩
    rw [HA1.out]
    have P4 := Lib.hid (P3.out.call b4)
    have X4 := Lib.hid (X3.out.call b4)
    have Y4 := Lib.hid (Y3.out.call b4)
    clear b4 P3 X3 Y3
    have cY := Y4.out.cell
    go_wp2_with fail
    refine (rput_any ⟨y, 0, 0, [], [], 0⟩ none none 0 0 _ (IntsAt.nil _ _) (SnsAt.nil _ _) (HT.out.call P4.out.1)).mono ?_
    rintro e w5 ⟨rfl, b5⟩
    rw [HB1.out]
    have P5 := Lib.hid (P4.out.call b5)
    have X5 := Lib.hid (X4.out.call b5)
    have Y5 := Lib.hid (Y4.out.call b5)
    clear b5 P4 X4 Y4 cY
    have cP := P5.out.2.1.cell
    go_wp2_with fail
    clear cP
    cases hm : rmayB c
    · have HC1 := Lib.hid (rput_no hm)
      clear hm
      refine (rput_any c ga wa gc wc _ P5.out.2.2.1 P5.out.2.2.2 (HT.out.call P5.out.1)).mono ?_
      rintro e w6 ⟨rfl, b6⟩
      rw [HC1.out]
      have P6 := Lib.hid (P5.out.call b6)
      have X6 := Lib.hid (X5.out.call b6)
      have Y6 := Lib.hid (Y5.out.call b6)
      clear b6 P5 X5 Y5
      have cX := X6.out.cell
      have cY := Y6.out.cell
      have cP := P6.out.2.1.cell
      go_wp2_with fail
      go_ret
      exact ⟨rfl, P6.out.1⟩
    · obtain ⟨C, hC1, hC2, -⟩ := rput_yes hm
      obtain ⟨u, hu⟩ : ∃ u, (c.err == x) = u := ⟨_, rfl⟩
      have hE2 : (C.toList == A.toList) = u := by
        rw [rput_apart hm HX.out hC2 HA2.out, ← hu, Bool.eq_iff_iff, rsameB_iff, beq_iff_eq]
        constructor
        · intro e; rw [e]
        · intro e
          have ho := (fits_of hm).own
          have h0 : ¬ c.err = 0 := by have := HXN.out; omega
          rw [ho]
          simp only [ownR, ne_eq, h0, not_false_eq_true, if_true]
          rw [e]
      have HC1 := Lib.hid hC1
      clear hm hC1 hC2
      refine (rput_any c ga wa gc wc _ P5.out.2.2.1 P5.out.2.2.2 (HT.out.call P5.out.1)).mono ?_
      rintro e w6 ⟨rfl, b6⟩
      rw [HC1.out]
      have P6 := Lib.hid (P5.out.call b6)
      have X6 := Lib.hid (X5.out.call b6)
      have Y6 := Lib.hid (Y5.out.call b6)
      clear b6 P5 X5 Y5
      have cX := X6.out.cell
      have cY := Y6.out.cell
      have cP := P6.out.2.1.cell
      go_wp2_with fail
      go_ret
      exact ⟨rfl, P6.out.1⟩
set_option maxRecDepth 100000 in
theorem lifted_replyErrors (os : Os) (started : os.Started) (H : Type) (enc : TypeId × Value → H) :
    ReturnsInHanded {} Tryd.checked os 6 .any (fun w args => (Rows.replyErrorsSpec.pre enc Tryd.prog Tryd.f6 [] false w args ∧ laidMetH Tryd.prog Rows.replyErrorsRow.laid w) ∧ sizedMet enc Tryd.prog Tryd.f6 (OpenSpec.ofChange Rows.replyErrorsSpec) false w args) (Rows.replyErrorsSpec.post enc Tryd.prog Tryd.f6 false true false false) := by
  refine returnsInHanded_of_change_and (C := Tryd.checked) (X := fun w _ => laidMetH Tryd.prog Rows.replyErrorsRow.laid w) (fun _ _ _ hh h => h.of_heap hh) (by kernel_rfl) started (by kernel_rfl) Tryd.func6
    (ChangeSpec.witness_shaped (enc := enc) (C := Tryd.checked) (os := os) (X := fun w _ => laidMetH Tryd.prog Rows.replyErrorsRow.laid w) false (World.laidAll Tryd.prog os Rows.replyErrorsRow.laid) #[.agg #[.int .i64 0, .int .i64 0, .int .i64 0, .slice none 0 0, .slice none 0 0, .int .i64 0], .int .u8 0, .int .u8 0] 8 (World.laidAll_os _ _ _)
      (World.shaped_of_ZipB (by kernel_rfl) (by kernel_rfl)) (by kernel_rfl) (by kernel_rfl) (by kernel_rfl)
      (by rw [MakeChecks.laidMetH_plain _ _ _ (by kernel_rfl)]; exact laidMet_laidAll _ (by kernel_rfl) (by kernel_rfl))) ?_
  intro W base args ds gs before hval0 hW hcnd hsized hL _
  have hval : ∀ (j : Nat) t v, Tryd.f6.params[j]? = some t → args[j]? = some v → Value.okWide Tryd.prog W .any base t v := hval0
  have hW' := hW
  obtain ⟨p, q, hA0, hV, rfl, hfz, hnd⟩ := hW
  have hA : DataW.TrodAll enc Tryd.prog W 0 (fun _ => true) true Tryd.f6.params.toList args.toList ds p := hA0
  rw [Tryd.params6] at hA hval
  obtain ⟨v0, vs0, d0, ds0, p0, q0, hargs, rfl, rfl, h0, r0⟩ := trodAll_cons hA
  obtain ⟨v1, vs1, d1, ds1, p1, q1, rfl, rfl, rfl, h1, r1⟩ := trodAll_cons r0
  obtain ⟨v2, vs2, d2, ds2, p2, q2, rfl, rfl, rfl, h2, r2⟩ := trodAll_cons r1
  obtain ⟨rfl, rfl, rfl⟩ := trodAll_nil r2
  obtain rfl : args = #[v0, v1, v2] := by cases args; simp_all
  obtain ⟨rfl, rfl⟩ := trodVars_none hV
  obtain ⟨c0, ga0, wa0, gc0, wc0, rfl, m0, u0, g0⟩ := read_rep (hval 0 26 v0 rfl rfl) h0
  obtain ⟨a1, rfl, rfl, rfl, w1⟩ := open_int Tryd.underlying5 (hval 1 5 v1 rfl rfl) h1
  obtain ⟨a2, rfl, rfl, rfl, w2⟩ := open_int Tryd.underlying5 (hval 2 5 v2 rfl rfl) h2
  clear hA0 hval0
  simp only [List.append_nil] at hW'
  rw [MakeChecks.laidMetH_plain _ _ _ (by kernel_rfl)] at hL
  have fKTab := KTab_laid W (hL.tail.tail.tail.tail)
  have fPTab := PTab_laid W (hL.tail.tail.tail.tail.tail)
  have fTab := Tab_laid W (hL.tail.tail)
  refine (walk_replyErrors c0 ga0 wa0 gc0 wc0 a1 a2 W w1 w2 m0 u0 g0 fKTab fPTab fTab).mono fun e W' ⟨he, hg⟩ => ?_
  subst he
  exact ⟨_, rfl, law_post (by kernel_rfl) rfl (by rw [Tryd.params6]; decide +kernel) rfl rfl Tryd.underlying4 hW' hg⟩

theorem row_replyErrors : Rows.ReplyErrorsSaid :=
  OpenClaim.holds_of_wide 6 Tryd.f6 rfl rfl rfl rfl rfl rfl rfl ⟨rfl, rfl, rfl, rfl, rfl⟩ rfl rfl rfl rfl rfl (by kernel_rfl) Tryd.func6 (by kernel_rfl)
    (of_decide_eq_true (by kernel_rfl)) (by unfold Func.isWrapper; first | (rw [if_pos (by decide +kernel)]; kernel_rfl) | (rw [if_neg (by decide +kernel)]; exact ⟨rfl, rfl⟩))
    (fun os started H enc _ => lifted_replyErrors os started H enc)
/-- ████ THE STATEMENT ████ -/
theorem proved_replyErrors : Rows.ReplyErrorsCardSaid :=
  Claim7.holds_tied_plain_at .later [] Rows.replyErrorsCard.laidKinds true Rows.replyErrorsCard.stood.harness false row_replyErrors (fun _ h => by cases h) (by kernel_rfl) (fun _ h => by cases h) replyErrors_row_tie rfl ⟨rfl, rfl⟩ (by kernel_rfl) rfl
    (fun f fn hf hfn => by
      obtain rfl : f = 6 := Option.some.inj ((show Tryd.prog.funcNamed "innkeep/innkeeplaw05.ReplyErrors" = some 6 by kernel_rfl).symm.trans hf) |>.symm
      obtain rfl : fn = Tryd.f6 := (Option.some.inj (Tryd.func6.symm.trans hfn)).symm
      exact ⟨by kernel_rfl, fun j t ht => by
        rw [Tryd.params6] at ht
        have hm : t ∈ [26, 5, 5] := by simpa using Array.mem_of_getElem? ht
        have hall : ([26, 5, 5].all fun u => !Tryd.prog.wantsStandIn u) = true := by kernel_rfl
        exact (show Tryd.prog.wantsStandIn t = false by simpa using List.all_eq_true.1 hall t hm)⟩)
    (by kernel_rfl)
#print axioms proved_replyErrors
end Go.Proofs.YtcabeagmdfpdlaaDoor
