import Derived.Test.YtinjpkbpdhihjaaDoorRows
import Derived.Test.YtinjpkbpdhihjaaDoorKit
import Derived.Test.YtinjpkbpdhihjaaDoorStrs
import Derived.Test.YtinjpkbpdhihjaaDoorJTab
import Derived.Test.YtinjpkbpdhihjaaDoorJBlk
import Derived.Test.YtinjpkbpdhihjaaDoorJMath
import Derived.Test.YtinjpkbpdhihjaaDoorJNum
import Derived.Test.YtinjpkbpdhihjaaDoorJCmd
import Derived.Test.YtinjpkbpdhihjaaDoorJCmdNames1
import Derived.Test.YtinjpkbpdhihjaaDoorJCmdRead
import Derived.Test.YtinjpkbpdhihjaaDoorJCmdLaw
import Derived.Test.YtinjpkbpdhihjaaDoorJLinePut3
import Derived.Test.YtinjpkbpdhihjaaDoorJLinePut
import Derived.Test.YtinjpkbpdhihjaaDoorJLineRef3
import Derived.Test.YtinjpkbpdhihjaaDoorJAwake
import Derived.Test.YtinjpkbpdhihjaaDoorTie
import Derived.Test.YtinjpkbpdhihjaaDoorCards
import Derived.Lay
import Derived.SevenTiedAt
import Derived.MakeChecks
import Derived.WalkKit
import Derived.ProofKit
import Derived.OpenShut
import Derived.IntWalk
/- LinePuts: of whatever command: the program's line and error are the document's own: the statement answers true. No condition but that the program's and the library's tables lie as their text lays them (tied). -/
namespace Go.Proofs.YtinjpkbpdhihjaaDoor
open Go.ChangeShapes Go.WideShapes Go.ChangeAt Go.RowKit
set_option linter.unusedVariables false
open Go.RowKit Go
set_option maxRecDepth 100000 in
set_option maxHeartbeats 2000000 in
theorem walk_linePuts (c : Cm) (ga wa : Option Addr) (gc wc : Nat) (w : World) (h1 : IntsAt w ga c.gives) (h2 : IntsAt w wa c.wants) (_ : c.Wf) (hk : KTab w) (hw : WTab w) (ht : Tab w) :
    Calls Tryd.prog 3 #[.agg #[.int .i64 c.kind, .int .i64 c.dir, .int .i64 c.item, .int .i64 c.box, .int .i64 c.who, .slice ga c.gives.length gc, .int .i64 c.pay, .slice wa c.wants.length wc, .int .i64 c.fee]] w fun e w' => e = .returned (.bool true) ∧ Below w.heap.size w w' := by
  have H1 := Lib.hid h1
  have H2 := Lib.hid h2
  have HT := Lib.hid (show Tabs w from ⟨hk, hw, ht⟩)
  clear h1 h2 hk hw ht
  cases f1 : fewB c
  · have F1 := Lib.hid f1
    clear f1
    go_enter Tryd.func3, Tryd.ntmps3
    go_wp2_with fail
    have P0 := Lib.hid (PutAt.new w c ga wa gc wc)
    refine (awake_any _ (HT.out.call P0.out.1)).mono ?_
    rintro e w1 ⟨rfl, b1⟩
    have P1 := Lib.hid (P0.out.call b1)
    have hA := P1.out.2.2.cell
    clear b1 P0
    go_wp2_with fail
    refine (few_any _ _ _ _ _ _ (H1.out.below P1.out.1 (Nat.le_refl _)) (H2.out.below P1.out.1 (Nat.le_refl _))).mono ?_
    rintro e w2 ⟨rfl, b2⟩
    rw [F1.out]
    have P2 := Lib.hid (P1.out.call b2)
    clear b2 hA P1
    go_wp2_with fail
    refine (awake_any _ (HT.out.call P2.out.1)).mono ?_
    rintro e w3 ⟨rfl, b3⟩
    have P3 := Lib.hid (P2.out.call b3)
    clear b3 P2
    go_wp2_with fail
    go_ret
    exact ⟨rfl, P3.out.1⟩
  · have F1 := Lib.hid f1
    clear f1
    go_enter Tryd.func3, Tryd.ntmps3
    go_wp2_with fail
    have P0 := Lib.hid (PutAt.new w c ga wa gc wc)
    refine (awake_any _ (HT.out.call P0.out.1)).mono ?_
    rintro e w1 ⟨rfl, b1⟩
    have P1 := Lib.hid (P0.out.call b1)
    have hA := P1.out.2.2.cell
    clear b1 P0
    go_wp2_with fail
    refine (few_any _ _ _ _ _ _ (H1.out.below P1.out.1 (Nat.le_refl _)) (H2.out.below P1.out.1 (Nat.le_refl _))).mono ?_
    rintro e w2 ⟨rfl, b2⟩
    rw [F1.out]
    have P2 := Lib.hid (P1.out.call b2)
    clear b2 hA P1
    have hA := P2.out.2.2.cell
    go_wp2_with fail
    obtain ⟨X, n, hX⟩ : ∃ X n, putOut c = .tuple #[.string X, .int .i64 n] := ⟨_, _, rfl⟩
    have HX := Lib.hid hX
    clear hX
    refine (put_any _ _ _ _ _ _ (H1.out.below P2.out.1 (Nat.le_refl _)) (H2.out.below P2.out.1 (Nat.le_refl _)) (HT.out.call P2.out.1)).mono ?_
    rintro e w3 ⟨rfl, b3⟩
    rw [HX.out]
    have P3 := Lib.hid (P2.out.call b3)
    clear b3 hA P2
    have hA := P3.out.2.2.cell
    go_wp2_with fail
    refine (refput_any _ _ _ _ _ _ (H1.out.below P3.out.1 (Nat.le_refl _)) (H2.out.below P3.out.1 (Nat.le_refl _))).mono ?_
    rintro e w4 ⟨rfl, b4⟩
    rw [HX.out]
    have P4 := Lib.hid (P3.out.call b4)
    clear b4 hA P3
    go_wp2_with fail
    go_ret
    exact ⟨rfl, P4.out.1⟩
set_option maxRecDepth 100000 in
theorem lifted_linePuts (os : Os) (started : os.Started) (H : Type) (enc : TypeId × Value → H) :
    ReturnsInHanded {} Tryd.checked os 3 .any (fun w args => (Rows.linePutsSpec.pre enc Tryd.prog Tryd.f3 [] false w args ∧ laidMetH Tryd.prog Rows.linePutsRow.laid w) ∧ sizedMet enc Tryd.prog Tryd.f3 (OpenSpec.ofChange Rows.linePutsSpec) false w args) (Rows.linePutsSpec.post enc Tryd.prog Tryd.f3 false true false false) := by
  refine returnsInHanded_of_change_and (C := Tryd.checked) (X := fun w _ => laidMetH Tryd.prog Rows.linePutsRow.laid w) (fun _ _ _ hh h => h.of_heap hh) (by kernel_rfl) started (by kernel_rfl) Tryd.func3
    (ChangeSpec.witness_shaped (enc := enc) (C := Tryd.checked) (os := os) (X := fun w _ => laidMetH Tryd.prog Rows.linePutsRow.laid w) false (World.laidAll Tryd.prog os Rows.linePutsRow.laid) #[.agg #[.int .i64 0, .int .i64 0, .int .i64 0, .int .i64 0, .int .i64 0, .slice none 0 0, .int .i64 0, .slice none 0 0, .int .i64 0]] 8 (World.laidAll_os _ _ _)
      (World.shaped_of_ZipB (by kernel_rfl) (by kernel_rfl)) (by kernel_rfl) (by kernel_rfl) (by kernel_rfl)
      (by rw [MakeChecks.laidMetH_plain _ _ _ (by kernel_rfl)]; exact laidMet_laidAll _ (by kernel_rfl) (by kernel_rfl))) ?_
  intro W base args ds gs before hval0 hW hcnd hsized hL _
  have hval : ∀ (j : Nat) t v, Tryd.f3.params[j]? = some t → args[j]? = some v → Value.okWide Tryd.prog W .any base t v := hval0
  have hW' := hW
  obtain ⟨p, q, hA0, hV, rfl, hfz, hnd⟩ := hW
  have hA : DataW.TrodAll enc Tryd.prog W 0 (fun _ => true) true Tryd.f3.params.toList args.toList ds p := hA0
  rw [Tryd.params3] at hA hval
  obtain ⟨v0, vs0, d0, ds0, p0, q0, hargs, rfl, rfl, h0, r0⟩ := trodAll_cons hA
  obtain ⟨rfl, rfl, rfl⟩ := trodAll_nil r0
  obtain rfl : args = #[v0] := by cases args; simp_all
  obtain ⟨rfl, rfl⟩ := trodVars_none hV
  obtain ⟨c0, ga0, wa0, gc0, wc0, rfl, m0, u0, g0⟩ := read_cmd (hval 0 24 v0 rfl rfl) h0
  clear hA0 hval0
  simp only [List.append_nil] at hW'
  rw [MakeChecks.laidMetH_plain _ _ _ (by kernel_rfl)] at hL
  have fKTab := KTab_laid W (hL.tail.tail.tail.tail)
  have fWTab := WTab_laid W (hL.tail.tail.tail.tail.tail)
  have fTab := Tab_laid W (hL.tail.tail)
  refine (walk_linePuts c0 ga0 wa0 gc0 wc0 W m0 u0 g0 fKTab fWTab fTab).mono fun e W' ⟨he, hg⟩ => ?_
  subst he
  exact ⟨_, rfl, law_post (by kernel_rfl) rfl (by rw [Tryd.params3]; decide +kernel) rfl rfl Tryd.underlying4 hW' hg⟩

theorem row_linePuts : Rows.LinePutsSaid :=
  OpenClaim.holds_of_wide 3 Tryd.f3 rfl rfl rfl rfl rfl rfl rfl ⟨rfl, rfl, rfl, rfl, rfl⟩ rfl rfl rfl rfl rfl (by kernel_rfl) Tryd.func3 (by kernel_rfl)
    (of_decide_eq_true (by kernel_rfl)) (by unfold Func.isWrapper; first | (rw [if_pos (by decide +kernel)]; kernel_rfl) | (rw [if_neg (by decide +kernel)]; exact ⟨rfl, rfl⟩))
    (fun os started H enc _ => lifted_linePuts os started H enc)
/-- ████ THE STATEMENT ████ -/
theorem proved_linePuts : Rows.LinePutsCardSaid :=
  Claim7.holds_tied_plain_at .later [] Rows.linePutsCard.laidKinds true Rows.linePutsCard.stood.harness false row_linePuts (fun _ h => by cases h) (by kernel_rfl) (fun _ h => by cases h) linePuts_row_tie rfl ⟨rfl, rfl⟩ (by kernel_rfl) rfl
    (fun f fn hf hfn => by
      obtain rfl : f = 3 := Option.some.inj ((show Tryd.prog.funcNamed "innkeep/innkeeplaw04.LinePuts" = some 3 by kernel_rfl).symm.trans hf) |>.symm
      obtain rfl : fn = Tryd.f3 := (Option.some.inj (Tryd.func3.symm.trans hfn)).symm
      exact ⟨by kernel_rfl, fun j t ht => by
        rw [Tryd.params3] at ht
        have hm : t ∈ [24] := by simpa using Array.mem_of_getElem? ht
        have hall : ([24].all fun u => !Tryd.prog.wantsStandIn u) = true := by kernel_rfl
        exact (show Tryd.prog.wantsStandIn t = false by simpa using List.all_eq_true.1 hall t hm)⟩)
    (by kernel_rfl)
#print axioms proved_linePuts
end Go.Proofs.YtinjpkbpdhihjaaDoor
