/- CmdLists: for every command and every number: nil and empty lists are one, a trade's lists count in their order, with 17 numbers it may not be, with 16 it may: the statement answers true. No condition but that the program's two tables lie as its text lays them (tied). -/
import Derived.Test.YtdioigidilmbkaaDoorRows
import Derived.Test.YtdioigidilmbkaaDoorKit
import Derived.Test.YtdioigidilmbkaaDoorStrs
import Derived.Test.YtdioigidilmbkaaDoorStrTab
import Derived.Test.YtdioigidilmbkaaDoorCmdMath
import Derived.Test.YtdioigidilmbkaaDoorCmdListMath
import Derived.Test.YtdioigidilmbkaaDoorCmdA
import Derived.Test.YtdioigidilmbkaaDoorNameMath
import Derived.Test.YtdioigidilmbkaaDoorCmdNames1
import Derived.Test.YtdioigidilmbkaaDoorCmdRefSame
import Derived.Test.YtdioigidilmbkaaDoorCmdRefMay
import Derived.Test.YtdioigidilmbkaaDoorCmdAwake
import Derived.Test.YtdioigidilmbkaaDoorCmdLaw
import Derived.Test.YtdioigidilmbkaaDoorHolds
import Derived.Test.YtdioigidilmbkaaDoorCmdLists
import Derived.WalkKit
import Derived.ProofKit
import Derived.OpenShut
import Derived.IntWalk
namespace Go.Proofs.YtdioigidilmbkaaDoor
open Go.ChangeShapes Go.WideShapes Go.ChangeAt Go.RowKit
set_option linter.unusedVariables false
open Go.RowKit

set_option maxHeartbeats 1000000 in
theorem lists_not (c : Cm) (ga wa : Option Addr) (gc wc : Nat) (v : Value) (w : World) (h1 : IntsAt w ga c.gives) (h2 : IntsAt w wa c.wants) (hk : KTab w) (hw : WTab w) (f : fewB c = false ∨ refMayB c = false) :
    Calls Tryd.prog 6 #[.agg #[.int .i64 c.kind, .int .i64 c.dir, .int .i64 c.item, .int .i64 c.box, .int .i64 c.who, .slice ga c.gives.length gc, .int .i64 c.pay, .slice wa c.wants.length wc, .int .i64 c.fee], v] w fun e w' => e = .returned (.bool true) ∧ Below w.heap.size w w' := by
  have H1 := Lib.hid h1
  have H2 := Lib.hid h2
  have HK := Lib.hid hk
  have HW := Lib.hid hw
  clear h1 h2 hk hw
  cases f1 : fewB c
  · have F1 := Lib.hid f1
    clear f f1
    go_enter Tryd.func6, Tryd.ntmps6
    go_wp2_with fail
    have P0 := Lib.hid (Holds.new w #[.int .i64 c.kind, .int .i64 c.dir, .int .i64 c.item, .int .i64 c.box, .int .i64 c.who, .slice ga c.gives.length gc, .int .i64 c.pay, .slice wa c.wants.length wc, .int .i64 c.fee] 24)
    refine (awake_any _ (HK.out.below P0.out.1) (HW.out.below P0.out.1)).mono ?_
    rintro e w1 ⟨rfl, b1⟩
    have P1 := Lib.hid (P0.out.call b1)
    have hA := P1.out.2.2
    clear b1
    go_wp2_with fail
    refine (few_any _ _ _ _ _ _ (H1.out.below P1.out.1 (Nat.le_refl _)) (H2.out.below P1.out.1 (Nat.le_refl _))).mono ?_
    rintro e w2 ⟨rfl, b2⟩
    rw [F1.out]
    have P2 := Lib.hid (P1.out.call b2)
    clear b2 hA
    go_wp2_with fail
    refine (awake_any _ (HK.out.below P2.out.1) (HW.out.below P2.out.1)).mono ?_
    rintro e w3 ⟨rfl, b3⟩
    have P3 := Lib.hid (P2.out.call b3)
    clear b3
    go_wp2_with fail
    go_ret
    exact ⟨rfl, P3.out.1⟩
  · have F1 := Lib.hid f1
    have F2 := Lib.hid (show refMayB c = false by rcases f with f | f; rw [f1] at f; cases f; exact f)
    clear f f1
    go_enter Tryd.func6, Tryd.ntmps6
    go_wp2_with fail
    have P0 := Lib.hid (Holds.new w #[.int .i64 c.kind, .int .i64 c.dir, .int .i64 c.item, .int .i64 c.box, .int .i64 c.who, .slice ga c.gives.length gc, .int .i64 c.pay, .slice wa c.wants.length wc, .int .i64 c.fee] 24)
    refine (awake_any _ (HK.out.below P0.out.1) (HW.out.below P0.out.1)).mono ?_
    rintro e w1 ⟨rfl, b1⟩
    have P1 := Lib.hid (P0.out.call b1)
    have hA := P1.out.2.2
    clear b1
    go_wp2_with fail
    refine (few_any _ _ _ _ _ _ (H1.out.below P1.out.1 (Nat.le_refl _)) (H2.out.below P1.out.1 (Nat.le_refl _))).mono ?_
    rintro e w2 ⟨rfl, b2⟩
    rw [F1.out]
    have P2 := Lib.hid (P1.out.call b2)
    clear b2 hA
    have hA := P2.out.2.2
    go_wp2_with fail
    refine (refmay_any _ _ _ _ _ _ (H1.out.below P2.out.1 (Nat.le_refl _)) (H2.out.below P2.out.1 (Nat.le_refl _))).mono ?_
    rintro e w3 ⟨rfl, b3⟩
    rw [F2.out]
    have P3 := Lib.hid (P2.out.call b3)
    clear b3 hA
    go_wp2_with fail
    refine (awake_any _ (HK.out.below P3.out.1) (HW.out.below P3.out.1)).mono ?_
    rintro e w4 ⟨rfl, b4⟩
    have P4 := Lib.hid (P3.out.call b4)
    clear b4
    go_wp2_with fail
    go_ret
    exact ⟨rfl, P4.out.1⟩

set_option maxHeartbeats 1000000 in
theorem lists_other (c : Cm) (ga wa : Option Addr) (gc wc : Nat) (v : Value) (w : World) (h1 : IntsAt w ga c.gives) (h2 : IntsAt w wa c.wants) (hk : KTab w) (hw : WTab w) (f1 : fewB c = true) (f2 : refMayB c = true) (h8 : c.kind ≠ 8) :
    Calls Tryd.prog 6 #[.agg #[.int .i64 c.kind, .int .i64 c.dir, .int .i64 c.item, .int .i64 c.box, .int .i64 c.who, .slice ga c.gives.length gc, .int .i64 c.pay, .slice wa c.wants.length wc, .int .i64 c.fee], v] w fun e w' => e = .returned (.bool true) ∧ Below w.heap.size w w' := by
  have H1 := Lib.hid h1
  have H2 := Lib.hid h2
  have HK := Lib.hid hk
  have HW := Lib.hid hw
  have F1 := Lib.hid f1
  have F2 := Lib.hid f2
  have hd : (c.kind != 8) = true := by simpa using h8
  clear h1 h2 hk hw f1 f2 h8
  go_enter Tryd.func6, Tryd.ntmps6
  go_wp2_with fail
  have P0 := Lib.hid (Holds.new w #[.int .i64 c.kind, .int .i64 c.dir, .int .i64 c.item, .int .i64 c.box, .int .i64 c.who, .slice ga c.gives.length gc, .int .i64 c.pay, .slice wa c.wants.length wc, .int .i64 c.fee] 24)
  refine (awake_any _ (HK.out.below P0.out.1) (HW.out.below P0.out.1)).mono ?_
  rintro e w1 ⟨rfl, b1⟩
  have P1 := Lib.hid (P0.out.call b1)
  have hA := P1.out.2.2
  clear b1
  go_wp2_with fail
  refine (few_any _ _ _ _ _ _ (H1.out.below P1.out.1 (Nat.le_refl _)) (H2.out.below P1.out.1 (Nat.le_refl _))).mono ?_
  rintro e w2 ⟨rfl, b2⟩
  rw [F1.out]
  have P2 := Lib.hid (P1.out.call b2)
  clear b2 hA
  have hA := P2.out.2.2
  go_wp2_with fail
  refine (refmay_any _ _ _ _ _ _ (H1.out.below P2.out.1 (Nat.le_refl _)) (H2.out.below P2.out.1 (Nat.le_refl _))).mono ?_
  rintro e w3 ⟨rfl, b3⟩
  rw [F2.out]
  have P3 := Lib.hid (P2.out.call b3)
  clear b3 hA
  have hA := P3.out.2.2
  go_wp2_with fail
  refine (awake_any _ (HK.out.below P3.out.1) (HW.out.below P3.out.1)).mono ?_
  rintro e w4 ⟨rfl, b4⟩
  have P4 := Lib.hid (P3.out.call b4)
  clear b4
  go_wp2_with fail
  go_ret
  exact ⟨rfl, P4.out.1⟩

theorem walk_cmdLists (c : Cm) (ga wa : Option Addr) (gc wc : Nat) (m : Int) (w : World) (hm : (Lit.int .u8 m).wf = true) (h1 : IntsAt w ga c.gives) (h2 : IntsAt w wa c.wants) (_ : c.Wf) (hk : KTab w) (hw : WTab w) :
    Calls Tryd.prog 6 #[.agg #[.int .i64 c.kind, .int .i64 c.dir, .int .i64 c.item, .int .i64 c.box, .int .i64 c.who, .slice ga c.gives.length gc, .int .i64 c.pay, .slice wa c.wants.length wc, .int .i64 c.fee], .int .u8 m] w fun e w' => e = .returned (.bool true) ∧ Below w.heap.size w w' := by
  obtain ⟨m0, m1⟩ := wf_u8 hm
  obtain ⟨m, rfl⟩ := Int.eq_ofNat_of_zero_le m0
  cases f1 : fewB c
  · exact lists_not c ga wa gc wc _ w h1 h2 hk hw (.inl f1)
  · cases f2 : refMayB c
    · exact lists_not c ga wa gc wc _ w h1 h2 hk hw (.inr f2)
    · by_cases h8 : c.kind = 8
      · obtain ⟨k, d, i, b, h, gs, p, ws, f⟩ := c
        simp only at h8
        subst h8
        exact lists_go d i b h p f gs ws ga wa gc wc m w h1 h2 (by omega) hk hw f1 f2
      · exact lists_other c ga wa gc wc _ w h1 h2 hk hw f1 f2 h8
set_option maxRecDepth 100000 in
theorem lifted_cmdLists (os : Os) (started : os.Started) (H : Type) (enc : TypeId × Value → H) :
    ReturnsInHanded {} Tryd.checked os 6 .any (fun w args => (Rows.cmdListsSpec.pre enc Tryd.prog Tryd.f6 [] false w args ∧ laidMetH Tryd.prog Rows.cmdListsRow.laid w) ∧ sizedMet enc Tryd.prog Tryd.f6 (OpenSpec.ofChange Rows.cmdListsSpec) false w args) (Rows.cmdListsSpec.post enc Tryd.prog Tryd.f6 false true false false) := by
  refine returnsInHanded_of_change_and (C := Tryd.checked) (X := fun w _ => laidMetH Tryd.prog Rows.cmdListsRow.laid w) (fun _ _ _ hh h => h.of_heap hh) (by kernel_rfl) started (by kernel_rfl) Tryd.func6
    (ChangeSpec.witness_shaped (enc := enc) (C := Tryd.checked) (os := os) (X := fun w _ => laidMetH Tryd.prog Rows.cmdListsRow.laid w) false (World.laidAll Tryd.prog os Rows.cmdListsRow.laid) #[.agg #[.int .i64 0, .int .i64 0, .int .i64 0, .int .i64 0, .int .i64 0, .slice none 0 0, .int .i64 0, .slice none 0 0, .int .i64 0], .int .u8 0] 8 (World.laidAll_os _ _ _)
      (World.shaped_of_ZipB (by kernel_rfl) (by kernel_rfl)) (by kernel_rfl) (by kernel_rfl) (by kernel_rfl)
      (by rw [MakeChecks.laidMetH_plain _ _ _ (by kernel_rfl)]; exact laidMet_laidAll _ (by kernel_rfl) (by kernel_rfl))) ?_
  intro W base args ds gs before hval0 hW hcnd hsized hL _
  have hval : ∀ (j : Nat) t v, Tryd.f6.params[j]? = some t → args[j]? = some v → Value.okWide Tryd.prog W .any base t v := hval0
  have hW' := hW
  obtain ⟨p, q, hA0, hV, rfl, hfz, hnd⟩ := hW
  have hA : DataW.TrodAll enc Tryd.prog W 0 (fun _ => true) true Tryd.f6.params.toList args.toList ds p := hA0
  rw [Tryd.params6] at hA hval
  obtain ⟨v0, vs0, d0, ds0, p0, q0, hargs, rfl, rfl, h0, r0⟩ := trodAll_cons hA
  obtain ⟨v1, vs1, d1, ds1, p1, q1, rfl, rfl, rfl, h1, r1⟩ := trodAll_cons r0
  obtain ⟨rfl, rfl, rfl⟩ := trodAll_nil r1
  obtain rfl : args = #[v0, v1] := by cases args; simp_all
  obtain ⟨rfl, rfl⟩ := trodVars_none hV
  obtain ⟨c0, ga0, wa0, gc0, wc0, rfl, m0, u0, g0⟩ := read_cmd (hval 0 24 v0 rfl rfl) h0
  obtain ⟨a1, rfl, rfl, rfl, w1⟩ := open_int Tryd.underlying5 (hval 1 5 v1 rfl rfl) h1
  clear hA0 hval0
  simp only [List.append_nil] at hW'
  rw [MakeChecks.laidMetH_plain _ _ _ (by kernel_rfl)] at hL
  have fKTab := KTab_laid W (hL)
  have fWTab := WTab_laid W (hL.tail)
  refine (walk_cmdLists c0 ga0 wa0 gc0 wc0 a1 W w1 m0 u0 g0 fKTab fWTab).mono fun e W' ⟨he, hg⟩ => ?_
  subst he
  exact ⟨_, rfl, law_post (by kernel_rfl) rfl (by rw [Tryd.params6]; decide +kernel) rfl rfl Tryd.underlying4 hW' hg⟩

theorem row_cmdLists : Rows.CmdListsSaid :=
  OpenClaim.holds_of_wide 6 Tryd.f6 rfl rfl rfl rfl rfl rfl rfl ⟨rfl, rfl, rfl, rfl, rfl⟩ rfl rfl rfl rfl rfl (by kernel_rfl) Tryd.func6 (by kernel_rfl)
    (of_decide_eq_true (by kernel_rfl)) (by unfold Func.isWrapper; first | (rw [if_pos (by decide +kernel)]; kernel_rfl) | (rw [if_neg (by decide +kernel)]; exact ⟨rfl, rfl⟩))
    (fun os started H enc _ => lifted_cmdLists os started H enc)
/-- ████ THE STATEMENT ████ -/
theorem proved_cmdLists : Rows.CmdListsCardSaid :=
  Claim7.holds_tied_plain_at .later [] Rows.cmdListsCard.laidKinds true Rows.cmdListsCard.stood.harness false row_cmdLists (fun _ h => by cases h) (by kernel_rfl) (fun _ h => by cases h) cmdLists_row_tie rfl ⟨rfl, rfl⟩ (by kernel_rfl) rfl
    (fun f fn hf hfn => by
      obtain rfl : f = 6 := Option.some.inj ((show Tryd.prog.funcNamed "innkeep/innkeeplaw03.CmdLists" = some 6 by kernel_rfl).symm.trans hf) |>.symm
      obtain rfl : fn = Tryd.f6 := (Option.some.inj (Tryd.func6.symm.trans hfn)).symm
      exact ⟨by kernel_rfl, fun j t ht => by
        rw [Tryd.params6] at ht
        have hm : t ∈ [24, 5] := by simpa using Array.mem_of_getElem? ht
        have hall : ([24, 5].all fun u => !Tryd.prog.wantsStandIn u) = true := by kernel_rfl
        exact (show Tryd.prog.wantsStandIn t = false by simpa using List.all_eq_true.1 hall t hm)⟩)
    (by kernel_rfl)
#print axioms proved_cmdLists
end Go.Proofs.YtdioigidilmbkaaDoor
