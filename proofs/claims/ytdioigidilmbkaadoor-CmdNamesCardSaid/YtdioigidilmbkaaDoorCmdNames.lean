/- CmdNames: for every number and every text: the names of kinds and ways, and the numbers of names, are the document's; a name's number has that name: the statement answers true. No condition but that the program's two tables lie as its text lays them (tied). -/
import Derived.Test.YtdioigidilmbkaaDoorRows
import Derived.Test.YtdioigidilmbkaaDoorKit
import Derived.Test.YtdioigidilmbkaaDoorStrs
import Derived.Test.YtdioigidilmbkaaDoorStrTab
import Derived.Test.YtdioigidilmbkaaDoorCmdMath
import Derived.Test.YtdioigidilmbkaaDoorCmdA
import Derived.Test.YtdioigidilmbkaaDoorNameMath
import Derived.Test.YtdioigidilmbkaaDoorCmdNames1
import Derived.Test.YtdioigidilmbkaaDoorCmdRefNames
import Derived.Test.YtdioigidilmbkaaDoorCmdAwake
import Derived.Test.YtdioigidilmbkaaDoorCmdLaw
import Derived.WalkKit
import Derived.ProofKit
import Derived.OpenShut
import Derived.IntWalk
namespace Go.Proofs.YtdioigidilmbkaaDoor
open Go.ChangeShapes Go.WideShapes Go.ChangeAt Go.RowKit
set_option linter.unusedVariables false
open Go.RowKit
set_option maxHeartbeats 2000000 in
theorem names_short (n : Int) (l : List UInt8) (w : World) (hl : l.length ≤ 100) (hk : KTab w) (hw : WTab w) :
    Calls Tryd.prog 4 #[.int .i64 n, .string ⟨l.toArray⟩] w fun e w' => e = .returned (.bool true) ∧ Below w.heap.size w w' := by
  have HK := Lib.hid hk
  have HW := Lib.hid hw
  clear hk hw
  have hs : ((ByteArray.mk l.toArray).size : Int) ≤ 100 := by show ((l.toArray.size : Nat) : Int) ≤ 100; rw [List.size_toArray]; omega
  cases kb : kindB l <;> cases db : dirB l
  all_goals
    have KB := Lib.hid kb
    have DB := Lib.hid db
    have KE := Lib.hid (fun h : kindB l = true => name_kind h)
    have DE := Lib.hid (fun h : dirB l = true => way_dir h)
    clear kb db
    go_enter Tryd.func4, Tryd.ntmps4
    go_wp2_with fail
    refine (awake_any _ HK.out HW.out).mono ?_
    rintro e w1 ⟨rfl, b1⟩
    have B1 := Lib.hid b1
    clear b1
    go_wp2_with fail
    refine (kind_any _ _ (HK.out.below B1.out)).mono ?_
    rintro e w' ⟨rfl, rfl⟩
    rw [KB.out]
    go_wp2_with fail
    refine (refkind_any _ _).mono ?_
    rintro e w2 ⟨rfl, b2⟩
    rw [KB.out]
    have B2 := Lib.hid (bl B1.out b2)
    clear b2
    go_wp2_with fail
    refine (dir_any _ _ (HW.out.below B2.out)).mono ?_
    rintro e w' ⟨rfl, rfl⟩
    rw [DB.out]
    go_wp2_with fail
    refine (refdir_any _ _).mono ?_
    rintro e w' ⟨rfl, rfl⟩
    rw [DB.out]
    go_wp2_with fail
    refine (name_any _ _ (HK.out.below B2.out)).mono ?_
    rintro e w3 ⟨rfl, b3⟩
    have B3 := Lib.hid (bl B2.out b3)
    clear b3
    go_wp2_with fail
    refine (refname_any _ _).mono ?_
    rintro e w4 ⟨rfl, b4⟩
    have B4 := Lib.hid (bl B3.out b4)
    clear b4
    go_wp2_with fail
    refine (way_any _ _ (HW.out.below B4.out)).mono ?_
    rintro e w5 ⟨rfl, b5⟩
    have B5 := Lib.hid (bl B4.out b5)
    clear b5
    go_wp2_with fail
    refine (refway_any _ _).mono ?_
    rintro e w' ⟨rfl, rfl⟩
    go_wp2_with fail
  · go_ret
    exact ⟨rfl, B5.out⟩
  · refine (way_any _ _ (HW.out.below B5.out)).mono ?_
    rintro e w6 ⟨rfl, b6⟩
    rw [DE.out DB.out]
    have B6 := Lib.hid (bl B5.out b6)
    clear b6
    go_wp2_with fail
    go_ret
    exact ⟨ret_bool (by simp), B6.out⟩
  · refine (name_any _ _ (HK.out.below B5.out)).mono ?_
    rintro e w6 ⟨rfl, b6⟩
    rw [KE.out KB.out]
    have B6 := Lib.hid (bl B5.out b6)
    clear b6
    go_wp2_with fail
    go_ret
    exact ⟨ret_bool (by simp), B6.out⟩
  · refine (name_any _ _ (HK.out.below B5.out)).mono ?_
    rintro e w6 ⟨rfl, b6⟩
    rw [KE.out KB.out]
    have B6 := Lib.hid (bl B5.out b6)
    clear b6
    go_wp2_with fail
    refine (way_any _ _ (HW.out.below B6.out)).mono ?_
    rintro e w7 ⟨rfl, b7⟩
    rw [DE.out DB.out]
    have B7 := Lib.hid (bl B6.out b7)
    clear b7
    go_wp2_with fail
    go_ret
    exact ⟨ret_bool (by simp), B7.out⟩
theorem walk_cmdNames (n : Int) (s : ByteArray) (w : World) (_ : (Lit.int .i64 n).wf = true) (hs : s.size ≤ maxLen) (hk : KTab w) (hw : WTab w) :
    Calls Tryd.prog 4 #[.int .i64 n, .string s] w fun e w' => e = .returned (.bool true) ∧ Below w.heap.size w w' := by
  unfold maxLen at hs
  by_cases hl : s.size ≤ 100
  · have := names_short n s.data.toList w (by simpa using hl) hk hw
    rwa [show (⟨s.data.toList.toArray⟩ : ByteArray) = s by simp] at this
  · have HK := Lib.hid hk
    have HW := Lib.hid hw
    clear hk hw
    go_enter Tryd.func4, Tryd.ntmps4
    go_wp2_with fail
    refine (awake_any _ HK.out HW.out).mono ?_
    rintro e w1 ⟨rfl, b1⟩
    have B1 := Lib.hid b1
    clear b1
    go_wp2_with fail
    refine (awake_any _ (HK.out.below B1.out) (HW.out.below B1.out)).mono ?_
    rintro e w2 ⟨rfl, b2⟩
    have B2 := Lib.hid (bl B1.out b2)
    clear b2
    go_wp2_with fail
    go_ret
    exact ⟨rfl, B2.out⟩
set_option maxRecDepth 100000 in
theorem lifted_cmdNames (os : Os) (started : os.Started) (H : Type) (enc : TypeId × Value → H) :
    ReturnsInHanded {} Tryd.checked os 4 .any (fun w args => (Rows.cmdNamesSpec.pre enc Tryd.prog Tryd.f4 [] false w args ∧ laidMetH Tryd.prog Rows.cmdNamesRow.laid w) ∧ sizedMet enc Tryd.prog Tryd.f4 (OpenSpec.ofChange Rows.cmdNamesSpec) false w args) (Rows.cmdNamesSpec.post enc Tryd.prog Tryd.f4 false true false false) := by
  refine returnsInHanded_of_change_and (C := Tryd.checked) (X := fun w _ => laidMetH Tryd.prog Rows.cmdNamesRow.laid w) (fun _ _ _ hh h => h.of_heap hh) (by kernel_rfl) started (by kernel_rfl) Tryd.func4
    (ChangeSpec.witness_shaped (enc := enc) (C := Tryd.checked) (os := os) (X := fun w _ => laidMetH Tryd.prog Rows.cmdNamesRow.laid w) false (World.laidAll Tryd.prog os Rows.cmdNamesRow.laid) #[.int .i64 0, .string ByteArray.empty] 8 (World.laidAll_os _ _ _)
      (World.shaped_of_ZipB (by kernel_rfl) (by kernel_rfl)) (by kernel_rfl) (by kernel_rfl) (by kernel_rfl)
      (by rw [MakeChecks.laidMetH_plain _ _ _ (by kernel_rfl)]; exact laidMet_laidAll _ (by kernel_rfl) (by kernel_rfl))) ?_
  intro W base args ds gs before hval0 hW hcnd hsized hL _
  have hval : ∀ (j : Nat) t v, Tryd.f4.params[j]? = some t → args[j]? = some v → Value.okWide Tryd.prog W .any base t v := hval0
  have hW' := hW
  obtain ⟨p, q, hA0, hV, rfl, hfz, hnd⟩ := hW
  have hA : DataW.TrodAll enc Tryd.prog W 0 (fun _ => true) true Tryd.f4.params.toList args.toList ds p := hA0
  rw [Tryd.params4] at hA hval
  obtain ⟨v0, vs0, d0, ds0, p0, q0, hargs, rfl, rfl, h0, r0⟩ := trodAll_cons hA
  obtain ⟨v1, vs1, d1, ds1, p1, q1, rfl, rfl, rfl, h1, r1⟩ := trodAll_cons r0
  obtain ⟨rfl, rfl, rfl⟩ := trodAll_nil r1
  obtain rfl : args = #[v0, v1] := by cases args; simp_all
  obtain ⟨rfl, rfl⟩ := trodVars_none hV
  obtain ⟨a0, rfl, rfl, rfl, w0⟩ := open_int Tryd.underlying3 (hval 0 3 v0 rfl rfl) h0
  obtain ⟨s1, rfl, rfl, rfl, b1⟩ := ChangeMaps.open_string Tryd.underlying9 (hval 1 9 v1 rfl rfl) h1
  clear hA0 hval0
  simp only [List.append_nil] at hW'
  rw [MakeChecks.laidMetH_plain _ _ _ (by kernel_rfl)] at hL
  have fKTab := KTab_laid W (hL)
  have fWTab := WTab_laid W (hL.tail)
  refine (walk_cmdNames a0 s1 W w0 b1 fKTab fWTab).mono fun e W' ⟨he, hg⟩ => ?_
  subst he
  exact ⟨_, rfl, law_post (by kernel_rfl) rfl (by rw [Tryd.params4]; decide +kernel) rfl rfl Tryd.underlying4 hW' hg⟩

theorem row_cmdNames : Rows.CmdNamesSaid :=
  OpenClaim.holds_of_wide 4 Tryd.f4 rfl rfl rfl rfl rfl rfl rfl ⟨rfl, rfl, rfl, rfl, rfl⟩ rfl rfl rfl rfl rfl (by kernel_rfl) Tryd.func4 (by kernel_rfl)
    (of_decide_eq_true (by kernel_rfl)) (by unfold Func.isWrapper; first | (rw [if_pos (by decide +kernel)]; kernel_rfl) | (rw [if_neg (by decide +kernel)]; exact ⟨rfl, rfl⟩))
    (fun os started H enc _ => lifted_cmdNames os started H enc)
/-- ████ THE STATEMENT ████ -/
theorem proved_cmdNames : Rows.CmdNamesCardSaid :=
  Claim7.holds_tied_plain_at .later [] Rows.cmdNamesCard.laidKinds true Rows.cmdNamesCard.stood.harness false row_cmdNames (fun _ h => by cases h) (by kernel_rfl) (fun _ h => by cases h) cmdNames_row_tie rfl ⟨rfl, rfl⟩ (by kernel_rfl) rfl
    (fun f fn hf hfn => by
      obtain rfl : f = 4 := Option.some.inj ((show Tryd.prog.funcNamed "innkeep/innkeeplaw03.CmdNames" = some 4 by kernel_rfl).symm.trans hf) |>.symm
      obtain rfl : fn = Tryd.f4 := (Option.some.inj (Tryd.func4.symm.trans hfn)).symm
      exact ⟨by kernel_rfl, fun j t ht => by
        rw [Tryd.params4] at ht
        have hm : t ∈ [3, 9] := by simpa using Array.mem_of_getElem? ht
        have hall : ([3, 9].all fun u => !Tryd.prog.wantsStandIn u) = true := by kernel_rfl
        exact (show Tryd.prog.wantsStandIn t = false by simpa using List.all_eq_true.1 hall t hm)⟩)
    (by kernel_rfl)
#print axioms proved_cmdNames
end Go.Proofs.YtdioigidilmbkaaDoor
