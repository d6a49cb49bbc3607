import Derived.Test.YtinjpkbpdhihjaaDoorRows
import Derived.Test.YtinjpkbpdhihjaaDoorKit
import Derived.Test.YtinjpkbpdhihjaaDoorStrs
import Derived.Test.YtinjpkbpdhihjaaDoorJTab
import Derived.Test.YtinjpkbpdhihjaaDoorJBlk
import Derived.Test.YtinjpkbpdhihjaaDoorJMath
import Derived.Test.YtinjpkbpdhihjaaDoorJNum
import Derived.Test.YtinjpkbpdhihjaaDoorJCut
import Derived.Test.YtinjpkbpdhihjaaDoorJCmd
import Derived.Test.YtinjpkbpdhihjaaDoorJCmdNames1
import Derived.Test.YtinjpkbpdhihjaaDoorJCmdRead
import Derived.Test.YtinjpkbpdhihjaaDoorJCmdLaw
import Derived.Test.YtinjpkbpdhihjaaDoorJLinePut3
import Derived.Test.YtinjpkbpdhihjaaDoorJLineGet
import Derived.Test.YtinjpkbpdhihjaaDoorJLineRefGet
import Derived.Test.YtinjpkbpdhihjaaDoorJAwake
import Derived.Test.YtinjpkbpdhihjaaDoorTie
import Derived.Test.YtinjpkbpdhihjaaDoorCards
import Derived.Lay
import Derived.SevenTiedAt
import Derived.MakeChecks
import Derived.WalkKit
import Derived.ProofKit
import Derived.OpenShut
import Derived.IntWalk
/- LineGets: of whatever line: the program's command and error are the document's own: the statement answers true. No condition but that the program's and the library's tables lie as their text lays them (tied). -/
namespace Go.Proofs.YtinjpkbpdhihjaaDoor
open Go.ChangeShapes Go.WideShapes Go.ChangeAt Go.RowKit
set_option linter.unusedVariables false
open Go.RowKit Go
set_option maxRecDepth 100000 in
set_option maxHeartbeats 2000000 in
theorem walk_lineGets (s : ByteArray) (w : World) (_ : s.size ≤ maxLen) (hk : KTab w) (hw : WTab w) (ht : Tab w) :
    Calls Tryd.prog 4 #[.string s] w fun e w' => e = .returned (.bool true) ∧ Below w.heap.size w w' := by
  have HT := Lib.hid (show Tabs w from ⟨hk, hw, ht⟩)
  clear hk hw ht
  by_cases h : s.size ≤ 1000
  · have HS := Lib.hid (show s.size ≤ 500000 by omega)
    go_enter Tryd.func4, Tryd.ntmps4
    go_wp2_with fail
    refine (awake_any _ HT.out).mono ?_
    rintro e w1 ⟨rfl, b1⟩
    go_wp2_with fail
    have B1 := Lib.hid b1
    clear b1
    have HR := Lib.hid (fun (c d : Cm) (h1 : c = codeC (words s.data.toList)) (h2 : d = codeC (words s.data.toList)) => (by subst h1; subst h2; exact same_self _ : sameB c d = true))
    generalize hN : (if codeB (words s.data.toList) then (0 : Int) else 2) = N
    have HN := Lib.hid hN
    clear hN
    refine (get_any s _ HS.out (HT.out.call B1.out)).mono ?_
    rintro e w2 ⟨c, ga, gc, wa, wc, hc, rfl, i1, i2, b2⟩
    rw [HN.out]
    have HC := Lib.hid hc
    have C2 := Lib.hid (HoldC.new #[.int .i64 c.kind, .int .i64 c.dir, .int .i64 c.item, .int .i64 c.box, .int .i64 c.who, .slice ga c.gives.length gc, .int .i64 c.pay, .slice wa c.wants.length wc, .int .i64 c.fee] i1 i2)
    have B2 := Lib.hid ((bl B1.out b2).alloc (bl B1.out b2).size (.cells #[.int .i64 c.kind, .int .i64 c.dir, .int .i64 c.item, .int .i64 c.box, .int .i64 c.who, .slice ga c.gives.length gc, .int .i64 c.pay, .slice wa c.wants.length wc, .int .i64 c.fee] 24))
    clear b2 i1 i2 hc B1
    go_wp2_with fail
    refine (refget_any s _ HS.out).mono ?_
    rintro e w3 ⟨d, gb, gcb, wb, wcb, hd, rfl, i1, i2, b3⟩
    rw [HN.out]
    have HD := Lib.hid hd
    have C3 := Lib.hid ((C2.out.call b3).alloc (.cells #[.int .i64 d.kind, .int .i64 d.dir, .int .i64 d.item, .int .i64 d.box, .int .i64 d.who, .slice gb d.gives.length gcb, .int .i64 d.pay, .slice wb d.wants.length wcb, .int .i64 d.fee] 24))
    have D3 := Lib.hid (HoldC.new #[.int .i64 d.kind, .int .i64 d.dir, .int .i64 d.item, .int .i64 d.box, .int .i64 d.who, .slice gb d.gives.length gcb, .int .i64 d.pay, .slice wb d.wants.length wcb, .int .i64 d.fee] i1 i2)
    have B3 := Lib.hid ((bl B2.out b3).alloc (bl B2.out b3).size (.cells #[.int .i64 d.kind, .int .i64 d.dir, .int .i64 d.item, .int .i64 d.box, .int .i64 d.who, .slice gb d.gives.length gcb, .int .i64 d.pay, .slice wb d.wants.length wcb, .int .i64 d.fee] 24))
    have K := Lib.hid (HR.out c d HC.out HD.out)
    clear b3 i1 i2 hd B2 C2 HC HD HR
    have c1 := C3.out.1.cell
    have c2 := D3.out.1.cell
    go_wp2_with fail
    refine (refsame_any _ _ _ _ _ _ _ _ _ _ _ C3.out.2.1 C3.out.2.2 D3.out.2.1 D3.out.2.2).mono ?_
    rintro e w4 ⟨rfl, b4⟩
    rw [K.out]
    have B4 := Lib.hid (bl B3.out b4)
    clear b4 c1 c2
    go_wp2_with fail
    go_ret
    exact ⟨rfl, B4.out⟩
  · have h1 : 1000 < s.size := by omega
    clear h
    go_enter Tryd.func4, Tryd.ntmps4
    go_wp2_with fail
    refine (awake_any _ HT.out).mono ?_
    rintro e wA ⟨rfl, bA⟩
    go_wp2_with fail
    have T1 := Lib.hid (HT.out.call bA)
    refine (awake_any _ T1.out).mono ?_
    rintro e wB ⟨rfl, bB⟩
    go_wp2_with fail
    go_ret
    exact ⟨rfl, bl bA bB⟩
set_option maxRecDepth 100000 in
theorem lifted_lineGets (os : Os) (started : os.Started) (H : Type) (enc : TypeId × Value → H) :
    ReturnsInHanded {} Tryd.checked os 4 .any (fun w args => (Rows.lineGetsSpec.pre enc Tryd.prog Tryd.f4 [] false w args ∧ laidMetH Tryd.prog Rows.lineGetsRow.laid w) ∧ sizedMet enc Tryd.prog Tryd.f4 (OpenSpec.ofChange Rows.lineGetsSpec) false w args) (Rows.lineGetsSpec.post enc Tryd.prog Tryd.f4 false true false false) := by
  refine returnsInHanded_of_change_and (C := Tryd.checked) (X := fun w _ => laidMetH Tryd.prog Rows.lineGetsRow.laid w) (fun _ _ _ hh h => h.of_heap hh) (by kernel_rfl) started (by kernel_rfl) Tryd.func4
    (ChangeSpec.witness_shaped (enc := enc) (C := Tryd.checked) (os := os) (X := fun w _ => laidMetH Tryd.prog Rows.lineGetsRow.laid w) false (World.laidAll Tryd.prog os Rows.lineGetsRow.laid) #[.string ByteArray.empty] 8 (World.laidAll_os _ _ _)
      (World.shaped_of_ZipB (by kernel_rfl) (by kernel_rfl)) (by kernel_rfl) (by kernel_rfl) (by kernel_rfl)
      (by rw [MakeChecks.laidMetH_plain _ _ _ (by kernel_rfl)]; exact laidMet_laidAll _ (by kernel_rfl) (by kernel_rfl))) ?_
  intro W base args ds gs before hval0 hW hcnd hsized hL _
  have hval : ∀ (j : Nat) t v, Tryd.f4.params[j]? = some t → args[j]? = some v → Value.okWide Tryd.prog W .any base t v := hval0
  have hW' := hW
  obtain ⟨p, q, hA0, hV, rfl, hfz, hnd⟩ := hW
  have hA : DataW.TrodAll enc Tryd.prog W 0 (fun _ => true) true Tryd.f4.params.toList args.toList ds p := hA0
  rw [Tryd.params4] at hA hval
  obtain ⟨v0, vs0, d0, ds0, p0, q0, hargs, rfl, rfl, h0, r0⟩ := trodAll_cons hA
  obtain ⟨rfl, rfl, rfl⟩ := trodAll_nil r0
  obtain rfl : args = #[v0] := by cases args; simp_all
  obtain ⟨rfl, rfl⟩ := trodVars_none hV
  obtain ⟨s0, rfl, rfl, rfl, b0⟩ := ChangeMaps.open_string Tryd.underlying9 (hval 0 9 v0 rfl rfl) h0
  clear hA0 hval0
  simp only [List.append_nil] at hW'
  rw [MakeChecks.laidMetH_plain _ _ _ (by kernel_rfl)] at hL
  have fKTab := KTab_laid W (hL.tail.tail.tail.tail)
  have fWTab := WTab_laid W (hL.tail.tail.tail.tail.tail)
  have fTab := Tab_laid W (hL.tail.tail)
  refine (walk_lineGets s0 W b0 fKTab fWTab fTab).mono fun e W' ⟨he, hg⟩ => ?_
  subst he
  exact ⟨_, rfl, law_post (by kernel_rfl) rfl (by rw [Tryd.params4]; decide +kernel) rfl rfl Tryd.underlying4 hW' hg⟩

theorem row_lineGets : Rows.LineGetsSaid :=
  OpenClaim.holds_of_wide 4 Tryd.f4 rfl rfl rfl rfl rfl rfl rfl ⟨rfl, rfl, rfl, rfl, rfl⟩ rfl rfl rfl rfl rfl (by kernel_rfl) Tryd.func4 (by kernel_rfl)
    (of_decide_eq_true (by kernel_rfl)) (by unfold Func.isWrapper; first | (rw [if_pos (by decide +kernel)]; kernel_rfl) | (rw [if_neg (by decide +kernel)]; exact ⟨rfl, rfl⟩))
    (fun os started H enc _ => lifted_lineGets os started H enc)
/-- ████ THE STATEMENT ████ -/
theorem proved_lineGets : Rows.LineGetsCardSaid :=
  Claim7.holds_tied_plain_at .later [] Rows.lineGetsCard.laidKinds true Rows.lineGetsCard.stood.harness false row_lineGets (fun _ h => by cases h) (by kernel_rfl) (fun _ h => by cases h) lineGets_row_tie rfl ⟨rfl, rfl⟩ (by kernel_rfl) rfl
    (fun f fn hf hfn => by
      obtain rfl : f = 4 := Option.some.inj ((show Tryd.prog.funcNamed "innkeep/innkeeplaw04.LineGets" = some 4 by kernel_rfl).symm.trans hf) |>.symm
      obtain rfl : fn = Tryd.f4 := (Option.some.inj (Tryd.func4.symm.trans hfn)).symm
      exact ⟨by kernel_rfl, fun j t ht => by
        rw [Tryd.params4] at ht
        have hm : t ∈ [9] := by simpa using Array.mem_of_getElem? ht
        have hall : ([9].all fun u => !Tryd.prog.wantsStandIn u) = true := by kernel_rfl
        exact (show Tryd.prog.wantsStandIn t = false by simpa using List.all_eq_true.1 hall t hm)⟩)
    (by kernel_rfl)
#print axioms proved_lineGets
end Go.Proofs.YtinjpkbpdhihjaaDoor
