/- ReplyGets: of whatever text of at most a thousand bytes: the program's answer and error are the document's own: the statement answers true. No condition but that the program's and the library's tables lie as their text lays them (tied). -/
import Derived.Test.YtcabeagmdfpdlaaDoorRows
import Derived.Test.YtcabeagmdfpdlaaDoorKit
import Derived.Test.YtcabeagmdfpdlaaDoorStrs
import Derived.Test.YtcabeagmdfpdlaaDoorJTab
import Derived.Test.YtcabeagmdfpdlaaDoorJBlk
import Derived.Test.YtcabeagmdfpdlaaDoorJMath
import Derived.Test.YtcabeagmdfpdlaaDoorJNum
import Derived.Test.YtcabeagmdfpdlaaDoorJTokWord
import Derived.Test.YtcabeagmdfpdlaaDoorJTokJoin
import Derived.Test.YtcabeagmdfpdlaaDoorJCmdNames1
import Derived.Test.YtcabeagmdfpdlaaDoorJRepMath
import Derived.Test.YtcabeagmdfpdlaaDoorJRepItems
import Derived.Test.YtcabeagmdfpdlaaDoorJRepSame
import Derived.Test.YtcabeagmdfpdlaaDoorJRepWords
import Derived.Test.YtcabeagmdfpdlaaDoorJRepPut
import Derived.Test.YtcabeagmdfpdlaaDoorJRepPut3
import Derived.Test.YtcabeagmdfpdlaaDoorJRepRead1
import Derived.Test.YtcabeagmdfpdlaaDoorJRepGet
import Derived.Test.YtcabeagmdfpdlaaDoorJRefGet
import Derived.Test.YtcabeagmdfpdlaaDoorJRepAwake
import Derived.Test.YtcabeagmdfpdlaaDoorJRepArg
import Derived.Test.YtcabeagmdfpdlaaDoorJRepLaw
import Derived.Test.YtcabeagmdfpdlaaDoorTie
import Derived.Test.YtcabeagmdfpdlaaDoorCards
import Derived.Lay
import Derived.SevenTiedAt
import Derived.MakeChecks
import Derived.WalkKit
import Derived.ProofKit
import Derived.OpenShut
import Derived.IntWalk
namespace Go.Proofs.YtcabeagmdfpdlaaDoor
open Go.ChangeShapes Go.WideShapes Go.ChangeAt Go.RowKit
set_option linter.unusedVariables false
open Go.RowKit Go
theorem rrefget_any (s : ByteArray) (w : World) (hs : s.size ≤ 500000) : Calls Tryd.prog 17 #[.string s] w (GetsR s.data.toList w) := by
  by_cases hne : words s.data.toList = []
  · exact refget_nil s w hs hne
  · by_cases hw : headW (words s.data.toList) = sError
    · exact refget_err s w hs hne hw
    · by_cases h12 : kindN (headW (words s.data.toList)) = 1 ∨ kindN (headW (words s.data.toList)) = 2
      · exact refget_move s w hs hne hw h12
      · by_cases h9 : kindN (headW (words s.data.toList)) = 9
        · exact refget_look s w hs hne hw h9
        · by_cases h10 : kindN (headW (words s.data.toList)) = 10
          · exact refget_own s w hs hne hw h10
          · exact refget_else s w hs hne hw (fun h => h12 (.inl h)) (fun h => h12 (.inr h)) h9 h10
set_option maxRecDepth 100000 in
set_option maxHeartbeats 2000000 in
theorem walk_replyGets (s : ByteArray) (w : World) (_ : s.size ≤ maxLen) (hk : KTab w) (hp : PTab w) (ht : Tab w) :
    Calls Tryd.prog 4 #[.string s] w fun e w' => e = .returned (.bool true) ∧ Below w.heap.size w w' := by
  have HT := Lib.hid (show RTabs w from ⟨hk, hp, ht⟩)
  clear hk hp ht
  by_cases h : s.size ≤ 1000
  · have HS := Lib.hid (show s.size ≤ 500000 by omega)
    go_enter Tryd.func4, Tryd.ntmps4
    go_wp2_with fail
    refine (rawake_any _ HT.out).mono ?_
    rintro e w1 ⟨rfl, b1⟩
    go_wp2_with fail
    have B1 := Lib.hid b1
    clear b1
    refine (rget_any s _ HS.out (HT.out.call B1.out)).mono ?_
    rintro e w2 ⟨c, ga, gc, wa, wc, n, rfl, hg1, i1, i2, b2⟩
    have HG1 := Lib.hid hg1
    have C2 := Lib.hid (HoldR.new #[.int .i64 c.err, .int .i64 c.kind, .int .i64 c.room, .slice ga c.players.length gc, .slice wa c.items.length wc, .int .i64 c.coins] i1 i2)
    have B2 := Lib.hid ((bl B1.out b2).alloc (bl B1.out b2).size (.cells #[.int .i64 c.err, .int .i64 c.kind, .int .i64 c.room, .slice ga c.players.length gc, .slice wa c.items.length wc, .int .i64 c.coins] 26))
    clear b2 i1 i2 hg1 B1
    go_wp2_with fail
    refine (rrefget_any s _ HS.out).mono ?_
    rintro e w3 ⟨d, gb, gcb, wb, wcb, m, rfl, hg2, i1, i2, b3⟩
    obtain ⟨hcd, rfl⟩ := HG1.out.same hg2
    have HCD := Lib.hid hcd
    have C3 := Lib.hid ((C2.out.call b3).alloc (.cells #[.int .i64 d.err, .int .i64 d.kind, .int .i64 d.room, .slice gb d.players.length gcb, .slice wb d.items.length wcb, .int .i64 d.coins] 26))
    have D3 := Lib.hid (HoldR.new #[.int .i64 d.err, .int .i64 d.kind, .int .i64 d.room, .slice gb d.players.length gcb, .slice wb d.items.length wcb, .int .i64 d.coins] i1 i2)
    have B3 := Lib.hid ((bl B2.out b3).alloc (bl B2.out b3).size (.cells #[.int .i64 d.err, .int .i64 d.kind, .int .i64 d.room, .slice gb d.players.length gcb, .slice wb d.items.length wcb, .int .i64 d.coins] 26))
    clear b3 i1 i2 hg2 B2 C2 hcd HG1
    have c1 := C3.out.1.cell
    have c2 := D3.out.1.cell
    go_wp2_with fail
    refine (rrefsame_any _ _ _ _ _ _ _ _ _ _ _ C3.out.2.1 C3.out.2.2 D3.out.2.1 D3.out.2.2).mono ?_
    rintro e w4 ⟨rfl, b4⟩
    rw [show rsameB c d = true by rw [HCD.out]; exact rself _]
    have B4 := Lib.hid (bl B3.out b4)
    clear b4 c1 c2
    go_wp2_with fail
    go_ret
    exact ⟨rfl, B4.out⟩
  · have h1 : 1000 < s.size := by omega
    clear h
    go_enter Tryd.func4, Tryd.ntmps4
    go_wp2_with fail
    refine (rawake_any _ HT.out).mono ?_
    rintro e wA ⟨rfl, bA⟩
    go_wp2_with fail
    have T1 := Lib.hid (HT.out.call bA)
    refine (rawake_any _ T1.out).mono ?_
    rintro e wB ⟨rfl, bB⟩
    go_wp2_with fail
    go_ret
    exact ⟨rfl, bl bA bB⟩
set_option maxRecDepth 100000 in
theorem lifted_replyGets (os : Os) (started : os.Started) (H : Type) (enc : TypeId × Value → H) :
    ReturnsInHanded {} Tryd.checked os 4 .any (fun w args => (Rows.replyGetsSpec.pre enc Tryd.prog Tryd.f4 [] false w args ∧ laidMetH Tryd.prog Rows.replyGetsRow.laid w) ∧ sizedMet enc Tryd.prog Tryd.f4 (OpenSpec.ofChange Rows.replyGetsSpec) false w args) (Rows.replyGetsSpec.post enc Tryd.prog Tryd.f4 false true false false) := by
  refine returnsInHanded_of_change_and (C := Tryd.checked) (X := fun w _ => laidMetH Tryd.prog Rows.replyGetsRow.laid w) (fun _ _ _ hh h => h.of_heap hh) (by kernel_rfl) started (by kernel_rfl) Tryd.func4
    (ChangeSpec.witness_shaped (enc := enc) (C := Tryd.checked) (os := os) (X := fun w _ => laidMetH Tryd.prog Rows.replyGetsRow.laid w) false (World.laidAll Tryd.prog os Rows.replyGetsRow.laid) #[.string ByteArray.empty] 8 (World.laidAll_os _ _ _)
      (World.shaped_of_ZipB (by kernel_rfl) (by kernel_rfl)) (by kernel_rfl) (by kernel_rfl) (by kernel_rfl)
      (by rw [MakeChecks.laidMetH_plain _ _ _ (by kernel_rfl)]; exact laidMet_laidAll _ (by kernel_rfl) (by kernel_rfl))) ?_
  intro W base args ds gs before hval0 hW hcnd hsized hL _
  have hval : ∀ (j : Nat) t v, Tryd.f4.params[j]? = some t → args[j]? = some v → Value.okWide Tryd.prog W .any base t v := hval0
  have hW' := hW
  obtain ⟨p, q, hA0, hV, rfl, hfz, hnd⟩ := hW
  have hA : DataW.TrodAll enc Tryd.prog W 0 (fun _ => true) true Tryd.f4.params.toList args.toList ds p := hA0
  rw [Tryd.params4] at hA hval
  obtain ⟨v0, vs0, d0, ds0, p0, q0, hargs, rfl, rfl, h0, r0⟩ := trodAll_cons hA
  obtain ⟨rfl, rfl, rfl⟩ := trodAll_nil r0
  obtain rfl : args = #[v0] := by cases args; simp_all
  obtain ⟨rfl, rfl⟩ := trodVars_none hV
  obtain ⟨s0, rfl, rfl, rfl, b0⟩ := ChangeMaps.open_string Tryd.underlying9 (hval 0 9 v0 rfl rfl) h0
  clear hA0 hval0
  simp only [List.append_nil] at hW'
  rw [MakeChecks.laidMetH_plain _ _ _ (by kernel_rfl)] at hL
  have fKTab := KTab_laid W (hL.tail.tail.tail.tail)
  have fPTab := PTab_laid W (hL.tail.tail.tail.tail.tail)
  have fTab := Tab_laid W (hL.tail.tail)
  refine (walk_replyGets s0 W b0 fKTab fPTab fTab).mono fun e W' ⟨he, hg⟩ => ?_
  subst he
  exact ⟨_, rfl, law_post (by kernel_rfl) rfl (by rw [Tryd.params4]; decide +kernel) rfl rfl Tryd.underlying4 hW' hg⟩

theorem row_replyGets : Rows.ReplyGetsSaid :=
  OpenClaim.holds_of_wide 4 Tryd.f4 rfl rfl rfl rfl rfl rfl rfl ⟨rfl, rfl, rfl, rfl, rfl⟩ rfl rfl rfl rfl rfl (by kernel_rfl) Tryd.func4 (by kernel_rfl)
    (of_decide_eq_true (by kernel_rfl)) (by unfold Func.isWrapper; first | (rw [if_pos (by decide +kernel)]; kernel_rfl) | (rw [if_neg (by decide +kernel)]; exact ⟨rfl, rfl⟩))
    (fun os started H enc _ => lifted_replyGets os started H enc)
/-- ████ THE STATEMENT ████ -/
theorem proved_replyGets : Rows.ReplyGetsCardSaid :=
  Claim7.holds_tied_plain_at .later [] Rows.replyGetsCard.laidKinds true Rows.replyGetsCard.stood.harness false row_replyGets (fun _ h => by cases h) (by kernel_rfl) (fun _ h => by cases h) replyGets_row_tie rfl ⟨rfl, rfl⟩ (by kernel_rfl) rfl
    (fun f fn hf hfn => by
      obtain rfl : f = 4 := Option.some.inj ((show Tryd.prog.funcNamed "innkeep/innkeeplaw05.ReplyGets" = some 4 by kernel_rfl).symm.trans hf) |>.symm
      obtain rfl : fn = Tryd.f4 := (Option.some.inj (Tryd.func4.symm.trans hfn)).symm
      exact ⟨by kernel_rfl, fun j t ht => by
        rw [Tryd.params4] at ht
        have hm : t ∈ [9] := by simpa using Array.mem_of_getElem? ht
        have hall : ([9].all fun u => !Tryd.prog.wantsStandIn u) = true := by kernel_rfl
        exact (show Tryd.prog.wantsStandIn t = false by simpa using List.all_eq_true.1 hall t hm)⟩)
    (by kernel_rfl)
#print axioms proved_replyGets
end Go.Proofs.YtcabeagmdfpdlaaDoor
