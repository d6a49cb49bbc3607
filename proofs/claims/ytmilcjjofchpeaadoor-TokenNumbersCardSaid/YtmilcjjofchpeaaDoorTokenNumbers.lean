/- TokenNumbers: for every word and number, the number that is read, and the word, are the document's: the statement answers true. No condition but that the library's tables lie as its text lays them (tied). -/
import Derived.Test.YtmilcjjofchpeaaDoorRows
import Derived.Test.YtmilcjjofchpeaaDoorTokLaw
import Derived.WalkKit
import Derived.ProofKit
import Derived.OpenShut
import Derived.IntWalk
namespace Go.Proofs.YtmilcjjofchpeaaDoor
open Go.ChangeShapes Go.WideShapes Go.ChangeAt Go.RowKit
set_option linter.unusedVariables false
open Go.RowKit

theorem walk_tokenNumbers (s : ByteArray) (m : Int) (w : World) (w1 : (Lit.int .u32 m).wf = true) (hs : s.size ≤ maxLen) (ht : Tab w) :
    Calls Tryd.prog 4 #[.string s, .int .u32 m] w fun e w' => e = .returned (.bool true) ∧ Below w.heap.size w w' := by
  obtain ⟨m0, m1⟩ := wf_u32 w1
  obtain ⟨m, rfl⟩ := Int.eq_ofNat_of_zero_le m0
  have HT := Lib.hid ht
  unfold maxLen at hs
  clear ht w1
  by_cases hlen : s.size ≤ 100
  · have hk : m % 1073741825 ≤ 1073741824 := by omega
    have hkk : ((m : Int) % 1073741825) = ((m % 1073741825 : Nat) : Int) := by omega
    generalize hkd : m % 1073741825 = k at *
    have HK := Lib.hid hkk
    clear hkk hkd
    have hyes := Lib.hid (word_numB hk)
    have hnum := Lib.hid (word_numN hk)
    have hl : (Lib.decDigits k).length ≤ 21 := by
      have := Lib.itoa_length_le (k : Int) (by omega) (by omega)
      rwa [Lib.itoa_nonneg] at this
    go_enter Tryd.func4, Tryd.ntmps4
    go_wp2_with fail
    refine (awake_any _ HT.out).mono ?_
    rintro e wA ⟨rfl, bA⟩
    go_wp2_with fail
    have T1 := Lib.hid (tab_below HT.out bA)
    refine (number_any s _ (by omega)).mono ?_
    rintro e w' ⟨rfl, rfl⟩
    go_wp2_with fail
    refine (refnumber_any s _ (by omega)).mono ?_
    rintro e w' ⟨rfl, rfl⟩
    go_wp2_with fail
    rw [HK.out]
    refine (word_any k _ (by omega) T1.out).mono ?_
    rintro e wB ⟨rfl, bB⟩
    go_wp2_with fail
    have T2 := Lib.hid (tab_below T1.out bB)
    refine (number_any _ _ (by simp [ByteArray.size]; omega)).mono ?_
    rintro e w' ⟨rfl, rfl⟩
    rw [hyes.out, hnum.out]
    go_wp2_with fail
    refine (word_any k _ (by omega) T2.out).mono ?_
    rintro e wC ⟨rfl, bC⟩
    go_wp2_with fail
    have T3 := Lib.hid (tab_below T2.out bC)
    refine (refword_any k _ (by omega)).mono ?_
    rintro e wD ⟨rfl, bD⟩
    go_wp2_with fail
    have T4 := Lib.hid (tab_below T3.out bD)
    · have hb : numB s.data.toList = true := by assumption
      have hn := numN_le s.data.toList
      have HE := Lib.hid (show (ByteArray.mk (Lib.decDigits (numN s.data.toList)).toArray) = s by rw [word_of_num hb])
      refine (word_any (numN s.data.toList) _ (by omega) T4.out).mono ?_
      rintro e wE ⟨rfl, bE⟩
      rw [HE.out]
      go_wp2_with fail
      go_ret
      exact ⟨rfl, bl (bl (bl (bl bA bB) bC) bD) bE⟩
    · go_ret
      exact ⟨rfl, bl (bl (bl bA bB) bC) bD⟩
  ·
    go_enter Tryd.func4, Tryd.ntmps4
    go_wp2_with fail
    refine (awake_any _ HT.out).mono ?_
    rintro e wA ⟨rfl, bA⟩
    go_wp2_with fail
    have T1 := Lib.hid (tab_below HT.out bA)
    refine (awake_any _ T1.out).mono ?_
    rintro e wB ⟨rfl, bB⟩
    go_wp2_with fail
    go_ret
    exact ⟨rfl, bl bA bB⟩
set_option maxRecDepth 100000 in
theorem lifted_tokenNumbers (os : Os) (started : os.Started) (H : Type) (enc : TypeId × Value → H) :
    ReturnsInHanded {} Tryd.checked os 4 .any (fun w args => (Rows.tokenNumbersSpec.pre enc Tryd.prog Tryd.f4 [] false w args ∧ laidMetH Tryd.prog Rows.tokenNumbersRow.laid w) ∧ sizedMet enc Tryd.prog Tryd.f4 (OpenSpec.ofChange Rows.tokenNumbersSpec) false w args) (Rows.tokenNumbersSpec.post enc Tryd.prog Tryd.f4 false true false false) := by
  refine returnsInHanded_of_change_and (C := Tryd.checked) (X := fun w _ => laidMetH Tryd.prog Rows.tokenNumbersRow.laid w) (fun _ _ _ hh h => h.of_heap hh) (by kernel_rfl) started (by kernel_rfl) Tryd.func4
    (ChangeSpec.witness_shaped (enc := enc) (C := Tryd.checked) (os := os) (X := fun w _ => laidMetH Tryd.prog Rows.tokenNumbersRow.laid w) false (World.laidAll Tryd.prog os Rows.tokenNumbersRow.laid) #[.string ByteArray.empty, .int .u32 0] 8 (World.laidAll_os _ _ _)
      (World.shaped_of_ZipB (by kernel_rfl) (by kernel_rfl)) (by kernel_rfl) (by kernel_rfl) (by kernel_rfl)
      (by rw [MakeChecks.laidMetH_plain _ _ _ (by kernel_rfl)]; exact laidMet_laidAll _ (by kernel_rfl) (by kernel_rfl))) ?_
  intro W base args ds gs before hval0 hW hcnd hsized hL _
  have hval : ∀ (j : Nat) t v, Tryd.f4.params[j]? = some t → args[j]? = some v → Value.okWide Tryd.prog W .any base t v := hval0
  have hW' := hW
  obtain ⟨p, q, hA0, hV, rfl, hfz, hnd⟩ := hW
  have hA : DataW.TrodAll enc Tryd.prog W 0 (fun _ => true) true Tryd.f4.params.toList args.toList ds p := hA0
  rw [Tryd.params4] at hA hval
  obtain ⟨v0, vs0, d0, ds0, p0, q0, hargs, rfl, rfl, h0, r0⟩ := trodAll_cons hA
  obtain ⟨v1, vs1, d1, ds1, p1, q1, rfl, rfl, rfl, h1, r1⟩ := trodAll_cons r0
  obtain ⟨rfl, rfl, rfl⟩ := trodAll_nil r1
  obtain rfl : args = #[v0, v1] := by cases args; simp_all
  obtain ⟨rfl, rfl⟩ := trodVars_none hV
  obtain ⟨s0, rfl, rfl, rfl, b0⟩ := ChangeMaps.open_string Tryd.underlying9 (hval 0 9 v0 rfl rfl) h0
  obtain ⟨a1, rfl, rfl, rfl, w1⟩ := open_int Tryd.underlying29 (hval 1 29 v1 rfl rfl) h1
  clear hA0 hval0
  simp only [List.append_nil] at hW'
  rw [MakeChecks.laidMetH_plain _ _ _ (by kernel_rfl)] at hL
  have fTab := Tab_laid W (hL.tail.tail)
  refine (walk_tokenNumbers s0 a1 W w1 b0 fTab).mono fun e W' ⟨he, hg⟩ => ?_
  subst he
  exact ⟨_, rfl, law_post (by kernel_rfl) rfl (by rw [Tryd.params4]; decide +kernel) rfl rfl Tryd.underlying4 hW' hg⟩

theorem row_tokenNumbers : Rows.TokenNumbersSaid :=
  OpenClaim.holds_of_wide 4 Tryd.f4 rfl rfl rfl rfl rfl rfl rfl ⟨rfl, rfl, rfl, rfl, rfl⟩ rfl rfl rfl rfl rfl (by kernel_rfl) Tryd.func4 (by kernel_rfl)
    (of_decide_eq_true (by kernel_rfl)) (by unfold Func.isWrapper; first | (rw [if_pos (by decide +kernel)]; kernel_rfl) | (rw [if_neg (by decide +kernel)]; exact ⟨rfl, rfl⟩))
    (fun os started H enc _ => lifted_tokenNumbers os started H enc)
/-- ████ THE STATEMENT ████ -/
theorem proved_tokenNumbers : Rows.TokenNumbersCardSaid :=
  Claim7.holds_tied_plain_at .later [] Rows.tokenNumbersCard.laidKinds true Rows.tokenNumbersCard.stood.harness false row_tokenNumbers (fun _ h => by cases h) (by kernel_rfl) (fun _ h => by cases h) tokenNumbers_row_tie rfl ⟨rfl, rfl⟩ (by kernel_rfl) rfl
    (fun f fn hf hfn => by
      obtain rfl : f = 4 := Option.some.inj ((show Tryd.prog.funcNamed "innkeep/innkeeplaw02.TokenNumbers" = some 4 by kernel_rfl).symm.trans hf) |>.symm
      obtain rfl : fn = Tryd.f4 := (Option.some.inj (Tryd.func4.symm.trans hfn)).symm
      exact ⟨by kernel_rfl, fun j t ht => by
        rw [Tryd.params4] at ht
        have hm : t ∈ [9, 29] := by simpa using Array.mem_of_getElem? ht
        have hall : ([9, 29].all fun u => !Tryd.prog.wantsStandIn u) = true := by kernel_rfl
        exact (show Tryd.prog.wantsStandIn t = false by simpa using List.all_eq_true.1 hall t hm)⟩)
    (by kernel_rfl)
#print axioms proved_tokenNumbers
end Go.Proofs.YtmilcjjofchpeaaDoor
