/- TokenParts: for every two lines, the words of both with a gap between are those of the one and then those of the other, and without it the last one of the first may go on: the statement answers true. No condition but that the library's tables lie as its text lays them (tied). -/
import Derived.Test.YtmilcjjofchpeaaDoorRows
import Derived.Test.YtmilcjjofchpeaaDoorTokLaw
import Derived.Test.YtmilcjjofchpeaaDoorAppend
import Derived.WalkKit
import Derived.ProofKit
import Derived.OpenShut
import Derived.IntWalk
namespace Go.Proofs.YtmilcjjofchpeaaDoor
open Go.ChangeShapes Go.WideShapes Go.ChangeAt Go.RowKit
set_option linter.unusedVariables false
open Go.RowKit

theorem strs_form {w : World} {v : Value} {xs : List (List UInt8)} (h : Strs w v xs) : ∃ a n c, v = .slice a n c ∧ n = xs.length := by
  obtain ⟨a, c, rfl, _, _⟩ := h; exact ⟨a, _, c, rfl, rfl⟩

theorem walk_tokenParts (s t : ByteArray) (w : World) (hs : s.size ≤ maxLen) (ht : t.size ≤ maxLen) (hT : Tab w) :
    Calls Tryd.prog 6 #[.string s, .string t] w fun e w' => e = .returned (.bool true) ∧ Below w.heap.size w w' := by
  have HT := Lib.hid hT
  clear hT
  unfold maxLen at hs ht
  by_cases h1 : s.size ≤ 1000 ∧ t.size ≤ 1000
  · obtain ⟨h1, h2⟩ := h1
    go_enter Tryd.func6, Tryd.ntmps6
    go_wp2_with fail
    refine (awake_any _ HT.out).mono ?_
    rintro e wA ⟨rfl, bA⟩
    go_wp2_with fail
    refine (cut_any s _ (by omega)).mono ?_
    rintro e wB ⟨v1, rfl, hv1, bB⟩
    obtain ⟨a1, n1, c1, rfl, hn1⟩ := strs_form hv1
    have HV1 := Lib.hid hv1
    have HN1 := Lib.hid hn1
    clear hv1 hn1
    go_wp2_with fail
    refine (cut_any t _ (by omega)).mono ?_
    rintro e wC ⟨v2, rfl, hv2, bC⟩
    obtain ⟨a2, n2, c2, rfl, hn2⟩ := strs_form hv2
    have HN2 := Lib.hid hn2
    clear hn2
    have l1 := words_len s.data.toList
    have l2 := words_len t.data.toList
    rw [data_len] at l1 l2
    have bAB := bl bA bB
    have bABC := bl bAB bC
    have bE : Below w.heap.size w (wC.alloc (.cells #[] 9)) := bABC.alloc bABC.size _
    have hs1 : Strs (wC.alloc (.cells #[] 9)) (.slice a1 n1 c1) (words s.data.toList) := (HV1.out.below bC).below ((Below.refl _ _).alloc (Nat.le_refl _) _)
    have hs2 : Strs (wC.alloc (.cells #[] 9)) (.slice a2 n2 c2) (words t.data.toList) := hv2.below ((Below.refl _ _).alloc (Nat.le_refl _) _)
    obtain ⟨v3, w3, hr3, ho3, hg3⟩ := append_strs 22 (empty_owned wC) hs1 (by omega) (by simp)
    have bG : Below wC.heap.size wC w3 := ((Below.refl _ wC).alloc (Nat.le_refl _) _).grown hg3 (by simp) (fun k e => by have := ((empty_owned wC).lt k e).1; exact this)
    have hs2' : Strs w3 (.slice a2 n2 c2) (words t.data.toList) := hv2.below bG
    obtain ⟨v4, w4, hr4, ho4, hg4⟩ := append_strs 22 ho3 hs2' (by omega) bG.size
    have bH : Below wC.heap.size wC w4 := bG.grown hg4 bG.size (fun k e => (ho3.lt k e).1)
    have hv4 : Strs w4 v4 (words s.data.toList ++ words t.data.toList) := strs_of_row (by
      have h := ho4
      rw [List.nil_append, Nat.zero_add] at h
      simpa using h) (by rw [List.length_append]; unfold maxLen; omega)
    have BH := Lib.hid (bl bABC bH)
    have HV4 := Lib.hid hv4
    clear hv2 HV1 bA bB bC bAB bABC bE hs1 hs2 ho3 hg3 bG hs2' ho4 hg4 bH hv4
    have ha1 := fun w => run_string_add_sum (P := Tryd.prog) (w := w) s t (by omega)
    have ha2 := fun w => run_string_add_sum (P := Tryd.prog) (w := w) s ⟨#[32]⟩ (by have : (⟨#[32]⟩ : ByteArray).size = 1 := rfl; omega)
    have ha3 := fun w => run_string_add_sum (P := Tryd.prog) (w := w) (s ++ ⟨#[32]⟩) t (by have : (⟨#[32]⟩ : ByteArray).size = 1 := rfl; rw [ByteArray.size_append]; omega)
    have e1 : (s ++ t).data.toList = s.data.toList ++ t.data.toList := by simp
    have e2 : (s ++ ⟨#[32]⟩ ++ t).data.toList = s.data.toList ++ 32 :: t.data.toList := by simp
    have z1 : (s ++ t).size ≤ 1000000 := by rw [ByteArray.size_append]; omega
    have z2 : (s ++ ⟨#[32]⟩ ++ t).size ≤ 1000000 := by have : (⟨#[32]⟩ : ByteArray).size = 1 := rfl; rw [ByteArray.size_append, ByteArray.size_append]; omega
    generalize s ++ t = S1 at *
    generalize s ++ ⟨#[32]⟩ ++ t = S2 at *
    have E1 := Lib.hid e1
    have E2 := Lib.hid e2
    clear e1 e2
    have R3 := Lib.hid hr3
    have R4 := Lib.hid hr4
    clear hr3 hr4
    go_wp2_with (at_builtin; first | refine append_step rfl (.tmp 26) (.tmp 27) 22 rfl _ _ v3 w3 rfl rfl R3.out ?_ | refine append_step rfl (.tmp 28) (.tmp 29) 22 rfl _ _ v4 w4 rfl rfl R4.out ?_)
    have hw1 := words_append_length s.data.toList t.data.toList
    have hw2 := words_both s.data.toList t.data.toList
    rw [← E1.out] at hw1
    rw [← E2.out] at hw2
    have HW1 := Lib.hid hw1
    have HW2 := Lib.hid hw2
    clear hw1 hw2
    refine (cut_any S1 _ z1).mono ?_
    rintro e wE ⟨v5, rfl, hv5, bE⟩
    obtain ⟨a5, n5, c5, rfl, hn5⟩ := strs_form hv5
    clear hv5
    have HV4' := Lib.hid (HV4.out.below bE)
    have BE := Lib.hid (bl BH.out bE)
    clear HV4 bE
    obtain ⟨a4, n4, c4, rfl, hn4⟩ := strs_form HV4'.out
    have HN4 := Lib.hid hn4
    have HN5 := Lib.hid hn5
    clear hn4 hn5
    go_wp2_with fail
    refine (cut_any S2 _ z2).mono ?_
    rintro e wF ⟨v6, rfl, hv6, bF⟩
    have HV6 := Lib.hid hv6
    clear hv6
    go_wp2_with fail
    refine (same_any _ HV6.out (HV4'.out.below bF)).mono ?_
    rintro e wG ⟨rfl, bG⟩
    have BG := Lib.hid (bl (bl BE.out bF) bG)
    rw [show decide (words S2.data.toList = words s.data.toList ++ words t.data.toList) = true by rw [HW2.out]; simp]
    clear HV4' HV6 bF bG BE
    have k1 := HW1.out
    have k4 := HN4.out
    rw [List.length_append] at k4
    have k5 := HN5.out
    have k1' := HN1.out
    have k2' := HN2.out
    have kk : n5 = n4 ∨ (n5 + 1 = n4 ∧ 0 < n1 ∧ 0 < n2) := by
      rcases k1 with k | ⟨k, p1, p2⟩
      · left; omega
      · right
        have := List.length_pos_iff.2 p1
        have := List.length_pos_iff.2 p2
        omega
    clear k1 k4 k5 k1' k2' l1 l2
    rcases kk with k | ⟨k, p1, p2⟩
    · have q : ((n5 : Int) == (n4 : Int)) = true := by rw [beq_iff_eq]; omega
      clear k
      go_wp2_with fail
      go_ret
      exact ⟨rfl, BG.out⟩
    · have q : ((n5 : Int) == (n4 : Int)) = false := by rw [beq_eq_false_iff_ne]; omega
      have q2 : ((n5 : Int) == (n4 : Int) - 1) = true := by rw [beq_iff_eq]; omega
      have q3 : n4 ≤ 1000000 := by have := HN4.out; rw [List.length_append] at this; have := words_len s.data.toList; have := words_len t.data.toList; rw [data_len] at *; omega
      clear k
      go_wp2_with fail
      go_ret
      exact ⟨rfl, BG.out⟩
  · by_cases h2 : s.size ≤ 1000
    · have h3 : 1000 < t.size := by omega
      clear h1
      go_enter Tryd.func6, Tryd.ntmps6
      go_wp2_with fail
      refine (awake_any _ HT.out).mono ?_
      rintro e wA ⟨rfl, bA⟩
      go_wp2_with fail
      have T1 := Lib.hid (tab_below HT.out bA)
      refine (awake_any _ T1.out).mono ?_
      rintro e wB ⟨rfl, bB⟩
      go_wp2_with fail
      go_ret
      exact ⟨rfl, bl bA bB⟩
    · clear h1
      have h3 : 1000 < s.size := by omega
      go_enter Tryd.func6, Tryd.ntmps6
      go_wp2_with fail
      refine (awake_any _ HT.out).mono ?_
      rintro e wA ⟨rfl, bA⟩
      go_wp2_with fail
      have T1 := Lib.hid (tab_below HT.out bA)
      refine (awake_any _ T1.out).mono ?_
      rintro e wB ⟨rfl, bB⟩
      go_wp2_with fail
      go_ret
      exact ⟨rfl, bl bA bB⟩

set_option maxRecDepth 100000 in
theorem lifted_tokenParts (os : Os) (started : os.Started) (H : Type) (enc : TypeId × Value → H) :
    ReturnsInHanded {} Tryd.checked os 6 .any (fun w args => (Rows.tokenPartsSpec.pre enc Tryd.prog Tryd.f6 [] false w args ∧ laidMetH Tryd.prog Rows.tokenPartsRow.laid w) ∧ sizedMet enc Tryd.prog Tryd.f6 (OpenSpec.ofChange Rows.tokenPartsSpec) false w args) (Rows.tokenPartsSpec.post enc Tryd.prog Tryd.f6 false true false false) := by
  refine returnsInHanded_of_change_and (C := Tryd.checked) (X := fun w _ => laidMetH Tryd.prog Rows.tokenPartsRow.laid w) (fun _ _ _ hh h => h.of_heap hh) (by kernel_rfl) started (by kernel_rfl) Tryd.func6
    (ChangeSpec.witness_shaped (enc := enc) (C := Tryd.checked) (os := os) (X := fun w _ => laidMetH Tryd.prog Rows.tokenPartsRow.laid w) false (World.laidAll Tryd.prog os Rows.tokenPartsRow.laid) #[.string ByteArray.empty, .string ByteArray.empty] 8 (World.laidAll_os _ _ _)
      (World.shaped_of_ZipB (by kernel_rfl) (by kernel_rfl)) (by kernel_rfl) (by kernel_rfl) (by kernel_rfl)
      (by rw [MakeChecks.laidMetH_plain _ _ _ (by kernel_rfl)]; exact laidMet_laidAll _ (by kernel_rfl) (by kernel_rfl))) ?_
  intro W base args ds gs before hval0 hW hcnd hsized hL _
  have hval : ∀ (j : Nat) t v, Tryd.f6.params[j]? = some t → args[j]? = some v → Value.okWide Tryd.prog W .any base t v := hval0
  have hW' := hW
  obtain ⟨p, q, hA0, hV, rfl, hfz, hnd⟩ := hW
  have hA : DataW.TrodAll enc Tryd.prog W 0 (fun _ => true) true Tryd.f6.params.toList args.toList ds p := hA0
  rw [Tryd.params6] at hA hval
  obtain ⟨v0, vs0, d0, ds0, p0, q0, hargs, rfl, rfl, h0, r0⟩ := trodAll_cons hA
  obtain ⟨v1, vs1, d1, ds1, p1, q1, rfl, rfl, rfl, h1, r1⟩ := trodAll_cons r0
  obtain ⟨rfl, rfl, rfl⟩ := trodAll_nil r1
  obtain rfl : args = #[v0, v1] := by cases args; simp_all
  obtain ⟨rfl, rfl⟩ := trodVars_none hV
  obtain ⟨s0, rfl, rfl, rfl, b0⟩ := ChangeMaps.open_string Tryd.underlying9 (hval 0 9 v0 rfl rfl) h0
  obtain ⟨s1, rfl, rfl, rfl, b1⟩ := ChangeMaps.open_string Tryd.underlying9 (hval 1 9 v1 rfl rfl) h1
  clear hA0 hval0
  simp only [List.append_nil] at hW'
  rw [MakeChecks.laidMetH_plain _ _ _ (by kernel_rfl)] at hL
  have fTab := Tab_laid W (hL.tail.tail)
  refine (walk_tokenParts s0 s1 W b0 b1 fTab).mono fun e W' ⟨he, hg⟩ => ?_
  subst he
  exact ⟨_, rfl, law_post (by kernel_rfl) rfl (by rw [Tryd.params6]; decide +kernel) rfl rfl Tryd.underlying4 hW' hg⟩

theorem row_tokenParts : Rows.TokenPartsSaid :=
  OpenClaim.holds_of_wide 6 Tryd.f6 rfl rfl rfl rfl rfl rfl rfl ⟨rfl, rfl, rfl, rfl, rfl⟩ rfl rfl rfl rfl rfl (by kernel_rfl) Tryd.func6 (by kernel_rfl)
    (of_decide_eq_true (by kernel_rfl)) (by unfold Func.isWrapper; first | (rw [if_pos (by decide +kernel)]; kernel_rfl) | (rw [if_neg (by decide +kernel)]; exact ⟨rfl, rfl⟩))
    (fun os started H enc _ => lifted_tokenParts os started H enc)
/-- ████ THE STATEMENT ████ -/
theorem proved_tokenParts : Rows.TokenPartsCardSaid :=
  Claim7.holds_tied_plain_at .later [] Rows.tokenPartsCard.laidKinds true Rows.tokenPartsCard.stood.harness false row_tokenParts (fun _ h => by cases h) (by kernel_rfl) (fun _ h => by cases h) tokenParts_row_tie rfl ⟨rfl, rfl⟩ (by kernel_rfl) rfl
    (fun f fn hf hfn => by
      obtain rfl : f = 6 := Option.some.inj ((show Tryd.prog.funcNamed "innkeep/innkeeplaw02.TokenParts" = some 6 by kernel_rfl).symm.trans hf) |>.symm
      obtain rfl : fn = Tryd.f6 := (Option.some.inj (Tryd.func6.symm.trans hfn)).symm
      exact ⟨by kernel_rfl, fun j t ht => by
        rw [Tryd.params6] at ht
        have hm : t ∈ [9, 9] := by simpa using Array.mem_of_getElem? ht
        have hall : ([9, 9].all fun u => !Tryd.prog.wantsStandIn u) = true := by kernel_rfl
        exact (show Tryd.prog.wantsStandIn t = false by simpa using List.all_eq_true.1 hall t hm)⟩)
    (by kernel_rfl)
#print axioms proved_tokenParts
end Go.Proofs.YtmilcjjofchpeaaDoor
