/- TokenDigits: for every word of at most nine digits, byte and place, just those words are numbers that don't begin with a 0, but 0 itself, and with another byte in it a word is none: the statement answers true. No condition but that the library's tables lie as its text lays them (tied). -/
import Derived.Test.YtmilcjjofchpeaaDoorRows
import Derived.Test.YtmilcjjofchpeaaDoorTokLaw
import Derived.Deep.RegionWith
import Derived.WalkKit
import Derived.ProofKit
import Derived.OpenShut
import Derived.IntWalk
namespace Go.Proofs.YtmilcjjofchpeaaDoor
open Go.ChangeShapes Go.WideShapes Go.ChangeAt Go.RowKit
set_option linter.unusedVariables false
open Go.RowKit

theorem digits_numB {s : ByteArray} (h0 : 0 < s.size) (h9 : s.size ≤ 9) (hd : dig s.data.toList = true) : numB s.data.toList = !zeroAhead s.data.toList := by
  have hv := val_lt _ hd
  have hp : 10 ^ s.data.toList.length ≤ 10 ^ 9 := Nat.pow_le_pow_right (by omega) (by rw [data_len]; omega)
  have hle : val s.data.toList ≤ 1073741824 := by omega
  have hn : s.data.toList.isEmpty = false := by
    cases hq : s.data.toList with
    | nil => exact absurd hq (data_nil h0)
    | cons a b => rfl
  simp [numB, hd, hle, hn]

set_option maxHeartbeats 4000000 in
theorem walk_tokenDigits (s : ByteArray) (c a : Int) (w : World) (w1 : (Lit.int .u8 c).wf = true) (w2 : (Lit.int .u8 a).wf = true) (hs : s.size ≤ maxLen) (ht : Tab w) :
    Calls Tryd.prog 8 #[.string s, .int .u8 c, .int .u8 a] w fun e w' => e = .returned (.bool true) ∧ Below w.heap.size w w' := by
  obtain ⟨c0, c1⟩ := wf_u8 w1
  obtain ⟨a0, a1⟩ := wf_u8 w2
  have HT := Lib.hid ht
  unfold maxLen at hs
  clear ht w1 w2
  by_cases h1 : 0 < s.size ∧ s.size ≤ 9
  · obtain ⟨h0, h9⟩ := h1
    have he1 : ¬ s = ByteArray.empty := by intro e; rw [e] at h0; simp at h0
    have he2 : ((s.size : Int) == 0) = false := by rw [beq_eq_false_iff_ne]; omega
    have HD0 := Lib.hid (show dig (s.data.toList.take 0) = true by simp [dig])
    go_enter Tryd.func8, Tryd.ntmps8
    go_wp2_with fail
    refine (awake_any _ HT.out).mono ?_
    rintro e wA ⟨rfl, bA⟩
    go_wp2_with fail
    have BA := Lib.hid bA
    clear bA
    go_loop [7] (fun i => ∃ k : Nat, k ≤ s.size ∧ i = .int .i64 k ∧ dig (s.data.toList.take k) = true) (fun i => s.size - (intOf i).toNat)
    case atStart => exact ⟨0, Nat.zero_le _, rfl, HD0.out⟩
    case round =>
      obtain ⟨k, hk, rfl, hd⟩ := hrel
      have HD := Lib.hid hd
      clear hd HD0
      by_cases hlt : k < s.size
      · have hts := Lib.hid (take_snoc s k hlt)
        by_cases hc : 48 ≤ s[k].toNat ∧ s[k].toNat ≤ 57
        · obtain ⟨hc1, hc2⟩ := hc
          have hds := Lib.hid (show dig (s.data.toList.take (k + 1)) = true by rw [hts.out, dig_snoc, HD.out, (isD_iff _).2 ⟨hc1, hc2⟩]; rfl)
          go_wp2_with fail
          go_round
          case rel => exact ⟨k + 1, by omega, by go_num, hds.out⟩
          case measure => simp [intOf]; omega
        · by_cases hc3 : s[k].toNat < 48
          · clear hc
            go_wp2_with fail
            go_ret
            exact ⟨rfl, BA.out⟩
          · have hc4 : 57 < s[k].toNat := by omega
            clear hc
            go_wp2_with fail
            go_ret
            exact ⟨rfl, BA.out⟩
      · have hke : k = s.size := by omega
        subst hke
        have hd := HD.out
        rw [List.take_of_length_le (by rw [data_len]; omega)] at hd
        have hnb := digits_numB h0 h9 hd
        have HDD := Lib.hid hd
        clear hd
        have T1 := Lib.hid (tab_below HT.out BA.out)
        by_cases hz : zeroAhead s.data.toList = true
        · have hz2 := (zeroAhead_iff _).1 hz
          rw [data_len, data_get? s 0 h0] at hz2
          obtain ⟨z1, z2⟩ := hz2
          have hb : (((s[0]'h0).toNat : Int) != 48) = false := by injection z2 with z2; rw [z2]; rfl
          have hb2 : ((s.size : Int) == 1) = false := by rw [beq_eq_false_iff_ne]; omega
          have HNB := Lib.hid (show numB s.data.toList = false by rw [hnb, hz]; rfl)
          clear hz z2 hnb
          go_wp2_with fail
          refine (number_any s _ (by omega)).mono ?_
          rintro e w' ⟨rfl, rfl⟩
          rw [HNB.out]
          have BX := BA
          by_cases hcd : 48 ≤ c ∧ c ≤ 57
          · obtain ⟨d0, d1⟩ := hcd
            go_wp2_with fail
            go_ret
            exact ⟨rfl, BX.out⟩
          · have hcd2 : c < 48 ∨ 57 < c := by omega
            clear hcd
            rcases hcd2 with d0 | d0
            all_goals
              go_wp2_with fail
              generalize hkk : a % ((s.size : Int) + 1) = kk
              have hk0 : 0 ≤ kk := by rw [← hkk]; exact Int.emod_nonneg _ (by omega)
              have hk1 : kk ≤ s.size := by have := Int.emod_lt_of_pos a (show (0 : Int) < (s.size : Int) + 1 by omega); omega
              clear hkk
              obtain ⟨kn, rfl⟩ := Int.eq_ofNat_of_zero_le hk0
              obtain ⟨cb, hcb⟩ : ∃ cb : UInt8, c = cb.toNat := ⟨UInt8.ofNat c.toNat, by simp; omega⟩
              have hcv := fun W => conv_one W cb c hcb
              have hcv3 := fun W => conv_drew W cb c hcb
              obtain ⟨A, hA⟩ : ∃ A, A = s.extract 0 kn ++ ⟨#[cb]⟩ := ⟨_, rfl⟩
              obtain ⟨B, hB⟩ : ∃ B, B = A ++ s.extract kn s.size := ⟨_, rfl⟩
              have hsz1 : (⟨#[cb]⟩ : ByteArray).size = 1 := rfl
              have hAs : A.size ≤ 10 := by rw [hA, ByteArray.size_append, hsz1, ByteArray.size_extract]; omega
              have hBs : B.size ≤ 20 := by rw [hB, ByteArray.size_append, ByteArray.size_extract]; omega
              have ha1 := fun w => run_string_add_sum (P := Tryd.prog) (w := w) (s.extract 0 kn) ⟨#[cb]⟩ (by rw [hsz1, ByteArray.size_extract]; omega)
              have ha2 := fun w => run_string_add_sum (P := Tryd.prog) (w := w) A (s.extract kn s.size) (by rw [ByteArray.size_extract]; omega)
              rw [← hA] at ha1
              rw [← hB] at ha2
              have hBn : numB B.data.toList = false := by
                have e : dig B.data.toList = false := by
                  rw [hB, hA]
                  simp only [ByteArray.data_append, Array.toList_append, dig_append]
                  have : dig [cb] = false := by
                    rw [Bool.eq_false_iff]; intro h
                    simp only [dig, List.all_cons, List.all_nil, Bool.and_true, isD_iff] at h
                    omega
                  rw [this]; simp
                simp [numB, e]
              have HNN := Lib.hid (fun w => number_any B w (by omega))
              have HNB2 := Lib.hid hBn
              clear hA hB hBn hAs hcb
              go_region_with (go_at_call 15; refine (HNN.out _).mono ?_; rintro e w' ⟨rfl, rfl⟩; rw [HNB2.out])
              all_goals
                go_wp2
                go_ret
                exact ⟨rfl, (BX.out.alloc BX.out.size _).drew⟩
        · have hz2 := fun h => hz ((zeroAhead_iff _).2 h)
          rw [data_len, data_get? s 0 h0] at hz2
          have HNB := Lib.hid (show numB s.data.toList = true by rw [hnb]; simpa using hz)
          have HE := Lib.hid (show (ByteArray.mk (Lib.decDigits (numN s.data.toList)).toArray) = s by rw [word_of_num HNB.out])
          have hn := numN_le s.data.toList
          have hor : (((s[0]'h0).toNat : Int) != 48) = true ∨ ((((s[0]'h0).toNat : Int) != 48) = false ∧ ((s.size : Int) == 1) = true) := by
            by_cases h : s[0] = 48
            · right; refine ⟨by rw [h]; rfl, ?_⟩
              rw [beq_iff_eq]
              by_cases hs1 : s.size = 1
              · omega
              · exact absurd ⟨by omega, by rw [h]⟩ hz2
            · left; rw [bne_iff_ne]; intro e; exact h (UInt8.toNat_inj.1 (by simp; omega))
          clear hz hz2 hnb
          rcases hor with hb | ⟨hb, hb2⟩
          all_goals
            go_wp2_with fail
            refine (number_any s _ (by omega)).mono ?_
            rintro e w' ⟨rfl, rfl⟩
            rw [HNB.out]
            go_wp2_with fail
            refine (word_any (numN s.data.toList) _ (by omega) T1.out).mono ?_
            rintro e wE ⟨rfl, bE⟩
            rw [HE.out]
            have BX := Lib.hid (bl BA.out bE)
            clear bE
            by_cases hcd : 48 ≤ c ∧ c ≤ 57
            · obtain ⟨d0, d1⟩ := hcd
              go_wp2_with fail
              go_ret
              exact ⟨rfl, BX.out⟩
            · have hcd2 : c < 48 ∨ 57 < c := by omega
              clear hcd
              rcases hcd2 with d0 | d0
              all_goals
                go_wp2_with fail
                generalize hkk : a % ((s.size : Int) + 1) = kk
                have hk0 : 0 ≤ kk := by rw [← hkk]; exact Int.emod_nonneg _ (by omega)
                have hk1 : kk ≤ s.size := by have := Int.emod_lt_of_pos a (show (0 : Int) < (s.size : Int) + 1 by omega); omega
                clear hkk
                obtain ⟨kn, rfl⟩ := Int.eq_ofNat_of_zero_le hk0
                obtain ⟨cb, hcb⟩ : ∃ cb : UInt8, c = cb.toNat := ⟨UInt8.ofNat c.toNat, by simp; omega⟩
                have hcv := fun W => conv_one W cb c hcb
                have hcv3 := fun W => conv_drew W cb c hcb
                obtain ⟨A, hA⟩ : ∃ A, A = s.extract 0 kn ++ ⟨#[cb]⟩ := ⟨_, rfl⟩
                obtain ⟨B, hB⟩ : ∃ B, B = A ++ s.extract kn s.size := ⟨_, rfl⟩
                have hsz1 : (⟨#[cb]⟩ : ByteArray).size = 1 := rfl
                have hAs : A.size ≤ 10 := by rw [hA, ByteArray.size_append, hsz1, ByteArray.size_extract]; omega
                have hBs : B.size ≤ 20 := by rw [hB, ByteArray.size_append, ByteArray.size_extract]; omega
                have ha1 := fun w => run_string_add_sum (P := Tryd.prog) (w := w) (s.extract 0 kn) ⟨#[cb]⟩ (by rw [hsz1, ByteArray.size_extract]; omega)
                have ha2 := fun w => run_string_add_sum (P := Tryd.prog) (w := w) A (s.extract kn s.size) (by rw [ByteArray.size_extract]; omega)
                rw [← hA] at ha1
                rw [← hB] at ha2
                have hBn : numB B.data.toList = false := by
                  have e : dig B.data.toList = false := by
                    rw [hB, hA]
                    simp only [ByteArray.data_append, Array.toList_append, dig_append]
                    have : dig [cb] = false := by
                      rw [Bool.eq_false_iff]; intro h
                      simp only [dig, List.all_cons, List.all_nil, Bool.and_true, isD_iff] at h
                      omega
                    rw [this]; simp
                  simp [numB, e]
                have HNN := Lib.hid (fun w => number_any B w (by omega))
                have HNB2 := Lib.hid hBn
                clear hA hB hBn hAs hcb
                go_region_with (go_at_call 15; refine (HNN.out _).mono ?_; rintro e w' ⟨rfl, rfl⟩; rw [HNB2.out])
                all_goals
                  go_wp2
                  go_ret
                  exact ⟨rfl, (BX.out.alloc BX.out.size _).drew⟩
  · by_cases h0 : 0 < s.size
    · have h9 : 9 < s.size := by omega
      have he1 : ¬ s = ByteArray.empty := by intro e; rw [e] at h0; simp at h0
      have he2 : ((s.size : Int) == 0) = false := by rw [beq_eq_false_iff_ne]; omega
      clear h1
      go_enter Tryd.func8, Tryd.ntmps8
      go_wp2_with fail
      refine (awake_any _ HT.out).mono ?_
      rintro e wA ⟨rfl, bA⟩
      go_wp2_with fail
      have T1 := Lib.hid (tab_below HT.out bA)
      refine (awake_any _ T1.out).mono ?_
      rintro e wB ⟨rfl, bB⟩
      go_wp2_with fail
      go_ret
      exact ⟨rfl, bl bA bB⟩
    · obtain rfl : s = ⟨#[]⟩ := by apply ByteArray.ext; exact Array.eq_empty_of_size_eq_zero (by have := s.size_data; omega)
      clear h1
      go_enter Tryd.func8, Tryd.ntmps8
      go_wp2_with fail
      refine (awake_any _ HT.out).mono ?_
      rintro e wA ⟨rfl, bA⟩
      go_wp2_with fail
      have T1 := Lib.hid (tab_below HT.out bA)
      refine (awake_any _ T1.out).mono ?_
      rintro e wB ⟨rfl, bB⟩
      go_wp2_with fail
      go_ret
      exact ⟨rfl, bl bA bB⟩

set_option maxRecDepth 100000 in
theorem lifted_tokenDigits (os : Os) (started : os.Started) (H : Type) (enc : TypeId × Value → H) :
    ReturnsInHanded {} Tryd.checked os 8 .any (fun w args => (Rows.tokenDigitsSpec.pre enc Tryd.prog Tryd.f8 [] false w args ∧ laidMetH Tryd.prog Rows.tokenDigitsRow.laid w) ∧ sizedMet enc Tryd.prog Tryd.f8 (OpenSpec.ofChange Rows.tokenDigitsSpec) false w args) (Rows.tokenDigitsSpec.post enc Tryd.prog Tryd.f8 false true false false) := by
  refine returnsInHanded_of_change_and (C := Tryd.checked) (X := fun w _ => laidMetH Tryd.prog Rows.tokenDigitsRow.laid w) (fun _ _ _ hh h => h.of_heap hh) (by kernel_rfl) started (by kernel_rfl) Tryd.func8
    (ChangeSpec.witness_shaped (enc := enc) (C := Tryd.checked) (os := os) (X := fun w _ => laidMetH Tryd.prog Rows.tokenDigitsRow.laid w) false (World.laidAll Tryd.prog os Rows.tokenDigitsRow.laid) #[.string ByteArray.empty, .int .u8 0, .int .u8 0] 8 (World.laidAll_os _ _ _)
      (World.shaped_of_ZipB (by kernel_rfl) (by kernel_rfl)) (by kernel_rfl) (by kernel_rfl) (by kernel_rfl)
      (by rw [MakeChecks.laidMetH_plain _ _ _ (by kernel_rfl)]; exact laidMet_laidAll _ (by kernel_rfl) (by kernel_rfl))) ?_
  intro W base args ds gs before hval0 hW hcnd hsized hL _
  have hval : ∀ (j : Nat) t v, Tryd.f8.params[j]? = some t → args[j]? = some v → Value.okWide Tryd.prog W .any base t v := hval0
  have hW' := hW
  obtain ⟨p, q, hA0, hV, rfl, hfz, hnd⟩ := hW
  have hA : DataW.TrodAll enc Tryd.prog W 0 (fun _ => true) true Tryd.f8.params.toList args.toList ds p := hA0
  rw [Tryd.params8] at hA hval
  obtain ⟨v0, vs0, d0, ds0, p0, q0, hargs, rfl, rfl, h0, r0⟩ := trodAll_cons hA
  obtain ⟨v1, vs1, d1, ds1, p1, q1, rfl, rfl, rfl, h1, r1⟩ := trodAll_cons r0
  obtain ⟨v2, vs2, d2, ds2, p2, q2, rfl, rfl, rfl, h2, r2⟩ := trodAll_cons r1
  obtain ⟨rfl, rfl, rfl⟩ := trodAll_nil r2
  obtain rfl : args = #[v0, v1, v2] := by cases args; simp_all
  obtain ⟨rfl, rfl⟩ := trodVars_none hV
  obtain ⟨s0, rfl, rfl, rfl, b0⟩ := ChangeMaps.open_string Tryd.underlying9 (hval 0 9 v0 rfl rfl) h0
  obtain ⟨a1, rfl, rfl, rfl, w1⟩ := open_int Tryd.underlying5 (hval 1 5 v1 rfl rfl) h1
  obtain ⟨a2, rfl, rfl, rfl, w2⟩ := open_int Tryd.underlying5 (hval 2 5 v2 rfl rfl) h2
  clear hA0 hval0
  simp only [List.append_nil] at hW'
  rw [MakeChecks.laidMetH_plain _ _ _ (by kernel_rfl)] at hL
  have fTab := Tab_laid W (hL.tail.tail)
  refine (walk_tokenDigits s0 a1 a2 W w1 w2 b0 fTab).mono fun e W' ⟨he, hg⟩ => ?_
  subst he
  exact ⟨_, rfl, law_post (by kernel_rfl) rfl (by rw [Tryd.params8]; decide +kernel) rfl rfl Tryd.underlying4 hW' hg⟩

theorem row_tokenDigits : Rows.TokenDigitsSaid :=
  OpenClaim.holds_of_wide 8 Tryd.f8 rfl rfl rfl rfl rfl rfl rfl ⟨rfl, rfl, rfl, rfl, rfl⟩ rfl rfl rfl rfl rfl (by kernel_rfl) Tryd.func8 (by kernel_rfl)
    (of_decide_eq_true (by kernel_rfl)) (by unfold Func.isWrapper; first | (rw [if_pos (by decide +kernel)]; kernel_rfl) | (rw [if_neg (by decide +kernel)]; exact ⟨rfl, rfl⟩))
    (fun os started H enc _ => lifted_tokenDigits os started H enc)
/-- ████ THE STATEMENT ████ -/
theorem proved_tokenDigits : Rows.TokenDigitsCardSaid :=
  Claim7.holds_tied_plain_at .later [] Rows.tokenDigitsCard.laidKinds true Rows.tokenDigitsCard.stood.harness false row_tokenDigits (fun _ h => by cases h) (by kernel_rfl) (fun _ h => by cases h) tokenDigits_row_tie rfl ⟨rfl, rfl⟩ (by kernel_rfl) rfl
    (fun f fn hf hfn => by
      obtain rfl : f = 8 := Option.some.inj ((show Tryd.prog.funcNamed "innkeep/innkeeplaw02.TokenDigits" = some 8 by kernel_rfl).symm.trans hf) |>.symm
      obtain rfl : fn = Tryd.f8 := (Option.some.inj (Tryd.func8.symm.trans hfn)).symm
      exact ⟨by kernel_rfl, fun j t ht => by
        rw [Tryd.params8] at ht
        have hm : t ∈ [9, 5, 5] := by simpa using Array.mem_of_getElem? ht
        have hall : ([9, 5, 5].all fun u => !Tryd.prog.wantsStandIn u) = true := by kernel_rfl
        exact (show Tryd.prog.wantsStandIn t = false by simpa using List.all_eq_true.1 hall t hm)⟩)
    (by kernel_rfl)
#print axioms proved_tokenDigits
end Go.Proofs.YtmilcjjofchpeaaDoor
