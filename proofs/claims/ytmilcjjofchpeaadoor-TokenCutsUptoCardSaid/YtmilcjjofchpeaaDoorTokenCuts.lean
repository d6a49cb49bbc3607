/- TokenCuts: for every line and words that together have at most 1048576 values and letters, Cut and Join answer as the document's own definitions: the statement answers true. Condition: that bound; and the library's tables lie as its text lays them (tied). -/
import Derived.Test.YtmilcjjofchpeaaDoorRows
import Derived.Test.YtmilcjjofchpeaaDoorTokLaw
import Derived.Deep.DeepHandedRow
import Derived.WalkKit
import Derived.ProofKit
import Derived.OpenShut
import Derived.IntWalk
namespace Go.Proofs.YtmilcjjofchpeaaDoor
open Go.ChangeShapes Go.WideShapes Go.ChangeAt Go.RowKit
set_option linter.unusedVariables false
open Go.RowKit

theorem sizes_bulk {H : Type} {xs : List (List UInt8)} {d : DataW H} (h : xs = [] ∨ ∃ spare, d = .slice (xs.map fun x => .lit (.string x)) spare) : sizes xs ≤ Rows.uptoBulk d := by
  rcases h with rfl | ⟨sp, rfl⟩
  · simp [sizes]
  · have : ∀ ys : List (List UInt8), sizes ys = Rows.uptoBulkAll (H := H) (ys.map fun x => .lit (.string x)) := by
      intro ys
      induction ys with
      | nil => simp [sizes, Rows.uptoBulkAll]
      | cons y r ih =>
        simp only [List.map_cons, Rows.uptoBulkAll, Rows.uptoBulk]
        rw [← ih]; simp [sizes]
    simp only [Rows.uptoBulk]
    rw [this]; omega
theorem walk_cuts (s : ByteArray) (v : Value) (xs : List (List UInt8)) (w : World) (hs : s.size ≤ maxLen) (hv : Strs w v xs) (hz : sizes xs ≤ 1048576) (ht : Tab w) :
    Calls Tryd.prog 3 #[.string s, v] w fun e w' => e = .returned (.bool true) ∧ Below w.heap.size w w' := by
  have HT := Lib.hid ht
  have HV := Lib.hid hv
  obtain ⟨av, n, cv, rfl, hn⟩ : ∃ a n c, v = .slice a n c ∧ n = xs.length := by obtain ⟨a, c, rfl, _, _⟩ := hv; exact ⟨a, _, c, rfl, rfl⟩
  have HN := Lib.hid hn
  unfold maxLen at hs
  clear ht hv hn
  by_cases h1 : s.size ≤ 2000
  · by_cases h2 : n ≤ 100
    ·
      go_enter Tryd.func3, Tryd.ntmps3
      go_wp2_with fail
      refine (awake_any _ HT.out).mono ?_
      rintro e wA ⟨rfl, bA⟩
      go_wp2_with fail
      refine (cut_any s _ (by omega)).mono ?_
      rintro e wB ⟨v1, rfl, hv1, bB⟩
      have HV1 := Lib.hid hv1
      clear hv1
      go_wp2_with fail
      refine (refcut_any s _ (by omega)).mono ?_
      rintro e wC ⟨v2, rfl, hv2, bC⟩
      have HV2 := Lib.hid hv2
      clear hv2
      go_wp2_with fail
      refine (same_any _ (HV1.out.below bC) HV2.out).mono ?_
      rintro e wD ⟨rfl, bD⟩
      rw [show decide (words s.data.toList = words s.data.toList) = true by simp]
      have BD := Lib.hid (bl (bl (bl bA bB) bC) bD)
      have HV3 := Lib.hid (HV.out.below BD.out)
      clear bA bB bC bD HV1 HV2
      go_wp2_with fail
      refine (join_any _ HV3.out (by omega)).mono ?_
      rintro e wE ⟨rfl, bE⟩
      have BE := Lib.hid (bl BD.out bE)
      have HV4 := Lib.hid (HV3.out.below bE)
      clear bE
      go_wp2_with fail
      refine (refjoin_any _ HV4.out (by omega)).mono ?_
      rintro e w' ⟨rfl, rfl⟩
      unfold str
      go_wp2_with fail
      go_ret
      exact ⟨rfl, BE.out⟩
    · have h3 : 100 < n := by omega
      clear h2
      go_enter Tryd.func3, Tryd.ntmps3
      go_wp2_with fail
      refine (awake_any _ HT.out).mono ?_
      rintro e wA ⟨rfl, bA⟩
      go_wp2_with fail
      have T1 := Lib.hid (tab_below HT.out bA)
      refine (awake_any _ T1.out).mono ?_
      rintro e wB ⟨rfl, bB⟩
      go_wp2_with fail
      go_ret
      exact ⟨rfl, bl bA bB⟩
  · have h3 : 2000 < s.size := by omega
    clear h1
    go_enter Tryd.func3, Tryd.ntmps3
    go_wp2_with fail
    refine (awake_any _ HT.out).mono ?_
    rintro e wA ⟨rfl, bA⟩
    go_wp2_with fail
    have T1 := Lib.hid (tab_below HT.out bA)
    refine (awake_any _ T1.out).mono ?_
    rintro e wB ⟨rfl, bB⟩
    go_wp2_with fail
    go_ret
    exact ⟨rfl, bl bA bB⟩
theorem walk_tokenCuts {H : Type} {d : DataW H} {l : List UInt8} (s : ByteArray) (v : Value) (xs : List (List UInt8)) (w : World) (hs : s.size ≤ maxLen) (hv : Strs w v xs) (hxl : ∀ x ∈ xs, x.length ≤ maxLen)
    (hd : xs = [] ∨ ∃ spare, d = .slice (xs.map fun x => .lit (.string x)) spare) (hc : Rows.uptoBulkAll [.lit (.string l), d] ≤ 1048576) (ht : Tab w) :
    Calls Tryd.prog 3 #[.string s, v] w fun e w' => e = .returned (.bool true) ∧ Below w.heap.size w w' := by
  have h1 := sizes_bulk hd
  simp only [Rows.uptoBulkAll, Rows.uptoBulk] at hc
  exact walk_cuts s v xs w hs hv (by omega) ht

set_option maxRecDepth 100000 in
theorem lifted_tokenCuts (os : Os) (started : os.Started) (H : Type) (enc : TypeId × Value → H) (Fi : Stop.Interp) :
    ReturnsInHanded {} Tryd.checked os 3 .any ((Rows.OpenSpec.upto Rows.tokenCutsSpec).preRow enc Tryd.prog Tryd.f3 Rows.tokenCutsUptoRow.domain false Rows.tokenCutsUptoRow.laid) (((Rows.OpenSpec.upto Rows.tokenCutsSpec).at Fi).post enc Tryd.prog Tryd.f3 false true false false) := by
  obtain ⟨places, hx⟩ : ∃ places, DataW.whole enc Tryd.prog ((World.laidAll Tryd.prog os Rows.tokenCutsUptoRow.laid).forCall (fun _ _ => 0) ⟨#[], #[.string ByteArray.empty, .slice none 0 0], []⟩).memory Tryd.f3.params.toList Rows.tokenCutsSpec.vars false #[.string ByteArray.empty, .slice none 0 0].toList 8 = some ([.lit (.string []), .nil], [], places) := ⟨[], by kernel_rfl⟩
  refine returnsInHanded_of_row (C := Tryd.checked) (s := (Rows.OpenSpec.upto Rows.tokenCutsSpec)) (by kernel_rfl) started (by kernel_rfl) Tryd.func3
    ⟨World.laidAll Tryd.prog os Rows.tokenCutsUptoRow.laid, fun _ _ => 0, ⟨#[], #[.string ByteArray.empty, .slice none 0 0], []⟩, World.laidAll_os _ _ _, World.shaped_of_ZipB (by kernel_rfl) (by kernel_rfl), rfl, (Input.okWide_of_okWideB (by kernel_rfl)).2,
      OpenSpec.preRow_of_cond 8 hx (by kernel_rfl) (fun k hk => by cases hk; kernel_rfl) (by kernel_rfl) (by rw [MakeChecks.laidMetH_plain _ _ _ (by kernel_rfl)]; exact laidMet_laidAll _ (by kernel_rfl) (by kernel_rfl)), by simp [Assume.holds]⟩ ?_
  intro W base args ds gs before hval0 hW hconds hcnd0 hsized hL _ _
  have hcnd := of_decide_eq_true (hcnd0 _ rfl)
  have hval : ∀ (j : Nat) t v, Tryd.f3.params[j]? = some t → args[j]? = some v → Value.okWide Tryd.prog W .any base t v := hval0
  have hW' := hW
  obtain ⟨p, q, hA0, hV, rfl, hfz, hnd⟩ := hW
  have hA : DataW.TrodAll enc Tryd.prog W 0 (fun _ => true) true Tryd.f3.params.toList args.toList ds p := hA0
  rw [Tryd.params3] at hA hval
  obtain ⟨v0, vs0, d0, ds0, p0, q0, hargs, rfl, rfl, h0, r0⟩ := trodAll_cons hA
  obtain ⟨v1, vs1, d1, ds1, p1, q1, rfl, rfl, rfl, h1, r1⟩ := trodAll_cons r0
  obtain ⟨rfl, rfl, rfl⟩ := trodAll_nil r1
  obtain rfl : args = #[v0, v1] := by cases args; simp_all
  obtain ⟨rfl, rfl⟩ := trodVars_none hV
  obtain ⟨s0, rfl, rfl, rfl, b0⟩ := ChangeMaps.open_string Tryd.underlying9 (hval 0 9 v0 rfl rfl) h0
  obtain ⟨xs1, c1, k1, u1⟩ := read_strings Tryd.underlying22 Tryd.underlying9 (by kernel_rfl) (hval 1 22 v1 rfl rfl) h1
  clear hA0 hval0
  simp only [List.append_nil] at hW'
  rw [MakeChecks.laidMetH_plain _ _ _ (by kernel_rfl)] at hL
  have fTab := Tab_laid W (hL.tail.tail)
  refine (walk_tokenCuts s0 v1 xs1 W b0 c1 k1 u1 hcnd fTab).mono fun e W' ⟨he, hg⟩ => ?_
  subst he
  exact ⟨_, rfl, law_post (by kernel_rfl) rfl (by rw [Tryd.params3]; decide +kernel) rfl rfl Tryd.underlying4 hW' hg⟩

theorem row_tokenCuts : Rows.TokenCutsUptoSaid :=
  OpenClaim.holds_of_cond 3 Tryd.f3 rfl rfl rfl rfl rfl rfl rfl ⟨rfl, rfl, rfl, rfl, rfl⟩ rfl rfl rfl rfl rfl (by kernel_rfl) Tryd.func3 (by kernel_rfl)
    (of_decide_eq_true (by kernel_rfl)) (by unfold Func.isWrapper; first | (rw [if_pos (by decide +kernel)]; kernel_rfl) | (rw [if_neg (by decide +kernel)]; exact ⟨rfl, rfl⟩))
    (fun os started H enc _ F => by rw [OpenClaim.pre_eq_preRow]; exact lifted_tokenCuts os started H enc F)
/-- ████ THE STATEMENT ████ -/
theorem proved_tokenCuts : Rows.TokenCutsUptoCardSaid :=
  Claim7.holds_tied_plain_at .later [] Rows.tokenCutsUptoCard.laidKinds true Rows.tokenCutsUptoCard.stood.harness false row_tokenCuts (fun _ h => by cases h) (by kernel_rfl) (fun _ h => by cases h) tokenCutsUpto_row_tie rfl ⟨rfl, rfl⟩ (by kernel_rfl) rfl
    (fun f fn hf hfn => by
      obtain rfl : f = 3 := Option.some.inj ((show Tryd.prog.funcNamed "innkeep/innkeeplaw02.TokenCuts" = some 3 by kernel_rfl).symm.trans hf) |>.symm
      obtain rfl : fn = Tryd.f3 := (Option.some.inj (Tryd.func3.symm.trans hfn)).symm
      exact ⟨by kernel_rfl, fun j t ht => by
        rw [Tryd.params3] at ht
        have hm : t ∈ [9, 22] := by simpa using Array.mem_of_getElem? ht
        have hall : ([9, 22].all fun u => !Tryd.prog.wantsStandIn u) = true := by kernel_rfl
        exact (show Tryd.prog.wantsStandIn t = false by simpa using List.all_eq_true.1 hall t hm)⟩)
    (by kernel_rfl)
#print axioms proved_tokenCuts
end Go.Proofs.YtmilcjjofchpeaaDoor
