/- TokenBack: for every line and words, a line's words are plain, joined and cut they are the same, and so are plain words, with gaps more anywhere: the statement answers true. No condition but that the library's tables lie as its text lays them (tied). -/
import Derived.Test.YtmilcjjofchpeaaDoorRows
import Derived.Test.YtmilcjjofchpeaaDoorTokLaw
import Derived.WalkKit
import Derived.ProofKit
import Derived.OpenShut
import Derived.IntWalk
namespace Go.Proofs.YtmilcjjofchpeaaDoor
open Go.ChangeShapes Go.WideShapes Go.ChangeAt Go.RowKit
set_option linter.unusedVariables false
open Go.RowKit

theorem plain_all {l : List UInt8} {x : List UInt8} (h : x ∈ words l) : plain x = true := words_plain l x h
theorem sizes_words (l : List UInt8) : sizes (words l) ≤ l.length + 1 := by
  have : ∀ l : List UInt8, ((cuts l).map fun x => x.length + 1).sum = l.length + 1 := by
    intro l
    induction l with
    | nil => simp [cuts]
    | cons c l ih =>
      rw [cuts_cons]
      split
      · simp [ih]; omega
      · cases hq : cuts l with
        | nil => exact absurd hq (cuts_ne l)
        | cons h t => rw [hq] at ih; simp [onto] at ih ⊢; omega
  have h2 : ∀ xs : List (List UInt8), sizes (xs.filter full) ≤ (xs.map fun x => x.length + 1).sum := by
    intro xs
    induction xs with
    | nil => simp [sizes]
    | cons x r ih =>
      simp only [List.filter_cons, List.map_cons, List.sum_cons]
      split
      · simp only [sizes, List.map_cons, List.sum_cons] at ih ⊢; omega
      · omega
  have h3 := h2 (cuts l)
  rw [this l] at h3
  exact h3
/-- Words, each behind gaps. -/
def wide (g : Nat) : List (List UInt8) → List UInt8
  | [] => []
  | x :: r => List.replicate (g + 1) 32 ++ x ++ wide g r
theorem words_gaps (g : Nat) (l : List UInt8) : words (List.replicate g 32 ++ l) = words l := by
  induction g with
  | zero => simp
  | succ g ih => rw [List.replicate_succ, List.cons_append, words_gap, ih]
theorem wide_snoc (g : Nat) (xs : List (List UInt8)) (x : List UInt8) : wide g (xs ++ [x]) = wide g xs ++ List.replicate (g + 1) 32 ++ x := by
  induction xs with
  | nil => simp [wide]
  | cons y r ih => simp [wide, ih, List.append_assoc]
theorem wide_head (g : Nat) (r : List (List UInt8)) : (wide g r ++ [32])[0]? = some 32 := by
  cases r with
  | nil => simp [wide]
  | cons x r => simp [wide, List.replicate_succ]
theorem words_wide (g : Nat) (xs : List (List UInt8)) (h : ∀ x ∈ xs, plain x = true) : words (wide g xs ++ [32]) = xs := by
  induction xs with
  | nil => simp [wide]; decide
  | cons x r ih =>
    have h1 := ih (fun z hz => h z (by simp [hz]))
    show words (List.replicate (g + 1) 32 ++ x ++ wide g r ++ [32]) = _
    rw [List.append_assoc, List.append_assoc, words_gaps, words_word x _ (h x (by simp)) (.inr (wide_head g r)), h1]
theorem wide_len (g : Nat) (xs : List (List UInt8)) (h : ∀ x ∈ xs, x.length ≤ 100) : (wide g xs).length ≤ xs.length * (g + 101) := by
  induction xs with
  | nil => simp [wide]
  | cons x r ih =>
    have h1 := ih (fun z hz => h z (by simp [hz]))
    have h2 := h x (by simp)
    simp only [wide, List.length_append, List.length_replicate, List.length_cons, Nat.add_mul, Nat.one_mul]
    omega

theorem mem_sizes {ws : List (List UInt8)} {x : List UInt8} (h : x ∈ ws) : x.length + 1 ≤ sizes ws := by
  induction ws with
  | nil => simp at h
  | cons y r ih =>
    simp only [sizes, List.map_cons, List.sum_cons]
    rcases List.mem_cons.1 h with rfl | h
    · omega
    · have := ih h; unfold sizes at this; omega
def okW (x : List UInt8) : Bool := plain x && decide (x.length ≤ 100)
theorem okW_iff (x : List UInt8) : okW x = true ↔ plain x = true ∧ x.length ≤ 100 := by simp [okW]
theorem all_take_succ {xs : List (List UInt8)} {k : Nat} {p : List UInt8 → Bool} (h : k < xs.length) (h1 : (xs.take k).all p = true) (h2 : p xs[k] = true) : (xs.take (k + 1)).all p = true := by
  rw [List.take_succ_eq_append_getElem h, List.all_append, h1]; simp [h2]
theorem str_add (a b : List UInt8) : (⟨a.toArray⟩ : ByteArray) ++ ⟨b.toArray⟩ = ⟨(a ++ b).toArray⟩ := ByteArray.mk_append_mk a b
theorem add_run (w : World) (a b : List UInt8) (h : a.length + b.length ≤ 1000000) : (Op.stringOp .add ⟨a.toArray⟩ ⟨b.toArray⟩).run Tryd.prog w = .ok (.string ⟨(a ++ b).toArray⟩) w := by
  rw [← str_add]; exact run_string_add_sum (P := Tryd.prog) (w := w) _ _ (by simp [ByteArray.size]; omega)
theorem plain_list (x : List UInt8) (w : World) (h : x.length ≤ 9223372036854775807) : Calls Tryd.prog 19 #[.string ⟨x.toArray⟩] w fun e w' => e = .returned (.bool (plain x)) ∧ w = w' := plain_any ⟨x.toArray⟩ w h

set_option maxHeartbeats 2000000 in
theorem walk_tokenBack (s : ByteArray) (v : Value) (xs : List (List UInt8)) (gp : Int) (w : World) (w2 : (Lit.int .u8 gp).wf = true) (hs : s.size ≤ maxLen) (hv : Strs w v xs) (hxl : ∀ x ∈ xs, x.length ≤ maxLen) (ht : Tab w) :
    Calls Tryd.prog 5 #[.string s, v, .int .u8 gp] w fun e w' => e = .returned (.bool true) ∧ Below w.heap.size w w' := by
  obtain ⟨g0, g1⟩ := wf_u8 w2
  have HT := Lib.hid ht
  have HV := Lib.hid hv
  obtain ⟨av, cv, rfl, hm, hcv⟩ := hv
  have HXL := Lib.hid (fun j (hj : j < xs.length) => show xs[j].length ≤ 9223372036854775807 by have := hxl xs[j] (List.getElem_mem hj); unfold maxLen at this; omega)
  unfold maxLen at hs hm
  have HCV := Lib.hid hcv
  clear ht w2 hcv hxl
  by_cases h1 : s.size ≤ 2000 ∧ xs.length ≤ 100
  · obtain ⟨h1, h2⟩ := h1
    have hpl := words_plain s.data.toList
    have hsw := sizes_words s.data.toList
    have hwl := words_len s.data.toList
    rw [data_len] at hsw hwl
    go_enter Tryd.func5, Tryd.ntmps5
    go_wp2_with fail
    refine (awake_any _ HT.out).mono ?_
    rintro e wA ⟨rfl, bA⟩
    go_wp2_with fail
    refine (cut_any s _ (by omega)).mono ?_
    rintro e wB ⟨v1, rfl, hv1, bB⟩
    have BB := Lib.hid (bl bA bB)
    generalize words s.data.toList = ws at *
    have HV1 := Lib.hid hv1
    obtain ⟨a1, c1, rfl, m1, hc1⟩ := hv1
    have HC1 := Lib.hid hc1
    have HPL := Lib.hid hpl
    clear hpl hc1 bA bB m1
    go_wp2_with fail
    go_loop [8] (fun i => ∃ k : Nat, k ≤ ws.length ∧ i = .int .i64 k) (fun i => ws.length - (intOf i).toNat)
    case atStart => exact ⟨0, Nat.zero_le _, rfl⟩
    case round =>
      obtain ⟨k, hk, rfl⟩ := hrel
      by_cases hlt : k < ws.length
      · obtain ⟨b1, o1, rfl, hb1, hcells⟩ : ∃ b off, a1 = some ⟨b, off, none⟩ ∧ b < wB.heap.size ∧ ∀ i (hi : i < ws.length), wB.cell? ⟨b, off + i, none⟩ = some (str ws[i]) := by
          rcases HC1.out with h | h
          · subst h; simp at hlt
          · exact h
        have q1 := hcells k hlt
        clear hcells
        have hp := HPL.out ws[k] (List.getElem_mem hlt)
        have hxs : ws[k].length ≤ 9223372036854775807 := by
          have := mem_sizes (List.getElem_mem hlt)
          omega
        generalize ws[k] = x at *
        have HP := Lib.hid hp
        clear hp
        unfold str at q1
        go_wp2_with fail
        refine (plain_list x _ hxs).mono ?_
        rintro e w' ⟨rfl, rfl⟩
        rw [HP.out]
        go_wp2_with fail
        go_round
        case rel => exact ⟨k + 1, by omega, by go_num⟩
        case measure => simp [intOf]; omega
      · have hke : k = ws.length := by omega
        subst hke
        have HG := Lib.hid (words_glue ws HPL.out)
        have hgl := glue_len ws
        have T1 := Lib.hid (tab_below HT.out BB.out)
        go_wp2_with fail
        refine (join_any _ HV1.out (by omega)).mono ?_
        rintro e wC ⟨rfl, bC⟩
        unfold str
        generalize hgg : glue ws = gl at *
        clear hgg
        go_wp2_with fail
        refine (cut_any ⟨gl.toArray⟩ _ (by simp [ByteArray.size]; omega)).mono ?_
        rintro e wD ⟨v2, rfl, hv2, bD⟩
        have HV2 := Lib.hid hv2
        clear hv2
        go_wp2_with fail
        refine (same_any _ HV2.out ((HV1.out.below bC).below bD)).mono ?_
        rintro e wE ⟨rfl, bE⟩
        rw [show decide (words (⟨gl.toArray⟩ : ByteArray).data.toList = ws) = true by rw [show (⟨gl.toArray⟩ : ByteArray).data.toList = gl from rfl, HG.out]; simp]
        have BE := Lib.hid (bl (bl (bl BB.out bC) bD) bE)
        clear bC bD bE HV2 HV1 HC1
        go_wp2_with fail
        have hgi : ((gp % 4).toNat : Int) = gp % 4 := by omega
        have hg3 : (gp % 4).toNat ≤ 3 := by omega
        generalize (gp % 4).toNat = g at *
        have HGI := Lib.hid hgi
        clear hgi
        go_loop [9, 10] (fun sv i => ∃ k : Nat, k ≤ xs.length ∧ i = .int .i64 k ∧ sv = .string ⟨(wide g (xs.take k)).toArray⟩ ∧ (xs.take k).all okW = true) (fun _ i => xs.length - (intOf i).toNat)
        case atStart => exact ⟨0, Nat.zero_le _, rfl, by simp [wide], by simp⟩
        case round =>
          obtain ⟨k, hk, rfl, rfl, hok⟩ := hrel
          have HOK := Lib.hid hok
          clear hok
          have hwl2 := wide_len g (xs.take k) (fun x hx => ((okW_iff x).1 (List.all_eq_true.1 HOK.out x hx)).2)
          have hwl3 : (wide g (xs.take k)).length ≤ 10400 := by
            have q1 : (xs.take k).length ≤ 100 := by rw [List.length_take]; omega
            have q2 := Nat.mul_le_mul q1 (show g + 101 ≤ 104 by omega)
            omega
          clear hwl2
          by_cases hlt : k < xs.length
          · obtain ⟨b1, o1, rfl, hb1, hcells⟩ : ∃ b off, av = some ⟨b, off, none⟩ ∧ b < w.heap.size ∧ ∀ i (hi : i < xs.length), w.cell? ⟨b, off + i, none⟩ = some (str xs[i]) := by
              rcases HCV.out with h | h
              · subst h; simp at hlt
              · exact h
            have q1 := (BE.out.cell (p := ⟨b1, o1 + k, none⟩) hb1).trans (hcells k hlt)
            have hxs := HXL.out k hlt
            have HTS := Lib.hid (show wide g (xs.take (k + 1)) = wide g (xs.take k) ++ List.replicate (g + 1) 32 ++ xs[k] by rw [List.take_succ_eq_append_getElem hlt, wide_snoc])
            have HAT := Lib.hid (fun h => all_take_succ (p := okW) hlt HOK.out h)
            clear hcells
            generalize xs[k] = x at *
            generalize wide g (xs.take k) = wd at *
            unfold str at q1
            by_cases hp : plain x = true
            · have HP := Lib.hid hp
              clear hp
              by_cases hx100 : x.length ≤ 100
              · have HA2 := Lib.hid (HAT.out ((okW_iff x).2 ⟨HP.out, hx100⟩))
                go_wp2_with fail
                refine (plain_list x _ hxs).mono ?_
                rintro e w' ⟨rfl, rfl⟩
                rw [HP.out]
                go_wp2_with fail
                go_loop [9, 11] (fun sv jv => ∃ j : Nat, j ≤ g + 1 ∧ jv = .int .i64 j ∧ sv = .string ⟨(wd ++ List.replicate j 32).toArray⟩) (fun _ jv => g + 1 - (intOf jv).toNat)
                case atStart => exact ⟨0, Nat.zero_le _, rfl, by simp⟩
                case round =>
                  obtain ⟨j, hj, rfl, rfl⟩ := hrel
                  by_cases hjg : j ≤ g
                  · have ha := fun w => add_run w (wd ++ List.replicate j 32) [32] (by simp; omega)
                    have hjj : (j : Int) ≤ gp % 4 := by rw [← HGI.out]; omega
                    have HR := Lib.hid (show wd ++ List.replicate j 32 ++ [32] = wd ++ List.replicate (j + 1) (32 : UInt8) by rw [List.append_assoc, List.replicate_succ'])
                    rw [HR.out] at ha
                    generalize wd ++ List.replicate j (32 : UInt8) = w1' at *
                    go_wp2_with fail
                    go_round
                    case rel => exact ⟨j + 1, by omega, by go_num, rfl⟩
                    case measure => simp [intOf]; omega
                  · have hjj : ¬ (j : Int) ≤ gp % 4 := by rw [← HGI.out]; omega
                    have hje : j = g + 1 := by omega
                    subst hje
                    have ha := fun w => add_run w (wd ++ List.replicate (g + 1) 32) x (by simp; omega)
                    rw [← HTS.out] at ha
                    generalize wd ++ List.replicate (g + 1) (32 : UInt8) = w1' at *
                    go_wp2_with fail
                    go_round
                    case rel => exact ⟨k + 1, by omega, by go_num, rfl, HA2.out⟩
                    case measure => simp [intOf]; omega
              · go_wp2_with fail
                refine (plain_list x _ hxs).mono ?_
                rintro e w' ⟨rfl, rfl⟩
                rw [HP.out]
                go_wp2_with fail
                go_ret
                exact ⟨rfl, BE.out⟩
            · have HP := Lib.hid (show plain x = false by simpa using hp)
              clear hp
              go_wp2_with fail
              refine (plain_list x _ hxs).mono ?_
              rintro e w' ⟨rfl, rfl⟩
              rw [HP.out]
              go_wp2_with fail
              go_ret
              exact ⟨rfl, BE.out⟩
          · have hke : k = xs.length := by omega
            subst hke
            have htk : xs.take xs.length = xs := List.take_of_length_le (Nat.le_refl _)
            rw [htk] at HOK hwl3 ⊢
            have hpl2 : ∀ x ∈ xs, plain x = true := fun x hx => ((okW_iff x).1 (List.all_eq_true.1 HOK.out x hx)).1
            have hsz : sizes xs ≤ 10100 := by
              have : ∀ ys : List (List UInt8), ys.all okW = true → sizes ys ≤ ys.length * 101 := by
                intro ys
                induction ys with
                | nil => simp [sizes]
                | cons y r ih =>
                  intro h
                  simp only [List.all_cons, Bool.and_eq_true] at h
                  have h3 := ih h.2
                  have h4 := ((okW_iff y).1 h.1).2
                  simp only [sizes, List.map_cons, List.sum_cons, List.length_cons, Nat.add_mul, Nat.one_mul] at h3 ⊢
                  omega
              have := this xs HOK.out
              have := Nat.mul_le_mul_right 101 h2
              omega
            have HG2 := Lib.hid (words_glue xs hpl2)
            have HW2 := Lib.hid (words_wide g xs hpl2)
            have hgl2 := glue_len xs
            have ha := fun w => add_run w (wide g xs) [32] (by simp; omega)
            have hwl4 : (wide g xs ++ [32]).length ≤ 1000000 := by simp; omega
            clear hpl2 htk
            generalize wide g xs ++ [32] = wd at *
            have HV3 := Lib.hid (HV.out.below BE.out)
            go_wp2_with fail
            refine (join_any _ HV3.out (by omega)).mono ?_
            rintro e wF ⟨rfl, bF⟩
            unfold str
            generalize hgg : glue xs = gx at *
            clear hgg
            go_wp2_with fail
            refine (cut_any ⟨gx.toArray⟩ _ (by simp [ByteArray.size]; omega)).mono ?_
            rintro e wG ⟨v3, rfl, hv3, bG⟩
            have HV4 := Lib.hid hv3
            have HV5 := Lib.hid ((HV3.out.below bF).below bG)
            clear hv3
            go_wp2_with fail
            refine (same_any _ HV4.out HV5.out).mono ?_
            rintro e wH ⟨rfl, bH⟩
            rw [show decide (words (⟨gx.toArray⟩ : ByteArray).data.toList = xs) = true by rw [show (⟨gx.toArray⟩ : ByteArray).data.toList = gx from rfl, HG2.out]; simp]
            have BH := Lib.hid (bl (bl (bl BE.out bF) bG) bH)
            have HV6 := Lib.hid (HV5.out.below bH)
            clear bF bG bH HV3 HV4 HV5
            go_wp2_with fail
            refine (cut_any ⟨wd.toArray⟩ _ hwl4).mono ?_
            rintro e wI ⟨v4, rfl, hv4, bI⟩
            have HV7 := Lib.hid hv4
            clear hv4
            go_wp2_with fail
            refine (same_any _ HV7.out (HV6.out.below bI)).mono ?_
            rintro e wJ ⟨rfl, bJ⟩
            rw [show decide (words (⟨wd.toArray⟩ : ByteArray).data.toList = xs) = true by rw [show (⟨wd.toArray⟩ : ByteArray).data.toList = wd from rfl, HW2.out]; simp]
            have BJ := Lib.hid (bl (bl BH.out bI) bJ)
            clear bI bJ HV7 HV6 BH
            go_wp2_with fail
            go_ret
            exact ⟨rfl, BJ.out⟩
  · by_cases h2 : s.size ≤ 2000
    · have h3 : 100 < xs.length := by omega
      clear h1
      go_enter Tryd.func5, Tryd.ntmps5
      go_wp2_with fail
      refine (awake_any _ HT.out).mono ?_
      rintro e wA ⟨rfl, bA⟩
      go_wp2_with fail
      have T1 := Lib.hid (tab_below HT.out bA)
      refine (awake_any _ T1.out).mono ?_
      rintro e wB ⟨rfl, bB⟩
      go_wp2_with fail
      go_ret
      exact ⟨rfl, bl bA bB⟩
    · clear h1
      have h3 : 2000 < s.size := by omega
      go_enter Tryd.func5, Tryd.ntmps5
      go_wp2_with fail
      refine (awake_any _ HT.out).mono ?_
      rintro e wA ⟨rfl, bA⟩
      go_wp2_with fail
      have T1 := Lib.hid (tab_below HT.out bA)
      refine (awake_any _ T1.out).mono ?_
      rintro e wB ⟨rfl, bB⟩
      go_wp2_with fail
      go_ret
      exact ⟨rfl, bl bA bB⟩

set_option maxRecDepth 100000 in
theorem lifted_tokenBack (os : Os) (started : os.Started) (H : Type) (enc : TypeId × Value → H) :
    ReturnsInHanded {} Tryd.checked os 5 .any (fun w args => (Rows.tokenBackSpec.pre enc Tryd.prog Tryd.f5 [] false w args ∧ laidMetH Tryd.prog Rows.tokenBackRow.laid w) ∧ sizedMet enc Tryd.prog Tryd.f5 (OpenSpec.ofChange Rows.tokenBackSpec) false w args) (Rows.tokenBackSpec.post enc Tryd.prog Tryd.f5 false true false false) := by
  refine returnsInHanded_of_change_and (C := Tryd.checked) (X := fun w _ => laidMetH Tryd.prog Rows.tokenBackRow.laid w) (fun _ _ _ hh h => h.of_heap hh) (by kernel_rfl) started (by kernel_rfl) Tryd.func5
    (ChangeSpec.witness_shaped (enc := enc) (C := Tryd.checked) (os := os) (X := fun w _ => laidMetH Tryd.prog Rows.tokenBackRow.laid w) false (World.laidAll Tryd.prog os Rows.tokenBackRow.laid) #[.string ByteArray.empty, .slice none 0 0, .int .u8 0] 8 (World.laidAll_os _ _ _)
      (World.shaped_of_ZipB (by kernel_rfl) (by kernel_rfl)) (by kernel_rfl) (by kernel_rfl) (by kernel_rfl)
      (by rw [MakeChecks.laidMetH_plain _ _ _ (by kernel_rfl)]; exact laidMet_laidAll _ (by kernel_rfl) (by kernel_rfl))) ?_
  intro W base args ds gs before hval0 hW hcnd hsized hL _
  have hval : ∀ (j : Nat) t v, Tryd.f5.params[j]? = some t → args[j]? = some v → Value.okWide Tryd.prog W .any base t v := hval0
  have hW' := hW
  obtain ⟨p, q, hA0, hV, rfl, hfz, hnd⟩ := hW
  have hA : DataW.TrodAll enc Tryd.prog W 0 (fun _ => true) true Tryd.f5.params.toList args.toList ds p := hA0
  rw [Tryd.params5] at hA hval
  obtain ⟨v0, vs0, d0, ds0, p0, q0, hargs, rfl, rfl, h0, r0⟩ := trodAll_cons hA
  obtain ⟨v1, vs1, d1, ds1, p1, q1, rfl, rfl, rfl, h1, r1⟩ := trodAll_cons r0
  obtain ⟨v2, vs2, d2, ds2, p2, q2, rfl, rfl, rfl, h2, r2⟩ := trodAll_cons r1
  obtain ⟨rfl, rfl, rfl⟩ := trodAll_nil r2
  obtain rfl : args = #[v0, v1, v2] := by cases args; simp_all
  obtain ⟨rfl, rfl⟩ := trodVars_none hV
  obtain ⟨s0, rfl, rfl, rfl, b0⟩ := ChangeMaps.open_string Tryd.underlying9 (hval 0 9 v0 rfl rfl) h0
  obtain ⟨xs1, c1, k1, u1⟩ := read_strings Tryd.underlying22 Tryd.underlying9 (by kernel_rfl) (hval 1 22 v1 rfl rfl) h1
  obtain ⟨a2, rfl, rfl, rfl, w2⟩ := open_int Tryd.underlying5 (hval 2 5 v2 rfl rfl) h2
  clear hA0 hval0
  simp only [List.append_nil] at hW'
  rw [MakeChecks.laidMetH_plain _ _ _ (by kernel_rfl)] at hL
  have fTab := Tab_laid W (hL.tail.tail)
  refine (walk_tokenBack s0 v1 xs1 a2 W w2 b0 c1 k1 fTab).mono fun e W' ⟨he, hg⟩ => ?_
  subst he
  exact ⟨_, rfl, law_post (by kernel_rfl) rfl (by rw [Tryd.params5]; decide +kernel) rfl rfl Tryd.underlying4 hW' hg⟩

theorem row_tokenBack : Rows.TokenBackSaid :=
  OpenClaim.holds_of_wide 5 Tryd.f5 rfl rfl rfl rfl rfl rfl rfl ⟨rfl, rfl, rfl, rfl, rfl⟩ rfl rfl rfl rfl rfl (by kernel_rfl) Tryd.func5 (by kernel_rfl)
    (of_decide_eq_true (by kernel_rfl)) (by unfold Func.isWrapper; first | (rw [if_pos (by decide +kernel)]; kernel_rfl) | (rw [if_neg (by decide +kernel)]; exact ⟨rfl, rfl⟩))
    (fun os started H enc _ => lifted_tokenBack os started H enc)
/-- ████ THE STATEMENT ████ -/
theorem proved_tokenBack : Rows.TokenBackCardSaid :=
  Claim7.holds_tied_plain_at .later [] Rows.tokenBackCard.laidKinds true Rows.tokenBackCard.stood.harness false row_tokenBack (fun _ h => by cases h) (by kernel_rfl) (fun _ h => by cases h) tokenBack_row_tie rfl ⟨rfl, rfl⟩ (by kernel_rfl) rfl
    (fun f fn hf hfn => by
      obtain rfl : f = 5 := Option.some.inj ((show Tryd.prog.funcNamed "innkeep/innkeeplaw02.TokenBack" = some 5 by kernel_rfl).symm.trans hf) |>.symm
      obtain rfl : fn = Tryd.f5 := (Option.some.inj (Tryd.func5.symm.trans hfn)).symm
      exact ⟨by kernel_rfl, fun j t ht => by
        rw [Tryd.params5] at ht
        have hm : t ∈ [9, 22, 5] := by simpa using Array.mem_of_getElem? ht
        have hall : ([9, 22, 5].all fun u => !Tryd.prog.wantsStandIn u) = true := by kernel_rfl
        exact (show Tryd.prog.wantsStandIn t = false by simpa using List.all_eq_true.1 hall t hm)⟩)
    (by kernel_rfl)
#print axioms proved_tokenBack
end Go.Proofs.YtmilcjjofchpeaaDoor
