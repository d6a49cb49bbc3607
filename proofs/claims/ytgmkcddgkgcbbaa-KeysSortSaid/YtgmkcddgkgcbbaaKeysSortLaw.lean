/- KeysSort: which of two keys is less; a list of keys, sorted. -/
import Derived.Test.YtgmkcddgkgcbbaaKeysE
import Derived.Test.YtgmkcddgkgcbbaaKeysAw
import Derived.Test.YtgmkcddgkgcbbaaKeysArg
import Derived.Deep.DeepCutAuto
namespace Go.Proofs.Ytgmkcddgkgcbbaa
open Go.ChangeShapes Go.WideShapes Go.ChangeAt Go.RowKit
open Lib (hid)
set_option linter.unusedVariables false
set_option maxRecDepth 100000
open Go.RowKit Go
theorem keysSort_long (p : Option Addr) (cap : Nat) (l : List Pl) (a b : Pl) (w : World) (h : RowAt 2 plC w p l) (hi : ∀ k ∈ l, InK k) (k0 : decide ((60 : Int) < (l.length : Int)) = true) : Calls Try.prog 3 #[.slice p l.length cap, .agg #[.int .i64 a.kind, .int .i64 a.id], .agg #[.int .i64 b.kind, .int .i64 b.id]] w fun e w' => e = .returned (.bool true) ∧ Below w.heap.size w w' := by
 clear h hi
 have HP0 := hid (Holds.pair w #[.int .i64 a.kind, .int .i64 a.id] #[.int .i64 b.kind, .int .i64 b.id] 24 24)
 go_enter Try.func3, Try.ntmps3
 go_wp2_with fail
 generalize (w.alloc (.cells #[.int .i64 a.kind, .int .i64 a.id] 24)).alloc (.cells #[.int .i64 b.kind, .int .i64 b.id] 24) = V0 at *
 have HA_0 := hid HP0.out.1
 have HB_0 := hid HP0.out.2
 have B_0 := hid HA_0.out.1
 clear HP0
 refine (awake14_any _).mono ?_
 rintro e u1 ⟨rfl, b1⟩
 have B_1 := hid (bl B_0.out b1)
 have HA_1 := hid (HA_0.out.call b1)
 have HB_1 := hid (HB_0.out.call b1)
 clear b1 B_0 HA_0 HB_0
 have hcHA := HA_1.out.2.2
 have hlHA := HA_1.out.2.1
 have hcHB := HB_1.out.2.2
 have hlHB := HB_1.out.2.1
 go_wp2_with fail
 refine (awake14_any _).mono ?_
 rintro e u2 ⟨rfl, b2⟩
 clear hcHA hlHA hcHB hlHB
 have B_2 := hid (bl B_1.out b2)
 have HA_2 := hid (HA_1.out.call b2)
 have HB_2 := hid (HB_1.out.call b2)
 clear b2 B_1 HA_1 HB_1
 have hcHA := HA_2.out.2.2
 have hlHA := HA_2.out.2.1
 have hcHB := HB_2.out.2.2
 have hlHB := HB_2.out.2.1
 go_wp2_with fail
 go_ret
 exact ⟨rfl, B_2.out⟩
set_option maxHeartbeats 2000000 in
theorem keysSort_yes (p : Option Addr) (cap : Nat) (l : List Pl) (a b : Pl) (w : World) (h : RowAt 2 plC w p l) (hi : ∀ k ∈ l, InK k) (k0 : decide ((60 : Int) < (l.length : Int)) = false) : Calls Try.prog 3 #[.slice p l.length cap, .agg #[.int .i64 a.kind, .int .i64 a.id], .agg #[.int .i64 b.kind, .int .i64 b.id]] w fun e w' => e = .returned (.bool true) ∧ Below w.heap.size w w' := by
 have HWA := hid h
 have HI := hid hi
 have HL := hid (show l.length ≤ 1000 by simp at k0; omega)
 have hm := h.len
 obtain ⟨bb, hbb⟩ : ∃ bb, lessK a b = bb := ⟨_, rfl⟩
 have HBB := hid hbb
 clear h hi hbb
 have HP0 := hid (Holds.pair w #[.int .i64 a.kind, .int .i64 a.id] #[.int .i64 b.kind, .int .i64 b.id] 24 24)
 go_enter Try.func3, Try.ntmps3
 go_wp2_with fail
 generalize (w.alloc (.cells #[.int .i64 a.kind, .int .i64 a.id] 24)).alloc (.cells #[.int .i64 b.kind, .int .i64 b.id] 24) = V0 at *
 have HA_0 := hid HP0.out.1
 have HB_0 := hid HP0.out.2
 have B_0 := hid HA_0.out.1
 clear HP0
 refine (awake14_any _).mono ?_
 rintro e u1 ⟨rfl, b1⟩
 have B_1 := hid (bl B_0.out b1)
 have HA_1 := hid (HA_0.out.call b1)
 have HB_1 := hid (HB_0.out.call b1)
 clear b1 B_0 HA_0 HB_0
 have hcHA := HA_1.out.2.2
 have hlHA := HA_1.out.2.1
 have hcHB := HB_1.out.2.2
 have hlHB := HB_1.out.2.1
 go_wp2_with fail
 clear hcHA hlHA hcHB hlHB
 have KS : Hid (∀ w', Below u1.heap.size u1 w' → Below u1.heap.size u1 w' ∧ (∀ ii, w'.cell? ⟨w.heap.size, ii, none⟩ = (#[.int .i64 a.kind, .int .i64 a.id][ii]? : Option Value)) ∧ (∀ ii, w'.cell? ⟨w.heap.size + 1, ii, none⟩ = (#[.int .i64 b.kind, .int .i64 b.id][ii]? : Option Value))) := hid (fun w' hb => ⟨hb, fun ii => (hb.cell (p := ⟨w.heap.size, ii, none⟩) HA_1.out.2.1).trans (HA_1.out.2.2 ii), fun ii => (hb.cell (p := ⟨w.heap.size + 1, ii, none⟩) HB_1.out.2.1).trans (HB_1.out.2.2 ii)⟩)
 have D0 := hid (bdrew1 (Below.refl u1.heap.size u1))
 refine tkS (S := (fun w' => Below u1.heap.size u1 w' ∧ (∀ ii, w'.cell? ⟨w.heap.size, ii, none⟩ = (#[.int .i64 a.kind, .int .i64 a.id][ii]? : Option Value)) ∧ (∀ ii, w'.cell? ⟨w.heap.size + 1, ii, none⟩ = (#[.int .i64 b.kind, .int .i64 b.id][ii]? : Option Value)))) (by (first | (with_reducible exact KS.out _ D0.out))) (fun hHeld => ?_)
 refine tkl [0, 1, 3, 4] ?_
 iterate 4
  refine tW ?_
  try go_frame
 refine rdy1 2 (fun K hK => ?_)
 go_simp
 refine (kless_any a b _).mono ?_; rintro e x1 ⟨rfl, hb9⟩; have D1 := hid (below_call D0.out D0.out.size hb9); rw [HBB.out]; clear hb9
 try go_wp2_with fail
 refine hK.out _ _ (by (first | (with_reducible exact KS.out _ D1.out))) (fun hHeld => ?_)
 clear hK K
 try go_frame
 refine rdy1 5 (fun K hK => ?_)
 go_simp
 refine (refless_any a b _).mono ?_; rintro e x2 ⟨rfl, hb9⟩; have D2 := hid (below_call D1.out D1.out.size hb9); rw [HBB.out]; clear hb9
 try go_wp2_with fail
 refine hK.out _ _ (by (first | (with_reducible exact KS.out _ D2.out))) (fun hHeld => ?_)
 clear hK K
 try go_frame
 refine tkl [6, 7, 8, 10] ?_
 iterate 4
  refine tW ?_
  try go_frame
 refine rdy1 9 (fun K hK => ?_)
 go_simp
 refine (ksort_any p cap l _ (RowAt.below HWA.out (B_1.out.trans (D2.out.mono B_1.out.size)) (Nat.le_refl _)) HI.out HL.out).mono ?_; rintro e x3 ⟨sb, sc, s1, rfl, hs1, hO1, hb9⟩; have D3 := hid (below_call D2.out D2.out.size hb9); have NA3 := hid hO1.row; have HS1 := hid hs1; clear hs1 hO1; clear hb9
 try go_wp2_with fail
 refine hK.out _ _ (by (first | (with_reducible exact KS.out _ D3.out))) (fun hHeld => ?_)
 clear hK K
 try go_frame
 refine rdy1 11 (fun K hK => ?_)
 go_simp
 refine (refsort_any p cap l _ (RowAt.below HWA.out (B_1.out.trans (D3.out.mono B_1.out.size)) (Nat.le_refl _)) HL.out).mono ?_; rintro e x4 ⟨sb2, sc2, s2, rfl, hs2, hO2, hb9⟩; have D4 := hid (below_call D3.out D3.out.size hb9); have NA4 := hid (NA3.out.call hb9); have NB4 := hid hO2.row; obtain rfl := HS1.out.same hs2; clear hs2 hO2; clear hb9 NA3
 try go_wp2_with fail
 refine hK.out _ _ (by (first | (with_reducible exact KS.out _ D4.out))) (fun hHeld => ?_)
 clear hK K
 try go_frame
 refine rdy1 12 (fun K hK => ?_)
 go_simp
 refine (ksame_any _ _ _ _ s1 s1 _ NA4.out NB4.out).mono ?_; rintro e x5 ⟨rfl, hb9⟩; have D5 := hid (below_call D4.out D4.out.size hb9); have NA5 := hid (NA4.out.call hb9); have NB5 := hid (NB4.out.call hb9); rw [decide_eq_true rfl]; clear hb9 NA4 NB4
 try go_wp2_with fail
 refine hK.out _ _ (by (first | (with_reducible exact KS.out _ D5.out))) (fun hHeld => ?_)
 clear hK K
 try go_frame
 refine tkl [13, 14] ?_
 iterate 2
  refine tW ?_
  try go_frame
 refine tkD ?_
 clear hHeld KS
 have B_2 := hid (bl B_1.out D5.out)
 have HA_2 := hid (HA_1.out.call D5.out)
 have HB_2 := hid (HB_1.out.call D5.out)
 clear B_1 HA_1 HB_1 D0 D1 D2 D3 D4 D5 NA5 NB5
 go_wp2_with fail
 go_ret
 exact ⟨rfl, B_2.out⟩
theorem walk_keysSort (p : Option Addr) (cap : Nat) (l : List Pl) (a b : Pl) (w : World) (h : RowAt 2 plC w p l) (hi : ∀ k ∈ l, InK k) (ha : InK a) (hb : InK b) : Calls Try.prog 3 #[.slice p l.length cap, .agg #[.int .i64 a.kind, .int .i64 a.id], .agg #[.int .i64 b.kind, .int .i64 b.id]] w fun e w' => e = .returned (.bool true) ∧ Below w.heap.size w w' := by
 cases k0 : decide ((60 : Int) < (l.length : Int))
 ·exact keysSort_yes p cap l a b w h hi k0
 ·exact keysSort_long p cap l a b w h hi k0
theorem lifted_keysSort (os : Os) (started : os.Started) (H : Type) (enc : TypeId × Value → H) :
 ReturnsInHanded {} Try.checked os 3 .any (Rows.keysSortSpec.pre6 enc Try.prog Try.f3 Rows.keysSortRow.domain false) (Rows.keysSortSpec.post enc Try.prog Try.f3 false true false false) := by
 refine returnsInHanded_of_change (C := Try.checked) (by kernel_rfl) started (by kernel_rfl) Try.func3
  (ChangeSpec.witness6 (enc := enc) (C := Try.checked) false ⟨#[], #[.slice none 0 0, .agg #[.int .i64 0, .int .i64 0], .agg #[.int .i64 0, .int .i64 0]], []⟩ 8 (by kernel_rfl) (by kernel_rfl) (by kernel_rfl) (by kernel_rfl)) ?_
 intro W base args ds gs before hval0 hW hcnd _
 have hval : ∀ (j : Nat) t v, Try.f3.params[j]? = some t → args[j]? = some v → Value.okWide Try.prog W .any base t v := hval0
 have hW' := hW
 obtain ⟨p, q, hA0, hV, rfl, hfz, hnd⟩ := hW
 have hA : DataW.TrodAll enc Try.prog W 0 (fun _ => true) true Try.f3.params.toList args.toList ds p := hA0
 rw [Try.params3] at hA hval
 obtain ⟨v0, vs0, d0, ds0, p0, q0, hargs, rfl, rfl, h0, r0⟩ := trodAll_cons hA
 obtain ⟨v1, vs1, d1, ds1, p1, q1, rfl, rfl, rfl, h1, r1⟩ := trodAll_cons r0
 obtain ⟨v2, vs2, d2, ds2, p2, q2, rfl, rfl, rfl, h2, r2⟩ := trodAll_cons r1
 obtain ⟨rfl, rfl, rfl⟩ := trodAll_nil r2
 obtain rfl : args = #[v0, v1, v2] := by cases args; simp_all
 obtain ⟨rfl, rfl⟩ := trodVars_none hV
 obtain ⟨a0, cap0, l0, rfl, m0, ik0⟩ := read_keys (hval 0 22 v0 rfl rfl) h0
 obtain ⟨k1, rfl, ik1⟩ := read_key (hval 1 24 v1 rfl rfl) h1
 obtain ⟨k2, rfl, ik2⟩ := read_key (hval 2 24 v2 rfl rfl) h2
 clear hA0 hval0
 simp only [List.append_nil] at hW'
 refine (walk_keysSort a0 cap0 l0 k1 k2 W m0 ik0 ik1 ik2).mono fun e W' ⟨he, hg⟩ => ?_
 subst he
 exact ⟨_, rfl, law_post (by kernel_rfl) rfl (by rw [Try.params3]; decide +kernel) rfl rfl Try.underlying4 hW' hg⟩

/-- ████ THE STATEMENT ████ -/
theorem proved_keysSort : Rows.KeysSortSaid :=
 OpenClaim.holds_of_wide 3 Try.f3 rfl rfl rfl rfl rfl rfl rfl ⟨rfl, rfl, rfl, rfl, rfl⟩ rfl rfl rfl rfl rfl (by kernel_rfl) Try.func3 (by kernel_rfl)
  (of_decide_eq_true (by kernel_rfl)) (by unfold Func.isWrapper; first | (rw [if_pos (by decide +kernel)]; kernel_rfl) | (rw [if_neg (by decide +kernel)]; exact ⟨rfl, rfl⟩))
  (fun os started H enc _ => lifted_keysSort os started H enc)
#print axioms proved_keysSort
end Go.Proofs.Ytgmkcddgkgcbbaa
