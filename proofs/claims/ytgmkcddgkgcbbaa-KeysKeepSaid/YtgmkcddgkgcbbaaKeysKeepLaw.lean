/- KeysKeep: what is handed in to Sort stays, whatever is written into what it answered. -/
import Derived.Test.YtgmkcddgkgcbbaaKeysE
import Derived.Test.YtgmkcddgkgcbbaaKeysAw
import Derived.Test.YtgmkcddgkgcbbaaKeysArg
import Derived.Deep.DeepCutAuto
namespace Go.Proofs.Ytgmkcddgkgcbbaa
open Go.ChangeShapes Go.WideShapes Go.ChangeAt Go.RowKit
open Lib (hid)
set_option linter.unusedVariables false
set_option maxRecDepth 100000
open Go.RowKit Go
theorem append_keys {W : World} (n : Nat) {a : Option Addr} {cap : Nat} {l : List Pl} (hn : Blk W n 24 #[]) (hu : PlsAt W a l) (hl : l.length ≤ 1000000) :
 ∃ v' W', (Builtin.append_ #[22, 22] 22 #[.slice (some ⟨n, 0, none⟩) 0 0, .slice a l.length cap]).run Try.prog W = .ok v' W' ∧ GrowR 2 24 plC n W' v' l ∧ W.grownBy W' (some n) := by
 obtain ⟨i0, hi0, hz0, hz1, hz2⟩ := info_parts key_info
 have hlt := hn.lt
 have hown : W.ownsRow n 24 2 (.slice (some ⟨n, 0, none⟩) 0 0) 0 [] := ⟨rfl, .inr ⟨n, 0, #[], rfl, Nat.le_refl _, hn, Nat.le_refl _, by unfold maxLen; omega, rfl, rfl⟩⟩
 by_cases hx : l = []
 ·subst hx
  have hsrc : Src Try.prog i0.size 22 (.slice a 0 cap) 0 [] W := by
   cases a with
   | none => exact Src.ofNil (w := W) Try.underlying22 cap
   | some p => exact Src.ofSlice W Try.underlying22 p 0 cap [] (by simp) (by simp) (by simp)
  exact ⟨_, W, run_append_nothing W 22 22 22 24 i0 Try.underlying22 hi0 (some ⟨n, 0, none⟩) 0 0 (Nat.le_refl _) _ hsrc, hown, ⟨rfl, rfl, rfl, Nat.le_refl _, fun _ _ _ => rfl⟩⟩
 ·rcases hu.2 with h | ⟨b, off, rfl, hb2, hc⟩
  ·exact absurd h hx
  ·have hfl : (l.flatMap plC).length = l.length * 2 := by
    clear hu hl hc hx; induction l with
    | nil => rfl
    | cons x r ih => rw [List.flatMap_cons, List.length_append, ih, plC_len, List.length_cons]; omega
   obtain ⟨v', W', hr, h1, h2, -⟩ := run_append_own (P := Try.prog) W n 22 22 24 i0 (.agg #[.int .i64 0, .int .i64 0]) 2 16 Try.underlying22 hi0 hz0 hz1 hz2 rfl (by decide) _ 0 [] hown ⟨b, off, none⟩ l.length cap (l.flatMap plC) hfl
    (fun j u hj => by
      have hj2 : j < (l.flatMap plC).length := (List.getElem?_eq_some_iff.1 hj).1
      have h3 := hc (j / 2) (by omega) (j % 2) (by omega)
      have h4 := flat_get plC_len l (j / 2) (by omega) (j % 2) (by omega)
      rw [show j / 2 * 2 + j % 2 = j by omega, hj] at h4
      rw [show off + j / 2 * 2 + j % 2 = off + j by omega, ← h4] at h3
      by_cases h0 : j = 0 <;> simp [Addr.add, h0] at h3 ⊢ <;> exact h3)
    (fun u hu => by obtain ⟨x, _, hx⟩ := List.mem_flatMap.1 hu; exact plC_one x u hx) (by unfold maxLen; omega) (by omega) (by omega)
   refine ⟨v', W', hr, ?_, h2⟩
   unfold GrowR
   simpa using h1
theorem grown_row {W W' : World} {g : Nat} {a : Option Addr} {l : List Pl} (h : RowAt 2 plC W a l) (hg : W.grownBy W' (some g)) (hn : ∀ p, a = some p → p.block ≠ g) : RowAt 2 plC W' a l :=
 RowAt.below_far h (r := g) (fun b hb hl => hg.block b hl (fun e => hb (Option.some.inj e))) hg.size hn
theorem keysKeep_long (p : Option Addr) (cap : Nat) (l : List Pl) (w : World) (h : RowAt 2 plC w p l) (hi : ∀ k ∈ l, InK k) (k0 : decide ((60 : Int) < (l.length : Int)) = true) : Calls Try.prog 6 #[.slice p l.length cap] w fun e w' => e = .returned (.bool true) ∧ Below w.heap.size w w' := by
 clear h hi
 go_enter Try.func6, Try.ntmps6
 go_wp2_with fail
 have B_0 := hid (Below.refl w.heap.size w)
 refine (awake14_any _).mono ?_
 rintro e u1 ⟨rfl, b1⟩
 have B_1 := hid (bl B_0.out b1)
 clear b1 B_0
 go_wp2_with fail
 refine (awake14_any _).mono ?_
 rintro e u2 ⟨rfl, b2⟩
 have B_2 := hid (bl B_1.out b2)
 clear b2 B_1
 go_wp2_with fail
 go_ret
 exact ⟨rfl, B_2.out⟩
theorem kk_grown (W : World) (m i : Nat) (v : Value) : W.grownBy (W.setCell ⟨m, i, none⟩ v) (some m) :=
 ⟨rfl, rfl, rfl, by simp [World.setCell], fun b _ hne => Below.heap_setCell W _ v b (fun e => hne (by rw [e]))⟩
set_option maxHeartbeats 2000000 in
theorem keysKeep_yes (p : Option Addr) (cap : Nat) (l : List Pl) (w : World) (h : RowAt 2 plC w p l) (hi : ∀ k ∈ l, InK k) (k0 : decide ((60 : Int) < (l.length : Int)) = false) : Calls Try.prog 6 #[.slice p l.length cap] w fun e w' => e = .returned (.bool true) ∧ Below w.heap.size w w' := by
 have HWA := hid h
 have HI := hid hi
 have HL := hid (show l.length ≤ 1000 by simp at k0; omega)
 have hm := h.len
 clear h hi
 go_enter Try.func6, Try.ntmps6
 go_wp2_with fail
 have B_0 := hid (Below.refl w.heap.size w)
 refine (awake14_any _).mono ?_
 rintro e u1 ⟨rfl, b1⟩
 have B_1 := hid (bl B_0.out b1)
 clear b1 B_0
 obtain ⟨v3, W3, hr3, hg3, hb3⟩ := append_keys (cap := cap) u1.heap.size (Blk.new u1 24 #[]) (RowAt.below HWA.out (B_1.out.alloc B_1.out.size (.cells #[] 24)) (Nat.le_refl _)) (by have := HL.out; omega)
 have HR3 := hid hr3
 obtain ⟨a3, c3, rfl, hO3⟩ := hg3.own plC_len
 have HO3 := hid hO3
 have B_3 := hid ((B_1.out.alloc B_1.out.size (.cells #[] 24)).grown hb3 (by have := B_1.out.size; simp; omega) (fun q hq => by cases hq; exact B_1.out.size))
 have HUL := hid (show u1.heap.size < W3.heap.size from Nat.lt_of_lt_of_le (by simp) hb3.size)
 clear hr3 hg3 hb3 hO3 B_1
 go_wp2_with (at_builtin; refine append_step1 rfl (.tmp 14) (.tmp 15) 22 rfl _ _ _ W3 rfl rfl HR3.out ?_)
 clear HR3
 refine (ksort_any a3 c3 l _ HO3.out.row HI.out HL.out).mono ?_
 rintro e u5 ⟨sb, sc, s, rfl, hs, hO, b5⟩
 have B_5 := hid (bl B_3.out b5)
 have HA5 := hid (RowAt.call HO3.out.row b5)
 have HLT := hid (show ∀ q, a3 = some q → q.block < W3.heap.size from fun q hq => by rcases HO3.out.2 with ⟨_, h⟩ | ⟨g, cs, h, _, hb, _⟩ <;> rw [h] at hq <;> cases hq; exact hb.lt)
 have HSL := hid hs.len
 have HO5 := hid hO
 have HW3 := hid B_3.out.size
 clear hs hO b5 HO3 B_3
 rcases HO5.out.2 with ⟨rfl, rfl⟩ | ⟨g, cs, rfl, hg, hB, -⟩
 ·clear HO5 HUL HLT HSL HW3
  go_wp2_with fail
  go_loopw [5] (fun i wr => i = .int .i64 0 ∧ wr = u5) (fun _ _ => 0)
  case atStart => exact ⟨rfl, rfl⟩
  case round =>
   obtain ⟨rfl, rfl⟩ := hrel
   go_wp2_with fail
   refine (ksame_any a3 p c3 cap l l _ HA5.out (RowAt.below HWA.out B_5.out (Nat.le_refl _))).mono ?_
   rintro e u7 ⟨rfl, b7⟩
   rw [decide_eq_true rfl]
   have B_7 := hid (bl B_5.out b7)
   clear b7
   go_wp2_with fail
   go_ret
   exact ⟨rfl, B_7.out⟩
 ·have HG := hid hg
  have HNE := hid (show ∀ q, a3 = some q → q.block ≠ g from fun q hq => by have := HLT.out q hq; omega)
  have hsz : s.length * 2 ≤ cs.size := by
   rcases HO5.out.2 with ⟨rfl, _⟩ | ⟨g2, cs2, e2, _, hB2, hc2⟩
   ·simp
   ·cases e2
    have e3 : cs2 = cs := by have h5 : some (Obj.cells cs2 _ _) = some (Obj.cells cs _ _) := hB2.symm.trans hB; cases h5; rfl
    subst e3
    by_cases h0 : s.length = 0
    ·omega
    ·have h6 := hc2 (s.length - 1) (by omega) 1 (by omega)
     have h7 : (plC s[s.length - 1])[1]? = some (.int .i64 s[s.length - 1].id) := rfl
     rw [h7] at h6
     have := (Array.getElem?_eq_some_iff.1 h6).1
     omega
  have HB := hid hB
  have HSZ := hid hsz
  have hsl := HSL.out
  clear hg hB hsz HO5 HLT
  go_wp2_with fail
  go_loopw [5] (fun i wr => ∃ (k : Nat) (cs : Array Value), k ≤ s.length ∧ i = .int .i64 k ∧ Blk wr g 24 cs ∧ s.length * 2 ≤ cs.size ∧ u5.grownBy wr (some g)) (fun i _ => s.length - (intOf i).toNat)
  case atStart => exact ⟨0, cs, Nat.zero_le _, rfl, HB.out, HSZ.out, ⟨rfl, rfl, rfl, Nat.le_refl _, fun _ _ _ => rfl⟩⟩
  case round =>
   obtain ⟨k, cs2, hk, rfl, hB2, hz2, hgr⟩ := hrel
   have HGR := hid hgr
   have HB2 := hid hB2
   clear hgr hB2 HB HSZ
   by_cases hlt : k < s.length
   ·have hl2 := HB2.out.lt
    have c0 : wr.cell? ⟨g, k * 2, none⟩ = some (cs2[k * 2]'(by omega)) := by rw [HB2.out.cell, Array.getElem?_eq_getElem]
    have c1 : wr.cell? ⟨g, k * 2 + 1, none⟩ = some (cs2[k * 2 + 1]'(by omega)) := by rw [HB2.out.cell, Array.getElem?_eq_getElem]
    have f0 : ∀ i, wr.frozen? ⟨g, i, none⟩ = false := HB2.out.frozen
    have hw : IntKind.i64.wrap ((k : Int) + 1) = (k : Int) + 1 := IntWalk.i64_in _ (by have := HL.out; omega)
    generalize cs2[k * 2] = v0 at *
    generalize cs2[k * 2 + 1] = v1 at *
    go_wp2_with fail
    go_roundw
    case rel => exact ⟨k + 1, _, by omega, by go_num, (HB2.out.set_ _ _).set_ _ _, by simpa using hz2, grownBy_comp (grownBy_comp HGR.out (kk_grown wr g _ _) (.inl rfl)) (kk_grown _ g _ _) (.inl rfl)⟩
    case measure => simp [intOf]; omega
   ·have hke : k = s.length := by omega
    subst hke
    have B_6 := hid (show Below w.heap.size w wr from B_5.out.grown HGR.out B_5.out.size (fun q hq => by cases hq; have := HG.out; have := HW3.out; omega))
    have HA6 := hid (grown_row HA5.out HGR.out HNE.out)
    go_wp2_with fail
    refine (ksame_any a3 p c3 cap l l _ HA6.out (RowAt.below HWA.out B_6.out (Nat.le_refl _))).mono ?_
    rintro e u7 ⟨rfl, b7⟩
    rw [decide_eq_true rfl]
    have B_7 := hid (bl B_6.out b7)
    clear b7
    go_wp2_with fail
    go_ret
    exact ⟨rfl, B_7.out⟩
theorem walk_keysKeep (p : Option Addr) (cap : Nat) (l : List Pl) (w : World) (h : RowAt 2 plC w p l) (hi : ∀ k ∈ l, InK k) : Calls Try.prog 6 #[.slice p l.length cap] w fun e w' => e = .returned (.bool true) ∧ Below w.heap.size w w' := by
 cases k0 : decide ((60 : Int) < (l.length : Int))
 ·exact keysKeep_yes p cap l w h hi k0
 ·exact keysKeep_long p cap l w h hi k0
theorem lifted_keysKeep (os : Os) (started : os.Started) (H : Type) (enc : TypeId × Value → H) :
 ReturnsInHanded {} Try.checked os 6 .any (Rows.keysKeepSpec.pre6 enc Try.prog Try.f6 Rows.keysKeepRow.domain false) (Rows.keysKeepSpec.post enc Try.prog Try.f6 false true false false) := by
 refine returnsInHanded_of_change (C := Try.checked) (by kernel_rfl) started (by kernel_rfl) Try.func6
  (ChangeSpec.witness6 (enc := enc) (C := Try.checked) false ⟨#[], #[.slice none 0 0], []⟩ 8 (by kernel_rfl) (by kernel_rfl) (by kernel_rfl) (by kernel_rfl)) ?_
 intro W base args ds gs before hval0 hW hcnd _
 have hval : ∀ (j : Nat) t v, Try.f6.params[j]? = some t → args[j]? = some v → Value.okWide Try.prog W .any base t v := hval0
 have hW' := hW
 obtain ⟨p, q, hA0, hV, rfl, hfz, hnd⟩ := hW
 have hA : DataW.TrodAll enc Try.prog W 0 (fun _ => true) true Try.f6.params.toList args.toList ds p := hA0
 rw [Try.params6] at hA hval
 obtain ⟨v0, vs0, d0, ds0, p0, q0, hargs, rfl, rfl, h0, r0⟩ := trodAll_cons hA
 obtain ⟨rfl, rfl, rfl⟩ := trodAll_nil r0
 obtain rfl : args = #[v0] := by cases args; simp_all
 obtain ⟨rfl, rfl⟩ := trodVars_none hV
 obtain ⟨a0, cap0, l0, rfl, m0, ik0⟩ := read_keys (hval 0 22 v0 rfl rfl) h0
 clear hA0 hval0
 simp only [List.append_nil] at hW'
 refine (walk_keysKeep a0 cap0 l0 W m0 ik0).mono fun e W' ⟨he, hg⟩ => ?_
 subst he
 exact ⟨_, rfl, law_post (by kernel_rfl) rfl (by rw [Try.params6]; decide +kernel) rfl rfl Try.underlying4 hW' hg⟩

/-- ████ THE STATEMENT ████ -/
theorem proved_keysKeep : Rows.KeysKeepSaid :=
 OpenClaim.holds_of_wide 6 Try.f6 rfl rfl rfl rfl rfl rfl rfl ⟨rfl, rfl, rfl, rfl, rfl⟩ rfl rfl rfl rfl rfl (by kernel_rfl) Try.func6 (by kernel_rfl)
  (of_decide_eq_true (by kernel_rfl)) (by unfold Func.isWrapper; first | (rw [if_pos (by decide +kernel)]; kernel_rfl) | (rw [if_neg (by decide +kernel)]; exact ⟨rfl, rfl⟩))
  (fun os started H enc _ => lifted_keysKeep os started H enc)
#print axioms proved_keysKeep
end Go.Proofs.Ytgmkcddgkgcbbaa
