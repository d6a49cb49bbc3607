/- MutexKeeps: what is handed in stays, the room behind it, too. -/
import Derived.Test.YtbbjgkinkkgjoaaMutexArg
namespace Go.Proofs.Ytbbjgkinkkgjoaa
open Go.ChangeShapes Go.WideShapes Go.ChangeAt Go.RowKit
open Lib (hid)
set_option linter.unusedVariables false
set_option maxRecDepth 100000
open Go.RowKit Go Go.Joins

theorem RowI.empty (W : World) : RowI W.heap.size (W.alloc (.cells #[] 3)) (.slice (some ⟨W.heap.size, 0, none⟩) 0 0) [] :=
 ⟨rfl, .inr ⟨W.heap.size, 0, #[], rfl, Nat.le_refl _, Blk.new W _ _, Nat.le_refl _, by unfold maxLen; omega, rfl, rfl⟩⟩
theorem LkAt.pre {W : World} {a : Option Addr} {cap : Nat} {l m : List Int} (h : LkAt W a cap (l ++ m)) : LkAt W a cap l := by
 obtain ⟨⟨h1, h2⟩, h3, h4⟩ := h
 rw [List.length_append] at h1 h3
 refine ⟨⟨by omega, ?_⟩, by omega, h4⟩
 rcases h2 with h2 | ⟨b, o, rfl, hb, hc⟩
 ·left; exact (List.append_eq_nil_iff.1 h2).1
 ·right
  refine ⟨b, o, rfl, hb, fun i hi => ?_⟩
  rw [hc i (by rw [List.length_append]; omega), List.getElem_append_left hi]
theorem LkAt.grown {W W' : World} {b o cap q : Nat} {l : List Int} (h : LkAt W (some ⟨b, o, none⟩) cap l) (hg : W.grownBy W' (some q)) (hn : b ≠ q) : LkAt W' (some ⟨b, o, none⟩) cap l := by
 refine ⟨⟨h.1.1, ?_⟩, h.2⟩
 rcases h.1.2 with h2 | ⟨b2, o2, e, hb, hc⟩
 ·exact .inl h2
 ·cases e
  have hbl := hg.block b hb (fun e => hn (Option.some.inj e))
  exact .inr ⟨b, o, rfl, Nat.lt_of_lt_of_le hb hg.size, fun i hi => by rw [← hc i hi]; simp only [World.cell?, hbl]⟩
theorem LkAt.call_grown {W W' : World} {a : Option Addr} {cap q : Nat} {l : List Int} (h : LkAt W a cap l) (hg : W.grownBy W' (some q)) (hn : ∀ p, a = some p → p.block ≠ q) : LkAt W' a cap l := by
 refine ⟨⟨h.1.1, ?_⟩, h.2⟩
 rcases h.1.2 with h2 | ⟨b2, o2, rfl, hb, hc⟩
 ·exact .inl h2
 ·have hbl := hg.block b2 hb (fun e => hn _ rfl (Option.some.inj e))
  exact .inr ⟨b2, o2, rfl, Nat.lt_of_lt_of_le hb hg.size, fun i hi => by rw [← hc i hi]; simp only [World.cell?, hbl]⟩
theorem lk_grown (W : World) (m i : Nat) (v : Value) : W.grownBy (W.setCell ⟨m, i, none⟩ v) (some m) :=
 ⟨rfl, rfl, rfl, by simp [World.setCell], fun b _ hne => Below.heap_setCell W _ v b (fun e => hne (by rw [e]))⟩
theorem grown_both {W W1 W2 : World} {r : Option Nat} (h : W.grownBy W1 r) (k : W1.grownBy W2 r) : W.grownBy W2 r :=
 ⟨k.os.trans h.os, k.tape.trans h.tape, k.output.trans h.output, Nat.le_trans h.size k.size, fun b hb hne => (k.block b (Nat.lt_of_lt_of_le hb h.size) hne).trans (h.block b hb hne)⟩
theorem cut_to (g n c k : Nat) (hk : k ≤ c) (W : World) : (Instr.slice 22 (.slice (some ⟨g, 0, none⟩) n c) none (some (.int .i64 (k : Int))) none).run Try.prog W = .ok (.slice (some ⟨g, 0, none⟩) k c) W := by
 obtain ⟨i0, hi0, hz0, hz1, hz2⟩ := info_parts int_info
 simp [Instr.slice, run_underlying Try.underlying22, Instr.sliceBounds, run_sliceBound, sizeOf, typeInfo, hi0, show (k : Int) ≤ (c : Int) by omega]
 intro; simp [Addr.add]
theorem mutexKeeps_no (a : Option Addr) (cap : Nat) (l : List Int) (p s : Int) (w : World) (h : LkAt w a cap l) (hi : InL l) (hm : mayL l = false) : Calls Try.prog 5 #[.slice a l.length cap, .int .i64 p, .int .u8 s] w fun e w' => e = .returned (.bool true) ∧ Below w.heap.size w w' := by
 have B_0 := hid (Below.refl w.heap.size w)
 have L_0 := hid h
 have HM := hid hm
 clear hm h hi
 go_enter Try.func5, Try.ntmps5
 go_wp2_with fail
 refine (awake15_any _).mono ?_
 rintro e u1 ⟨rfl, b1⟩
 have B_1 := hid (bl B_0.out b1)
 have L_1 := hid (L_0.out.call b1)
 clear b1 B_0 L_0
 go_wp2_with fail
 refine (refmay15_any _ _ _ _ L_1.out.1).mono ?_
 rintro e u2 ⟨rfl, b2⟩
 rw [HM.out]
 have B_2 := hid (bl B_1.out b2)
 have L_2 := hid (L_1.out.call b2)
 clear b2 B_1 L_1
 go_wp2_with fail
 refine (awake15_any _).mono ?_
 rintro e u3 ⟨rfl, b3⟩
 have B_3 := hid (bl B_2.out b3)
 have L_3 := hid (L_2.out.call b3)
 clear b3 B_2 L_2
 go_wp2_with fail
 go_ret
 exact ⟨rfl, B_3.out⟩
set_option maxHeartbeats 2000000 in
theorem mutexKeeps_go (a : Option Addr) (cap : Nat) (l : List Int) (p s : Int) (w : World) (h : LkAt w a cap l) (hi : InL l) (hm : mayL l = true) (h0 : 0 ≤ s) (hs : s ≤ 255) : Calls Try.prog 5 #[.slice a l.length cap, .int .i64 p, .int .u8 s] w fun e w' => e = .returned (.bool true) ∧ Below w.heap.size w w' := by
 have B_0 := hid (Below.refl w.heap.size w)
 have L_0 := hid h
 have HM := hid hm
 have hlk := mayL_locks hm hi
 have hl1 := hlk.1
 have HLK := hid hlk
 have HL1 := hid hl1
 have hws : IntKind.i64.wrap s = s := IntWalk.i64_in _ (by omega)
 clear hm h hi hlk
 go_enter Try.func5, Try.ntmps5
 go_wp2_with fail
 refine (awake15_any _).mono ?_
 rintro e u1 ⟨rfl, b1⟩
 have B_1 := hid (bl B_0.out b1)
 have L_1 := hid (L_0.out.call b1)
 clear b1 B_0 L_0
 go_wp2_with fail
 refine (refmay15_any _ _ _ _ L_1.out.1).mono ?_
 rintro e u2 ⟨rfl, b2⟩
 rw [HM.out]
 have B_2 := hid (bl B_1.out b2)
 have L_2 := hid (L_1.out.call b2)
 clear b2 B_1 L_1
 obtain ⟨v3, W3, hr3, hg3, hb3⟩ := (RowI.empty u2).app (c := cap) (L_2.out.call ((Below.refl _ _).alloc (Nat.le_refl _) (.cells #[] 3))).1 (.inl (by simp)) (by have := HL1.out; simp; omega) (by simp)
 rw [List.nil_append] at hg3
 have b3 := (RowI.empty u2).below (B_2.out.alloc B_2.out.size (.cells #[] 3)) B_2.out.size (by have := B_2.out.size; simp; omega) hb3
 have h3 : u2.heap.size ≤ W3.heap.size := Nat.le_trans (by simp) hb3.size
 have g3 : Below u2.heap.size u2 W3 := (RowI.empty u2).below ((Below.refl _ _).alloc (Nat.le_refl _) (.cells #[] 3)) (Nat.le_refl _) (by simp) hb3
 have c3 := (Below.refl W3.heap.size W3).alloc (Nat.le_refl _) (.cells #[.int .i64 77, .int .i64 77] 3)
 obtain ⟨v4, W4, hr4, hg4, hb4⟩ := (hg3.call c3).app (c := 2) (lk_lit W3 #[.int .i64 77, .int .i64 77] [77, 77] rfl (by decide)).1 (.inr (by simp)) (by have := HL1.out; simp; omega) (by simp; omega)
 have g4 : Below u2.heap.size u2 W4 := (hg3.call c3).below (g3.alloc h3 (.cells #[.int .i64 77, .int .i64 77] 3)) (Nat.le_refl _) (by simp; omega) hb4
 obtain ⟨a4, c4, rfl, hx4, hn4, ho4⟩ := hg4.own
 obtain ⟨g, rfl⟩ : ∃ g, a4 = some ⟨g, 0, none⟩ := by
  rcases ho4 with rfl | ⟨g, cur, rfl, -⟩
  ·rcases hx4.1.2 with h | ⟨b, o, h, -⟩
   ·simp at h
   ·cases h
  ·exact ⟨g, rfl⟩
 have hg4s : g < W4.heap.size := by
  rcases hx4.1.2 with h | ⟨b, o, h, hb, -⟩
  ·simp at h
  ·cases h; exact hb
 rw [show (l ++ [77, 77] : List Int).length = l.length + 2 by simp] at hr4
 have hc4 : l.length + 2 ≤ c4 := by have := hx4.2.1; simpa using this
 have h1 := fun n W => cut_to g n c4 l.length (by omega) W
 have HR3 := hid hr3
 have HR4 := hid hr4
 have O_3 := hid hx4
 have B_3 := hid (bl B_2.out g4)
 have L_3 := hid (L_2.out.call g4)
 clear hr3 hg3 hb3 b3 h3 g3 c3 hr4 hg4 hb4 g4 hx4 hn4 ho4 B_2 L_2
 go_wp2_with (at_builtin; first | refine append_step1 rfl (.tmp 18) (.tmp 19) 22 rfl _ _ _ W3 rfl rfl HR3.out ?_ | refine append_step1 rfl (.tmp 20) (.tmp 21) 22 rfl _ _ _ W4 rfl rfl HR4.out ?_)
 clear HR3 HR4
 refine (take_as rfl O_3.out.pre HLK.out (by omega) (by omega) rfl rfl).mono ?_
 rintro e u3 ⟨gx, gxc, rfl, hgx, -, b3⟩
 have B_4 := hid (bl B_3.out b3)
 have L_4 := hid (L_3.out.call b3)
 have O_4 := hid (O_3.out.call b3)
 clear b3 B_3 L_3 O_3 hgx
 go_wp2_with fail
 refine (give_as rfl O_4.out.pre HLK.out (by omega) (by omega) rfl rfl).mono ?_
 rintro e u4 ⟨gy, gyc, rfl, hgy, -, b4⟩
 have B_5 := hid (bl B_4.out b4)
 have L_5 := hid (L_4.out.call b4)
 have O_5 := hid (O_4.out.call b4)
 clear b4 B_4 L_4 O_4 hgy
 go_wp2_with fail
 have HBS := hid (show w.heap.size ≤ u4.heap.size from B_5.out.size)
 have HGL := hid (show g < u4.heap.size from by
  rcases O_5.out.1.2 with h | ⟨b, o, h, hb, -⟩
  ·simp at h
  ·cases h; exact hb)
 have HLL := hid (show ∀ q, l ≠ [] → a = some q → q.block < u4.heap.size from fun q hne hq => by
  rcases L_5.out.1.2 with h | ⟨b, o, h, hb, -⟩
  ·exact absurd h hne
  ·rw [h] at hq; cases hq; exact hb)
 obtain ⟨o2, ho2⟩ : ∃ q, ownN l s l.length = q := ⟨_, rfl⟩
 have hol := ownN_len l s l.length
 rw [ho2] at hol
 refine (held_as rfl O_5.out.pre HLK.out (by omega) ho2 rfl).mono ?_
 rintro e u5 ⟨gh, ghc, rfl, hh, hnh, hoh, b5⟩
 have B_6 := hid (bl B_5.out b5)
 have L_6 := hid (L_5.out.call b5)
 have O_6 := hid (O_5.out.call b5)
 clear b5 B_5 L_5 O_5
 clear ho2
 rcases hoh with rfl | ⟨q, cur, rfl, hq, hqs⟩
 ·obtain rfl : o2 = [] := by
   rcases hh.1.2 with h | ⟨b, o, h, -⟩
   ·exact h
   ·cases h
  clear hh hnh
  go_wp2_with fail
  go_loopw [9] (fun i wr => i = .int .i64 0 ∧ wr = u5) (fun _ _ => 0)
  case atStart => exact ⟨rfl, rfl⟩
  case round =>
   obtain ⟨rfl, rfl⟩ := hrel
   go_wp2_with fail
   refine (same_as rfl O_6.out.pre L_6.out).mono ?_
   rintro e u6 ⟨rfl, b6⟩
   have B_7 := hid (bl B_6.out b6)
   have L_7 := hid (L_6.out.call b6)
   have O_7 := hid (O_6.out.call b6)
   clear b6 B_6 L_6 O_6
   have c1 := O_7.out.cell (k := l.length) (by simp)
   have c2 := O_7.out.cell (k := l.length + 1) (by simp)
   simp only [Nat.zero_add, List.getElem_append_right (Nat.le_refl _), List.getElem_append_right (Nat.le_succ _), Nat.sub_self, List.getElem_cons_zero] at c1 c2
   have hwl : IntKind.i64.wrap ((l.length : Int) + 1) = (l.length : Int) + 1 := IntWalk.i64_in _ (by have := HL1.out; omega)
   go_wp2_with fail
   go_ret
   exact ⟨rfl, B_7.out⟩
 ·have HGQ := hid (show g ≠ q from by have := HGL.out; have := hnh _ rfl; simp at this; omega)
  have HLQ := hid (show l ≠ [] → ∀ p, a = some p → p.block ≠ q from fun hne p hp => by have := HLL.out p hne hp; have := hnh _ rfl; simp at this; omega)
  have HWQ := hid (show w.heap.size ≤ q from by have h2 := B_6.out.size; have h3 := hnh _ rfl; simp at h3; exact Nat.le_trans HBS.out h3)
  have HQ := hid hq
  have HQS := hid hqs
  clear hh hnh hq hqs
  generalize o2.length = m at *
  go_wp2_with fail
  go_loopw [9] (fun i wr => ∃ (k : Nat) (cs : Array Value), k ≤ m ∧ i = .int .i64 k ∧ Blk wr q 3 cs ∧ m ≤ cs.size ∧ u5.grownBy wr (some q)) (fun i _ => m - (intOf i).toNat)
  case atStart => exact ⟨0, cur, Nat.zero_le _, rfl, HQ.out, HQS.out, ⟨rfl, rfl, rfl, Nat.le_refl _, fun _ _ _ => rfl⟩⟩
  case round =>
   obtain ⟨k, cs, hk, rfl, hB2, hz2, hgr⟩ := hrel
   have HGR := hid hgr
   have HB2 := hid hB2
   clear hgr hB2 HQ HQS
   by_cases hlt : k < m
   ·have hl2 := HB2.out.lt
    have c0 : wr.cell? ⟨q, k, none⟩ = some (cs[k]'(by omega)) := by rw [HB2.out.cell, Array.getElem?_eq_getElem]
    have f0 : ∀ i, wr.frozen? ⟨q, i, none⟩ = false := HB2.out.frozen
    have hw : IntKind.i64.wrap ((k : Int) + 1) = (k : Int) + 1 := IntWalk.i64_in _ (by have := HL1.out; omega)
    generalize cs[k] = v0 at *
    go_wp2_with fail
    go_roundw
    case rel => exact ⟨k + 1, _, by omega, by go_num, HB2.out.set_ _ _, by simpa using hz2, grown_both HGR.out (lk_grown wr q _ _)⟩
    case measure => simp [intOf]; omega
   ·have hke : k = m := by omega
    subst hke
    have B_60 := hid (B_6.out.grown HGR.out B_6.out.size (fun r hr => by cases hr; exact HWQ.out))
    have O_60 := hid (O_6.out.grown HGR.out HGQ.out)
    have L_60 := hid (show LkAt wr a cap l from by
     by_cases hne : l = []
     ·subst hne; exact ⟨IntsAt.nil _ _, L_6.out.2⟩
     ·exact L_6.out.call_grown HGR.out (HLQ.out hne))
    clear HGR HB2
    go_wp2_with fail
    refine (same_as rfl O_60.out.pre L_60.out).mono ?_
    rintro e u6 ⟨rfl, b6⟩
    have B_61 := hid (bl B_60.out b6)
    have L_61 := hid (L_60.out.call b6)
    have O_61 := hid (O_60.out.call b6)
    clear b6 B_60 L_60 O_60
    have c1 := O_61.out.cell (k := l.length) (by simp)
    have c2 := O_61.out.cell (k := l.length + 1) (by simp)
    simp only [Nat.zero_add, List.getElem_append_right (Nat.le_refl _), List.getElem_append_right (Nat.le_succ _), Nat.sub_self, List.getElem_cons_zero] at c1 c2
    have hwl : IntKind.i64.wrap ((l.length : Int) + 1) = (l.length : Int) + 1 := IntWalk.i64_in _ (by have := HL1.out; omega)
    go_wp2_with fail
    go_ret
    exact ⟨rfl, B_61.out⟩
theorem walk_mutexKeeps (a : Option Addr) (cap : Nat) (l : List Int) (p s : Int) (w : World) (_hp : (Lit.int .i64 p).wf = true) (hs : (Lit.int .u8 s).wf = true) (h : LkAt w a cap l) (hi : InL l) : Calls Try.prog 5 #[.slice a l.length cap, .int .i64 p, .int .u8 s] w fun e w' => e = .returned (.bool true) ∧ Below w.heap.size w w' := by
 have hs2 := wf_u8 hs
 cases hm : mayL l
 ·exact mutexKeeps_no a cap l p s w h hi hm
 ·exact mutexKeeps_go a cap l p s w h hi hm (by omega) (by omega)
theorem lifted_mutexKeeps (os : Os) (started : os.Started) (H : Type) (enc : TypeId × Value → H) :
 ReturnsInHanded {} Try.checked os 5 .any (Rows.mutexKeepsSpec.pre6 enc Try.prog Try.f5 Rows.mutexKeepsRow.domain false) (Rows.mutexKeepsSpec.post enc Try.prog Try.f5 false true false false) := by
 refine returnsInHanded_of_change (C := Try.checked) (by kernel_rfl) started (by kernel_rfl) Try.func5
  (ChangeSpec.witness6 (enc := enc) (C := Try.checked) false ⟨#[], #[.slice none 0 0, .int .i64 0, .int .u8 0], []⟩ 8 (by kernel_rfl) (by kernel_rfl) (by kernel_rfl) (by kernel_rfl)) ?_
 intro W base args ds gs before hval0 hW hcnd _
 have hval : ∀ (j : Nat) t v, Try.f5.params[j]? = some t → args[j]? = some v → Value.okWide Try.prog W .any base t v := hval0
 have hW' := hW
 obtain ⟨p, q, hA0, hV, rfl, hfz, hnd⟩ := hW
 have hA : DataW.TrodAll enc Try.prog W 0 (fun _ => true) true Try.f5.params.toList args.toList ds p := hA0
 rw [Try.params5] at hA hval
 obtain ⟨v0, vs0, d0, ds0, p0, q0, hargs, rfl, rfl, h0, r0⟩ := trodAll_cons hA
 obtain ⟨v1, vs1, d1, ds1, p1, q1, rfl, rfl, rfl, h1, r1⟩ := trodAll_cons r0
 obtain ⟨v2, vs2, d2, ds2, p2, q2, rfl, rfl, rfl, h2, r2⟩ := trodAll_cons r1
 obtain ⟨rfl, rfl, rfl⟩ := trodAll_nil r2
 obtain rfl : args = #[v0, v1, v2] := by cases args; simp_all
 obtain ⟨rfl, rfl⟩ := trodVars_none hV
 obtain ⟨a0, cap0, xs0, rfl, c0, i0⟩ := read_lks (hval 0 22 v0 rfl rfl) h0
 obtain ⟨a1, rfl, rfl, rfl, w1⟩ := open_int Try.underlying3 (hval 1 3 v1 rfl rfl) h1
 obtain ⟨a2, rfl, rfl, rfl, w2⟩ := open_int Try.underlying5 (hval 2 5 v2 rfl rfl) h2
 clear hA0 hval0
 simp only [List.append_nil] at hW'
 refine (walk_mutexKeeps a0 cap0 xs0 a1 a2 W w1 w2 c0 i0).mono fun e W' ⟨he, hg⟩ => ?_
 subst he
 exact ⟨_, rfl, law_post (by kernel_rfl) rfl (by rw [Try.params5]; decide +kernel) rfl rfl Try.underlying4 hW' hg⟩

/-- ████ THE STATEMENT ████ -/
theorem proved_mutexKeeps : Rows.MutexKeepsSaid :=
 OpenClaim.holds_of_wide 5 Try.f5 rfl rfl rfl rfl rfl rfl rfl ⟨rfl, rfl, rfl, rfl, rfl⟩ rfl rfl rfl rfl rfl (by kernel_rfl) Try.func5 (by kernel_rfl)
  (of_decide_eq_true (by kernel_rfl)) (by unfold Func.isWrapper; first | (rw [if_pos (by decide +kernel)]; kernel_rfl) | (rw [if_neg (by decide +kernel)]; exact ⟨rfl, rfl⟩))
  (fun os started H enc _ => lifted_mutexKeeps os started H enc)
#print axioms proved_mutexKeeps
end Go.Proofs.Ytbbjgkinkkgjoaa
