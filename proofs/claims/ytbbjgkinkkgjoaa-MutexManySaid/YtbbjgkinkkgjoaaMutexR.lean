/- mutex: the document's own May, Set, Take, Give, Held. -/
import Derived.Test.YtbbjgkinkkgjoaaMutexC
namespace Go.Proofs.Ytbbjgkinkkgjoaa
open Go.ChangeShapes Go.WideShapes Go.ChangeAt Go.RowKit
open Lib (hid)
set_option linter.unusedVariables false
set_option maxRecDepth 100000
open Go.RowKit Go
/-- Are they locks, and few? -/
def mayL (l : List Int) : Bool := l.all (fun x => decide (0 ≤ x)) && decide (l.length ≤ 100)
theorem take_more {l : List Int} {k : Nat} (h : k < l.length) (P : Int → Bool) : (l.take (k + 1)).all P = ((l.take k).all P && P l[k]) := by
 rw [List.take_succ_eq_append_getElem h, List.all_append]; simp
theorem refmay15_any (a : Option Addr) (cap : Nat) (l : List Int) (w : World) (h : IntsAt w a l) : Calls Try.prog 8 #[.slice a l.length cap] w fun e w' => e = .returned (.bool (mayL l)) ∧ Below w.heap.size w w' := by
 have HI := hid h
 have hm := h.len
 clear h
 go_enter Try.func8, Try.ntmps8
 go_wp2_with fail
 go_loopw [3] (fun i wr => ∃ k : Nat, k ≤ l.length ∧ i = .int .i64 k ∧ (l.take k).all (fun x => decide (0 ≤ x)) = true ∧ Below w.heap.size w wr) (fun i _ => l.length - (intOf i).toNat)
 case atStart => exact ⟨0, Nat.zero_le _, rfl, by simp, Below.refl _ _⟩
 case round =>
  obtain ⟨k, hk, rfl, hg, hb⟩ := hrel
  have HG := hid hg
  have HB := hid hb
  clear hg hb
  by_cases hlt : k < l.length
  ·have HM := hid (take_more hlt (fun x => decide (0 ≤ x)))
   obtain ⟨b, o, rfl, hbb, hc⟩ := HI.out.at_ hlt
   have hck := (HB.out.cell (p := ⟨b, o + k, none⟩) hbb).trans (hc k hlt)
   have HX := hid (List.getElem_mem hlt)
   clear hc
   generalize l[k] = x at *
   have hw : IntKind.i64.wrap ((k : Int) + 1) = (k : Int) + 1 := IntWalk.i64_in _ (by omega)
   by_cases hx : x < 0
   ·have HR := hid (show mayL l = false by
     have : l.all (fun x => decide (0 ≤ x)) = false := by rw [List.all_eq_false]; exact ⟨x, HX.out, by simpa using hx⟩
     simp only [mayL, this, Bool.false_and])
    clear HG HM HX
    go_wp2_with fail
    go_ret
    exact ⟨ret_bool HR.out.symm, HB.out⟩
   ·have HM2 := hid (show (l.take (k + 1)).all (fun x => decide (0 ≤ x)) = true by rw [HM.out, HG.out]; simp; omega)
    clear HG HM HX
    go_wp2_with fail
    go_roundw
    case rel => exact ⟨k + 1, by omega, by go_num, HM2.out, HB.out⟩
    case measure => simp [intOf]; omega
  ·have hke : k = l.length := by omega
   subst hke
   have HR := hid (show mayL l = decide ((l.length : Int) ≤ 100) by
    have := HG.out
    rw [List.take_length] at this
    rw [mayL, this, Bool.true_and]; simp; omega)
   clear HG HI
   go_wp2_with fail
   go_ret
   exact ⟨ret_bool HR.out.symm, HB.out⟩
/-- The first k of the list, one of them another. -/
theorem set_more {l : List Int} {p : Nat} {x : Int} {k : Nat} (h : k < l.length) : (l.set p x).take (k + 1) = (l.set p x).take k ++ [if k = p then x else l[k]] := by
 rw [List.take_succ_eq_append_getElem (by simpa using h), List.getElem_set]
 by_cases hk : p = k
 ·simp [hk]
 ·have : ¬ k = p := fun e => hk e.symm
  simp [hk, this]
set_option maxHeartbeats 400000 in
theorem refset_any (a : Option Addr) (cap : Nat) (l : List Int) (p : Nat) (x : Int) (w : World) (h : IntsAt w a l) (hl : l.length ≤ 100) (hp : p < l.length) : Calls Try.prog 19 #[.slice a l.length cap, .int .i64 (p : Int), .int .i64 x] w fun e w' => GivesL (l.set p x) w e w' := by
 have HI := hid h
 have hm := h.len
 have HN := hid hl
 clear h hl
 go_enter Try.func19, Try.ntmps19
 go_wp2_with fail
 go_loopw [7, 8] (fun v i wr => ∃ k : Nat, k ≤ l.length ∧ i = .int .i64 k ∧ RowI w.heap.size wr v ((l.set p x).take k) ∧ Below w.heap.size w wr) (fun _ i _ => l.length - (intOf i).toNat)
 case atStart => exact ⟨0, Nat.zero_le _, rfl, RowI.nil _, Below.refl _ _⟩
 case round =>
  obtain ⟨k, hk, rfl, hg, hb⟩ := hrel
  have HG := hid hg
  have HB := hid hb
  clear hg hb
  by_cases hlt : k < l.length
  ·have HM := hid (set_more (p := p) (x := x) hlt)
   have HLN := hid (show ((l.set p x).take k).length + 1 ≤ 1000000 by have := HN.out; simp; omega)
   have hw : IntKind.i64.wrap ((k : Int) + 1) = (k : Int) + 1 := IntWalk.i64_in _ (by omega)
   by_cases he : k = p
   ·have q0 : ((k : Int) == (p : Int)) = true := by simp [he]
    have HM2 := hid (show (l.set p x).take (k + 1) = (l.set p x).take k ++ [x] by rw [HM.out, if_pos he])
    clear HM he HI
    obtain ⟨v3, W3, hr3, hg3, hb3⟩ := HG.out.one x HLN.out HB.out.size
    have HR3 := hid hr3
    have HG3 := hid hg3
    have HB3 := hid (HG.out.below HB.out (Nat.le_refl _) HB.out.size hb3)
    clear hr3 hg3 hb3 HG HB
    go_wp2_with (at_builtin; refine append_step1 rfl (.tmp 18) (.tmp 20) 22 rfl _ _ _ W3 rfl rfl HR3.out ?_)
    go_roundw
    case rel => exact ⟨k + 1, by omega, by go_num, by rw [HM2.out]; exact HG3.out, HB3.out⟩
    case measure => simp [intOf]; omega
   ·have q0 : ((k : Int) == (p : Int)) = false := by rw [beq_eq_false_iff_ne]; omega
    have HM2 := hid (show (l.set p x).take (k + 1) = (l.set p x).take k ++ [l[k]] by rw [HM.out, if_neg he])
    clear HM he
    obtain ⟨b, o, rfl, hbb, hc⟩ := HI.out.at_ hlt
    have hck := (HB.out.cell (p := ⟨b, o + k, none⟩) hbb).trans (hc k hlt)
    clear hc
    generalize l[k] = y at *
    obtain ⟨v3, W3, hr3, hg3, hb3⟩ := HG.out.one y HLN.out HB.out.size
    have HR3 := hid hr3
    have HG3 := hid hg3
    have HB3 := hid (HG.out.below HB.out (Nat.le_refl _) HB.out.size hb3)
    clear hr3 hg3 hb3 HG HB
    go_wp2_with (at_builtin; refine append_step1 rfl (.tmp 22) (.tmp 27) 22 rfl _ _ _ W3 rfl rfl HR3.out ?_)
    go_roundw
    case rel => exact ⟨k + 1, by omega, by go_num, by rw [HM2.out]; exact HG3.out, HB3.out⟩
    case measure => simp [intOf]; omega
  ·have hke : k = l.length := by omega
   subst hke
   have HE := hid (show (l.set p x).take l.length = l.set p x from List.take_of_length_le (by simp))
   have hG := HG.out
   rw [HE.out] at hG
   obtain ⟨g, gc, rfl, hx, hn, hr⟩ := hG.own
   clear hG
   have HX := hid hx
   have HNN := hid hn
   have HRR := hid hr
   clear hx hn hr HG HI
   go_wp2_with fail
   go_ret
   exact ⟨g, gc, by rw [List.length_set]; rfl, HX.out, HNN.out, HRR.out, HB.out⟩
theorem reftake_any (a : Option Addr) (cap : Nat) (l : List Int) (p s : Int) (w : World) (h : LkAt w a cap l) (hl : Locks l) (h0 : 0 ≤ s) (h1 : s ≤ 1073741824) : Calls Try.prog 10 #[.slice a l.length cap, .int .i64 p, .int .i64 s] w fun e w' => TookL a cap (takeL l p s) (freeB l p) w e w' := by
 have hm := h.1.len
 have HL := hid h
 have HK := hid hl.1
 cases hp : plB l.length p
 ·have HR := hid (show freeB l p = false by simp [freeB, hp])
  have HT := hid (show takeL l p s = l by simp [takeL, HR.out])
  by_cases hn : p < 0
  ·clear h hl hp
   go_enter Try.func10, Try.ntmps10
   go_wp2_with fail
   go_ret2
   rw [HT.out, HR.out]
   exact ⟨a, cap, rfl, HL.out, .inl ⟨rfl, rfl, rfl⟩, Below.refl _ _⟩
  ·have hn2 : (l.length : Int) ≤ p := by simp [plB] at hp; omega
   clear h hl hp
   go_enter Try.func10, Try.ntmps10
   go_wp2_with fail
   go_ret2
   rw [HT.out, HR.out]
   exact ⟨a, cap, rfl, HL.out, .inl ⟨rfl, rfl, rfl⟩, Below.refl _ _⟩
 ·obtain ⟨k, rfl, hk⟩ := plB_nat hp
  obtain ⟨b, o, rfl, hb, hc⟩ := h.1.at_ hk
  have hck := hc k hk
  have HR := hid (show freeB l (k : Int) = (l[k] == 0) by simp [freeB, hp, lockN_at hk])
  have HT := hid (show takeL l (k : Int) s = if l[k] = 0 then l.set k (s + 1) else l by simp [takeL, HR.out])
  have HKL := hid hk
  clear h hl hp hc
  generalize l[k] = x at *
  by_cases hx : x = 0
  ·have q0 : (x != 0) = false := by simp [hx]
   have HX := hid hx
   have hw : IntKind.i64.wrap (s + 1) = s + 1 := IntWalk.i64_in _ (by omega)
   clear hx
   go_enter Try.func10, Try.ntmps10
   go_wp2_with fail
   refine (refset_any _ cap l k (s + 1) _ HL.out.1 HK.out HKL.out).mono ?_
   rintro e u1 ⟨g, gc, rfl, hg, hn, -, b1⟩
   have HG := hid hg
   have HN := hid hn
   have B1 := hid b1
   clear hg hn b1
   go_wp2_with fail
   go_ret2
   rw [HT.out, HR.out, if_pos HX.out, HX.out]
   exact ⟨g, gc, by rw [List.length_set]; rfl, HG.out, .inr HN.out, B1.out⟩
  ·have q0 : (x != 0) = true := by simpa using hx
   have HX := hid hx
   have HE := hid (show (x == 0) = false by simpa using hx)
   clear hx
   go_enter Try.func10, Try.ntmps10
   go_wp2_with fail
   go_ret2
   rw [HT.out, HR.out, if_neg HX.out, HE.out]
   exact ⟨_, cap, rfl, HL.out, .inl ⟨rfl, rfl, rfl⟩, Below.refl _ _⟩
theorem refgive_any (a : Option Addr) (cap : Nat) (l : List Int) (p s : Int) (w : World) (h : LkAt w a cap l) (hl : Locks l) (h0 : 0 ≤ s) (h1 : s ≤ 1073741824) : Calls Try.prog 12 #[.slice a l.length cap, .int .i64 p, .int .i64 s] w fun e w' => TookL a cap (giveL l p s) (hasB l p s) w e w' := by
 have hm := h.1.len
 have HL := hid h
 have HK := hid hl.1
 cases hp : plB l.length p
 ·have HR := hid (show hasB l p s = false by simp [hasB, hp])
  have HT := hid (show giveL l p s = l by simp [giveL, HR.out])
  by_cases hn : p < 0
  ·clear h hl hp
   go_enter Try.func12, Try.ntmps12
   go_wp2_with fail
   go_ret2
   rw [HT.out, HR.out]
   exact ⟨a, cap, rfl, HL.out, .inl ⟨rfl, rfl, rfl⟩, Below.refl _ _⟩
  ·have hn2 : (l.length : Int) ≤ p := by simp [plB] at hp; omega
   clear h hl hp
   go_enter Try.func12, Try.ntmps12
   go_wp2_with fail
   go_ret2
   rw [HT.out, HR.out]
   exact ⟨a, cap, rfl, HL.out, .inl ⟨rfl, rfl, rfl⟩, Below.refl _ _⟩
 ·obtain ⟨k, rfl, hk⟩ := plB_nat hp
  obtain ⟨b, o, rfl, hb, hc⟩ := h.1.at_ hk
  have hck := hc k hk
  have HR := hid (show hasB l (k : Int) s = (l[k] == s + 1) by simp [hasB, hp, lockN_at hk])
  have HT := hid (show giveL l (k : Int) s = if l[k] = s + 1 then l.set k 0 else l by simp [giveL, HR.out])
  have HKL := hid hk
  have hw : IntKind.i64.wrap (s + 1) = s + 1 := IntWalk.i64_in _ (by omega)
  clear h hl hp hc
  generalize l[k] = x at *
  by_cases hx : x = s + 1
  ·have q0 : (x != s + 1) = false := by simp [hx]
   have HX := hid hx
   clear hx
   go_enter Try.func12, Try.ntmps12
   go_wp2_with fail
   refine (refset_any _ cap l k 0 _ HL.out.1 HK.out HKL.out).mono ?_
   rintro e u1 ⟨g, gc, rfl, hg, hn, -, b1⟩
   have HG := hid hg
   have HN := hid hn
   have B1 := hid b1
   clear hg hn b1
   go_wp2_with fail
   go_ret2
   rw [HT.out, HR.out, if_pos HX.out, HX.out]
   exact ⟨g, gc, by rw [List.length_set, beq_self_eq_true]; rfl, HG.out, .inr HN.out, B1.out⟩
  ·have q0 : (x != s + 1) = true := by simpa using hx
   have HX := hid hx
   have HE := hid (show (x == s + 1) = false by simpa using hx)
   clear hx
   go_enter Try.func12, Try.ntmps12
   go_wp2_with fail
   go_ret2
   rw [HT.out, HR.out, if_neg HX.out, HE.out]
   exact ⟨_, cap, rfl, HL.out, .inl ⟨rfl, rfl, rfl⟩, Below.refl _ _⟩
set_option maxHeartbeats 400000 in
theorem refheld_any (a : Option Addr) (cap : Nat) (l : List Int) (s : Int) (w : World) (h : IntsAt w a l) (hl : Locks l) (h0 : 0 ≤ s) (h1 : s ≤ 1073741824) : Calls Try.prog 16 #[.slice a l.length cap, .int .i64 s] w fun e w' => GivesL (ownN l s l.length) w e w' := by
 have HI := hid h
 have hm := h.len
 have HN := hid hl.1
 have hw1 : IntKind.i64.wrap (s + 1) = s + 1 := IntWalk.i64_in _ (by omega)
 clear h hl h0 h1
 go_enter Try.func16, Try.ntmps16
 go_wp2_with fail
 go_loopw [5, 6] (fun v i wr => ∃ k : Nat, k ≤ l.length ∧ i = .int .i64 k ∧ RowI w.heap.size wr v (ownN l s k) ∧ Below w.heap.size w wr) (fun _ i _ => l.length - (intOf i).toNat)
 case atStart => exact ⟨0, Nat.zero_le _, rfl, RowI.nil _, Below.refl _ _⟩
 case round =>
  obtain ⟨k, hk, rfl, hg, hb⟩ := hrel
  have HG := hid hg
  have HB := hid hb
  clear hg hb
  by_cases hlt : k < l.length
  ·have HM := hid (ownN_more (s := s) hlt)
   have HLN := hid (ownN_len l s k)
   have hw : IntKind.i64.wrap ((k : Int) + 1) = (k : Int) + 1 := IntWalk.i64_in _ (by have := HN.out; omega)
   obtain ⟨b, o, rfl, hbb, hc⟩ := HI.out.at_ hlt
   have hck := (HB.out.cell (p := ⟨b, o + k, none⟩) hbb).trans (hc k hlt)
   clear hc
   generalize l[k] = x at *
   by_cases he : x = s + 1
   ·have q0 : (x == s + 1) = true := by simpa using he
    have HM2 := hid (show ownN l s (k + 1) = ownN l s k ++ [(k : Int)] by rw [HM.out, if_pos he])
    clear he HM
    obtain ⟨v3, W3, hr3, hg3, hb3⟩ := HG.out.one (k : Int) (by have := HLN.out; have := HN.out; omega) HB.out.size
    have HR3 := hid hr3
    have HG3 := hid hg3
    have HB3 := hid (HG.out.below HB.out (Nat.le_refl _) HB.out.size hb3)
    clear hr3 hg3 hb3 HG HB
    go_wp2_with (at_builtin; refine append_step1 rfl (.tmp 20) (.tmp 22) 22 rfl _ _ _ W3 rfl rfl HR3.out ?_)
    go_roundw
    case rel => exact ⟨k + 1, by omega, by go_num, by rw [HM2.out]; exact HG3.out, HB3.out⟩
    case measure => simp [intOf]; omega
   ·have q0 : (x == s + 1) = false := by simpa using he
    have HM2 := hid (show ownN l s (k + 1) = ownN l s k by rw [HM.out, if_neg he])
    clear he HM
    go_wp2_with fail
    go_roundw
    case rel => exact ⟨k + 1, by omega, by go_num, by rw [HM2.out]; exact HG.out, HB.out⟩
    case measure => simp [intOf]; omega
  ·have hke : k = l.length := by omega
   subst hke
   obtain ⟨g, gc, rfl, hx, hn, hr⟩ := HG.out.own
   have HX := hid hx
   have HNN := hid hn
   have HRR := hid hr
   clear hx hn hr HG
   go_wp2_with fail
   go_ret
   exact ⟨g, gc, rfl, HX.out, HNN.out, HRR.out, HB.out⟩
end Go.Proofs.Ytbbjgkinkkgjoaa
