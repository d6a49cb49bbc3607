/- mutex: the code's Take, Give, Held. -/
import Derived.Test.YtbbjgkinkkgjoaaMutexB
namespace Go.Proofs.Ytbbjgkinkkgjoaa
open Go.ChangeShapes Go.WideShapes Go.ChangeAt Go.RowKit
open Lib (hid)
set_option linter.unusedVariables false
set_option maxRecDepth 100000
open Go.RowKit Go
/-- What is answered: these locks, the same as handed in, or new memory. -/
def TookL (a : Option Addr) (cap : Nat) (l : List Int) (ok : Bool) (w : World) (e : Ending) (w' : World) : Prop :=
 ∃ g gc, e = .returned (.tuple #[.slice g l.length gc, .bool ok]) ∧ LkAt w' g gc l ∧ ((g = a ∧ gc = cap ∧ ok = false) ∨ NewA w.heap.size g) ∧ Below w.heap.size w w'
theorem mtake_any (a : Option Addr) (cap : Nat) (l : List Int) (p s : Int) (w : World) (h : LkAt w a cap l) (hl : Locks l) (h0 : 0 ≤ s) (h1 : s ≤ 1073741824) : Calls Try.prog 9 #[.slice a l.length cap, .int .i64 p, .int .i64 s] w fun e w' => TookL a cap (takeL l p s) (freeB l p) w e w' := by
 have HM := hid h.1.len
 have HL := hid h
 have HK := hid hl.1
 cases hp : plB l.length p
 ·have HR := hid (show freeB l p = false by simp [freeB, hp])
  have HT := hid (show takeL l p s = l by simp [takeL, HR.out])
  have HP := hid hp
  clear h hl hp
  go_enter Try.func9, Try.ntmps9
  go_wp2_with fail
  refine (misplace_any _ _ _ _ _ HM.out).mono ?_
  rintro e w' ⟨rfl, rfl⟩
  rw [HP.out]
  go_wp2_with fail
  go_ret2
  rw [HT.out, HR.out]
  exact ⟨a, cap, rfl, HL.out, .inl ⟨rfl, rfl, rfl⟩, Below.refl _ _⟩
 ·obtain ⟨k, rfl, hk⟩ := plB_nat hp
  obtain ⟨b, o, rfl, hb, hc⟩ := h.1.at_ hk
  have hck := hc k hk
  have HR := hid (show freeB l (k : Int) = (l[k] == 0) by simp [freeB, hp, lockN_at hk])
  have HT := hid (show takeL l (k : Int) s = if l[k] = 0 then l.set k (s + 1) else l by simp [takeL, HR.out])
  have HP := hid hp
  have HKL := hid hk
  clear h hl hp hc
  generalize l[k] = x at *
  by_cases hx : x = 0
  ·have q0 : (x != 0) = false := by simp [hx]
   have HX := hid hx
   have hw : IntKind.i64.wrap (s + 1) = s + 1 := IntWalk.i64_in _ (by omega)
   clear hx
   go_enter Try.func9, Try.ntmps9
   go_wp2_with fail
   refine (misplace_any _ _ _ _ _ HM.out).mono ?_
   rintro e w' ⟨rfl, rfl⟩
   rw [HP.out]
   go_wp2_with fail
   refine (mwith_any _ cap l k (s + 1) _ HL.out HK.out HKL.out).mono ?_
   rintro e u1 ⟨g, gc, rfl, hg, hn, b1⟩
   have HG := hid hg
   have HN := hid hn
   have B1 := hid b1
   clear hg hn b1
   go_wp2_with fail
   go_ret2
   rw [HT.out, HR.out, if_pos HX.out, HX.out]
   exact ⟨g, gc, by rw [List.length_set]; rfl, HG.out, .inr HN.out, B1.out⟩
  ·have q0 : (x != 0) = true := by simpa using hx
   have HX := hid hx
   have HE := hid (show (x == 0) = false by simpa using hx)
   clear hx
   go_enter Try.func9, Try.ntmps9
   go_wp2_with fail
   refine (misplace_any _ _ _ _ _ HM.out).mono ?_
   rintro e w' ⟨rfl, rfl⟩
   rw [HP.out]
   go_wp2_with fail
   go_ret2
   rw [HT.out, HR.out, if_neg HX.out, HE.out]
   exact ⟨_, cap, rfl, HL.out, .inl ⟨rfl, rfl, rfl⟩, Below.refl _ _⟩
theorem mgive_any (a : Option Addr) (cap : Nat) (l : List Int) (p s : Int) (w : World) (h : LkAt w a cap l) (hl : Locks l) (h0 : 0 ≤ s) (h1 : s ≤ 1073741824) : Calls Try.prog 11 #[.slice a l.length cap, .int .i64 p, .int .i64 s] w fun e w' => TookL a cap (giveL l p s) (hasB l p s) w e w' := by
 have HL := hid h
 have HK := hid hl
 have H0 := hid h0
 cases hp : hasB l p s
 ·have HT := hid (show giveL l p s = l by simp [giveL, hp])
  have HP := hid hp
  clear h hl hp
  go_enter Try.func11, Try.ntmps11
  go_wp2_with fail
  refine (mhas_any a cap l p s _ HL.out.1 HK.out H0.out).mono ?_
  rintro e u1 ⟨rfl, b1⟩
  rw [HP.out]
  have B1 := hid b1
  clear b1
  go_wp2_with fail
  go_ret2
  rw [HT.out]
  exact ⟨a, cap, rfl, HL.out.call B1.out, .inl ⟨rfl, rfl, rfl⟩, B1.out⟩
 ·obtain ⟨k, rfl, hk⟩ := plB_nat (show plB l.length p = true by simp [hasB] at hp; exact hp.1)
  have HT := hid (show giveL l (k : Int) s = l.set k 0 by simp [giveL, hp])
  have HP := hid hp
  have HKL := hid hk
  clear h hl hp hk
  go_enter Try.func11, Try.ntmps11
  go_wp2_with fail
  refine (mhas_any a cap l _ s _ HL.out.1 HK.out H0.out).mono ?_
  rintro e u1 ⟨rfl, b1⟩
  rw [HP.out]
  have B1 := hid b1
  clear b1
  go_wp2_with fail
  refine (mwith_any a cap l k 0 _ (HL.out.call B1.out) HK.out.1 HKL.out).mono ?_
  rintro e u2 ⟨g, gc, rfl, hg, hn, b2⟩
  have HG := hid hg
  have HN := hid (show NewA w.heap.size g from fun q hq => Nat.le_trans B1.out.size (hn q hq))
  have B2 := hid (bl B1.out b2)
  clear hg hn b2 B1
  go_wp2_with fail
  go_ret2
  rw [HT.out]
  exact ⟨g, gc, by rw [List.length_set]; rfl, HG.out, .inr HN.out, B2.out⟩
/-- What a list of one's own says. -/
def GivesL (l : List Int) (w : World) (e : Ending) (w' : World) : Prop :=
 ∃ g gc, e = .returned (.slice g l.length gc) ∧ LkAt w' g gc l ∧ NewA w.heap.size g ∧ (g = none ∨ ∃ q cur, g = some ⟨q, 0, none⟩ ∧ Blk w' q 3 cur ∧ l.length ≤ cur.size) ∧ Below w.heap.size w w'
theorem GivesL.of {l : List Int} {w w' : World} {v : Value} (h : RowI w.heap.size w' v l) (hb : Below w.heap.size w w') : GivesL l w (.returned v) w' := by
 obtain ⟨g, gc, rfl, hx, hn, hr⟩ := h.own
 exact ⟨g, gc, rfl, hx, hn, hr, hb⟩
set_option maxHeartbeats 400000 in
theorem mheld_any (a : Option Addr) (cap : Nat) (l : List Int) (s : Int) (w : World) (h : IntsAt w a l) (hl : Locks l) (h0 : 0 ≤ s) : Calls Try.prog 15 #[.slice a l.length cap, .int .i64 s] w fun e w' => GivesL (ownN l s l.length) w e w' := by
 have HI := hid h
 have HK := hid hl
 have H0 := hid h0
 have hm := h.len
 have HN := hid hl.1
 clear h hl h0
 go_enter Try.func15, Try.ntmps15
 go_wp2_with fail
 go_loopw [5, 9] (fun v i wr => ∃ k : Nat, k ≤ l.length ∧ i = .int .i64 k ∧ RowI w.heap.size wr v (ownN l s k) ∧ Below w.heap.size w wr) (fun _ i _ => l.length - (intOf i).toNat)
 case atStart => exact ⟨0, Nat.zero_le _, rfl, RowI.nil _, Below.refl _ _⟩
 case round =>
  obtain ⟨k, hk, rfl, hg, hb⟩ := hrel
  have HG := hid hg
  have HB := hid hb
  clear hg hb
  by_cases hlt : k < l.length
  ·have HM := hid (ownN_more (s := s) hlt)
   have HH := hid (show hasB l (k : Int) s = decide (l[k] = s + 1) by simp [hasB, plB_of hlt, lockN_at hlt]; rfl)
   have HLN := hid (ownN_len l s k)
   have hw : IntKind.i64.wrap ((k : Int) + 1) = (k : Int) + 1 := IntWalk.i64_in _ (by have := HN.out; omega)
   generalize l[k] = x at *
   go_wp2_with fail
   refine (mhas_any a cap l (k : Int) s _ (HI.out.below HB.out (Nat.le_refl _)) HK.out H0.out).mono ?_
   rintro e u1 ⟨rfl, b1⟩
   have HG1 := hid (HG.out.call b1)
   have HB1 := hid (bl HB.out b1)
   clear b1 HG HB
   by_cases he : x = s + 1
   ·rw [HH.out, decide_eq_true he]
    have HM2 := hid (show ownN l s (k + 1) = ownN l s k ++ [(k : Int)] by rw [HM.out, if_pos he])
    clear he HM HH
    obtain ⟨v3, W3, hr3, hg3, hb3⟩ := HG1.out.one (k : Int) (by have := HLN.out; have := HN.out; omega) HB1.out.size
    have HR3 := hid hr3
    have HG3 := hid hg3
    have HB3 := hid (HG1.out.below HB1.out (Nat.le_refl _) HB1.out.size hb3)
    clear hr3 hg3 hb3 HG1 HB1
    go_wp2_with (at_builtin; refine append_step1 rfl (.tmp 16) (.tmp 18) 22 rfl _ _ _ W3 rfl rfl HR3.out ?_)
    go_roundw
    case rel => exact ⟨k + 1, by omega, by go_num, by rw [HM2.out]; exact HG3.out, HB3.out⟩
    case measure => simp [intOf]; omega
   ·rw [HH.out, decide_eq_false he]
    have HM2 := hid (show ownN l s (k + 1) = ownN l s k by rw [HM.out, if_neg he])
    clear he HM HH
    go_wp2_with fail
    go_roundw
    case rel => exact ⟨k + 1, by omega, by go_num, by rw [HM2.out]; exact HG1.out, HB1.out⟩
    case measure => simp [intOf]; omega
  ·have hke : k = l.length := by omega
   subst hke
   obtain ⟨g, gc, rfl, hx, hn, hr⟩ := HG.out.own
   have HX := hid hx
   have HNN := hid hn
   have HRR := hid hr
   clear hx hn hr HG
   go_wp2_with fail
   go_ret
   exact ⟨g, gc, rfl, HX.out, HNN.out, HRR.out, HB.out⟩
end Go.Proofs.Ytbbjgkinkkgjoaa
