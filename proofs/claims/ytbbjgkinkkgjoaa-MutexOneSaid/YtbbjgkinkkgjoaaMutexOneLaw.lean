/- MutexOne: what is taken is held, by nobody else; given back it is as it was. -/
import Derived.Test.YtbbjgkinkkgjoaaMutexArg
namespace Go.Proofs.Ytbbjgkinkkgjoaa
open Go.ChangeShapes Go.WideShapes Go.ChangeAt Go.RowKit
open Lib (hid)
set_option linter.unusedVariables false
set_option maxRecDepth 100000
open Go.RowKit Go Go.Joins

theorem mutexOne_no (a : Option Addr) (cap : Nat) (l : List Int) (p s q : Int) (w : World) (h : LkAt w a cap l) (hi : InL l) (hm : mayL l = false) : Calls Try.prog 4 #[.slice a l.length cap, .int .u8 p, .int .u8 s, .int .u8 q] w fun e w' => e = .returned (.bool true) ∧ Below w.heap.size w w' := by
 have B_0 := hid (Below.refl w.heap.size w)
 have L_0 := hid h
 have HM := hid hm
 clear hm h hi
 go_enter Try.func4, Try.ntmps4
 go_wp2_with fail
 refine (awake15_any _).mono ?_
 rintro e u1 ⟨rfl, b1⟩
 have B_1 := hid (bl B_0.out b1)
 have L_1 := hid (L_0.out.call b1)
 clear b1 B_0 L_0
 go_wp2_with fail
 refine (refmay15_any _ _ _ _ L_1.out.1).mono ?_
 rintro e u2 ⟨rfl, b2⟩
 rw [HM.out]
 have B_2 := hid (bl B_1.out b2)
 have L_2 := hid (L_1.out.call b2)
 clear b2 B_1 L_1
 go_wp2_with fail
 refine (awake15_any _).mono ?_
 rintro e u3 ⟨rfl, b3⟩
 have B_3 := hid (bl B_2.out b3)
 have L_3 := hid (L_2.out.call b3)
 clear b3 B_2 L_2
 go_wp2_with fail
 go_ret
 exact ⟨rfl, B_3.out⟩
theorem mutexOne_none (a : Option Addr) (cap : Nat) (l : List Int) (p s q : Int) (w : World) (h : LkAt w a cap l) (hi : InL l) (hm : mayL l = true) (hl : l = []) : Calls Try.prog 4 #[.slice a l.length cap, .int .u8 p, .int .u8 s, .int .u8 q] w fun e w' => e = .returned (.bool true) ∧ Below w.heap.size w w' := by
 have B_0 := hid (Below.refl w.heap.size w)
 have L_0 := hid h
 have HM := hid hm
 subst hl
 clear hm h hi
 go_enter Try.func4, Try.ntmps4
 go_wp2_with fail
 refine (awake15_any _).mono ?_
 rintro e u1 ⟨rfl, b1⟩
 have B_1 := hid (bl B_0.out b1)
 have L_1 := hid (L_0.out.call b1)
 clear b1 B_0 L_0
 go_wp2_with fail
 refine (refmay15_any _ _ [] _ L_1.out.1).mono ?_
 rintro e u2 ⟨rfl, b2⟩
 rw [HM.out]
 have B_2 := hid (bl B_1.out b2)
 have L_2 := hid (L_1.out.call b2)
 clear b2 B_1 L_1
 go_wp2_with fail
 refine (awake15_any _).mono ?_
 rintro e u3 ⟨rfl, b3⟩
 have B_3 := hid (bl B_2.out b3)
 have L_3 := hid (L_2.out.call b3)
 clear b3 B_2 L_2
 go_wp2_with fail
 go_ret
 exact ⟨rfl, B_3.out⟩
theorem set_back {l : List Int} {k : Nat} {x : Int} (hk : k < l.length) (h0 : l[k] = 0) : (l.set k x).set k 0 = l := by
 rw [List.set_set, ← h0]; simp
set_option maxHeartbeats 1000000 in
theorem mutexOne_held (b o : Nat) (cap : Nat) (l : List Int) (pn sn qn k : Nat) (w : World) (h : LkAt w (some ⟨b, o, none⟩) cap l) (hi : InL l) (hm : mayL l = true) (hp : pn ≤ 255) (hs : sn ≤ 255) (hq : qn ≤ 255) (hkm : pn % l.length = k) (hk : k < l.length) (hx : ¬ l[k] = 0) : Calls Try.prog 4 #[.slice (some ⟨b, o, none⟩) l.length cap, .int .u8 (pn : Int), .int .u8 (sn : Int), .int .u8 (qn : Int)] w fun e w' => e = .returned (.bool true) ∧ Below w.heap.size w w' := by
 have B_0 := hid (Below.refl w.heap.size w)
 have L_0 := hid h
 have HM := hid hm
 have hlk := mayL_locks hm hi
 have hl1 := hlk.1
 have m1 : (pn : Int).tmod (l.length : Int) = (k : Int) := by rw [← hkm]; rfl
 have m2 : (pn : Int) % (l.length : Int) = (k : Int) := by rw [← hkm]; rfl
 have hz : ((l.length : Int) == 0) = false := by rw [beq_eq_false_iff_ne]; omega
 have hw : IntKind.i64.wrap (pn : Int) = (pn : Int) := IntWalk.i64_in _ (by omega)
 have hws : IntKind.i64.wrap (sn : Int) = (sn : Int) := IntWalk.i64_in _ (by omega)
 have hwq : IntKind.i64.wrap (qn : Int) = (qn : Int) := IntWalk.i64_in _ (by omega)
 have hwk : IntKind.i64.wrap (k : Int) = (k : Int) := IntWalk.i64_in _ (by omega)
 have hxl := hlk.2 l[k] (List.getElem_mem hk)
 have HT := hid (show takeL l (k : Int) (sn : Int) = l by simp [takeL, freeB, lockN_at hk, hx])
 have HF := hid (show freeB l (k : Int) = false by simp [freeB, lockN_at hk, hx])
 have HH := hid (show heldB l (k : Int) = true by simp [heldB, lockN_at hk, plB_of hk]; omega)
 have HLK := hid hlk
 have HKL := hid hk
 clear hm h hi hlk hkm hx hxl
 go_enter Try.func4, Try.ntmps4
 go_wp2_with fail
 refine (awake15_any _).mono ?_
 rintro e u1 ⟨rfl, b1⟩
 have B_1 := hid (bl B_0.out b1)
 have L_1 := hid (L_0.out.call b1)
 clear b1 B_0 L_0
 go_wp2_with fail
 refine (refmay15_any _ _ _ _ L_1.out.1).mono ?_
 rintro e u2 ⟨rfl, b2⟩
 rw [HM.out]
 have B_2 := hid (bl B_1.out b2)
 have L_2 := hid (L_1.out.call b2)
 clear b2 B_1 L_1
 go_wp2_with fail
 refine (take_as rfl L_2.out HLK.out (by omega) (by omega) HT.out HF.out).mono ?_
 rintro e u3 ⟨ga, gac, rfl, hga, -, b3⟩
 have B_3 := hid (bl B_2.out b3)
 have L_3 := hid (L_2.out.call b3)
 have A_3 := hid hga
 clear hga
 clear b3 B_2 L_2
 go_wp2_with fail
 refine (holder_as rfl L_3.out HLK.out rfl HH.out).mono ?_
 rintro e u4 ⟨rfl, b4⟩
 have B_4 := hid (bl B_3.out b4)
 have L_4 := hid (L_3.out.call b4)
 have A_4 := hid (A_3.out.call b4)
 clear b4 B_3 L_3 A_3
 go_wp2_with fail
 refine (same_as rfl A_4.out L_4.out).mono ?_
 rintro e u5 ⟨rfl, b5⟩
 have B_5 := hid (bl B_4.out b5)
 have L_5 := hid (L_4.out.call b5)
 have A_5 := hid (A_4.out.call b5)
 clear b5 B_4 L_4 A_4
 go_wp2_with fail
 go_ret
 exact ⟨rfl, B_5.out⟩
set_option maxHeartbeats 2000000 in
theorem mutexOne_same (b o : Nat) (cap : Nat) (l : List Int) (pn sn qn k : Nat) (w : World) (h : LkAt w (some ⟨b, o, none⟩) cap l) (hi : InL l) (hm : mayL l = true) (hp : pn ≤ 255) (hs : sn ≤ 255) (hq : qn ≤ 255) (hkm : pn % l.length = k) (hk : k < l.length) (hx : l[k] = 0) (hqs : sn = qn) : Calls Try.prog 4 #[.slice (some ⟨b, o, none⟩) l.length cap, .int .u8 (pn : Int), .int .u8 (sn : Int), .int .u8 (qn : Int)] w fun e w' => e = .returned (.bool true) ∧ Below w.heap.size w w' := by
 have B_0 := hid (Below.refl w.heap.size w)
 have L_0 := hid h
 have HM := hid hm
 have hlk := mayL_locks hm hi
 have hl1 := hlk.1
 have m1 : (pn : Int).tmod (l.length : Int) = (k : Int) := by rw [← hkm]; rfl
 have m2 : (pn : Int) % (l.length : Int) = (k : Int) := by rw [← hkm]; rfl
 have hz : ((l.length : Int) == 0) = false := by rw [beq_eq_false_iff_ne]; omega
 have hw : IntKind.i64.wrap (pn : Int) = (pn : Int) := IntWalk.i64_in _ (by omega)
 have hws : IntKind.i64.wrap (sn : Int) = (sn : Int) := IntWalk.i64_in _ (by omega)
 have hwq : IntKind.i64.wrap (qn : Int) = (qn : Int) := IntWalk.i64_in _ (by omega)
 have hwk : IntKind.i64.wrap (k : Int) = (k : Int) := IntWalk.i64_in _ (by omega)
 subst hqs
 obtain ⟨l2, hl2⟩ : ∃ q : List Int, l.set k ((sn : Int) + 1) = q := ⟨_, rfl⟩
 have hlen : l2.length = l.length := by rw [← hl2, List.length_set]
 have hk2 : k < l2.length := by omega
 have hgk : l2[k] = (sn : Int) + 1 := by simp [← hl2]
 have HT := hid (show takeL l (k : Int) (sn : Int) = l2 by simp [takeL, freeB, lockN_at hk, hx, plB_of hk, hl2])
 have HF := hid (show freeB l (k : Int) = true by simp [freeB, lockN_at hk, hx, plB_of hk])
 have HL2 := hid (show Locks l2 by rw [← hl2]; exact set_locks hlk _ (by omega) (by omega))
 have HEN := hid hlen
 have HH := hid (show heldB l2 (k : Int) = true by simp [heldB, lockN_at hk2, plB_of hk2, hgk] <;> omega)
 have HN := hid (show holderN l2 (k : Int) = (sn : Int) by simp [holderN, HH.out, lockN_at hk2, hgk])
 have HF2 := hid (show freeB l2 (k : Int) = false by simp [freeB, lockN_at hk2, hgk] <;> omega)
 have HT2 := hid (show takeL l2 (k : Int) (sn : Int) = l2 by simp [takeL, HF2.out])
 have HS3 := hid (show hasB l2 (k : Int) (sn : Int) = true by simp [hasB, lockN_at hk2, hgk, plB_of hk2])
 have HG3 := hid (show giveL l2 (k : Int) (sn : Int) = l by simp only [giveL, HS3.out, if_true]; rw [← hl2]; exact set_back hk hx)
 have HOS := hid (show (ownN l2 (sn : Int) l.length).length = (ownN l (sn : Int) l.length).length + 1 by rw [← hl2, ownN_set hk (by omega) _ (Nat.le_refl _), if_pos hk])
 have HOL := hid (ownN_len l (sn : Int) l.length)
 have HSAME : Hid (∀ i (h1 : i < l.length) (h2 : i < l2.length), ¬ i = k → l2[i] = l[i]) := hid (fun i h1 h2 hne => by simp [← hl2, show ¬ k = i from fun e => hne e.symm])
 have HLK := hid hlk
 have HKL := hid hk
 clear hm h hi hlk hkm hx hgk hlen hl2
 go_enter Try.func4, Try.ntmps4
 go_wp2_with fail
 refine (awake15_any _).mono ?_
 rintro e u1 ⟨rfl, b1⟩
 have B_1 := hid (bl B_0.out b1)
 have L_1 := hid (L_0.out.call b1)
 clear b1 B_0 L_0
 go_wp2_with fail
 refine (refmay15_any _ _ _ _ L_1.out.1).mono ?_
 rintro e u2 ⟨rfl, b2⟩
 rw [HM.out]
 have B_2 := hid (bl B_1.out b2)
 have L_2 := hid (L_1.out.call b2)
 clear b2 B_1 L_1
 go_wp2_with fail
 refine (take_as rfl L_2.out HLK.out (by omega) (by omega) HT.out HF.out).mono ?_
 rintro e u3 ⟨ga, gac, rfl, hga, -, b3⟩
 have B_3 := hid (bl B_2.out b3)
 have L_3 := hid (L_2.out.call b3)
 have A_3 := hid hga
 clear hga
 clear b3 B_2 L_2
 go_wp2_with fail
 refine (holder_as HEN.out A_3.out HL2.out HN.out HH.out).mono ?_
 rintro e u4 ⟨rfl, b4⟩
 have B_4 := hid (bl B_3.out b4)
 have L_4 := hid (L_3.out.call b4)
 have A_4 := hid (A_3.out.call b4)
 clear b4 B_3 L_3 A_3
 go_wp2_with fail
 refine (take_as HEN.out A_4.out HL2.out (by omega) (by omega) HT2.out HF2.out).mono ?_
 rintro e u5 ⟨gx, gxc, rfl, hgx, -, b5⟩
 have B_5 := hid (bl B_4.out b5)
 have L_5 := hid (L_4.out.call b5)
 have A_5 := hid (A_4.out.call b5)
 clear b5 B_4 L_4 A_4 hgx
 go_wp2_with fail
 refine (give_as HEN.out A_5.out HL2.out (by omega) (by omega) HG3.out HS3.out).mono ?_
 rintro e u6 ⟨gy, gyc, rfl, hgy, -, b6⟩
 have B_6 := hid (bl B_5.out b6)
 have L_6 := hid (L_5.out.call b6)
 have A_6 := hid (A_5.out.call b6)
 clear b6 B_5 L_5 A_5 hgy
 go_wp2_with fail
 refine (give_as HEN.out A_6.out HL2.out (by omega) (by omega) HG3.out HS3.out).mono ?_
 rintro e u7 ⟨gc, gcc, rfl, hgc, -, b7⟩
 have B_7 := hid (bl B_6.out b7)
 have L_7 := hid (L_6.out.call b7)
 have A_7 := hid (A_6.out.call b7)
 have C_7 := hid hgc
 clear hgc
 clear b7 B_6 L_6 A_6
 go_wp2_with fail
 refine (same_as rfl C_7.out L_7.out).mono ?_
 rintro e u8 ⟨rfl, b8⟩
 have B_8 := hid (bl B_7.out b8)
 have L_8 := hid (L_7.out.call b8)
 have A_8 := hid (A_7.out.call b8)
 have C_8 := hid (C_7.out.call b8)
 clear b8 B_7 L_7 A_7 C_7
 go_wp2_with fail
 go_loopw [23] (fun i wr => ∃ m : Nat, m ≤ l.length ∧ i = .int .i64 m ∧ Below u8.heap.size u8 wr) (fun i _ => l.length - (intOf i).toNat)
 case atStart => exact ⟨0, Nat.zero_le _, rfl, Below.refl _ _⟩
 case round =>
  obtain ⟨m, hm2, rfl, hB⟩ := hrel
  have HB := hid hB
  clear hB
  have hwm : IntKind.i64.wrap ((m : Int) + 1) = (m : Int) + 1 := IntWalk.i64_in _ (by omega)
  by_cases hlt : m < l.length
  ·obtain ⟨b2, o2, rfl, -, -⟩ := A_8.out.1.at_ (show m < l2.length by have := HEN.out; omega)
   have c1 := (L_8.out.call HB.out).cell hlt
   have c2 := (A_8.out.call HB.out).cell (show m < l2.length by have := HEN.out; omega)
   by_cases he : m = k
   ·have q2 : ((m : Int) != (k : Int)) = false := by simp [he]
    clear c1 c2 he
    go_wp2_with fail
    go_quiet (fail)
    go_wp2_with fail
    go_roundw
    case rel => exact ⟨m + 1, by omega, by go_num, bdrew HB.out _⟩
    case measure => simp [intOf]; omega
   ·have q2 : ((m : Int) != (k : Int)) = true := by simp; omega
    rw [HSAME.out m hlt (by have := HEN.out; omega) he] at c2
    clear he
    generalize l[m] = x at *
    go_wp2_with fail
    go_quiet (fail)
    go_wp2_with fail
    go_roundw
    case rel => exact ⟨m + 1, by omega, by go_num, bdrew HB.out _⟩
    case measure => simp [intOf]; omega
  ·have hke : m = l.length := by omega
   subst hke
   have B_60 := hid (bl B_8.out HB.out)
   have L_60 := hid (L_8.out.call HB.out)
   have A_60 := hid (A_8.out.call HB.out)
   clear HB
   go_wp2_with fail
   refine (held_as (m := (ownN l (sn : Int) l.length).length + 1) HEN.out A_60.out HL2.out (by omega) rfl HOS.out).mono ?_
   rintro e u9 ⟨ge, gec, rfl, -, -, -, b9⟩
   have B_61 := hid (bl B_60.out b9)
   have L_61 := hid (L_60.out.call b9)
   have A_61 := hid (A_60.out.call b9)
   clear b9 B_60 L_60 A_60
   go_wp2_with fail
   refine (held_as rfl L_61.out HLK.out (by omega) rfl rfl).mono ?_
   rintro e u10 ⟨gf, gfc, rfl, -, -, -, b10⟩
   have B_62 := hid (bl B_61.out b10)
   have L_62 := hid (L_61.out.call b10)
   have A_62 := hid (A_61.out.call b10)
   clear b10 B_61 L_61 A_61
   have hol := HOL.out
   generalize (ownN l (sn : Int) l.length).length = mm at *
   have hwx : IntKind.i64.wrap ((mm : Int) + 1) = (mm : Int) + 1 := IntWalk.i64_in _ (by omega)
   go_wp2_with fail
   go_ret
   exact ⟨rfl, B_62.out⟩
set_option maxHeartbeats 2000000 in
theorem mutexOne_other (b o : Nat) (cap : Nat) (l : List Int) (pn sn qn k : Nat) (w : World) (h : LkAt w (some ⟨b, o, none⟩) cap l) (hi : InL l) (hm : mayL l = true) (hp : pn ≤ 255) (hs : sn ≤ 255) (hq : qn ≤ 255) (hkm : pn % l.length = k) (hk : k < l.length) (hx : l[k] = 0) (hqs : ¬ sn = qn) : Calls Try.prog 4 #[.slice (some ⟨b, o, none⟩) l.length cap, .int .u8 (pn : Int), .int .u8 (sn : Int), .int .u8 (qn : Int)] w fun e w' => e = .returned (.bool true) ∧ Below w.heap.size w w' := by
 have B_0 := hid (Below.refl w.heap.size w)
 have L_0 := hid h
 have HM := hid hm
 have hlk := mayL_locks hm hi
 have hl1 := hlk.1
 have m1 : (pn : Int).tmod (l.length : Int) = (k : Int) := by rw [← hkm]; rfl
 have m2 : (pn : Int) % (l.length : Int) = (k : Int) := by rw [← hkm]; rfl
 have hz : ((l.length : Int) == 0) = false := by rw [beq_eq_false_iff_ne]; omega
 have hw : IntKind.i64.wrap (pn : Int) = (pn : Int) := IntWalk.i64_in _ (by omega)
 have hws : IntKind.i64.wrap (sn : Int) = (sn : Int) := IntWalk.i64_in _ (by omega)
 have hwq : IntKind.i64.wrap (qn : Int) = (qn : Int) := IntWalk.i64_in _ (by omega)
 have hwk : IntKind.i64.wrap (k : Int) = (k : Int) := IntWalk.i64_in _ (by omega)
 obtain ⟨l2, hl2⟩ : ∃ q : List Int, l.set k ((sn : Int) + 1) = q := ⟨_, rfl⟩
 have hlen : l2.length = l.length := by rw [← hl2, List.length_set]
 have hk2 : k < l2.length := by omega
 have hgk : l2[k] = (sn : Int) + 1 := by simp [← hl2]
 have HT := hid (show takeL l (k : Int) (sn : Int) = l2 by simp [takeL, freeB, lockN_at hk, hx, plB_of hk, hl2])
 have HF := hid (show freeB l (k : Int) = true by simp [freeB, lockN_at hk, hx, plB_of hk])
 have HL2 := hid (show Locks l2 by rw [← hl2]; exact set_locks hlk _ (by omega) (by omega))
 have HEN := hid hlen
 have HH := hid (show heldB l2 (k : Int) = true by simp [heldB, lockN_at hk2, plB_of hk2, hgk] <;> omega)
 have HN := hid (show holderN l2 (k : Int) = (sn : Int) by simp [holderN, HH.out, lockN_at hk2, hgk])
 have HF2 := hid (show freeB l2 (k : Int) = false by simp [freeB, lockN_at hk2, hgk] <;> omega)
 have HT2 := hid (show takeL l2 (k : Int) (qn : Int) = l2 by simp [takeL, HF2.out])
 have HS3 := hid (show hasB l2 (k : Int) (sn : Int) = true by simp [hasB, lockN_at hk2, hgk, plB_of hk2])
 have HG3 := hid (show giveL l2 (k : Int) (sn : Int) = l by simp only [giveL, HS3.out, if_true]; rw [← hl2]; exact set_back hk hx)
 have HS4 := hid (show hasB l2 (k : Int) (qn : Int) = false by simp [hasB, lockN_at hk2, hgk] <;> omega)
 have HG4 := hid (show giveL l2 (k : Int) (qn : Int) = l2 by simp [giveL, HS4.out])
 have q1 : ((sn : Int) == (qn : Int)) = false := by rw [beq_eq_false_iff_ne]; omega
 have HOS := hid (show (ownN l2 (sn : Int) l.length).length = (ownN l (sn : Int) l.length).length + 1 by rw [← hl2, ownN_set hk (by omega) _ (Nat.le_refl _), if_pos hk])
 have HOL := hid (ownN_len l (sn : Int) l.length)
 have HSAME : Hid (∀ i (h1 : i < l.length) (h2 : i < l2.length), ¬ i = k → l2[i] = l[i]) := hid (fun i h1 h2 hne => by simp [← hl2, show ¬ k = i from fun e => hne e.symm])
 have HLK := hid hlk
 have HKL := hid hk
 clear hm h hi hlk hkm hx hgk hlen hl2
 go_enter Try.func4, Try.ntmps4
 go_wp2_with fail
 refine (awake15_any _).mono ?_
 rintro e u1 ⟨rfl, b1⟩
 have B_1 := hid (bl B_0.out b1)
 have L_1 := hid (L_0.out.call b1)
 clear b1 B_0 L_0
 go_wp2_with fail
 refine (refmay15_any _ _ _ _ L_1.out.1).mono ?_
 rintro e u2 ⟨rfl, b2⟩
 rw [HM.out]
 have B_2 := hid (bl B_1.out b2)
 have L_2 := hid (L_1.out.call b2)
 clear b2 B_1 L_1
 go_wp2_with fail
 refine (take_as rfl L_2.out HLK.out (by omega) (by omega) HT.out HF.out).mono ?_
 rintro e u3 ⟨ga, gac, rfl, hga, -, b3⟩
 have B_3 := hid (bl B_2.out b3)
 have L_3 := hid (L_2.out.call b3)
 have A_3 := hid hga
 clear hga
 clear b3 B_2 L_2
 go_wp2_with fail
 refine (holder_as HEN.out A_3.out HL2.out HN.out HH.out).mono ?_
 rintro e u4 ⟨rfl, b4⟩
 have B_4 := hid (bl B_3.out b4)
 have L_4 := hid (L_3.out.call b4)
 have A_4 := hid (A_3.out.call b4)
 clear b4 B_3 L_3 A_3
 go_wp2_with fail
 refine (take_as HEN.out A_4.out HL2.out (by omega) (by omega) HT2.out HF2.out).mono ?_
 rintro e u5 ⟨gx, gxc, rfl, hgx, -, b5⟩
 have B_5 := hid (bl B_4.out b5)
 have L_5 := hid (L_4.out.call b5)
 have A_5 := hid (A_4.out.call b5)
 clear b5 B_4 L_4 A_4 hgx
 go_wp2_with fail
 refine (give_as HEN.out A_5.out HL2.out (by omega) (by omega) HG4.out HS4.out).mono ?_
 rintro e u6 ⟨gy, gyc, rfl, hgy, -, b6⟩
 have B_6 := hid (bl B_5.out b6)
 have L_6 := hid (L_5.out.call b6)
 have A_6 := hid (A_5.out.call b6)
 clear b6 B_5 L_5 A_5 hgy
 go_wp2_with fail
 refine (give_as HEN.out A_6.out HL2.out (by omega) (by omega) HG3.out HS3.out).mono ?_
 rintro e u7 ⟨gc, gcc, rfl, hgc, -, b7⟩
 have B_7 := hid (bl B_6.out b7)
 have L_7 := hid (L_6.out.call b7)
 have A_7 := hid (A_6.out.call b7)
 have C_7 := hid hgc
 clear hgc
 clear b7 B_6 L_6 A_6
 go_wp2_with fail
 refine (same_as rfl C_7.out L_7.out).mono ?_
 rintro e u8 ⟨rfl, b8⟩
 have B_8 := hid (bl B_7.out b8)
 have L_8 := hid (L_7.out.call b8)
 have A_8 := hid (A_7.out.call b8)
 have C_8 := hid (C_7.out.call b8)
 clear b8 B_7 L_7 A_7 C_7
 go_wp2_with fail
 go_loopw [23] (fun i wr => ∃ m : Nat, m ≤ l.length ∧ i = .int .i64 m ∧ Below u8.heap.size u8 wr) (fun i _ => l.length - (intOf i).toNat)
 case atStart => exact ⟨0, Nat.zero_le _, rfl, Below.refl _ _⟩
 case round =>
  obtain ⟨m, hm2, rfl, hB⟩ := hrel
  have HB := hid hB
  clear hB
  have hwm : IntKind.i64.wrap ((m : Int) + 1) = (m : Int) + 1 := IntWalk.i64_in _ (by omega)
  by_cases hlt : m < l.length
  ·obtain ⟨b2, o2, rfl, -, -⟩ := A_8.out.1.at_ (show m < l2.length by have := HEN.out; omega)
   have c1 := (L_8.out.call HB.out).cell hlt
   have c2 := (A_8.out.call HB.out).cell (show m < l2.length by have := HEN.out; omega)
   by_cases he : m = k
   ·have q2 : ((m : Int) != (k : Int)) = false := by simp [he]
    clear c1 c2 he
    go_wp2_with fail
    go_quiet (fail)
    go_wp2_with fail
    go_roundw
    case rel => exact ⟨m + 1, by omega, by go_num, bdrew HB.out _⟩
    case measure => simp [intOf]; omega
   ·have q2 : ((m : Int) != (k : Int)) = true := by simp; omega
    rw [HSAME.out m hlt (by have := HEN.out; omega) he] at c2
    clear he
    generalize l[m] = x at *
    go_wp2_with fail
    go_quiet (fail)
    go_wp2_with fail
    go_roundw
    case rel => exact ⟨m + 1, by omega, by go_num, bdrew HB.out _⟩
    case measure => simp [intOf]; omega
  ·have hke : m = l.length := by omega
   subst hke
   have B_60 := hid (bl B_8.out HB.out)
   have L_60 := hid (L_8.out.call HB.out)
   have A_60 := hid (A_8.out.call HB.out)
   clear HB
   go_wp2_with fail
   refine (held_as (m := (ownN l (sn : Int) l.length).length + 1) HEN.out A_60.out HL2.out (by omega) rfl HOS.out).mono ?_
   rintro e u9 ⟨ge, gec, rfl, -, -, -, b9⟩
   have B_61 := hid (bl B_60.out b9)
   have L_61 := hid (L_60.out.call b9)
   have A_61 := hid (A_60.out.call b9)
   clear b9 B_60 L_60 A_60
   go_wp2_with fail
   refine (held_as rfl L_61.out HLK.out (by omega) rfl rfl).mono ?_
   rintro e u10 ⟨gf, gfc, rfl, -, -, -, b10⟩
   have B_62 := hid (bl B_61.out b10)
   have L_62 := hid (L_61.out.call b10)
   have A_62 := hid (A_61.out.call b10)
   clear b10 B_61 L_61 A_61
   have hol := HOL.out
   generalize (ownN l (sn : Int) l.length).length = mm at *
   have hwx : IntKind.i64.wrap ((mm : Int) + 1) = (mm : Int) + 1 := IntWalk.i64_in _ (by omega)
   go_wp2_with fail
   go_ret
   exact ⟨rfl, B_62.out⟩
theorem walk_mutexOne (a : Option Addr) (cap : Nat) (l : List Int) (p s q : Int) (w : World) (hp : (Lit.int .u8 p).wf = true) (hs : (Lit.int .u8 s).wf = true) (hq : (Lit.int .u8 q).wf = true) (h : LkAt w a cap l) (hi : InL l) : Calls Try.prog 4 #[.slice a l.length cap, .int .u8 p, .int .u8 s, .int .u8 q] w fun e w' => e = .returned (.bool true) ∧ Below w.heap.size w w' := by
 have hp2 := wf_u8 hp
 have hs2 := wf_u8 hs
 have hq2 := wf_u8 hq
 cases hm : mayL l
 ·exact mutexOne_no a cap l p s q w h hi hm
 by_cases hl : l = []
 ·exact mutexOne_none a cap l p s q w h hi hm hl
 ·have hlp : 0 < l.length := List.length_pos_iff.2 hl
  obtain ⟨pn, rfl⟩ : ∃ m : Nat, p = m := ⟨p.toNat, by omega⟩
  obtain ⟨sn, rfl⟩ : ∃ m : Nat, s = m := ⟨s.toNat, by omega⟩
  obtain ⟨qn, rfl⟩ : ∃ m : Nat, q = m := ⟨q.toNat, by omega⟩
  have hk : pn % l.length < l.length := Nat.mod_lt _ hlp
  obtain ⟨b, o, rfl, -, -⟩ := h.1.at_ hk
  by_cases hx : l[pn % l.length] = 0
  ·by_cases hqs : sn = qn
   ·exact mutexOne_same b o cap l pn sn qn _ w h hi hm (by omega) (by omega) (by omega) rfl hk hx hqs
   ·exact mutexOne_other b o cap l pn sn qn _ w h hi hm (by omega) (by omega) (by omega) rfl hk hx hqs
  ·exact mutexOne_held b o cap l pn sn qn _ w h hi hm (by omega) (by omega) (by omega) rfl hk hx
theorem lifted_mutexOne (os : Os) (started : os.Started) (H : Type) (enc : TypeId × Value → H) :
 ReturnsInHanded {} Try.checked os 4 .any (Rows.mutexOneSpec.pre6 enc Try.prog Try.f4 Rows.mutexOneRow.domain false) (Rows.mutexOneSpec.post enc Try.prog Try.f4 false true false false) := by
 refine returnsInHanded_of_change (C := Try.checked) (by kernel_rfl) started (by kernel_rfl) Try.func4
  (ChangeSpec.witness6 (enc := enc) (C := Try.checked) false ⟨#[], #[.slice none 0 0, .int .u8 0, .int .u8 0, .int .u8 0], []⟩ 8 (by kernel_rfl) (by kernel_rfl) (by kernel_rfl) (by kernel_rfl)) ?_
 intro W base args ds gs before hval0 hW hcnd _
 have hval : ∀ (j : Nat) t v, Try.f4.params[j]? = some t → args[j]? = some v → Value.okWide Try.prog W .any base t v := hval0
 have hW' := hW
 obtain ⟨p, q, hA0, hV, rfl, hfz, hnd⟩ := hW
 have hA : DataW.TrodAll enc Try.prog W 0 (fun _ => true) true Try.f4.params.toList args.toList ds p := hA0
 rw [Try.params4] at hA hval
 obtain ⟨v0, vs0, d0, ds0, p0, q0, hargs, rfl, rfl, h0, r0⟩ := trodAll_cons hA
 obtain ⟨v1, vs1, d1, ds1, p1, q1, rfl, rfl, rfl, h1, r1⟩ := trodAll_cons r0
 obtain ⟨v2, vs2, d2, ds2, p2, q2, rfl, rfl, rfl, h2, r2⟩ := trodAll_cons r1
 obtain ⟨v3, vs3, d3, ds3, p3, q3, rfl, rfl, rfl, h3, r3⟩ := trodAll_cons r2
 obtain ⟨rfl, rfl, rfl⟩ := trodAll_nil r3
 obtain rfl : args = #[v0, v1, v2, v3] := by cases args; simp_all
 obtain ⟨rfl, rfl⟩ := trodVars_none hV
 obtain ⟨a0, cap0, xs0, rfl, c0, i0⟩ := read_lks (hval 0 22 v0 rfl rfl) h0
 obtain ⟨a1, rfl, rfl, rfl, w1⟩ := open_int Try.underlying5 (hval 1 5 v1 rfl rfl) h1
 obtain ⟨a2, rfl, rfl, rfl, w2⟩ := open_int Try.underlying5 (hval 2 5 v2 rfl rfl) h2
 obtain ⟨a3, rfl, rfl, rfl, w3⟩ := open_int Try.underlying5 (hval 3 5 v3 rfl rfl) h3
 clear hA0 hval0
 simp only [List.append_nil] at hW'
 refine (walk_mutexOne a0 cap0 xs0 a1 a2 a3 W w1 w2 w3 c0 i0).mono fun e W' ⟨he, hg⟩ => ?_
 subst he
 exact ⟨_, rfl, law_post (by kernel_rfl) rfl (by rw [Try.params4]; decide +kernel) rfl rfl Try.underlying4 hW' hg⟩

/-- ████ THE STATEMENT ████ -/
theorem proved_mutexOne : Rows.MutexOneSaid :=
 OpenClaim.holds_of_wide 4 Try.f4 rfl rfl rfl rfl rfl rfl rfl ⟨rfl, rfl, rfl, rfl, rfl⟩ rfl rfl rfl rfl rfl (by kernel_rfl) Try.func4 (by kernel_rfl)
  (of_decide_eq_true (by kernel_rfl)) (by unfold Func.isWrapper; first | (rw [if_pos (by decide +kernel)]; kernel_rfl) | (rw [if_neg (by decide +kernel)]; exact ⟨rfl, rfl⟩))
  (fun os started H enc _ => lifted_mutexOne os started H enc)
#print axioms proved_mutexOne
end Go.Proofs.Ytbbjgkinkkgjoaa
