/- MutexDoes: taken, given back, held, as the document has it. -/
import Derived.Test.YtbbjgkinkkgjoaaMutexArg
namespace Go.Proofs.Ytbbjgkinkkgjoaa
open Go.ChangeShapes Go.WideShapes Go.ChangeAt Go.RowKit
open Lib (hid)
set_option linter.unusedVariables false
set_option maxRecDepth 100000
open Go.RowKit Go Go.Joins

theorem mutexDoes_no (a : Option Addr) (cap : Nat) (l : List Int) (p s : Int) (w : World) (h : LkAt w a cap l) (hi : InL l) (hm : mayL l = false) : Calls Try.prog 3 #[.slice a l.length cap, .int .i64 p, .int .u32 s] w fun e w' => e = .returned (.bool true) ∧ Below w.heap.size w w' := by
 have B_0 := hid (Below.refl w.heap.size w)
 have L_0 := hid h
 have HM := hid hm
 clear hm h hi
 go_enter Try.func3, Try.ntmps3
 go_wp2_with fail
 refine (awake15_any _).mono ?_
 rintro e u1 ⟨rfl, b1⟩
 have B_1 := hid (bl B_0.out b1)
 have L_1 := hid (L_0.out.call b1)
 clear b1 B_0 L_0
 go_wp2_with fail
 refine (refmay15_any _ _ _ _ L_1.out.1).mono ?_
 rintro e u2 ⟨rfl, b2⟩
 rw [HM.out]
 have B_2 := hid (bl B_1.out b2)
 have L_2 := hid (L_1.out.call b2)
 clear b2 B_1 L_1
 go_wp2_with fail
 refine (awake15_any _).mono ?_
 rintro e u3 ⟨rfl, b3⟩
 have B_3 := hid (bl B_2.out b3)
 have L_3 := hid (L_2.out.call b3)
 clear b3 B_2 L_2
 go_wp2_with fail
 go_ret
 exact ⟨rfl, B_3.out⟩
theorem mutexDoes_big (a : Option Addr) (cap : Nat) (l : List Int) (p s : Int) (w : World) (h : LkAt w a cap l) (hi : InL l) (hm : mayL l = true) (hs : 1073741824 < s) : Calls Try.prog 3 #[.slice a l.length cap, .int .i64 p, .int .u32 s] w fun e w' => e = .returned (.bool true) ∧ Below w.heap.size w w' := by
 have B_0 := hid (Below.refl w.heap.size w)
 have L_0 := hid h
 have HM := hid hm
 clear hm h hi
 go_enter Try.func3, Try.ntmps3
 go_wp2_with fail
 refine (awake15_any _).mono ?_
 rintro e u1 ⟨rfl, b1⟩
 have B_1 := hid (bl B_0.out b1)
 have L_1 := hid (L_0.out.call b1)
 clear b1 B_0 L_0
 go_wp2_with fail
 refine (refmay15_any _ _ _ _ L_1.out.1).mono ?_
 rintro e u2 ⟨rfl, b2⟩
 rw [HM.out]
 have B_2 := hid (bl B_1.out b2)
 have L_2 := hid (L_1.out.call b2)
 clear b2 B_1 L_1
 go_wp2_with fail
 refine (awake15_any _).mono ?_
 rintro e u3 ⟨rfl, b3⟩
 have B_3 := hid (bl B_2.out b3)
 have L_3 := hid (L_2.out.call b3)
 clear b3 B_2 L_2
 go_wp2_with fail
 go_ret
 exact ⟨rfl, B_3.out⟩
set_option maxHeartbeats 1000000 in
theorem mutexDoes_low (a : Option Addr) (cap : Nat) (l : List Int) (p s : Int) (w : World) (h : LkAt w a cap l) (hi : InL l) (hm : mayL l = true) (h0 : 0 ≤ s) (h1 : s ≤ 1073741824) (hp : p < 0) : Calls Try.prog 3 #[.slice a l.length cap, .int .i64 p, .int .u32 s] w fun e w' => e = .returned (.bool true) ∧ Below w.heap.size w w' := by
 have B_0 := hid (Below.refl w.heap.size w)
 have L_0 := hid h
 have HM := hid hm
 have HLK := hid (mayL_locks hm hi)
 have H0 := hid h0
 have H1 := hid h1
 have HH := hid (show heldB l p = false by simp [heldB, plB]; omega)
 have HN := hid (show holderN l p = 0 by simp [holderN, HH.out])
 obtain ⟨t2, ht2⟩ : ∃ q, takeL l p s = q := ⟨_, rfl⟩
 obtain ⟨g2, hg2⟩ : ∃ q, giveL l p s = q := ⟨_, rfl⟩
 obtain ⟨o2, ho2⟩ : ∃ q, ownN l s l.length = q := ⟨_, rfl⟩
 have HT := hid ht2
 have HG := hid hg2
 have HO := hid ho2
 have HTL := hid (show t2.length = l.length by rw [← ht2, takeL_len])
 have HGL := hid (show g2.length = l.length by rw [← hg2, giveL_len])
 have hw : IntKind.i64.wrap s = s := IntWalk.i64_in _ (by omega)
 have hlm := h.1.len
 clear ht2 hg2 ho2 hm h hi
 go_enter Try.func3, Try.ntmps3
 go_wp2_with fail
 refine (awake15_any _).mono ?_
 rintro e u1 ⟨rfl, b1⟩
 have B_1 := hid (bl B_0.out b1)
 have L_1 := hid (L_0.out.call b1)
 clear b1 B_0 L_0
 go_wp2_with fail
 refine (refmay15_any _ _ _ _ L_1.out.1).mono ?_
 rintro e u2 ⟨rfl, b2⟩
 rw [HM.out]
 have B_2 := hid (bl B_1.out b2)
 have L_2 := hid (L_1.out.call b2)
 clear b2 B_1 L_1
 go_wp2_with fail
 refine (take_as rfl L_2.out HLK.out H0.out H1.out HT.out rfl).mono ?_
 rintro e u3 ⟨ga, gac, rfl, hga, -, b3⟩
 have B_3 := hid (bl B_2.out b3)
 have L_3 := hid (L_2.out.call b3)
 have A_3 := hid hga
 clear hga
 clear b3 B_2 L_2
 go_wp2_with fail
 refine (rtake_as rfl L_3.out HLK.out H0.out H1.out HT.out rfl).mono ?_
 rintro e u4 ⟨gb, gbc, rfl, hgb, -, b4⟩
 have B_4 := hid (bl B_3.out b4)
 have L_4 := hid (L_3.out.call b4)
 have A_4 := hid (A_3.out.call b4)
 have AA_4 := hid hgb
 clear hgb
 clear b4 B_3 L_3 A_3
 go_wp2_with fail
 refine (give_as rfl L_4.out HLK.out H0.out H1.out HG.out rfl).mono ?_
 rintro e u5 ⟨gc, gcc, rfl, hgc, -, b5⟩
 have B_5 := hid (bl B_4.out b5)
 have L_5 := hid (L_4.out.call b5)
 have A_5 := hid (A_4.out.call b5)
 have AA_5 := hid (AA_4.out.call b5)
 have C_5 := hid hgc
 clear hgc
 clear b5 B_4 L_4 A_4 AA_4
 go_wp2_with fail
 refine (rgive_as rfl L_5.out HLK.out H0.out H1.out HG.out rfl).mono ?_
 rintro e u6 ⟨gd, gdc, rfl, hgd, -, b6⟩
 have B_6 := hid (bl B_5.out b6)
 have L_6 := hid (L_5.out.call b6)
 have A_6 := hid (A_5.out.call b6)
 have AA_6 := hid (AA_5.out.call b6)
 have C_6 := hid (C_5.out.call b6)
 have CC_6 := hid hgd
 clear hgd
 clear b6 B_5 L_5 A_5 AA_5 C_5
 go_wp2_with fail
 refine (holder_as rfl L_6.out HLK.out HN.out HH.out).mono ?_
 rintro e u7 ⟨rfl, b7⟩
 have B_7 := hid (bl B_6.out b7)
 have L_7 := hid (L_6.out.call b7)
 have A_7 := hid (A_6.out.call b7)
 have AA_7 := hid (AA_6.out.call b7)
 have C_7 := hid (C_6.out.call b7)
 have CC_7 := hid (CC_6.out.call b7)
 clear b7 B_6 L_6 A_6 AA_6 C_6 CC_6
 go_wp2_with fail
 refine (same_as HTL.out A_7.out AA_7.out).mono ?_
 rintro e u8 ⟨rfl, b8⟩
 have B_8 := hid (bl B_7.out b8)
 have L_8 := hid (L_7.out.call b8)
 have A_8 := hid (A_7.out.call b8)
 have AA_8 := hid (AA_7.out.call b8)
 have C_8 := hid (C_7.out.call b8)
 have CC_8 := hid (CC_7.out.call b8)
 clear b8 B_7 L_7 A_7 AA_7 C_7 CC_7
 go_wp2_with fail
 refine (same_as HGL.out C_8.out CC_8.out).mono ?_
 rintro e u9 ⟨rfl, b9⟩
 have B_9 := hid (bl B_8.out b9)
 have L_9 := hid (L_8.out.call b9)
 have A_9 := hid (A_8.out.call b9)
 have AA_9 := hid (AA_8.out.call b9)
 have C_9 := hid (C_8.out.call b9)
 have CC_9 := hid (CC_8.out.call b9)
 clear b9 B_8 L_8 A_8 AA_8 C_8 CC_8
 go_wp2_with fail
 refine (held_as rfl L_9.out HLK.out H0.out HO.out rfl).mono ?_
 rintro e u10 ⟨ge, gec, rfl, he, -, -, b10⟩
 have B_10 := hid (bl B_9.out b10)
 have L_10 := hid (L_9.out.call b10)
 have A_10 := hid (A_9.out.call b10)
 have AA_10 := hid (AA_9.out.call b10)
 have C_10 := hid (C_9.out.call b10)
 have CC_10 := hid (CC_9.out.call b10)
 have E_10 := hid he
 clear he
 clear b10 B_9 L_9 A_9 AA_9 C_9 CC_9
 go_wp2_with fail
 refine (rheld_as rfl L_10.out HLK.out H0.out H1.out HO.out rfl).mono ?_
 rintro e u11 ⟨gf, gfc, rfl, hf, b11⟩
 have B_11 := hid (bl B_10.out b11)
 have L_11 := hid (L_10.out.call b11)
 have A_11 := hid (A_10.out.call b11)
 have AA_11 := hid (AA_10.out.call b11)
 have C_11 := hid (C_10.out.call b11)
 have CC_11 := hid (CC_10.out.call b11)
 have E_11 := hid (E_10.out.call b11)
 have F_11 := hid hf
 clear hf
 clear b11 B_10 L_10 A_10 AA_10 C_10 CC_10 E_10
 go_wp2_with fail
 refine (same_as rfl E_11.out F_11.out).mono ?_
 rintro e u12 ⟨rfl, b12⟩
 have B_12 := hid (bl B_11.out b12)
 have L_12 := hid (L_11.out.call b12)
 have A_12 := hid (A_11.out.call b12)
 have AA_12 := hid (AA_11.out.call b12)
 have C_12 := hid (C_11.out.call b12)
 have CC_12 := hid (CC_11.out.call b12)
 have E_12 := hid (E_11.out.call b12)
 have F_12 := hid (F_11.out.call b12)
 clear b12 B_11 L_11 A_11 AA_11 C_11 CC_11 E_11 F_11
 go_wp2_with fail
 go_ret
 exact ⟨rfl, B_12.out⟩
set_option maxHeartbeats 1000000 in
theorem mutexDoes_high (a : Option Addr) (cap : Nat) (l : List Int) (p s : Int) (w : World) (h : LkAt w a cap l) (hi : InL l) (hm : mayL l = true) (h0 : 0 ≤ s) (h1 : s ≤ 1073741824) (hp : 0 ≤ p) (hp2 : (l.length : Int) ≤ p) : Calls Try.prog 3 #[.slice a l.length cap, .int .i64 p, .int .u32 s] w fun e w' => e = .returned (.bool true) ∧ Below w.heap.size w w' := by
 have B_0 := hid (Below.refl w.heap.size w)
 have L_0 := hid h
 have HM := hid hm
 have HLK := hid (mayL_locks hm hi)
 have H0 := hid h0
 have H1 := hid h1
 have HH := hid (show heldB l p = false by simp [heldB, plB]; omega)
 have HN := hid (show holderN l p = 0 by simp [holderN, HH.out])
 obtain ⟨t2, ht2⟩ : ∃ q, takeL l p s = q := ⟨_, rfl⟩
 obtain ⟨g2, hg2⟩ : ∃ q, giveL l p s = q := ⟨_, rfl⟩
 obtain ⟨o2, ho2⟩ : ∃ q, ownN l s l.length = q := ⟨_, rfl⟩
 have HT := hid ht2
 have HG := hid hg2
 have HO := hid ho2
 have HTL := hid (show t2.length = l.length by rw [← ht2, takeL_len])
 have HGL := hid (show g2.length = l.length by rw [← hg2, giveL_len])
 have hw : IntKind.i64.wrap s = s := IntWalk.i64_in _ (by omega)
 have hlm := h.1.len
 clear ht2 hg2 ho2 hm h hi
 go_enter Try.func3, Try.ntmps3
 go_wp2_with fail
 refine (awake15_any _).mono ?_
 rintro e u1 ⟨rfl, b1⟩
 have B_1 := hid (bl B_0.out b1)
 have L_1 := hid (L_0.out.call b1)
 clear b1 B_0 L_0
 go_wp2_with fail
 refine (refmay15_any _ _ _ _ L_1.out.1).mono ?_
 rintro e u2 ⟨rfl, b2⟩
 rw [HM.out]
 have B_2 := hid (bl B_1.out b2)
 have L_2 := hid (L_1.out.call b2)
 clear b2 B_1 L_1
 go_wp2_with fail
 refine (take_as rfl L_2.out HLK.out H0.out H1.out HT.out rfl).mono ?_
 rintro e u3 ⟨ga, gac, rfl, hga, -, b3⟩
 have B_3 := hid (bl B_2.out b3)
 have L_3 := hid (L_2.out.call b3)
 have A_3 := hid hga
 clear hga
 clear b3 B_2 L_2
 go_wp2_with fail
 refine (rtake_as rfl L_3.out HLK.out H0.out H1.out HT.out rfl).mono ?_
 rintro e u4 ⟨gb, gbc, rfl, hgb, -, b4⟩
 have B_4 := hid (bl B_3.out b4)
 have L_4 := hid (L_3.out.call b4)
 have A_4 := hid (A_3.out.call b4)
 have AA_4 := hid hgb
 clear hgb
 clear b4 B_3 L_3 A_3
 go_wp2_with fail
 refine (give_as rfl L_4.out HLK.out H0.out H1.out HG.out rfl).mono ?_
 rintro e u5 ⟨gc, gcc, rfl, hgc, -, b5⟩
 have B_5 := hid (bl B_4.out b5)
 have L_5 := hid (L_4.out.call b5)
 have A_5 := hid (A_4.out.call b5)
 have AA_5 := hid (AA_4.out.call b5)
 have C_5 := hid hgc
 clear hgc
 clear b5 B_4 L_4 A_4 AA_4
 go_wp2_with fail
 refine (rgive_as rfl L_5.out HLK.out H0.out H1.out HG.out rfl).mono ?_
 rintro e u6 ⟨gd, gdc, rfl, hgd, -, b6⟩
 have B_6 := hid (bl B_5.out b6)
 have L_6 := hid (L_5.out.call b6)
 have A_6 := hid (A_5.out.call b6)
 have AA_6 := hid (AA_5.out.call b6)
 have C_6 := hid (C_5.out.call b6)
 have CC_6 := hid hgd
 clear hgd
 clear b6 B_5 L_5 A_5 AA_5 C_5
 go_wp2_with fail
 refine (holder_as rfl L_6.out HLK.out HN.out HH.out).mono ?_
 rintro e u7 ⟨rfl, b7⟩
 have B_7 := hid (bl B_6.out b7)
 have L_7 := hid (L_6.out.call b7)
 have A_7 := hid (A_6.out.call b7)
 have AA_7 := hid (AA_6.out.call b7)
 have C_7 := hid (C_6.out.call b7)
 have CC_7 := hid (CC_6.out.call b7)
 clear b7 B_6 L_6 A_6 AA_6 C_6 CC_6
 go_wp2_with fail
 refine (same_as HTL.out A_7.out AA_7.out).mono ?_
 rintro e u8 ⟨rfl, b8⟩
 have B_8 := hid (bl B_7.out b8)
 have L_8 := hid (L_7.out.call b8)
 have A_8 := hid (A_7.out.call b8)
 have AA_8 := hid (AA_7.out.call b8)
 have C_8 := hid (C_7.out.call b8)
 have CC_8 := hid (CC_7.out.call b8)
 clear b8 B_7 L_7 A_7 AA_7 C_7 CC_7
 go_wp2_with fail
 refine (same_as HGL.out C_8.out CC_8.out).mono ?_
 rintro e u9 ⟨rfl, b9⟩
 have B_9 := hid (bl B_8.out b9)
 have L_9 := hid (L_8.out.call b9)
 have A_9 := hid (A_8.out.call b9)
 have AA_9 := hid (AA_8.out.call b9)
 have C_9 := hid (C_8.out.call b9)
 have CC_9 := hid (CC_8.out.call b9)
 clear b9 B_8 L_8 A_8 AA_8 C_8 CC_8
 go_wp2_with fail
 refine (held_as rfl L_9.out HLK.out H0.out HO.out rfl).mono ?_
 rintro e u10 ⟨ge, gec, rfl, he, -, -, b10⟩
 have B_10 := hid (bl B_9.out b10)
 have L_10 := hid (L_9.out.call b10)
 have A_10 := hid (A_9.out.call b10)
 have AA_10 := hid (AA_9.out.call b10)
 have C_10 := hid (C_9.out.call b10)
 have CC_10 := hid (CC_9.out.call b10)
 have E_10 := hid he
 clear he
 clear b10 B_9 L_9 A_9 AA_9 C_9 CC_9
 go_wp2_with fail
 refine (rheld_as rfl L_10.out HLK.out H0.out H1.out HO.out rfl).mono ?_
 rintro e u11 ⟨gf, gfc, rfl, hf, b11⟩
 have B_11 := hid (bl B_10.out b11)
 have L_11 := hid (L_10.out.call b11)
 have A_11 := hid (A_10.out.call b11)
 have AA_11 := hid (AA_10.out.call b11)
 have C_11 := hid (C_10.out.call b11)
 have CC_11 := hid (CC_10.out.call b11)
 have E_11 := hid (E_10.out.call b11)
 have F_11 := hid hf
 clear hf
 clear b11 B_10 L_10 A_10 AA_10 C_10 CC_10 E_10
 go_wp2_with fail
 refine (same_as rfl E_11.out F_11.out).mono ?_
 rintro e u12 ⟨rfl, b12⟩
 have B_12 := hid (bl B_11.out b12)
 have L_12 := hid (L_11.out.call b12)
 have A_12 := hid (A_11.out.call b12)
 have AA_12 := hid (AA_11.out.call b12)
 have C_12 := hid (C_11.out.call b12)
 have CC_12 := hid (CC_11.out.call b12)
 have E_12 := hid (E_11.out.call b12)
 have F_12 := hid (F_11.out.call b12)
 clear b12 B_11 L_11 A_11 AA_11 C_11 CC_11 E_11 F_11
 go_wp2_with fail
 go_ret
 exact ⟨rfl, B_12.out⟩
set_option maxHeartbeats 1000000 in
theorem mutexDoes_free (b o : Nat) (cap : Nat) (l : List Int) (k : Nat) (s : Int) (w : World) (h : LkAt w (some ⟨b, o, none⟩) cap l) (hi : InL l) (hm : mayL l = true) (h0 : 0 ≤ s) (h1 : s ≤ 1073741824) (hk : k < l.length) (hx0 : l[k] = 0) : Calls Try.prog 3 #[.slice (some ⟨b, o, none⟩) l.length cap, .int .i64 (k : Int), .int .u32 s] w fun e w' => e = .returned (.bool true) ∧ Below w.heap.size w w' := by
 have B_0 := hid (Below.refl w.heap.size w)
 have L_0 := hid h
 have HM := hid hm
 have HLK := hid (mayL_locks hm hi)
 have H0 := hid h0
 have H1 := hid h1
 have HX := hid hx0
 have HH := hid (show heldB l (k : Int) = false by simp [heldB, lockN_at hk, hx0])
 have HN := hid (show holderN l (k : Int) = 0 by simp [holderN, HH.out])
 clear hx0
 have HKL := hid hk
 obtain ⟨t2, ht2⟩ : ∃ q, takeL l (k : Int) s = q := ⟨_, rfl⟩
 obtain ⟨g2, hg2⟩ : ∃ q, giveL l (k : Int) s = q := ⟨_, rfl⟩
 obtain ⟨o2, ho2⟩ : ∃ q, ownN l s l.length = q := ⟨_, rfl⟩
 have HT := hid ht2
 have HG := hid hg2
 have HO := hid ho2
 have HTL := hid (show t2.length = l.length by rw [← ht2, takeL_len])
 have HGL := hid (show g2.length = l.length by rw [← hg2, giveL_len])
 have hw : IntKind.i64.wrap s = s := IntWalk.i64_in _ (by omega)
 have hlm := h.1.len
 clear ht2 hg2 ho2 hm h hi
 go_enter Try.func3, Try.ntmps3
 go_wp2_with fail
 refine (awake15_any _).mono ?_
 rintro e u1 ⟨rfl, b1⟩
 have B_1 := hid (bl B_0.out b1)
 have L_1 := hid (L_0.out.call b1)
 clear b1 B_0 L_0
 go_wp2_with fail
 refine (refmay15_any _ _ _ _ L_1.out.1).mono ?_
 rintro e u2 ⟨rfl, b2⟩
 rw [HM.out]
 have B_2 := hid (bl B_1.out b2)
 have L_2 := hid (L_1.out.call b2)
 clear b2 B_1 L_1
 go_wp2_with fail
 refine (take_as rfl L_2.out HLK.out H0.out H1.out HT.out rfl).mono ?_
 rintro e u3 ⟨ga, gac, rfl, hga, -, b3⟩
 have B_3 := hid (bl B_2.out b3)
 have L_3 := hid (L_2.out.call b3)
 have A_3 := hid hga
 clear hga
 clear b3 B_2 L_2
 go_wp2_with fail
 refine (rtake_as rfl L_3.out HLK.out H0.out H1.out HT.out rfl).mono ?_
 rintro e u4 ⟨gb, gbc, rfl, hgb, -, b4⟩
 have B_4 := hid (bl B_3.out b4)
 have L_4 := hid (L_3.out.call b4)
 have A_4 := hid (A_3.out.call b4)
 have AA_4 := hid hgb
 clear hgb
 clear b4 B_3 L_3 A_3
 go_wp2_with fail
 refine (give_as rfl L_4.out HLK.out H0.out H1.out HG.out rfl).mono ?_
 rintro e u5 ⟨gc, gcc, rfl, hgc, -, b5⟩
 have B_5 := hid (bl B_4.out b5)
 have L_5 := hid (L_4.out.call b5)
 have A_5 := hid (A_4.out.call b5)
 have AA_5 := hid (AA_4.out.call b5)
 have C_5 := hid hgc
 clear hgc
 clear b5 B_4 L_4 A_4 AA_4
 go_wp2_with fail
 refine (rgive_as rfl L_5.out HLK.out H0.out H1.out HG.out rfl).mono ?_
 rintro e u6 ⟨gd, gdc, rfl, hgd, -, b6⟩
 have B_6 := hid (bl B_5.out b6)
 have L_6 := hid (L_5.out.call b6)
 have A_6 := hid (A_5.out.call b6)
 have AA_6 := hid (AA_5.out.call b6)
 have C_6 := hid (C_5.out.call b6)
 have CC_6 := hid hgd
 clear hgd
 clear b6 B_5 L_5 A_5 AA_5 C_5
 go_wp2_with fail
 refine (holder_as rfl L_6.out HLK.out HN.out HH.out).mono ?_
 rintro e u7 ⟨rfl, b7⟩
 have B_7 := hid (bl B_6.out b7)
 have L_7 := hid (L_6.out.call b7)
 have A_7 := hid (A_6.out.call b7)
 have AA_7 := hid (AA_6.out.call b7)
 have C_7 := hid (C_6.out.call b7)
 have CC_7 := hid (CC_6.out.call b7)
 clear b7 B_6 L_6 A_6 AA_6 C_6 CC_6
 have hck := L_7.out.cell HKL.out
 rw [HX.out] at hck
 go_wp2_with fail
 clear hck
 refine (same_as HTL.out A_7.out AA_7.out).mono ?_
 rintro e u8 ⟨rfl, b8⟩
 have B_8 := hid (bl B_7.out b8)
 have L_8 := hid (L_7.out.call b8)
 have A_8 := hid (A_7.out.call b8)
 have AA_8 := hid (AA_7.out.call b8)
 have C_8 := hid (C_7.out.call b8)
 have CC_8 := hid (CC_7.out.call b8)
 clear b8 B_7 L_7 A_7 AA_7 C_7 CC_7
 go_wp2_with fail
 refine (same_as HGL.out C_8.out CC_8.out).mono ?_
 rintro e u9 ⟨rfl, b9⟩
 have B_9 := hid (bl B_8.out b9)
 have L_9 := hid (L_8.out.call b9)
 have A_9 := hid (A_8.out.call b9)
 have AA_9 := hid (AA_8.out.call b9)
 have C_9 := hid (C_8.out.call b9)
 have CC_9 := hid (CC_8.out.call b9)
 clear b9 B_8 L_8 A_8 AA_8 C_8 CC_8
 go_wp2_with fail
 refine (held_as rfl L_9.out HLK.out H0.out HO.out rfl).mono ?_
 rintro e u10 ⟨ge, gec, rfl, he, -, -, b10⟩
 have B_10 := hid (bl B_9.out b10)
 have L_10 := hid (L_9.out.call b10)
 have A_10 := hid (A_9.out.call b10)
 have AA_10 := hid (AA_9.out.call b10)
 have C_10 := hid (C_9.out.call b10)
 have CC_10 := hid (CC_9.out.call b10)
 have E_10 := hid he
 clear he
 clear b10 B_9 L_9 A_9 AA_9 C_9 CC_9
 go_wp2_with fail
 refine (rheld_as rfl L_10.out HLK.out H0.out H1.out HO.out rfl).mono ?_
 rintro e u11 ⟨gf, gfc, rfl, hf, b11⟩
 have B_11 := hid (bl B_10.out b11)
 have L_11 := hid (L_10.out.call b11)
 have A_11 := hid (A_10.out.call b11)
 have AA_11 := hid (AA_10.out.call b11)
 have C_11 := hid (C_10.out.call b11)
 have CC_11 := hid (CC_10.out.call b11)
 have E_11 := hid (E_10.out.call b11)
 have F_11 := hid hf
 clear hf
 clear b11 B_10 L_10 A_10 AA_10 C_10 CC_10 E_10
 go_wp2_with fail
 refine (same_as rfl E_11.out F_11.out).mono ?_
 rintro e u12 ⟨rfl, b12⟩
 have B_12 := hid (bl B_11.out b12)
 have L_12 := hid (L_11.out.call b12)
 have A_12 := hid (A_11.out.call b12)
 have AA_12 := hid (AA_11.out.call b12)
 have C_12 := hid (C_11.out.call b12)
 have CC_12 := hid (CC_11.out.call b12)
 have E_12 := hid (E_11.out.call b12)
 have F_12 := hid (F_11.out.call b12)
 clear b12 B_11 L_11 A_11 AA_11 C_11 CC_11 E_11 F_11
 go_wp2_with fail
 go_ret
 exact ⟨rfl, B_12.out⟩
set_option maxHeartbeats 1000000 in
theorem mutexDoes_held (b o : Nat) (cap : Nat) (l : List Int) (k : Nat) (s : Int) (w : World) (h : LkAt w (some ⟨b, o, none⟩) cap l) (hi : InL l) (hm : mayL l = true) (h0 : 0 ≤ s) (h1 : s ≤ 1073741824) (hk : k < l.length) (hx0 : 0 < l[k]) : Calls Try.prog 3 #[.slice (some ⟨b, o, none⟩) l.length cap, .int .i64 (k : Int), .int .u32 s] w fun e w' => e = .returned (.bool true) ∧ Below w.heap.size w w' := by
 have B_0 := hid (Below.refl w.heap.size w)
 have L_0 := hid h
 have HM := hid hm
 have HLK := hid (mayL_locks hm hi)
 have H0 := hid h0
 have H1 := hid h1
 obtain ⟨x, hx⟩ : ∃ q : Int, l[k] = q := ⟨l[k], rfl⟩
 have hxr := (mayL_locks hm hi).2 l[k] (List.getElem_mem hk)
 rw [hx] at hxr
 replace hx0 : 0 < x := by rw [← hx]; exact hx0
 have HX := hid hx
 have HH := hid (show heldB l (k : Int) = true by simp [heldB, lockN_at hk, hx, plB_of hk, hx0])
 have HN := hid (show holderN l (k : Int) = x - 1 by simp [holderN, HH.out, lockN_at hk, hx])
 have hw3 : IntKind.i64.wrap (x - 1) = x - 1 := IntWalk.i64_in _ (by omega)
 clear hx
 have HKL := hid hk
 obtain ⟨t2, ht2⟩ : ∃ q, takeL l (k : Int) s = q := ⟨_, rfl⟩
 obtain ⟨g2, hg2⟩ : ∃ q, giveL l (k : Int) s = q := ⟨_, rfl⟩
 obtain ⟨o2, ho2⟩ : ∃ q, ownN l s l.length = q := ⟨_, rfl⟩
 have HT := hid ht2
 have HG := hid hg2
 have HO := hid ho2
 have HTL := hid (show t2.length = l.length by rw [← ht2, takeL_len])
 have HGL := hid (show g2.length = l.length by rw [← hg2, giveL_len])
 have hw : IntKind.i64.wrap s = s := IntWalk.i64_in _ (by omega)
 have hlm := h.1.len
 clear ht2 hg2 ho2 hm h hi
 go_enter Try.func3, Try.ntmps3
 go_wp2_with fail
 refine (awake15_any _).mono ?_
 rintro e u1 ⟨rfl, b1⟩
 have B_1 := hid (bl B_0.out b1)
 have L_1 := hid (L_0.out.call b1)
 clear b1 B_0 L_0
 go_wp2_with fail
 refine (refmay15_any _ _ _ _ L_1.out.1).mono ?_
 rintro e u2 ⟨rfl, b2⟩
 rw [HM.out]
 have B_2 := hid (bl B_1.out b2)
 have L_2 := hid (L_1.out.call b2)
 clear b2 B_1 L_1
 go_wp2_with fail
 refine (take_as rfl L_2.out HLK.out H0.out H1.out HT.out rfl).mono ?_
 rintro e u3 ⟨ga, gac, rfl, hga, -, b3⟩
 have B_3 := hid (bl B_2.out b3)
 have L_3 := hid (L_2.out.call b3)
 have A_3 := hid hga
 clear hga
 clear b3 B_2 L_2
 go_wp2_with fail
 refine (rtake_as rfl L_3.out HLK.out H0.out H1.out HT.out rfl).mono ?_
 rintro e u4 ⟨gb, gbc, rfl, hgb, -, b4⟩
 have B_4 := hid (bl B_3.out b4)
 have L_4 := hid (L_3.out.call b4)
 have A_4 := hid (A_3.out.call b4)
 have AA_4 := hid hgb
 clear hgb
 clear b4 B_3 L_3 A_3
 go_wp2_with fail
 refine (give_as rfl L_4.out HLK.out H0.out H1.out HG.out rfl).mono ?_
 rintro e u5 ⟨gc, gcc, rfl, hgc, -, b5⟩
 have B_5 := hid (bl B_4.out b5)
 have L_5 := hid (L_4.out.call b5)
 have A_5 := hid (A_4.out.call b5)
 have AA_5 := hid (AA_4.out.call b5)
 have C_5 := hid hgc
 clear hgc
 clear b5 B_4 L_4 A_4 AA_4
 go_wp2_with fail
 refine (rgive_as rfl L_5.out HLK.out H0.out H1.out HG.out rfl).mono ?_
 rintro e u6 ⟨gd, gdc, rfl, hgd, -, b6⟩
 have B_6 := hid (bl B_5.out b6)
 have L_6 := hid (L_5.out.call b6)
 have A_6 := hid (A_5.out.call b6)
 have AA_6 := hid (AA_5.out.call b6)
 have C_6 := hid (C_5.out.call b6)
 have CC_6 := hid hgd
 clear hgd
 clear b6 B_5 L_5 A_5 AA_5 C_5
 go_wp2_with fail
 refine (holder_as rfl L_6.out HLK.out HN.out HH.out).mono ?_
 rintro e u7 ⟨rfl, b7⟩
 have B_7 := hid (bl B_6.out b7)
 have L_7 := hid (L_6.out.call b7)
 have A_7 := hid (A_6.out.call b7)
 have AA_7 := hid (AA_6.out.call b7)
 have C_7 := hid (C_6.out.call b7)
 have CC_7 := hid (CC_6.out.call b7)
 clear b7 B_6 L_6 A_6 AA_6 C_6 CC_6
 have hck := L_7.out.cell HKL.out
 rw [HX.out] at hck
 go_wp2_with fail
 clear hck
 refine (same_as HTL.out A_7.out AA_7.out).mono ?_
 rintro e u8 ⟨rfl, b8⟩
 have B_8 := hid (bl B_7.out b8)
 have L_8 := hid (L_7.out.call b8)
 have A_8 := hid (A_7.out.call b8)
 have AA_8 := hid (AA_7.out.call b8)
 have C_8 := hid (C_7.out.call b8)
 have CC_8 := hid (CC_7.out.call b8)
 clear b8 B_7 L_7 A_7 AA_7 C_7 CC_7
 go_wp2_with fail
 refine (same_as HGL.out C_8.out CC_8.out).mono ?_
 rintro e u9 ⟨rfl, b9⟩
 have B_9 := hid (bl B_8.out b9)
 have L_9 := hid (L_8.out.call b9)
 have A_9 := hid (A_8.out.call b9)
 have AA_9 := hid (AA_8.out.call b9)
 have C_9 := hid (C_8.out.call b9)
 have CC_9 := hid (CC_8.out.call b9)
 clear b9 B_8 L_8 A_8 AA_8 C_8 CC_8
 go_wp2_with fail
 refine (held_as rfl L_9.out HLK.out H0.out HO.out rfl).mono ?_
 rintro e u10 ⟨ge, gec, rfl, he, -, -, b10⟩
 have B_10 := hid (bl B_9.out b10)
 have L_10 := hid (L_9.out.call b10)
 have A_10 := hid (A_9.out.call b10)
 have AA_10 := hid (AA_9.out.call b10)
 have C_10 := hid (C_9.out.call b10)
 have CC_10 := hid (CC_9.out.call b10)
 have E_10 := hid he
 clear he
 clear b10 B_9 L_9 A_9 AA_9 C_9 CC_9
 go_wp2_with fail
 refine (rheld_as rfl L_10.out HLK.out H0.out H1.out HO.out rfl).mono ?_
 rintro e u11 ⟨gf, gfc, rfl, hf, b11⟩
 have B_11 := hid (bl B_10.out b11)
 have L_11 := hid (L_10.out.call b11)
 have A_11 := hid (A_10.out.call b11)
 have AA_11 := hid (AA_10.out.call b11)
 have C_11 := hid (C_10.out.call b11)
 have CC_11 := hid (CC_10.out.call b11)
 have E_11 := hid (E_10.out.call b11)
 have F_11 := hid hf
 clear hf
 clear b11 B_10 L_10 A_10 AA_10 C_10 CC_10 E_10
 go_wp2_with fail
 refine (same_as rfl E_11.out F_11.out).mono ?_
 rintro e u12 ⟨rfl, b12⟩
 have B_12 := hid (bl B_11.out b12)
 have L_12 := hid (L_11.out.call b12)
 have A_12 := hid (A_11.out.call b12)
 have AA_12 := hid (AA_11.out.call b12)
 have C_12 := hid (C_11.out.call b12)
 have CC_12 := hid (CC_11.out.call b12)
 have E_12 := hid (E_11.out.call b12)
 have F_12 := hid (F_11.out.call b12)
 clear b12 B_11 L_11 A_11 AA_11 C_11 CC_11 E_11 F_11
 go_wp2_with fail
 go_ret
 exact ⟨rfl, B_12.out⟩
theorem walk_mutexDoes (a : Option Addr) (cap : Nat) (l : List Int) (p s : Int) (w : World) (_hp : (Lit.int .i64 p).wf = true) (hs : (Lit.int .u32 s).wf = true) (h : LkAt w a cap l) (hi : InL l) : Calls Try.prog 3 #[.slice a l.length cap, .int .i64 p, .int .u32 s] w fun e w' => e = .returned (.bool true) ∧ Below w.heap.size w w' := by
 have hs2 := wf_u32 hs
 cases hm : mayL l
 ·exact mutexDoes_no a cap l p s w h hi hm
 by_cases h1 : s ≤ 1073741824
 ·by_cases hp : p < 0
  ·exact mutexDoes_low a cap l p s w h hi hm hs2.1 h1 hp
  ·by_cases hp2 : (l.length : Int) ≤ p
   ·exact mutexDoes_high a cap l p s w h hi hm hs2.1 h1 (by omega) hp2
   ·obtain ⟨k, rfl⟩ : ∃ k : Nat, p = k := ⟨p.toNat, by omega⟩
    have hk : k < l.length := by omega
    obtain ⟨b, o, rfl, -, -⟩ := h.1.at_ hk
    have hx := (mayL_locks hm hi).2 l[k] (List.getElem_mem hk)
    by_cases hx0 : l[k] = 0
    ·exact mutexDoes_free b o cap l k s w h hi hm hs2.1 h1 hk hx0
    ·exact mutexDoes_held b o cap l k s w h hi hm hs2.1 h1 hk (by omega)
 ·exact mutexDoes_big a cap l p s w h hi hm (by omega)
theorem lifted_mutexDoes (os : Os) (started : os.Started) (H : Type) (enc : TypeId × Value → H) :
 ReturnsInHanded {} Try.checked os 3 .any (Rows.mutexDoesSpec.pre6 enc Try.prog Try.f3 Rows.mutexDoesRow.domain false) (Rows.mutexDoesSpec.post enc Try.prog Try.f3 false true false false) := by
 refine returnsInHanded_of_change (C := Try.checked) (by kernel_rfl) started (by kernel_rfl) Try.func3
  (ChangeSpec.witness6 (enc := enc) (C := Try.checked) false ⟨#[], #[.slice none 0 0, .int .i64 0, .int .u32 0], []⟩ 8 (by kernel_rfl) (by kernel_rfl) (by kernel_rfl) (by kernel_rfl)) ?_
 intro W base args ds gs before hval0 hW hcnd _
 have hval : ∀ (j : Nat) t v, Try.f3.params[j]? = some t → args[j]? = some v → Value.okWide Try.prog W .any base t v := hval0
 have hW' := hW
 obtain ⟨p, q, hA0, hV, rfl, hfz, hnd⟩ := hW
 have hA : DataW.TrodAll enc Try.prog W 0 (fun _ => true) true Try.f3.params.toList args.toList ds p := hA0
 rw [Try.params3] at hA hval
 obtain ⟨v0, vs0, d0, ds0, p0, q0, hargs, rfl, rfl, h0, r0⟩ := trodAll_cons hA
 obtain ⟨v1, vs1, d1, ds1, p1, q1, rfl, rfl, rfl, h1, r1⟩ := trodAll_cons r0
 obtain ⟨v2, vs2, d2, ds2, p2, q2, rfl, rfl, rfl, h2, r2⟩ := trodAll_cons r1
 obtain ⟨rfl, rfl, rfl⟩ := trodAll_nil r2
 obtain rfl : args = #[v0, v1, v2] := by cases args; simp_all
 obtain ⟨rfl, rfl⟩ := trodVars_none hV
 obtain ⟨a0, cap0, xs0, rfl, c0, i0⟩ := read_lks (hval 0 22 v0 rfl rfl) h0
 obtain ⟨a1, rfl, rfl, rfl, w1⟩ := open_int Try.underlying3 (hval 1 3 v1 rfl rfl) h1
 obtain ⟨a2, rfl, rfl, rfl, w2⟩ := open_int Try.underlying23 (hval 2 23 v2 rfl rfl) h2
 clear hA0 hval0
 simp only [List.append_nil] at hW'
 refine (walk_mutexDoes a0 cap0 xs0 a1 a2 W w1 w2 c0 i0).mono fun e W' ⟨he, hg⟩ => ?_
 subst he
 exact ⟨_, rfl, law_post (by kernel_rfl) rfl (by rw [Try.params3]; decide +kernel) rfl rfl Try.underlying4 hW' hg⟩

/-- ████ THE STATEMENT ████ -/
theorem proved_mutexDoes : Rows.MutexDoesSaid :=
 OpenClaim.holds_of_wide 3 Try.f3 rfl rfl rfl rfl rfl rfl rfl ⟨rfl, rfl, rfl, rfl, rfl⟩ rfl rfl rfl rfl rfl (by kernel_rfl) Try.func3 (by kernel_rfl)
  (of_decide_eq_true (by kernel_rfl)) (by unfold Func.isWrapper; first | (rw [if_pos (by decide +kernel)]; kernel_rfl) | (rw [if_neg (by decide +kernel)]; exact ⟨rfl, rfl⟩))
  (fun os started H enc _ => lifted_mutexDoes os started H enc)
#print axioms proved_mutexDoes
end Go.Proofs.Ytbbjgkinkkgjoaa
