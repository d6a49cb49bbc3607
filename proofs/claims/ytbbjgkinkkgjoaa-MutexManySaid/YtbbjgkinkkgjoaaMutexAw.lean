/- mutex: what the laws ask first of all. -/
import Derived.Test.YtbbjgkinkkgjoaaGWorld
import Derived.Test.YtbbjgkinkkgjoaaMutexC
namespace Go.Proofs.Ytbbjgkinkkgjoaa
open Go.ChangeShapes Go.WideShapes Go.ChangeAt Go.RowKit
open Lib (hid)
set_option linter.unusedVariables false
open Go.RowKit Go
theorem lk_lit (W : World) (cs : Array Value) (l : List Int) (hcs : cs = (inV l).toArray) (hl : l.length ≤ 100) : LkAt (W.alloc (.cells cs 3)) (some ⟨W.heap.size, 0, none⟩) l.length l := by
 subst hcs
 refine ⟨⟨by unfold maxLen; omega, .inr ⟨_, _, rfl, by simp, fun i hi => ?_⟩⟩, Nat.le_refl _, by unfold maxLen; omega⟩
 rw [World.cell?_alloc_at _ _ _ _ rfl]
 simp [inV, hi]
theorem locks_of (l : List Int) (h1 : l.length ≤ 100) (h2 : ∀ x ∈ l, 0 ≤ x ∧ x ≤ 9223372036854775807) : Locks l := ⟨h1, h2⟩
section
variable (a : Option Addr) (cap : Nat) (W : World)
theorem aw15_take (h : LkAt W a cap [0, 0]) : Calls Try.prog 9 #[.slice a 2 cap, .int .i64 1, .int .i64 4] W fun e w' => TookL a cap [0, 5] true W e w' := by
 have h1 := mtake_any a cap [0, 0] 1 4 W h (by simp [Locks]) (by decide) (by decide)
 rw [show takeL [0, 0] 1 4 = [0, 5] by decide, show freeB [0, 0] 1  = true by decide] at h1
 exact h1
theorem aw15_no (h : LkAt W a cap [0, 5]) : Calls Try.prog 9 #[.slice a 2 cap, .int .i64 1, .int .i64 4] W fun e w' => TookL a cap [0, 5] false W e w' := by
 have h1 := mtake_any a cap [0, 5] 1 4 W h (by simp [Locks]) (by decide) (by decide)
 rw [show takeL [0, 5] 1 4 = [0, 5] by decide, show freeB [0, 5] 1  = false by decide] at h1
 exact h1
theorem aw15_not (h : LkAt W a cap [0, 5]) : Calls Try.prog 11 #[.slice a 2 cap, .int .i64 1, .int .i64 3] W fun e w' => TookL a cap [0, 5] false W e w' := by
 have h1 := mgive_any a cap [0, 5] 1 3 W h (by simp [Locks]) (by decide) (by decide)
 rw [show giveL [0, 5] 1 3 = [0, 5] by decide, show hasB [0, 5] 1 3  = false by decide] at h1
 exact h1
theorem aw15_back (h : LkAt W a cap [0, 5]) : Calls Try.prog 11 #[.slice a 2 cap, .int .i64 1, .int .i64 4] W fun e w' => TookL a cap [0, 0] true W e w' := by
 have h1 := mgive_any a cap [0, 5] 1 4 W h (by simp [Locks]) (by decide) (by decide)
 rw [show giveL [0, 5] 1 4 = [0, 0] by decide, show hasB [0, 5] 1 4  = true by decide] at h1
 exact h1
theorem aw15_has (h : LkAt W a cap [0, 5]) : Calls Try.prog 13 #[.slice a 2 cap, .int .i64 1] W fun e w' => e = .returned (.tuple #[.int .i64 4, .bool true]) ∧ Below W.heap.size W w' := by
 have h1 := mholder_any a cap [0, 5] 1 W h.1 (by simp [Locks])
 rw [show holderN [0, 5] 1 = 4 by decide, show heldB [0, 5] 1 = true by decide] at h1
 exact h1
theorem aw15_nobody (h : LkAt W a cap [0, 5]) : Calls Try.prog 13 #[.slice a 2 cap, .int .i64 0] W fun e w' => e = .returned (.tuple #[.int .i64 0, .bool false]) ∧ Below W.heap.size W w' := by
 have h1 := mholder_any a cap [0, 5] 0 W h.1 (by simp [Locks])
 rw [show holderN [0, 5] 0 = 0 by decide, show heldB [0, 5] 0 = false by decide] at h1
 exact h1
theorem aw15_held (h : LkAt W a cap [0, 5]) : Calls Try.prog 15 #[.slice a 2 cap, .int .i64 4] W fun e w' => GivesL [1] W e w' := by
 have h1 := mheld_any a cap [0, 5] 4 W h.1 (by simp [Locks]) (by decide)
 rw [show ownN [0, 5] 4 ([0, 5] : List Int).length = [1] by decide] at h1
 exact h1
end
theorem aw15_ints (a b : Option Addr) (c d : Nat) (l : List Int) (n : Nat) (hn : l.length = n) (W : World) (h1 : LkAt W a c l) (h2 : LkAt W b d l) : Calls Try.prog 14 #[.slice a n c, .slice b n d] W fun e w' => e = .returned (.bool true) ∧ Below W.heap.size W w' := by
 subst hn
 have h := ints_any a b c d l l W h1.1 h2.1
 rw [decide_eq_true rfl] at h
 exact h
set_option maxRecDepth 100000 in
set_option maxHeartbeats 1000000 in
theorem awake15_any (w : World) : Calls Try.prog 7 #[] w fun e w' => e = .returned (.bool true) ∧ Below w.heap.size w w' := by
 have B_0 := hid (Below.refl w.heap.size w)
 go_enter Try.func7, Try.ntmps7
 go_wp2_with fail
 have Z_1 := hid (lk_lit w #[.int .i64 0, .int .i64 0] [0, 0] rfl (by decide))
 have s1 : (w.alloc (.cells #[.int .i64 0, .int .i64 0] 3)).heap.size = w.heap.size + 1 := by simp
 have B_1 := hid (B_0.out.alloc B_0.out.size (.cells #[.int .i64 0, .int .i64 0] 3))
 clear B_0
 generalize w.alloc (.cells #[.int .i64 0, .int .i64 0] 3) = V1 at *
 refine (aw15_take _ _ _ Z_1.out).mono ?_
 rintro e u2 ⟨a, ac, rfl, ha, -, b2⟩
 have B_2 := hid (bl B_1.out b2)
 have Z_2 := hid (Z_1.out.call b2)
 have A_2 := hid ha
 clear ha
 clear b2 B_1 Z_1
 go_wp2_with fail
 refine (aw15_no _ _ _ A_2.out).mono ?_
 rintro e u3 ⟨x, xc, rfl, hx, -, b3⟩
 have B_3 := hid (bl B_2.out b3)
 have Z_3 := hid (Z_2.out.call b3)
 have A_3 := hid (A_2.out.call b3)
 clear b3 B_2 Z_2 A_2 hx
 go_wp2_with fail
 refine (aw15_not _ _ _ A_3.out).mono ?_
 rintro e u4 ⟨y, yc, rfl, hy, -, b4⟩
 have B_4 := hid (bl B_3.out b4)
 have Z_4 := hid (Z_3.out.call b4)
 have A_4 := hid (A_3.out.call b4)
 clear b4 B_3 Z_3 A_3 hy
 go_wp2_with fail
 refine (aw15_back _ _ _ A_4.out).mono ?_
 rintro e u5 ⟨b, bc, rfl, hb, -, b5⟩
 have B_5 := hid (bl B_4.out b5)
 have Z_5 := hid (Z_4.out.call b5)
 have A_5 := hid (A_4.out.call b5)
 have BB_5 := hid hb
 clear hb
 clear b5 B_4 Z_4 A_4
 go_wp2_with fail
 refine (aw15_has _ _ _ A_5.out).mono ?_
 rintro e u6 ⟨rfl, b6⟩
 have B_6 := hid (bl B_5.out b6)
 have Z_6 := hid (Z_5.out.call b6)
 have A_6 := hid (A_5.out.call b6)
 have BB_6 := hid (BB_5.out.call b6)
 clear b6 B_5 Z_5 A_5 BB_5
 go_wp2_with fail
 refine (aw15_nobody _ _ _ A_6.out).mono ?_
 rintro e u7 ⟨rfl, b7⟩
 have B_7 := hid (bl B_6.out b7)
 have Z_7 := hid (Z_6.out.call b7)
 have A_7 := hid (A_6.out.call b7)
 have BB_7 := hid (BB_6.out.call b7)
 clear b7 B_6 Z_6 A_6 BB_6
 go_wp2_with fail
 have L1_8 := hid (lk_lit u7 #[.int .i64 0, .int .i64 5] [0, 5] rfl (by decide))
 have s8 : (u7.alloc (.cells #[.int .i64 0, .int .i64 5] 3)).heap.size = u7.heap.size + 1 := by simp
 have B_8 := hid (B_7.out.alloc B_7.out.size (.cells #[.int .i64 0, .int .i64 5] 3))
 have Z_8 := hid (Z_7.out.call ((Below.refl _ _).alloc (Nat.le_refl _) (.cells #[.int .i64 0, .int .i64 5] 3)))
 have A_8 := hid (A_7.out.call ((Below.refl _ _).alloc (Nat.le_refl _) (.cells #[.int .i64 0, .int .i64 5] 3)))
 have BB_8 := hid (BB_7.out.call ((Below.refl _ _).alloc (Nat.le_refl _) (.cells #[.int .i64 0, .int .i64 5] 3)))
 clear B_7 Z_7 A_7 BB_7
 generalize u7.alloc (.cells #[.int .i64 0, .int .i64 5] 3) = V8 at *
 refine (aw15_ints _ _ _ _ [0, 5] 2 rfl _ A_8.out L1_8.out).mono ?_
 rintro e u9 ⟨rfl, b9⟩
 have B_9 := hid (bl B_8.out b9)
 have Z_9 := hid (Z_8.out.call b9)
 have A_9 := hid (A_8.out.call b9)
 have BB_9 := hid (BB_8.out.call b9)
 have L1_9 := hid (L1_8.out.call b9)
 clear b9 B_8 Z_8 A_8 BB_8 L1_8
 go_wp2_with fail
 have L2_10 := hid (lk_lit u9 #[.int .i64 0, .int .i64 0] [0, 0] rfl (by decide))
 have s10 : (u9.alloc (.cells #[.int .i64 0, .int .i64 0] 3)).heap.size = u9.heap.size + 1 := by simp
 have B_10 := hid (B_9.out.alloc B_9.out.size (.cells #[.int .i64 0, .int .i64 0] 3))
 have Z_10 := hid (Z_9.out.call ((Below.refl _ _).alloc (Nat.le_refl _) (.cells #[.int .i64 0, .int .i64 0] 3)))
 have A_10 := hid (A_9.out.call ((Below.refl _ _).alloc (Nat.le_refl _) (.cells #[.int .i64 0, .int .i64 0] 3)))
 have BB_10 := hid (BB_9.out.call ((Below.refl _ _).alloc (Nat.le_refl _) (.cells #[.int .i64 0, .int .i64 0] 3)))
 have L1_10 := hid (L1_9.out.call ((Below.refl _ _).alloc (Nat.le_refl _) (.cells #[.int .i64 0, .int .i64 0] 3)))
 clear B_9 Z_9 A_9 BB_9 L1_9
 generalize u9.alloc (.cells #[.int .i64 0, .int .i64 0] 3) = V10 at *
 refine (aw15_ints _ _ _ _ [0, 0] 2 rfl _ BB_10.out L2_10.out).mono ?_
 rintro e u11 ⟨rfl, b11⟩
 have B_11 := hid (bl B_10.out b11)
 have Z_11 := hid (Z_10.out.call b11)
 have A_11 := hid (A_10.out.call b11)
 have BB_11 := hid (BB_10.out.call b11)
 have L1_11 := hid (L1_10.out.call b11)
 have L2_11 := hid (L2_10.out.call b11)
 clear b11 B_10 Z_10 A_10 BB_10 L1_10 L2_10
 go_wp2_with fail
 refine (aw15_held _ _ _ A_11.out).mono ?_
 rintro e u12 ⟨hh, hhc, rfl, hhh, -, -, b12⟩
 have B_12 := hid (bl B_11.out b12)
 have Z_12 := hid (Z_11.out.call b12)
 have A_12 := hid (A_11.out.call b12)
 have BB_12 := hid (BB_11.out.call b12)
 have L1_12 := hid (L1_11.out.call b12)
 have L2_12 := hid (L2_11.out.call b12)
 have H_12 := hid hhh
 clear hhh
 clear b12 B_11 Z_11 A_11 BB_11 L1_11 L2_11
 go_wp2_with fail
 have L3_13 := hid (lk_lit u12 #[.int .i64 1] [1] rfl (by decide))
 have s13 : (u12.alloc (.cells #[.int .i64 1] 3)).heap.size = u12.heap.size + 1 := by simp
 have B_13 := hid (B_12.out.alloc B_12.out.size (.cells #[.int .i64 1] 3))
 have Z_13 := hid (Z_12.out.call ((Below.refl _ _).alloc (Nat.le_refl _) (.cells #[.int .i64 1] 3)))
 have A_13 := hid (A_12.out.call ((Below.refl _ _).alloc (Nat.le_refl _) (.cells #[.int .i64 1] 3)))
 have BB_13 := hid (BB_12.out.call ((Below.refl _ _).alloc (Nat.le_refl _) (.cells #[.int .i64 1] 3)))
 have L1_13 := hid (L1_12.out.call ((Below.refl _ _).alloc (Nat.le_refl _) (.cells #[.int .i64 1] 3)))
 have L2_13 := hid (L2_12.out.call ((Below.refl _ _).alloc (Nat.le_refl _) (.cells #[.int .i64 1] 3)))
 have H_13 := hid (H_12.out.call ((Below.refl _ _).alloc (Nat.le_refl _) (.cells #[.int .i64 1] 3)))
 clear B_12 Z_12 A_12 BB_12 L1_12 L2_12 H_12
 generalize u12.alloc (.cells #[.int .i64 1] 3) = V13 at *
 refine (aw15_ints _ _ _ _ [1] 1 rfl _ H_13.out L3_13.out).mono ?_
 rintro e u14 ⟨rfl, b14⟩
 have B_14 := hid (bl B_13.out b14)
 have Z_14 := hid (Z_13.out.call b14)
 have A_14 := hid (A_13.out.call b14)
 have BB_14 := hid (BB_13.out.call b14)
 have L1_14 := hid (L1_13.out.call b14)
 have L2_14 := hid (L2_13.out.call b14)
 have H_14 := hid (H_13.out.call b14)
 have L3_14 := hid (L3_13.out.call b14)
 clear b14 B_13 Z_13 A_13 BB_13 L1_13 L2_13 H_13 L3_13
 go_wp2_with fail
 go_ret
 exact ⟨rfl, B_14.out⟩
end Go.Proofs.Ytbbjgkinkkgjoaa
