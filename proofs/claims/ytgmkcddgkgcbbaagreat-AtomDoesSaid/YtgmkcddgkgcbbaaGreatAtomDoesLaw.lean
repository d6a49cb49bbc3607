/- AtomDoes: of whatever right world, player and command: what comes of it. -/
import Derived.Test.YtgmkcddgkgcbbaaGreatCmdRead
import Derived.Test.YtgmkcddgkgcbbaaGreatAtomAwake
import Derived.Test.YtgmkcddgkgcbbaaGreatAtomR
namespace Go.Proofs.YtgmkcddgkgcbbaaGreat
open Go.ChangeShapes Go.WideShapes Go.ChangeAt Go.RowKit
open Lib (hid)
set_option linter.unusedVariables false
set_option maxRecDepth 100000
open Go.RowKit
theorem rp_eq {a b : Rp} (h : a = b) (pa ia pb ib : Option Addr) (pc ic pcb icb : Nat) (w : World) (h1 : IntsAt w pa a.players) (h2 : SnsAt w ia a.items) (h3 : IntsAt w pb b.players) (h4 : SnsAt w ib b.items) :
 Calls Tryz.prog 11 #[.agg #[.int .i64 a.err, .int .i64 a.kind, .int .i64 a.room, .slice pa a.players.length pc, .slice ia a.items.length ic, .int .i64 a.coins], .agg #[.int .i64 b.err, .int .i64 b.kind, .int .i64 b.room, .slice pb b.players.length pcb, .slice ib b.items.length icb, .int .i64 b.coins]] w fun e w' => e = .returned (.bool true) ∧ Below w.heap.size w w' := by
 have := rrefsame_any a b pa ia pb ib pc ic pcb icb w h1 h2 h3 h4
 rwa [show rsameB a b = true by rw [h]; exact rsameB_refl _] at this
theorem atomDoes_no (x : Wd) (p : Wp) (a : Int) (c : Cm) (ga wa : Option Addr) (gc wc : Nat) (w : World) (h : WorldAt w p x) (hg : IntsAt w ga c.gives) (hw : IntsAt w wa c.wants) (hf : fitsB x = false) : Calls Tryz.prog 3 #[.agg (wC x p), .int .u8 a, .agg #[.int .i64 c.kind, .int .i64 c.dir, .int .i64 c.item, .int .i64 c.box, .int .i64 c.who, .slice ga c.gives.length gc, .int .i64 c.pay, .slice wa c.wants.length wc, .int .i64 c.fee]] w fun e w' => e = .returned (.bool true) ∧ Below w.heap.size w w' := by
 have HF := hid hf
 have HWA := hid h
 clear hf h
 have HG := hid hg
 have HW := hid hw
 clear hg hw
 have HP0 := hid (Holds.pair w (wC x p) #[.int .i64 c.kind, .int .i64 c.dir, .int .i64 c.item, .int .i64 c.box, .int .i64 c.who, .slice ga c.gives.length gc, .int .i64 c.pay, .slice wa c.wants.length wc, .int .i64 c.fee] 29 31)
 have hWC := @wC.eq_1
 go_enter Tryz.func3, Tryz.ntmps3
 go_wp2_with fail
 generalize (w.alloc (.cells (wC x p) 29)).alloc (.cells #[.int .i64 c.kind, .int .i64 c.dir, .int .i64 c.item, .int .i64 c.box, .int .i64 c.who, .slice ga c.gives.length gc, .int .i64 c.pay, .slice wa c.wants.length wc, .int .i64 c.fee] 31) = V0 at *
 have H_0 := hid HP0.out.1
 have C_0 := hid HP0.out.2
 have B_0 := hid H_0.out.1
 clear HP0
 refine (awake13_any _).mono ?_
 rintro e u1 ⟨rfl, b1⟩
 have B_1 := hid (bl B_0.out b1)
 have H_1 := hid (H_0.out.call b1)
 have C_1 := hid (C_0.out.call b1)
 clear b1 B_0 H_0 C_0
 have hcH := H_1.out.2.2
 have hlH := H_1.out.2.1
 have hcC := C_1.out.2.2
 have hlC := C_1.out.2.1
 go_wp2_with fail
 refine (fits13_any x p _ (HWA.out.below B_1.out (Nat.le_refl _))).mono ?_
 rintro e u2 ⟨rfl, b2⟩
 rw [HF.out]
 clear hcH hlH hcC hlC
 have B_2 := hid (bl B_1.out b2)
 have H_2 := hid (H_1.out.call b2)
 have C_2 := hid (C_1.out.call b2)
 clear b2 B_1 H_1 C_1
 have hcH := H_2.out.2.2
 have hlH := H_2.out.2.1
 have hcC := C_2.out.2.2
 have hlC := C_2.out.2.1
 go_wp2_with fail
 refine (awake13_any _).mono ?_
 rintro e u3 ⟨rfl, b3⟩
 clear hcH hlH hcC hlC
 have B_3 := hid (bl B_2.out b3)
 have H_3 := hid (H_2.out.call b3)
 have C_3 := hid (C_2.out.call b3)
 clear b3 B_2 H_2 C_2
 have hcH := H_3.out.2.2
 have hlH := H_3.out.2.1
 have hcC := C_3.out.2.2
 have hlC := C_3.out.2.1
 go_wp2_with fail
 go_ret
 exact ⟨rfl, B_3.out⟩
theorem atomDoes_nofew (x : Wd) (p : Wp) (a : Int) (c : Cm) (ga wa : Option Addr) (gc wc : Nat) (w : World) (h : WorldAt w p x) (hg : IntsAt w ga c.gives) (hw : IntsAt w wa c.wants) (hf : fitsB x = true) (hfw : cfewB c = false) : Calls Tryz.prog 3 #[.agg (wC x p), .int .u8 a, .agg #[.int .i64 c.kind, .int .i64 c.dir, .int .i64 c.item, .int .i64 c.box, .int .i64 c.who, .slice ga c.gives.length gc, .int .i64 c.pay, .slice wa c.wants.length wc, .int .i64 c.fee]] w fun e w' => e = .returned (.bool true) ∧ Below w.heap.size w w' := by
 have HF := hid hf
 have HWA := hid h
 clear hf h
 have HG := hid hg
 have HW := hid hw
 clear hg hw
 have HFW := hid hfw
 clear hfw
 have HP0 := hid (Holds.pair w (wC x p) #[.int .i64 c.kind, .int .i64 c.dir, .int .i64 c.item, .int .i64 c.box, .int .i64 c.who, .slice ga c.gives.length gc, .int .i64 c.pay, .slice wa c.wants.length wc, .int .i64 c.fee] 29 31)
 have hWC := @wC.eq_1
 go_enter Tryz.func3, Tryz.ntmps3
 go_wp2_with fail
 generalize (w.alloc (.cells (wC x p) 29)).alloc (.cells #[.int .i64 c.kind, .int .i64 c.dir, .int .i64 c.item, .int .i64 c.box, .int .i64 c.who, .slice ga c.gives.length gc, .int .i64 c.pay, .slice wa c.wants.length wc, .int .i64 c.fee] 31) = V0 at *
 have H_0 := hid HP0.out.1
 have C_0 := hid HP0.out.2
 have B_0 := hid H_0.out.1
 clear HP0
 refine (awake13_any _).mono ?_
 rintro e u1 ⟨rfl, b1⟩
 have B_1 := hid (bl B_0.out b1)
 have H_1 := hid (H_0.out.call b1)
 have C_1 := hid (C_0.out.call b1)
 clear b1 B_0 H_0 C_0
 have hcH := H_1.out.2.2
 have hlH := H_1.out.2.1
 have hcC := C_1.out.2.2
 have hlC := C_1.out.2.1
 go_wp2_with fail
 refine (fits13_any x p _ (HWA.out.below B_1.out (Nat.le_refl _))).mono ?_
 rintro e u2 ⟨rfl, b2⟩
 rw [HF.out]
 clear hcH hlH hcC hlC
 have B_2 := hid (bl B_1.out b2)
 have H_2 := hid (H_1.out.call b2)
 have C_2 := hid (C_1.out.call b2)
 clear b2 B_1 H_1 C_1
 have hcH := H_2.out.2.2
 have hlH := H_2.out.2.1
 have hcC := C_2.out.2.2
 have hlC := C_2.out.2.1
 go_wp2_with fail
 refine (cfew_any c ga wa gc wc _ (HG.out.below B_2.out (Nat.le_refl _)) (HW.out.below B_2.out (Nat.le_refl _))).mono ?_
 rintro e u3 ⟨rfl, b3⟩
 rw [HFW.out]
 clear hcH hlH hcC hlC
 have B_3 := hid (bl B_2.out b3)
 have H_3 := hid (H_2.out.call b3)
 have C_3 := hid (C_2.out.call b3)
 clear b3 B_2 H_2 C_2
 have hcH := H_3.out.2.2
 have hlH := H_3.out.2.1
 have hcC := C_3.out.2.2
 have hlC := C_3.out.2.1
 go_wp2_with fail
 refine (awake13_any _).mono ?_
 rintro e u4 ⟨rfl, b4⟩
 clear hcH hlH hcC hlC
 have B_4 := hid (bl B_3.out b4)
 have H_4 := hid (H_3.out.call b4)
 have C_4 := hid (C_3.out.call b4)
 clear b4 B_3 H_3 C_3
 have hcH := H_4.out.2.2
 have hlH := H_4.out.2.1
 have hcC := C_4.out.2.2
 have hlC := C_4.out.2.1
 go_wp2_with fail
 go_ret
 exact ⟨rfl, B_4.out⟩
theorem refdo_as (x : Wd) (p : Wp) (i : Nat) (c : Cm) (ga wa : Option Addr) (gc wc : Nat) (w : World) (hx : rightW x = true) (h : WorldAt w p x) (hi : i < x.at_.length) (hg : IntsAt w ga c.gives) (hw : IntsAt w wa c.wants) {R : Wd × Rp} (hR : doW x i c = R) :
 Calls Tryz.prog 9 #[.agg (wC x p), .int .i64 (i : Int), .agg #[.int .i64 c.kind, .int .i64 c.dir, .int .i64 c.item, .int .i64 c.box, .int .i64 c.who, .slice ga c.gives.length gc, .int .i64 c.pay, .slice wa c.wants.length wc, .int .i64 c.fee]] w fun e w' => ∃ (q : Wp) (qa ia : Option Addr) (qc ic : Nat), e = .returned (.tuple #[.agg (wC x q), .agg #[.int .i64 R.2.err, .int .i64 R.2.kind, .int .i64 R.2.room, .slice qa R.2.players.length qc, .slice ia R.2.items.length ic, .int .i64 R.2.coins]]) ∧ WorldAt w' q R.1 ∧ NewR w.heap.size w' qa ia R.2 ∧ Below w.heap.size w w' := by
 have := refdo_any x p i c ga wa gc wc w hx h hi hg hw
 rw [hR] at this
 exact this
set_option maxHeartbeats 4000000 in
theorem atomDoes_go (x : Wd) (p : Wp) (a i : Nat) (c : Cm) (ga wa : Option Addr) (gc wc : Nat) (haa : a ≤ 255) (hi : a % x.at_.length = i) (w : World) (h : WorldAt w p x) (hg : IntsAt w ga c.gives) (hw : IntsAt w wa c.wants) (hf : fitsB x = true) (hfw : cfewB c = true) : Calls Tryz.prog 3 #[.agg (wC x p), .int .u8 (a : Int), .agg #[.int .i64 c.kind, .int .i64 c.dir, .int .i64 c.item, .int .i64 c.box, .int .i64 c.who, .slice ga c.gives.length gc, .int .i64 c.pay, .slice wa c.wants.length wc, .int .i64 c.fee]] w fun e w' => e = .returned (.bool true) ∧ Below w.heap.size w w' := by
 have r1 := run_tmod7 a x.at_.length
 have m1 := run_mod7 a x.at_.length
 rw [hi] at r1 m1
 have FT := hid (fits_fit hf)
 have hlp : 0 < x.at_.length := (right_lens FT.out.right).1
 have hne : ¬ x.at_ = [] := List.length_pos_iff.1 hlp
 have hil : i < x.at_.length := by rw [← hi]; exact Nat.mod_lt _ hlp
 have hlen6 := (right_lens FT.out.right).2.1
 obtain ⟨⟨y, R⟩, hR⟩ : ∃ R, doW x i c = R := ⟨_, rfl⟩
 have HR := hid hR
 have SY := hid (show Shape x y by have := do_shape x i c; rwa [hR] at this)
 clear hi hlp hR
 have HF := hid hf
 have HWA := hid h
 clear hf h
 have HG := hid hg
 have HW := hid hw
 clear hg hw
 have HFW := hid hfw
 clear hfw
 have HP0 := hid (Holds.pair w (wC x p) #[.int .i64 c.kind, .int .i64 c.dir, .int .i64 c.item, .int .i64 c.box, .int .i64 c.who, .slice ga c.gives.length gc, .int .i64 c.pay, .slice wa c.wants.length wc, .int .i64 c.fee] 29 31)
 have hWC := @wC.eq_1
 go_enter Tryz.func3, Tryz.ntmps3
 go_wp2_with fail
 generalize (w.alloc (.cells (wC x p) 29)).alloc (.cells #[.int .i64 c.kind, .int .i64 c.dir, .int .i64 c.item, .int .i64 c.box, .int .i64 c.who, .slice ga c.gives.length gc, .int .i64 c.pay, .slice wa c.wants.length wc, .int .i64 c.fee] 31) = V0 at *
 have H_0 := hid HP0.out.1
 have C_0 := hid HP0.out.2
 have B_0 := hid H_0.out.1
 clear HP0
 refine (awake13_any _).mono ?_
 rintro e u1 ⟨rfl, b1⟩
 have B_1 := hid (bl B_0.out b1)
 have H_1 := hid (H_0.out.call b1)
 have C_1 := hid (C_0.out.call b1)
 clear b1 B_0 H_0 C_0
 have hcH := H_1.out.2.2
 have hlH := H_1.out.2.1
 have hcC := C_1.out.2.2
 have hlC := C_1.out.2.1
 go_wp2_with fail
 refine (fits13_any x p _ (HWA.out.below B_1.out (Nat.le_refl _))).mono ?_
 rintro e u2 ⟨rfl, b2⟩
 rw [HF.out]
 clear hcH hlH hcC hlC
 have B_2 := hid (bl B_1.out b2)
 have H_2 := hid (H_1.out.call b2)
 have C_2 := hid (C_1.out.call b2)
 clear b2 B_1 H_1 C_1
 have hcH := H_2.out.2.2
 have hlH := H_2.out.2.1
 have hcC := C_2.out.2.2
 have hlC := C_2.out.2.1
 go_wp2_with fail
 refine (cfew_any c ga wa gc wc _ (HG.out.below B_2.out (Nat.le_refl _)) (HW.out.below B_2.out (Nat.le_refl _))).mono ?_
 rintro e u3 ⟨rfl, b3⟩
 rw [HFW.out]
 clear hcH hlH hcC hlC
 have B_3 := hid (bl B_2.out b3)
 have H_3 := hid (H_2.out.call b3)
 have C_3 := hid (C_2.out.call b3)
 clear b3 B_2 H_2 C_2
 have hcH := H_3.out.2.2
 have hlH := H_3.out.2.1
 have hcC := C_3.out.2.2
 have hlC := C_3.out.2.1
 go_wp2_with fail
 refine (ado_as (Shape.refl x) p i c ga wa gc wc _ FT.out.right (HWA.out.below B_3.out (Nat.le_refl _)) hil (HG.out.below B_3.out (Nat.le_refl _)) (HW.out.below B_3.out (Nat.le_refl _)) HR.out).mono ?_
 rintro e u4 ⟨q1, qa1, ia1, qc1, ic1, rfl, g, b4⟩
 clear hcH hlH hcC hlC
 have B_4 := hid (bl B_3.out b4)
 have H_4 := hid (H_3.out.call b4)
 have C_4 := hid (C_3.out.call b4)
 clear b4 B_3 H_3 C_3
 have hcH := H_4.out.2.2
 have hlH := H_4.out.2.1
 have hcC := C_4.out.2.2
 have hlC := C_4.out.2.1
 have WYA_4 := hid (g.world (HWA.out.below B_4.out (Nat.le_refl _)))
 have NYA_4 := hid g.2
 clear g
 go_wp2_with fail
 clear hcH hlH hcC hlC
 have s5 : (u4.alloc (.cells (wC x q1) 29)).heap.size = u4.heap.size + 1 := by simp
 have B_5 := hid (B_4.out.alloc B_4.out.size (.cells (wC x q1) 29))
 have H_5 := hid (H_4.out.alloc (.cells (wC x q1) 29))
 have C_5 := hid (C_4.out.alloc (.cells (wC x q1) 29))
 have WYA_5 := hid (WYA_4.out.call ((Below.refl _ _).alloc (Nat.le_refl _) (.cells (wC x q1) 29)))
 have NYA_5 := hid (NYA_4.out.call ((Below.refl _ _).alloc (Nat.le_refl _) (.cells (wC x q1) 29)))
 have YA_5 := hid (Holds.newb (w := w) (A := (wC x q1)) (t := 29) (n := u4.heap.size) B_4.out rfl)
 clear B_4 H_4 C_4 WYA_4 NYA_4
 generalize u4.alloc (.cells (wC x q1) 29) = V5 at *
 have s6 : (V5.alloc (.cells #[.int .i64 R.err, .int .i64 R.kind, .int .i64 R.room, .slice qa1 R.players.length qc1, .slice ia1 R.items.length ic1, .int .i64 R.coins] 38)).heap.size = V5.heap.size + 1 := by simp
 have B_6 := hid (B_5.out.alloc B_5.out.size (.cells #[.int .i64 R.err, .int .i64 R.kind, .int .i64 R.room, .slice qa1 R.players.length qc1, .slice ia1 R.items.length ic1, .int .i64 R.coins] 38))
 have H_6 := hid (H_5.out.alloc (.cells #[.int .i64 R.err, .int .i64 R.kind, .int .i64 R.room, .slice qa1 R.players.length qc1, .slice ia1 R.items.length ic1, .int .i64 R.coins] 38))
 have C_6 := hid (C_5.out.alloc (.cells #[.int .i64 R.err, .int .i64 R.kind, .int .i64 R.room, .slice qa1 R.players.length qc1, .slice ia1 R.items.length ic1, .int .i64 R.coins] 38))
 have YA_6 := hid (YA_5.out.alloc (.cells #[.int .i64 R.err, .int .i64 R.kind, .int .i64 R.room, .slice qa1 R.players.length qc1, .slice ia1 R.items.length ic1, .int .i64 R.coins] 38))
 have WYA_6 := hid (WYA_5.out.call ((Below.refl _ _).alloc (Nat.le_refl _) (.cells #[.int .i64 R.err, .int .i64 R.kind, .int .i64 R.room, .slice qa1 R.players.length qc1, .slice ia1 R.items.length ic1, .int .i64 R.coins] 38)))
 have NYA_6 := hid (NYA_5.out.call ((Below.refl _ _).alloc (Nat.le_refl _) (.cells #[.int .i64 R.err, .int .i64 R.kind, .int .i64 R.room, .slice qa1 R.players.length qc1, .slice ia1 R.items.length ic1, .int .i64 R.coins] 38)))
 have YAr_6 := hid (Holds.newb (w := w) (A := #[.int .i64 R.err, .int .i64 R.kind, .int .i64 R.room, .slice qa1 R.players.length qc1, .slice ia1 R.items.length ic1, .int .i64 R.coins]) (t := 38) (n := u4.heap.size + 1) B_5.out (by omega))
 clear B_5 H_5 C_5 YA_5 WYA_5 NYA_5
 generalize V5.alloc (.cells #[.int .i64 R.err, .int .i64 R.kind, .int .i64 R.room, .slice qa1 R.players.length qc1, .slice ia1 R.items.length ic1, .int .i64 R.coins] 38) = V6 at *
 clear s5 s6
 have hcH := H_6.out.2.2
 have hlH := H_6.out.2.1
 have hcC := C_6.out.2.2
 have hlC := C_6.out.2.1
 have hcYA := YA_6.out.2.2
 have hlYA := YA_6.out.2.1
 have hcYAr := YAr_6.out.2.2
 have hlYAr := YAr_6.out.2.1
 refine (refdo_as x p i c ga wa gc wc _ FT.out.right (HWA.out.below B_6.out (Nat.le_refl _)) hil (HG.out.below B_6.out (Nat.le_refl _)) (HW.out.below B_6.out (Nat.le_refl _)) HR.out).mono ?_
 rintro e u7 ⟨q2, qa2, ia2, qc2, ic2, rfl, g, g2, b7⟩
 clear hcH hlH hcC hlC hcYA hlYA hcYAr hlYAr
 have B_7 := hid (bl B_6.out b7)
 have H_7 := hid (H_6.out.call b7)
 have C_7 := hid (C_6.out.call b7)
 have YA_7 := hid (YA_6.out.call b7)
 have YAr_7 := hid (YAr_6.out.call b7)
 have WYA_7 := hid (WYA_6.out.call b7)
 have NYA_7 := hid (NYA_6.out.call b7)
 clear b7 B_6 H_6 C_6 YA_6 YAr_6 WYA_6 NYA_6
 have hcH := H_7.out.2.2
 have hlH := H_7.out.2.1
 have hcC := C_7.out.2.2
 have hlC := C_7.out.2.1
 have hcYA := YA_7.out.2.2
 have hlYA := YA_7.out.2.1
 have hcYAr := YAr_7.out.2.2
 have hlYAr := YAr_7.out.2.1
 have WYB_7 := hid g
 have NYB_7 := hid g2
 clear g g2
 go_wp2_with fail
 clear hcH hlH hcC hlC hcYA hlYA hcYAr hlYAr
 have s8 : (u7.alloc (.cells (wC x q2) 29)).heap.size = u7.heap.size + 1 := by simp
 have B_8 := hid (B_7.out.alloc B_7.out.size (.cells (wC x q2) 29))
 have H_8 := hid (H_7.out.alloc (.cells (wC x q2) 29))
 have C_8 := hid (C_7.out.alloc (.cells (wC x q2) 29))
 have YA_8 := hid (YA_7.out.alloc (.cells (wC x q2) 29))
 have YAr_8 := hid (YAr_7.out.alloc (.cells (wC x q2) 29))
 have WYA_8 := hid (WYA_7.out.call ((Below.refl _ _).alloc (Nat.le_refl _) (.cells (wC x q2) 29)))
 have NYA_8 := hid (NYA_7.out.call ((Below.refl _ _).alloc (Nat.le_refl _) (.cells (wC x q2) 29)))
 have WYB_8 := hid (WYB_7.out.call ((Below.refl _ _).alloc (Nat.le_refl _) (.cells (wC x q2) 29)))
 have NYB_8 := hid (NYB_7.out.call ((Below.refl _ _).alloc (Nat.le_refl _) (.cells (wC x q2) 29)))
 have YB_8 := hid (Holds.newb (w := w) (A := (wC x q2)) (t := 29) (n := u7.heap.size) B_7.out rfl)
 clear B_7 H_7 C_7 YA_7 YAr_7 WYA_7 NYA_7 WYB_7 NYB_7
 generalize u7.alloc (.cells (wC x q2) 29) = V8 at *
 have s9 : (V8.alloc (.cells #[.int .i64 R.err, .int .i64 R.kind, .int .i64 R.room, .slice qa2 R.players.length qc2, .slice ia2 R.items.length ic2, .int .i64 R.coins] 38)).heap.size = V8.heap.size + 1 := by simp
 have B_9 := hid (B_8.out.alloc B_8.out.size (.cells #[.int .i64 R.err, .int .i64 R.kind, .int .i64 R.room, .slice qa2 R.players.length qc2, .slice ia2 R.items.length ic2, .int .i64 R.coins] 38))
 have H_9 := hid (H_8.out.alloc (.cells #[.int .i64 R.err, .int .i64 R.kind, .int .i64 R.room, .slice qa2 R.players.length qc2, .slice ia2 R.items.length ic2, .int .i64 R.coins] 38))
 have C_9 := hid (C_8.out.alloc (.cells #[.int .i64 R.err, .int .i64 R.kind, .int .i64 R.room, .slice qa2 R.players.length qc2, .slice ia2 R.items.length ic2, .int .i64 R.coins] 38))
 have YA_9 := hid (YA_8.out.alloc (.cells #[.int .i64 R.err, .int .i64 R.kind, .int .i64 R.room, .slice qa2 R.players.length qc2, .slice ia2 R.items.length ic2, .int .i64 R.coins] 38))
 have YAr_9 := hid (YAr_8.out.alloc (.cells #[.int .i64 R.err, .int .i64 R.kind, .int .i64 R.room, .slice qa2 R.players.length qc2, .slice ia2 R.items.length ic2, .int .i64 R.coins] 38))
 have YB_9 := hid (YB_8.out.alloc (.cells #[.int .i64 R.err, .int .i64 R.kind, .int .i64 R.room, .slice qa2 R.players.length qc2, .slice ia2 R.items.length ic2, .int .i64 R.coins] 38))
 have WYA_9 := hid (WYA_8.out.call ((Below.refl _ _).alloc (Nat.le_refl _) (.cells #[.int .i64 R.err, .int .i64 R.kind, .int .i64 R.room, .slice qa2 R.players.length qc2, .slice ia2 R.items.length ic2, .int .i64 R.coins] 38)))
 have NYA_9 := hid (NYA_8.out.call ((Below.refl _ _).alloc (Nat.le_refl _) (.cells #[.int .i64 R.err, .int .i64 R.kind, .int .i64 R.room, .slice qa2 R.players.length qc2, .slice ia2 R.items.length ic2, .int .i64 R.coins] 38)))
 have WYB_9 := hid (WYB_8.out.call ((Below.refl _ _).alloc (Nat.le_refl _) (.cells #[.int .i64 R.err, .int .i64 R.kind, .int .i64 R.room, .slice qa2 R.players.length qc2, .slice ia2 R.items.length ic2, .int .i64 R.coins] 38)))
 have NYB_9 := hid (NYB_8.out.call ((Below.refl _ _).alloc (Nat.le_refl _) (.cells #[.int .i64 R.err, .int .i64 R.kind, .int .i64 R.room, .slice qa2 R.players.length qc2, .slice ia2 R.items.length ic2, .int .i64 R.coins] 38)))
 have YBr_9 := hid (Holds.newb (w := w) (A := #[.int .i64 R.err, .int .i64 R.kind, .int .i64 R.room, .slice qa2 R.players.length qc2, .slice ia2 R.items.length ic2, .int .i64 R.coins]) (t := 38) (n := u7.heap.size + 1) B_8.out (by omega))
 clear B_8 H_8 C_8 YA_8 YAr_8 YB_8 WYA_8 NYA_8 WYB_8 NYB_8
 generalize V8.alloc (.cells #[.int .i64 R.err, .int .i64 R.kind, .int .i64 R.room, .slice qa2 R.players.length qc2, .slice ia2 R.items.length ic2, .int .i64 R.coins] 38) = V9 at *
 clear s8 s9
 have hcH := H_9.out.2.2
 have hlH := H_9.out.2.1
 have hcC := C_9.out.2.2
 have hlC := C_9.out.2.1
 have hcYA := YA_9.out.2.2
 have hlYA := YA_9.out.2.1
 have hcYAr := YAr_9.out.2.2
 have hlYAr := YAr_9.out.2.1
 have hcYB := YB_9.out.2.2
 have hlYB := YB_9.out.2.1
 have hcYBr := YBr_9.out.2.2
 have hlYBr := YBr_9.out.2.1
 refine (rsame_yes SY.out SY.out rfl _ _ _ WYA_9.out WYB_9.out).mono ?_
 rintro e u10 ⟨rfl, b10⟩
 clear hcH hlH hcC hlC hcYA hlYA hcYAr hlYAr hcYB hlYB hcYBr hlYBr
 have B_10 := hid (bl B_9.out b10)
 have H_10 := hid (H_9.out.call b10)
 have C_10 := hid (C_9.out.call b10)
 have YA_10 := hid (YA_9.out.call b10)
 have YAr_10 := hid (YAr_9.out.call b10)
 have YB_10 := hid (YB_9.out.call b10)
 have YBr_10 := hid (YBr_9.out.call b10)
 have WYA_10 := hid (WYA_9.out.call b10)
 have NYA_10 := hid (NYA_9.out.call b10)
 have WYB_10 := hid (WYB_9.out.call b10)
 have NYB_10 := hid (NYB_9.out.call b10)
 clear b10 B_9 H_9 C_9 YA_9 YAr_9 YB_9 YBr_9 WYA_9 NYA_9 WYB_9 NYB_9
 have hcH := H_10.out.2.2
 have hlH := H_10.out.2.1
 have hcC := C_10.out.2.2
 have hlC := C_10.out.2.1
 have hcYA := YA_10.out.2.2
 have hlYA := YA_10.out.2.1
 have hcYAr := YAr_10.out.2.2
 have hlYAr := YAr_10.out.2.1
 have hcYB := YB_10.out.2.2
 have hlYB := YB_10.out.2.1
 have hcYBr := YBr_10.out.2.2
 have hlYBr := YBr_10.out.2.1
 go_wp2_with fail
 refine (rp_eq rfl qa1 ia1 qa2 ia2 qc1 ic1 qc2 ic2 _ NYA_10.out.ints NYA_10.out.sns NYB_10.out.ints NYB_10.out.sns).mono ?_
 rintro e u11 ⟨rfl, b11⟩
 clear hcH hlH hcC hlC hcYA hlYA hcYAr hlYAr hcYB hlYB hcYBr hlYBr
 have B_11 := hid (bl B_10.out b11)
 have H_11 := hid (H_10.out.call b11)
 have C_11 := hid (C_10.out.call b11)
 have YA_11 := hid (YA_10.out.call b11)
 have YAr_11 := hid (YAr_10.out.call b11)
 have YB_11 := hid (YB_10.out.call b11)
 have YBr_11 := hid (YBr_10.out.call b11)
 have WYA_11 := hid (WYA_10.out.call b11)
 have NYA_11 := hid (NYA_10.out.call b11)
 have WYB_11 := hid (WYB_10.out.call b11)
 have NYB_11 := hid (NYB_10.out.call b11)
 clear b11 B_10 H_10 C_10 YA_10 YAr_10 YB_10 YBr_10 WYA_10 NYA_10 WYB_10 NYB_10
 go_wp2_with fail
 go_ret
 exact ⟨rfl, B_11.out⟩
theorem walk_atomDoes (x : Wd) (p : Wp) (a : Int) (c : Cm) (ga wa : Option Addr) (gc wc : Nat) (w : World) (ha : (Lit.int .u8 a).wf = true) (h : WorldAt w p x) (hg : IntsAt w ga c.gives) (hw : IntsAt w wa c.wants) (_ : c.Wf) : Calls Tryz.prog 3 #[.agg (wC x p), .int .u8 a, .agg #[.int .i64 c.kind, .int .i64 c.dir, .int .i64 c.item, .int .i64 c.box, .int .i64 c.who, .slice ga c.gives.length gc, .int .i64 c.pay, .slice wa c.wants.length wc, .int .i64 c.fee]] w fun e w' => e = .returned (.bool true) ∧ Below w.heap.size w w' := by
 cases hf : fitsB x
 ·exact atomDoes_no x p a c ga wa gc wc w h hg hw hf
 cases hfw : cfewB c
 ·exact atomDoes_nofew x p a c ga wa gc wc w h hg hw hf hfw
 have h1 := wf_u8 ha
 obtain ⟨m1, rfl⟩ : ∃ m : Nat, a = m := ⟨a.toNat, by omega⟩
 exact atomDoes_go x p m1 _ c ga wa gc wc (by omega) rfl w h hg hw hf hfw
theorem lifted_atomDoes (os : Os) (started : os.Started) (H : Type) (enc : TypeId × Value → H) :
 ReturnsInHanded {} Tryz.checked os 3 .any (Rows.atomDoesSpec.pre6 enc Tryz.prog Tryz.f3 Rows.atomDoesRow.domain false) (Rows.atomDoesSpec.post enc Tryz.prog Tryz.f3 false true false false) := by
 refine returnsInHanded_of_change (C := Tryz.checked) (by kernel_rfl) started (by kernel_rfl) Tryz.func3
  (ChangeSpec.witness6 (enc := enc) (C := Tryz.checked) false ⟨#[], #[.agg #[.slice none 0 0, .slice none 0 0, .slice none 0 0, .slice none 0 0, .slice none 0 0, .int .i64 0, .int .i64 0, .int .i64 0, .slice none 0 0, .slice none 0 0, .slice none 0 0], .int .u8 0, .agg #[.int .i64 0, .int .i64 0, .int .i64 0, .int .i64 0, .int .i64 0, .slice none 0 0, .int .i64 0, .slice none 0 0, .int .i64 0]], []⟩ 8 (by kernel_rfl) (by kernel_rfl) (by kernel_rfl) (by kernel_rfl)) ?_
 intro W base args ds gs before hval0 hW hcnd _
 have hval : ∀ (j : Nat) t v, Tryz.f3.params[j]? = some t → args[j]? = some v → Value.okWide Tryz.prog W .any base t v := hval0
 have hW' := hW
 obtain ⟨p, q, hA0, hV, rfl, hfz, hnd⟩ := hW
 have hA : DataW.TrodAll enc Tryz.prog W 0 (fun _ => true) true Tryz.f3.params.toList args.toList ds p := hA0
 rw [Tryz.params3] at hA hval
 obtain ⟨v0, vs0, d0, ds0, p0, q0, hargs, rfl, rfl, h0, r0⟩ := trodAll_cons hA
 obtain ⟨v1, vs1, d1, ds1, p1, q1, rfl, rfl, rfl, h1, r1⟩ := trodAll_cons r0
 obtain ⟨v2, vs2, d2, ds2, p2, q2, rfl, rfl, rfl, h2, r2⟩ := trodAll_cons r1
 obtain ⟨rfl, rfl, rfl⟩ := trodAll_nil r2
 obtain rfl : args = #[v0, v1, v2] := by cases args; simp_all
 obtain ⟨rfl, rfl⟩ := trodVars_none hV
 obtain ⟨wx0, wp0, rfl, m0⟩ := read_world (hval 0 29 v0 rfl rfl) h0
 obtain ⟨a1, rfl, rfl, rfl, w1⟩ := open_int Tryz.underlying5 (hval 1 5 v1 rfl rfl) h1
 obtain ⟨c2, ga2, wa2, gc2, wc2, rfl, ma2, mb2, mg2⟩ := read_cmd (hval 2 31 v2 rfl rfl) h2
 clear hA0 hval0
 simp only [List.append_nil] at hW'
 refine (walk_atomDoes wx0 wp0 a1 c2 ga2 wa2 gc2 wc2 W w1 m0 ma2 mb2 mg2).mono fun e W' ⟨he, hg⟩ => ?_
 subst he
 exact ⟨_, rfl, law_post (by kernel_rfl) rfl (by rw [Tryz.params3]; decide +kernel) rfl rfl Tryz.underlying4 hW' hg⟩

/-- ████ THE STATEMENT ████ -/
theorem proved_atomDoes : Rows.AtomDoesSaid :=
 OpenClaim.holds_of_wide 3 Tryz.f3 rfl rfl rfl rfl rfl rfl rfl ⟨rfl, rfl, rfl, rfl, rfl⟩ rfl rfl rfl rfl rfl (by kernel_rfl) Tryz.func3 (by kernel_rfl)
  (of_decide_eq_true (by kernel_rfl)) (by unfold Func.isWrapper; first | (rw [if_pos (by decide +kernel)]; kernel_rfl) | (rw [if_neg (by decide +kernel)]; exact ⟨rfl, rfl⟩))
  (fun os started H enc _ => lifted_atomDoes os started H enc)
#print axioms proved_atomDoes
end Go.Proofs.YtgmkcddgkgcbbaaGreat
