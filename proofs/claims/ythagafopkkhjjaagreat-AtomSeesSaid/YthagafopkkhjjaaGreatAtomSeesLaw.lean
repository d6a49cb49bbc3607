/- AtomSees: who looks behind a command that was answered without an error sees what it did. -/
import Derived.Test.YthagafopkkhjjaaGreatRows
import Derived.Test.YthagafopkkhjjaaGreatTk
import Derived.Test.YthagafopkkhjjaaGreatKit
import Derived.Test.YthagafopkkhjjaaGreatGMem
import Derived.Test.YthagafopkkhjjaaGreatCoin
import Derived.Test.YthagafopkkhjjaaGreatGWorld
import Derived.Test.YthagafopkkhjjaaGreatGCmdN
import Derived.Test.YthagafopkkhjjaaGreatGCmdR
import Derived.Test.YthagafopkkhjjaaGreatCmdRead
import Derived.Test.YthagafopkkhjjaaGreatDescMay
import Derived.Test.YthagafopkkhjjaaGreatGDescN
import Derived.Test.YthagafopkkhjjaaGreatGRight
import Derived.Test.YthagafopkkhjjaaGreatGCopy
import Derived.Test.YthagafopkkhjjaaGreatGRefD
import Derived.Test.YthagafopkkhjjaaGreatGAs
import Derived.Test.YthagafopkkhjjaaGreatRefRight
import Derived.Test.YthagafopkkhjjaaGreatGTreeL
import Derived.Test.YthagafopkkhjjaaGreatGRepR
import Derived.Test.YthagafopkkhjjaaGreatHoldS
import Derived.Test.YthagafopkkhjjaaGreatGSightC
import Derived.Test.YthagafopkkhjjaaGreatAtomMath
import Derived.Test.YthagafopkkhjjaaGreatAtomA
import Derived.Test.YthagafopkkhjjaaGreatAtomB
import Derived.Test.YthagafopkkhjjaaGreatAtomArg
import Derived.Test.YthagafopkkhjjaaGreatAtomAll
import Derived.Test.YthagafopkkhjjaaGreatAtomAwake
import Derived.Test.YthagafopkkhjjaaGreatAtomMath2
import Derived.Test.YthagafopkkhjjaaGreatSightApp
import Derived.Deep.DeepCutAuto
import Derived.Deep.QuietTactic
import Derived.BigQuiet
import Derived.Deep.RegionHeld3
import Derived.WalkKit
import Derived.ProofKit
import Derived.OpenShut
import Derived.IntWalk
namespace Go.Proofs.YthagafopkkhjjaaGreat
open Go.ChangeShapes Go.WideShapes Go.ChangeAt Go.RowKit
set_option linter.unusedVariables false
open Go.RowKit
theorem run_seen_eql (a1 a2 a3 b1 b2 b3 : Int) (w : World) : (binOp .eql 54 (.agg #[.int .i64 a1, .int .i64 a2, .int .i64 a3]) (.agg #[.int .i64 b1, .int .i64 b2, .int .i64 b3])).run Tryz.prog w = .ok (.bool (decide ((⟨a1, a2, a3⟩ : Sn) = ⟨b1, b2, b3⟩))) w := by
  by_cases e1 : a1 = b1
  · by_cases e2 : a2 = b2
    · by_cases e3 : a3 = b3
      · subst e1 e2 e3; go_simp
      · go_simp
    · go_simp
  · go_simp
theorem count_take {L : List Sn} {k : Nat} (h : k < L.length) (s : Sn) : (L.take (k + 1)).count s = (L.take k).count s + if L[k] = s then 1 else 0 := by
  rw [List.take_add_one, List.getElem?_eq_getElem h, Option.toList_some, List.count_append]
  congr 1
  by_cases e : L[k] = s
  · simp [e]
  · simp [e]
theorem own13 (y : Wd) (i : Nat) : doW y i ⟨10, 0, 0, 0, 0, [], 0, [], 0⟩ = (y, haveR y i) := by unfold doW; rw [if_neg (by decide), if_neg (by decide), if_pos rfl]
theorem look13 (y : Wd) (i : Nat) : doW y i ⟨9, 0, 0, 0, 0, [], 0, [], 0⟩ = (y, lookR y i) := by unfold doW; rw [if_neg (by decide), if_pos rfl]
section
variable {x y : Wd} {i : Nat} {c : Cm} {R : Rp} (hx : rightW x = true) (hi : i < x.at_.length) (hm : refMayB c = true) (hD : doW x i c = (y, R)) (he : R.err = 0)
include hD he hm in
theorem ok_act (hk : c.kind ≤ 8) : (actW x i c).2.2 = 0 ∧ (actW x i c).1 = y ∧ okR c.kind (actW x i c).2.1 = R := by
  rw [deed_do hm hk] at hD
  unfold deedR at hD
  by_cases h : (actW x i c).2.2 = 0
  · rw [if_pos h] at hD
    exact ⟨h, congrArg Prod.fst hD, congrArg Prod.snd hD⟩
  · rw [if_neg h] at hD
    have := congrArg Prod.snd hD
    simp only at this
    rw [← this] at he
    exact absurd he h
include hx hi hm hD he
theorem sees1 (hk : c.kind = 1) : (lookR y i).room = R.room := by
  obtain ⟨h1, h2, h3⟩ := ok_act hm hD he (by omega)
  have hd := may_kind hm
  unfold actW at h1 h2 h3
  rw [if_pos hk] at h1 h2 h3
  have := sees_move hi hx (d := c.dir.toNat) (by omega) (y := y) (r := (moveW x i c.dir.toNat).2.1) (by rw [← h2, ← h1])
  rw [← h3]
  exact this
omit hx hi in
theorem sees3 (hk : c.kind = 3) : ((haveR y i).items).count ⟨c.item, 1, (i : Int)⟩ = 1 := by
  obtain ⟨h1, h2, h3⟩ := ok_act hm hD he (by omega)
  unfold actW at h1 h2
  rw [if_neg (by omega), if_neg (by omega), if_pos hk] at h1 h2
  exact sees_get (by rw [← h1, ← h2])
omit hx hi in
theorem sees4 (hk : c.kind = 4) : ((lookR y i).items).count ⟨c.item, 0, (lookR y i).room⟩ = 1 := by
  obtain ⟨h1, h2, h3⟩ := ok_act hm hD he (by omega)
  unfold actW at h1 h2
  rw [if_neg (by omega), if_neg (by omega), if_neg (by omega), if_pos hk] at h1 h2
  exact sees_drop (by rw [← h1, ← h2])
omit hi in
theorem sees5 (hk : c.kind = 5) : ((haveR y i).items ++ (lookR y i).items).count ⟨c.item, 2, c.box⟩ = 1 := by
  obtain ⟨h1, h2, h3⟩ := ok_act hm hD he (by omega)
  unfold actW at h1 h2
  rw [if_neg (by omega), if_neg (by omega), if_neg (by omega), if_neg (by omega), if_pos hk] at h1 h2
  exact sees_put hx (by rw [← h1, ← h2])
omit hi in
theorem sees6 (hk : c.kind = 6) : ((haveR y i).items).count ⟨c.item, 1, (i : Int)⟩ = 1 := by
  obtain ⟨h1, h2, h3⟩ := ok_act hm hD he (by omega)
  unfold actW at h1 h2
  rw [if_neg (by omega), if_neg (by omega), if_neg (by omega), if_neg (by omega), if_neg (by omega), if_pos hk] at h1 h2
  exact sees_take hx (by rw [← h1, ← h2])
end
set_option maxRecDepth 100000 in
theorem atomSees_no (x : Wd) (p : Wp) (a : Int) (c : Cm) (ga wa : Option Addr) (gc wc : Nat) (w : World) (h : WorldAt w p x) (hg : IntsAt w ga c.gives) (hw : IntsAt w wa c.wants) (hf : fitsB x = false) : Calls Tryz.prog 6 #[.agg (wC x p), .int .u8 a, .agg #[.int .i64 c.kind, .int .i64 c.dir, .int .i64 c.item, .int .i64 c.box, .int .i64 c.who, .slice ga c.gives.length gc, .int .i64 c.pay, .slice wa c.wants.length wc, .int .i64 c.fee]] w fun e w' => e = .returned (.bool true) ∧ Below w.heap.size w w' := by
  have HF := Lib.hid hf
  have HWA := Lib.hid h
  clear hf h
  have HG := Lib.hid hg
  have HW := Lib.hid hw
  clear hg hw
  have HP0 := Lib.hid (Holds.pair w (wC x p) #[.int .i64 c.kind, .int .i64 c.dir, .int .i64 c.item, .int .i64 c.box, .int .i64 c.who, .slice ga c.gives.length gc, .int .i64 c.pay, .slice wa c.wants.length wc, .int .i64 c.fee] 29 31)
  have hWC := @wC.eq_1
  go_enter Tryz.func6, Tryz.ntmps6
  go_wp2_with fail
  generalize (w.alloc (.cells (wC x p) 29)).alloc (.cells #[.int .i64 c.kind, .int .i64 c.dir, .int .i64 c.item, .int .i64 c.box, .int .i64 c.who, .slice ga c.gives.length gc, .int .i64 c.pay, .slice wa c.wants.length wc, .int .i64 c.fee] 31) = V0 at *
  have H_0 := Lib.hid HP0.out.1
  have C_0 := Lib.hid HP0.out.2
  have B_0 := Lib.hid H_0.out.1
  clear HP0
  refine (awake13_any _).mono ?_
  rintro e u1 ⟨rfl, b1⟩
  have B_1 := Lib.hid (bl B_0.out b1)
  have H_1 := Lib.hid (H_0.out.call b1)
  have C_1 := Lib.hid (C_0.out.call b1)
  clear b1 B_0 H_0 C_0
  have hcH := H_1.out.2.2
  have hlH := H_1.out.2.1
  have hcC := C_1.out.2.2
  have hlC := C_1.out.2.1
  go_wp2_with fail
  refine (fits13_any x p _ (HWA.out.below B_1.out (Nat.le_refl _))).mono ?_
  rintro e u2 ⟨rfl, b2⟩
  rw [HF.out]
  clear hcH hlH hcC hlC
  have B_2 := Lib.hid (bl B_1.out b2)
  have H_2 := Lib.hid (H_1.out.call b2)
  have C_2 := Lib.hid (C_1.out.call b2)
  clear b2 B_1 H_1 C_1
  have hcH := H_2.out.2.2
  have hlH := H_2.out.2.1
  have hcC := C_2.out.2.2
  have hlC := C_2.out.2.1
  go_wp2_with fail
  refine (awake13_any _).mono ?_
  rintro e u3 ⟨rfl, b3⟩
  clear hcH hlH hcC hlC
  have B_3 := Lib.hid (bl B_2.out b3)
  have H_3 := Lib.hid (H_2.out.call b3)
  have C_3 := Lib.hid (C_2.out.call b3)
  clear b3 B_2 H_2 C_2
  have hcH := H_3.out.2.2
  have hlH := H_3.out.2.1
  have hcC := C_3.out.2.2
  have hlC := C_3.out.2.1
  go_wp2_with fail
  go_ret
  exact ⟨rfl, B_3.out⟩
set_option maxRecDepth 100000 in
theorem atomSees_nofew (x : Wd) (p : Wp) (a : Int) (c : Cm) (ga wa : Option Addr) (gc wc : Nat) (w : World) (h : WorldAt w p x) (hg : IntsAt w ga c.gives) (hw : IntsAt w wa c.wants) (hf : fitsB x = true) (hfw : cfewB c = false) : Calls Tryz.prog 6 #[.agg (wC x p), .int .u8 a, .agg #[.int .i64 c.kind, .int .i64 c.dir, .int .i64 c.item, .int .i64 c.box, .int .i64 c.who, .slice ga c.gives.length gc, .int .i64 c.pay, .slice wa c.wants.length wc, .int .i64 c.fee]] w fun e w' => e = .returned (.bool true) ∧ Below w.heap.size w w' := by
  have HF := Lib.hid hf
  have HWA := Lib.hid h
  clear hf h
  have HG := Lib.hid hg
  have HW := Lib.hid hw
  clear hg hw
  have HFW := Lib.hid hfw
  clear hfw
  have HP0 := Lib.hid (Holds.pair w (wC x p) #[.int .i64 c.kind, .int .i64 c.dir, .int .i64 c.item, .int .i64 c.box, .int .i64 c.who, .slice ga c.gives.length gc, .int .i64 c.pay, .slice wa c.wants.length wc, .int .i64 c.fee] 29 31)
  have hWC := @wC.eq_1
  go_enter Tryz.func6, Tryz.ntmps6
  go_wp2_with fail
  generalize (w.alloc (.cells (wC x p) 29)).alloc (.cells #[.int .i64 c.kind, .int .i64 c.dir, .int .i64 c.item, .int .i64 c.box, .int .i64 c.who, .slice ga c.gives.length gc, .int .i64 c.pay, .slice wa c.wants.length wc, .int .i64 c.fee] 31) = V0 at *
  have H_0 := Lib.hid HP0.out.1
  have C_0 := Lib.hid HP0.out.2
  have B_0 := Lib.hid H_0.out.1
  clear HP0
  refine (awake13_any _).mono ?_
  rintro e u1 ⟨rfl, b1⟩
  have B_1 := Lib.hid (bl B_0.out b1)
  have H_1 := Lib.hid (H_0.out.call b1)
  have C_1 := Lib.hid (C_0.out.call b1)
  clear b1 B_0 H_0 C_0
  have hcH := H_1.out.2.2
  have hlH := H_1.out.2.1
  have hcC := C_1.out.2.2
  have hlC := C_1.out.2.1
  go_wp2_with fail
  refine (fits13_any x p _ (HWA.out.below B_1.out (Nat.le_refl _))).mono ?_
  rintro e u2 ⟨rfl, b2⟩
  rw [HF.out]
  clear hcH hlH hcC hlC
  have B_2 := Lib.hid (bl B_1.out b2)
  have H_2 := Lib.hid (H_1.out.call b2)
  have C_2 := Lib.hid (C_1.out.call b2)
  clear b2 B_1 H_1 C_1
  have hcH := H_2.out.2.2
  have hlH := H_2.out.2.1
  have hcC := C_2.out.2.2
  have hlC := C_2.out.2.1
  go_wp2_with fail
  refine (cfew_any c ga wa gc wc _ (HG.out.below B_2.out (Nat.le_refl _)) (HW.out.below B_2.out (Nat.le_refl _))).mono ?_
  rintro e u3 ⟨rfl, b3⟩
  rw [HFW.out]
  clear hcH hlH hcC hlC
  have B_3 := Lib.hid (bl B_2.out b3)
  have H_3 := Lib.hid (H_2.out.call b3)
  have C_3 := Lib.hid (C_2.out.call b3)
  clear b3 B_2 H_2 C_2
  have hcH := H_3.out.2.2
  have hlH := H_3.out.2.1
  have hcC := C_3.out.2.2
  have hlC := C_3.out.2.1
  go_wp2_with fail
  refine (awake13_any _).mono ?_
  rintro e u4 ⟨rfl, b4⟩
  clear hcH hlH hcC hlC
  have B_4 := Lib.hid (bl B_3.out b4)
  have H_4 := Lib.hid (H_3.out.call b4)
  have C_4 := Lib.hid (C_3.out.call b4)
  clear b4 B_3 H_3 C_3
  have hcH := H_4.out.2.2
  have hlH := H_4.out.2.1
  have hcC := C_4.out.2.2
  have hlC := C_4.out.2.1
  go_wp2_with fail
  go_ret
  exact ⟨rfl, B_4.out⟩
set_option maxRecDepth 100000 in
theorem atomSees_nomay (x : Wd) (p : Wp) (a : Int) (c : Cm) (ga wa : Option Addr) (gc wc : Nat) (w : World) (h : WorldAt w p x) (hg : IntsAt w ga c.gives) (hw : IntsAt w wa c.wants) (hf : fitsB x = true) (hfw : cfewB c = true) (hmy : refMayB c = false) : Calls Tryz.prog 6 #[.agg (wC x p), .int .u8 a, .agg #[.int .i64 c.kind, .int .i64 c.dir, .int .i64 c.item, .int .i64 c.box, .int .i64 c.who, .slice ga c.gives.length gc, .int .i64 c.pay, .slice wa c.wants.length wc, .int .i64 c.fee]] w fun e w' => e = .returned (.bool true) ∧ Below w.heap.size w w' := by
  have HF := Lib.hid hf
  have HWA := Lib.hid h
  clear hf h
  have HG := Lib.hid hg
  have HW := Lib.hid hw
  clear hg hw
  have HFW := Lib.hid hfw
  clear hfw
  have HMY := Lib.hid hmy
  clear hmy
  have HP0 := Lib.hid (Holds.pair w (wC x p) #[.int .i64 c.kind, .int .i64 c.dir, .int .i64 c.item, .int .i64 c.box, .int .i64 c.who, .slice ga c.gives.length gc, .int .i64 c.pay, .slice wa c.wants.length wc, .int .i64 c.fee] 29 31)
  have hWC := @wC.eq_1
  go_enter Tryz.func6, Tryz.ntmps6
  go_wp2_with fail
  generalize (w.alloc (.cells (wC x p) 29)).alloc (.cells #[.int .i64 c.kind, .int .i64 c.dir, .int .i64 c.item, .int .i64 c.box, .int .i64 c.who, .slice ga c.gives.length gc, .int .i64 c.pay, .slice wa c.wants.length wc, .int .i64 c.fee] 31) = V0 at *
  have H_0 := Lib.hid HP0.out.1
  have C_0 := Lib.hid HP0.out.2
  have B_0 := Lib.hid H_0.out.1
  clear HP0
  refine (awake13_any _).mono ?_
  rintro e u1 ⟨rfl, b1⟩
  have B_1 := Lib.hid (bl B_0.out b1)
  have H_1 := Lib.hid (H_0.out.call b1)
  have C_1 := Lib.hid (C_0.out.call b1)
  clear b1 B_0 H_0 C_0
  have hcH := H_1.out.2.2
  have hlH := H_1.out.2.1
  have hcC := C_1.out.2.2
  have hlC := C_1.out.2.1
  go_wp2_with fail
  refine (fits13_any x p _ (HWA.out.below B_1.out (Nat.le_refl _))).mono ?_
  rintro e u2 ⟨rfl, b2⟩
  rw [HF.out]
  clear hcH hlH hcC hlC
  have B_2 := Lib.hid (bl B_1.out b2)
  have H_2 := Lib.hid (H_1.out.call b2)
  have C_2 := Lib.hid (C_1.out.call b2)
  clear b2 B_1 H_1 C_1
  have hcH := H_2.out.2.2
  have hlH := H_2.out.2.1
  have hcC := C_2.out.2.2
  have hlC := C_2.out.2.1
  go_wp2_with fail
  refine (cfew_any c ga wa gc wc _ (HG.out.below B_2.out (Nat.le_refl _)) (HW.out.below B_2.out (Nat.le_refl _))).mono ?_
  rintro e u3 ⟨rfl, b3⟩
  rw [HFW.out]
  clear hcH hlH hcC hlC
  have B_3 := Lib.hid (bl B_2.out b3)
  have H_3 := Lib.hid (H_2.out.call b3)
  have C_3 := Lib.hid (C_2.out.call b3)
  clear b3 B_2 H_2 C_2
  have hcH := H_3.out.2.2
  have hlH := H_3.out.2.1
  have hcC := C_3.out.2.2
  have hlC := C_3.out.2.1
  go_wp2_with fail
  refine (rcmay_any c ga wa gc wc _ (HG.out.below B_3.out (Nat.le_refl _)) (HW.out.below B_3.out (Nat.le_refl _))).mono ?_
  rintro e u4 ⟨rfl, b4⟩
  rw [HMY.out]
  clear hcH hlH hcC hlC
  have B_4 := Lib.hid (bl B_3.out b4)
  have H_4 := Lib.hid (H_3.out.call b4)
  have C_4 := Lib.hid (C_3.out.call b4)
  clear b4 B_3 H_3 C_3
  have hcH := H_4.out.2.2
  have hlH := H_4.out.2.1
  have hcC := C_4.out.2.2
  have hlC := C_4.out.2.1
  go_wp2_with fail
  refine (awake13_any _).mono ?_
  rintro e u5 ⟨rfl, b5⟩
  clear hcH hlH hcC hlC
  have B_5 := Lib.hid (bl B_4.out b5)
  have H_5 := Lib.hid (H_4.out.call b5)
  have C_5 := Lib.hid (C_4.out.call b5)
  clear b5 B_4 H_4 C_4
  have hcH := H_5.out.2.2
  have hlH := H_5.out.2.1
  have hcC := C_5.out.2.2
  have hlC := C_5.out.2.1
  go_wp2_with fail
  go_ret
  exact ⟨rfl, B_5.out⟩
set_option maxRecDepth 100000 in
set_option maxHeartbeats 2000000 in
theorem atomSees_err (x : Wd) (p : Wp) (a i : Nat) (c : Cm) (ga wa : Option Addr) (gc wc : Nat) (haa : a ≤ 255) (hi : a % x.at_.length = i) (w : World) (h : WorldAt w p x) (hg : IntsAt w ga c.gives) (hw : IntsAt w wa c.wants) (hf : fitsB x = true) (hfw : cfewB c = true) (hmy : refMayB c = true) (he : ¬ (doW x i c).2.err = 0) : Calls Tryz.prog 6 #[.agg (wC x p), .int .u8 (a : Int), .agg #[.int .i64 c.kind, .int .i64 c.dir, .int .i64 c.item, .int .i64 c.box, .int .i64 c.who, .slice ga c.gives.length gc, .int .i64 c.pay, .slice wa c.wants.length wc, .int .i64 c.fee]] w fun e w' => e = .returned (.bool true) ∧ Below w.heap.size w w' := by
  have r1 := run_tmod7 a x.at_.length
  have m1 := run_mod7 a x.at_.length
  rw [hi] at r1 m1
  have FT := Lib.hid (fits_fit hf)
  have hlp : 0 < x.at_.length := (right_lens FT.out.right).1
  have hne : ¬ x.at_ = [] := List.length_pos_iff.1 hlp
  have hil : i < x.at_.length := by rw [← hi]; exact Nat.mod_lt _ hlp
  have hlen6 := (right_lens FT.out.right).2.1
  obtain ⟨⟨y, R⟩, hR⟩ : ∃ R, doW x i c = R := ⟨_, rfl⟩
  have HR := Lib.hid hR
  have SY := Lib.hid (show Shape x y by have := do_shape x i c; rwa [hR] at this)
  have RY := Lib.hid (show rightW y = true by have := do_right FT.out.right hil c; rwa [hR] at this)
  rw [hR] at he
  simp only at he
  have hne1 : (R.err != 0) = true := by simpa using he
  clear he
  clear hi hlp hR
  have HF := Lib.hid hf
  have HWA := Lib.hid h
  clear hf h
  have HG := Lib.hid hg
  have HW := Lib.hid hw
  clear hg hw
  have HFW := Lib.hid hfw
  clear hfw
  have HMY := Lib.hid hmy
  clear hmy
  have HP0 := Lib.hid (Holds.pair w (wC x p) #[.int .i64 c.kind, .int .i64 c.dir, .int .i64 c.item, .int .i64 c.box, .int .i64 c.who, .slice ga c.gives.length gc, .int .i64 c.pay, .slice wa c.wants.length wc, .int .i64 c.fee] 29 31)
  have hWC := @wC.eq_1
  go_enter Tryz.func6, Tryz.ntmps6
  go_wp2_with fail
  generalize (w.alloc (.cells (wC x p) 29)).alloc (.cells #[.int .i64 c.kind, .int .i64 c.dir, .int .i64 c.item, .int .i64 c.box, .int .i64 c.who, .slice ga c.gives.length gc, .int .i64 c.pay, .slice wa c.wants.length wc, .int .i64 c.fee] 31) = V0 at *
  have H_0 := Lib.hid HP0.out.1
  have C_0 := Lib.hid HP0.out.2
  have B_0 := Lib.hid H_0.out.1
  clear HP0
  refine (awake13_any _).mono ?_
  rintro e u1 ⟨rfl, b1⟩
  have B_1 := Lib.hid (bl B_0.out b1)
  have H_1 := Lib.hid (H_0.out.call b1)
  have C_1 := Lib.hid (C_0.out.call b1)
  clear b1 B_0 H_0 C_0
  have hcH := H_1.out.2.2
  have hlH := H_1.out.2.1
  have hcC := C_1.out.2.2
  have hlC := C_1.out.2.1
  go_wp2_with fail
  refine (fits13_any x p _ (HWA.out.below B_1.out (Nat.le_refl _))).mono ?_
  rintro e u2 ⟨rfl, b2⟩
  rw [HF.out]
  clear hcH hlH hcC hlC
  have B_2 := Lib.hid (bl B_1.out b2)
  have H_2 := Lib.hid (H_1.out.call b2)
  have C_2 := Lib.hid (C_1.out.call b2)
  clear b2 B_1 H_1 C_1
  have hcH := H_2.out.2.2
  have hlH := H_2.out.2.1
  have hcC := C_2.out.2.2
  have hlC := C_2.out.2.1
  go_wp2_with fail
  refine (cfew_any c ga wa gc wc _ (HG.out.below B_2.out (Nat.le_refl _)) (HW.out.below B_2.out (Nat.le_refl _))).mono ?_
  rintro e u3 ⟨rfl, b3⟩
  rw [HFW.out]
  clear hcH hlH hcC hlC
  have B_3 := Lib.hid (bl B_2.out b3)
  have H_3 := Lib.hid (H_2.out.call b3)
  have C_3 := Lib.hid (C_2.out.call b3)
  clear b3 B_2 H_2 C_2
  have hcH := H_3.out.2.2
  have hlH := H_3.out.2.1
  have hcC := C_3.out.2.2
  have hlC := C_3.out.2.1
  go_wp2_with fail
  refine (rcmay_any c ga wa gc wc _ (HG.out.below B_3.out (Nat.le_refl _)) (HW.out.below B_3.out (Nat.le_refl _))).mono ?_
  rintro e u4 ⟨rfl, b4⟩
  rw [HMY.out]
  clear hcH hlH hcC hlC
  have B_4 := Lib.hid (bl B_3.out b4)
  have H_4 := Lib.hid (H_3.out.call b4)
  have C_4 := Lib.hid (C_3.out.call b4)
  clear b4 B_3 H_3 C_3
  have hcH := H_4.out.2.2
  have hlH := H_4.out.2.1
  have hcC := C_4.out.2.2
  have hlC := C_4.out.2.1
  go_wp2_with fail
  refine (ado_as (Shape.refl x) p i c ga wa gc wc _ FT.out.right (HWA.out.below B_4.out (Nat.le_refl _)) hil (HG.out.below B_4.out (Nat.le_refl _)) (HW.out.below B_4.out (Nat.le_refl _)) HR.out).mono ?_
  rintro e u5 ⟨q1, qa1, ia1, qc1, ic1, rfl, g, b5⟩
  clear hcH hlH hcC hlC
  have B_5 := Lib.hid (bl B_4.out b5)
  have H_5 := Lib.hid (H_4.out.call b5)
  have C_5 := Lib.hid (C_4.out.call b5)
  clear b5 B_4 H_4 C_4
  have hcH := H_5.out.2.2
  have hlH := H_5.out.2.1
  have hcC := C_5.out.2.2
  have hlC := C_5.out.2.1
  have WYA_5 := Lib.hid (g.world (HWA.out.below B_5.out (Nat.le_refl _)))
  have NYA_5 := Lib.hid g.2
  clear g
  go_wp2_with fail
  clear hcH hlH hcC hlC
  have s6 : (u5.alloc (.cells (wC x q1) 29)).heap.size = u5.heap.size + 1 := by simp
  have B_6 := Lib.hid (B_5.out.alloc B_5.out.size (.cells (wC x q1) 29))
  have H_6 := Lib.hid (H_5.out.alloc (.cells (wC x q1) 29))
  have C_6 := Lib.hid (C_5.out.alloc (.cells (wC x q1) 29))
  have WYA_6 := Lib.hid (WYA_5.out.call ((Below.refl _ _).alloc (Nat.le_refl _) (.cells (wC x q1) 29)))
  have NYA_6 := Lib.hid (NYA_5.out.call ((Below.refl _ _).alloc (Nat.le_refl _) (.cells (wC x q1) 29)))
  have YA_6 := Lib.hid (Holds.newb (w := w) (A := (wC x q1)) (t := 29) (n := u5.heap.size) B_5.out rfl)
  clear B_5 H_5 C_5 WYA_5 NYA_5
  generalize u5.alloc (.cells (wC x q1) 29) = V6 at *
  have s7 : (V6.alloc (.cells #[.int .i64 R.err, .int .i64 R.kind, .int .i64 R.room, .slice qa1 R.players.length qc1, .slice ia1 R.items.length ic1, .int .i64 R.coins] 38)).heap.size = V6.heap.size + 1 := by simp
  have B_7 := Lib.hid (B_6.out.alloc B_6.out.size (.cells #[.int .i64 R.err, .int .i64 R.kind, .int .i64 R.room, .slice qa1 R.players.length qc1, .slice ia1 R.items.length ic1, .int .i64 R.coins] 38))
  have H_7 := Lib.hid (H_6.out.alloc (.cells #[.int .i64 R.err, .int .i64 R.kind, .int .i64 R.room, .slice qa1 R.players.length qc1, .slice ia1 R.items.length ic1, .int .i64 R.coins] 38))
  have C_7 := Lib.hid (C_6.out.alloc (.cells #[.int .i64 R.err, .int .i64 R.kind, .int .i64 R.room, .slice qa1 R.players.length qc1, .slice ia1 R.items.length ic1, .int .i64 R.coins] 38))
  have YA_7 := Lib.hid (YA_6.out.alloc (.cells #[.int .i64 R.err, .int .i64 R.kind, .int .i64 R.room, .slice qa1 R.players.length qc1, .slice ia1 R.items.length ic1, .int .i64 R.coins] 38))
  have WYA_7 := Lib.hid (WYA_6.out.call ((Below.refl _ _).alloc (Nat.le_refl _) (.cells #[.int .i64 R.err, .int .i64 R.kind, .int .i64 R.room, .slice qa1 R.players.length qc1, .slice ia1 R.items.length ic1, .int .i64 R.coins] 38)))
  have NYA_7 := Lib.hid (NYA_6.out.call ((Below.refl _ _).alloc (Nat.le_refl _) (.cells #[.int .i64 R.err, .int .i64 R.kind, .int .i64 R.room, .slice qa1 R.players.length qc1, .slice ia1 R.items.length ic1, .int .i64 R.coins] 38)))
  have YAr_7 := Lib.hid (Holds.newb (w := w) (A := #[.int .i64 R.err, .int .i64 R.kind, .int .i64 R.room, .slice qa1 R.players.length qc1, .slice ia1 R.items.length ic1, .int .i64 R.coins]) (t := 38) (n := u5.heap.size + 1) B_6.out (by omega))
  clear B_6 H_6 C_6 YA_6 WYA_6 NYA_6
  generalize V6.alloc (.cells #[.int .i64 R.err, .int .i64 R.kind, .int .i64 R.room, .slice qa1 R.players.length qc1, .slice ia1 R.items.length ic1, .int .i64 R.coins] 38) = V7 at *
  clear s6 s7
  have hcH := H_7.out.2.2
  have hlH := H_7.out.2.1
  have hcC := C_7.out.2.2
  have hlC := C_7.out.2.1
  have hcYA := YA_7.out.2.2
  have hlYA := YA_7.out.2.1
  have hcYAr := YAr_7.out.2.2
  have hlYAr := YAr_7.out.2.1
  go_ret
  exact ⟨rfl, B_7.out⟩
theorem may_item {c : Cm} (h : refMayB c = true) (hk : 3 ≤ c.kind ∧ c.kind ≤ 7) : 0 ≤ c.item := by
  rw [← may_eq] at h
  simp only [mayB, withinB, areB, okN, Bool.and_eq_true, List.all_cons, decide_eq_true_eq] at h
  exact h.1.2.1.1.2.1.1
theorem under_len13 (ps : List Pl) (n : Nat) (g : Pl) : (underN ps n g).length ≤ n := by
  induction n with
  | zero => simp [underN]
  | succ n ih =>
    by_cases h : rootI ps n = g
    · rw [underN_yes h, List.length_append]; simpa using ih
    · rw [underN_no h]; omega
theorem own_len13 {y : Wd} (h : rightW y = true) {i : Nat} : (haveR y i).items.length ≤ 16 := by
  have := (right_lens h).2.2.2.1
  exact Nat.le_trans (under_len13 _ _ _) this
theorem look_len13 {y : Wd} (h : rightW y = true) {i : Nat} : (lookR y i).items.length ≤ 16 := by
  have := (right_lens h).2.2.2.1
  exact Nat.le_trans (under_len13 _ _ _) this
set_option maxRecDepth 100000 in
set_option maxHeartbeats 4000000 in
theorem atomSees_k0 (x : Wd) (p : Wp) (a i : Nat) (c : Cm) (ga wa : Option Addr) (gc wc : Nat) (haa : a ≤ 255) (hi : a % x.at_.length = i) (w : World) (h : WorldAt w p x) (hg : IntsAt w ga c.gives) (hw : IntsAt w wa c.wants) (hf : fitsB x = true) (hfw : cfewB c = true) (hmy : refMayB c = true) (he : (doW x i c).2.err = 0) (hk1 : ¬ c.kind = 1) (hk3 : ¬ c.kind = 3) (hk6 : ¬ c.kind = 6) (hk4 : ¬ c.kind = 4) (hk5 : ¬ c.kind = 5) : Calls Tryz.prog 6 #[.agg (wC x p), .int .u8 (a : Int), .agg #[.int .i64 c.kind, .int .i64 c.dir, .int .i64 c.item, .int .i64 c.box, .int .i64 c.who, .slice ga c.gives.length gc, .int .i64 c.pay, .slice wa c.wants.length wc, .int .i64 c.fee]] w fun e w' => e = .returned (.bool true) ∧ Below w.heap.size w w' := by
  have r1 := run_tmod7 a x.at_.length
  have m1 := run_mod7 a x.at_.length
  rw [hi] at r1 m1
  have FT := Lib.hid (fits_fit hf)
  have hlp : 0 < x.at_.length := (right_lens FT.out.right).1
  have hne : ¬ x.at_ = [] := List.length_pos_iff.1 hlp
  have hil : i < x.at_.length := by rw [← hi]; exact Nat.mod_lt _ hlp
  have hlen6 := (right_lens FT.out.right).2.1
  obtain ⟨⟨y, R⟩, hR⟩ : ∃ R, doW x i c = R := ⟨_, rfl⟩
  have HR := Lib.hid hR
  have SY := Lib.hid (show Shape x y by have := do_shape x i c; rwa [hR] at this)
  have RY := Lib.hid (show rightW y = true by have := do_right FT.out.right hil c; rwa [hR] at this)
  rw [hR] at he
  simp only at he
  have hne1 : (R.err != 0) = false := by simp [he]
  have t1 : (c.kind == 1) = false := by simpa using hk1
  have t3 : (c.kind == 3) = false := by simpa using hk3
  have t6 : (c.kind == 6) = false := by simpa using hk6
  have t4 : (c.kind == 4) = false := by simpa using hk4
  have t5 : (c.kind == 5) = false := by simpa using hk5
  obtain ⟨S, hS⟩ : ∃ S, haveR y i = S := ⟨_, rfl⟩
  obtain ⟨T, hT⟩ : ∃ T, lookR y i = T := ⟨_, rfl⟩
  have HHS := Lib.hid hS
  have HHT := Lib.hid hT
  clear he hS hT hk1 hk3 hk6 hk4 hk5
  clear hi hlp hR
  have HF := Lib.hid hf
  have HWA := Lib.hid h
  clear hf h
  have HG := Lib.hid hg
  have HW := Lib.hid hw
  clear hg hw
  have HFW := Lib.hid hfw
  clear hfw
  have HMY := Lib.hid hmy
  clear hmy
  have HP0 := Lib.hid (Holds.pair w (wC x p) #[.int .i64 c.kind, .int .i64 c.dir, .int .i64 c.item, .int .i64 c.box, .int .i64 c.who, .slice ga c.gives.length gc, .int .i64 c.pay, .slice wa c.wants.length wc, .int .i64 c.fee] 29 31)
  have hWC := @wC.eq_1
  go_enter Tryz.func6, Tryz.ntmps6
  go_wp2_with fail
  generalize (w.alloc (.cells (wC x p) 29)).alloc (.cells #[.int .i64 c.kind, .int .i64 c.dir, .int .i64 c.item, .int .i64 c.box, .int .i64 c.who, .slice ga c.gives.length gc, .int .i64 c.pay, .slice wa c.wants.length wc, .int .i64 c.fee] 31) = V0 at *
  have H_0 := Lib.hid HP0.out.1
  have C_0 := Lib.hid HP0.out.2
  have B_0 := Lib.hid H_0.out.1
  clear HP0
  refine (awake13_any _).mono ?_
  rintro e u1 ⟨rfl, b1⟩
  have B_1 := Lib.hid (bl B_0.out b1)
  have H_1 := Lib.hid (H_0.out.call b1)
  have C_1 := Lib.hid (C_0.out.call b1)
  clear b1 B_0 H_0 C_0
  have hcH := H_1.out.2.2
  have hlH := H_1.out.2.1
  have hcC := C_1.out.2.2
  have hlC := C_1.out.2.1
  go_wp2_with fail
  refine (fits13_any x p _ (HWA.out.below B_1.out (Nat.le_refl _))).mono ?_
  rintro e u2 ⟨rfl, b2⟩
  rw [HF.out]
  clear hcH hlH hcC hlC
  have B_2 := Lib.hid (bl B_1.out b2)
  have H_2 := Lib.hid (H_1.out.call b2)
  have C_2 := Lib.hid (C_1.out.call b2)
  clear b2 B_1 H_1 C_1
  have hcH := H_2.out.2.2
  have hlH := H_2.out.2.1
  have hcC := C_2.out.2.2
  have hlC := C_2.out.2.1
  go_wp2_with fail
  refine (cfew_any c ga wa gc wc _ (HG.out.below B_2.out (Nat.le_refl _)) (HW.out.below B_2.out (Nat.le_refl _))).mono ?_
  rintro e u3 ⟨rfl, b3⟩
  rw [HFW.out]
  clear hcH hlH hcC hlC
  have B_3 := Lib.hid (bl B_2.out b3)
  have H_3 := Lib.hid (H_2.out.call b3)
  have C_3 := Lib.hid (C_2.out.call b3)
  clear b3 B_2 H_2 C_2
  have hcH := H_3.out.2.2
  have hlH := H_3.out.2.1
  have hcC := C_3.out.2.2
  have hlC := C_3.out.2.1
  go_wp2_with fail
  refine (rcmay_any c ga wa gc wc _ (HG.out.below B_3.out (Nat.le_refl _)) (HW.out.below B_3.out (Nat.le_refl _))).mono ?_
  rintro e u4 ⟨rfl, b4⟩
  rw [HMY.out]
  clear hcH hlH hcC hlC
  have B_4 := Lib.hid (bl B_3.out b4)
  have H_4 := Lib.hid (H_3.out.call b4)
  have C_4 := Lib.hid (C_3.out.call b4)
  clear b4 B_3 H_3 C_3
  have hcH := H_4.out.2.2
  have hlH := H_4.out.2.1
  have hcC := C_4.out.2.2
  have hlC := C_4.out.2.1
  go_wp2_with fail
  refine (ado_as (Shape.refl x) p i c ga wa gc wc _ FT.out.right (HWA.out.below B_4.out (Nat.le_refl _)) hil (HG.out.below B_4.out (Nat.le_refl _)) (HW.out.below B_4.out (Nat.le_refl _)) HR.out).mono ?_
  rintro e u5 ⟨q1, qa1, ia1, qc1, ic1, rfl, g, b5⟩
  clear hcH hlH hcC hlC
  have B_5 := Lib.hid (bl B_4.out b5)
  have H_5 := Lib.hid (H_4.out.call b5)
  have C_5 := Lib.hid (C_4.out.call b5)
  clear b5 B_4 H_4 C_4
  have hcH := H_5.out.2.2
  have hlH := H_5.out.2.1
  have hcC := C_5.out.2.2
  have hlC := C_5.out.2.1
  have WYA_5 := Lib.hid (g.world (HWA.out.below B_5.out (Nat.le_refl _)))
  have NYA_5 := Lib.hid g.2
  clear g
  go_wp2_with fail
  clear hcH hlH hcC hlC
  have s6 : (u5.alloc (.cells (wC x q1) 29)).heap.size = u5.heap.size + 1 := by simp
  have B_6 := Lib.hid (B_5.out.alloc B_5.out.size (.cells (wC x q1) 29))
  have H_6 := Lib.hid (H_5.out.alloc (.cells (wC x q1) 29))
  have C_6 := Lib.hid (C_5.out.alloc (.cells (wC x q1) 29))
  have WYA_6 := Lib.hid (WYA_5.out.call ((Below.refl _ _).alloc (Nat.le_refl _) (.cells (wC x q1) 29)))
  have NYA_6 := Lib.hid (NYA_5.out.call ((Below.refl _ _).alloc (Nat.le_refl _) (.cells (wC x q1) 29)))
  have YA_6 := Lib.hid (Holds.newb (w := w) (A := (wC x q1)) (t := 29) (n := u5.heap.size) B_5.out rfl)
  clear B_5 H_5 C_5 WYA_5 NYA_5
  generalize u5.alloc (.cells (wC x q1) 29) = V6 at *
  have s7 : (V6.alloc (.cells #[.int .i64 R.err, .int .i64 R.kind, .int .i64 R.room, .slice qa1 R.players.length qc1, .slice ia1 R.items.length ic1, .int .i64 R.coins] 38)).heap.size = V6.heap.size + 1 := by simp
  have B_7 := Lib.hid (B_6.out.alloc B_6.out.size (.cells #[.int .i64 R.err, .int .i64 R.kind, .int .i64 R.room, .slice qa1 R.players.length qc1, .slice ia1 R.items.length ic1, .int .i64 R.coins] 38))
  have H_7 := Lib.hid (H_6.out.alloc (.cells #[.int .i64 R.err, .int .i64 R.kind, .int .i64 R.room, .slice qa1 R.players.length qc1, .slice ia1 R.items.length ic1, .int .i64 R.coins] 38))
  have C_7 := Lib.hid (C_6.out.alloc (.cells #[.int .i64 R.err, .int .i64 R.kind, .int .i64 R.room, .slice qa1 R.players.length qc1, .slice ia1 R.items.length ic1, .int .i64 R.coins] 38))
  have YA_7 := Lib.hid (YA_6.out.alloc (.cells #[.int .i64 R.err, .int .i64 R.kind, .int .i64 R.room, .slice qa1 R.players.length qc1, .slice ia1 R.items.length ic1, .int .i64 R.coins] 38))
  have WYA_7 := Lib.hid (WYA_6.out.call ((Below.refl _ _).alloc (Nat.le_refl _) (.cells #[.int .i64 R.err, .int .i64 R.kind, .int .i64 R.room, .slice qa1 R.players.length qc1, .slice ia1 R.items.length ic1, .int .i64 R.coins] 38)))
  have NYA_7 := Lib.hid (NYA_6.out.call ((Below.refl _ _).alloc (Nat.le_refl _) (.cells #[.int .i64 R.err, .int .i64 R.kind, .int .i64 R.room, .slice qa1 R.players.length qc1, .slice ia1 R.items.length ic1, .int .i64 R.coins] 38)))
  have YAr_7 := Lib.hid (Holds.newb (w := w) (A := #[.int .i64 R.err, .int .i64 R.kind, .int .i64 R.room, .slice qa1 R.players.length qc1, .slice ia1 R.items.length ic1, .int .i64 R.coins]) (t := 38) (n := u5.heap.size + 1) B_6.out (by omega))
  clear B_6 H_6 C_6 YA_6 WYA_6 NYA_6
  generalize V6.alloc (.cells #[.int .i64 R.err, .int .i64 R.kind, .int .i64 R.room, .slice qa1 R.players.length qc1, .slice ia1 R.items.length ic1, .int .i64 R.coins] 38) = V7 at *
  clear s6 s7
  have hcH := H_7.out.2.2
  have hlH := H_7.out.2.1
  have hcC := C_7.out.2.2
  have hlC := C_7.out.2.1
  have hcYA := YA_7.out.2.2
  have hlYA := YA_7.out.2.1
  have hcYAr := YAr_7.out.2.2
  have hlYAr := YAr_7.out.2.1
  refine (ado_as SY.out q1 i ⟨10, 0, 0, 0, 0, [], 0, [], 0⟩ none none 0 0 _ RY.out WYA_7.out (by rw [SY.out.at_]; exact hil) (IntsAt.nil _ _) (IntsAt.nil _ _) ((own13 y i).trans (by rw [HHS.out]))).mono ?_
  rintro e u8 ⟨q2, qa2, ia2, qc2, ic2, rfl, g, b8⟩
  clear hcH hlH hcC hlC hcYA hlYA hcYAr hlYAr
  have B_8 := Lib.hid (bl B_7.out b8)
  have H_8 := Lib.hid (H_7.out.call b8)
  have C_8 := Lib.hid (C_7.out.call b8)
  have YA_8 := Lib.hid (YA_7.out.call b8)
  have YAr_8 := Lib.hid (YAr_7.out.call b8)
  have WYA_8 := Lib.hid (WYA_7.out.call b8)
  have NYA_8 := Lib.hid (NYA_7.out.call b8)
  clear b8 B_7 H_7 C_7 YA_7 YAr_7 WYA_7 NYA_7
  have hcH := H_8.out.2.2
  have hlH := H_8.out.2.1
  have hcC := C_8.out.2.2
  have hlC := C_8.out.2.1
  have hcYA := YA_8.out.2.2
  have hlYA := YA_8.out.2.1
  have hcYAr := YAr_8.out.2.2
  have hlYAr := YAr_8.out.2.1
  have WOA_8 := Lib.hid (g.world (WYA_8.out))
  have NOA_8 := Lib.hid g.2
  clear g
  go_wp2_with fail
  clear hcH hlH hcC hlC hcYA hlYA hcYAr hlYAr
  have s9 : (u8.alloc (.cells (wC x q2) 29)).heap.size = u8.heap.size + 1 := by simp
  have B_9 := Lib.hid (B_8.out.alloc B_8.out.size (.cells (wC x q2) 29))
  have H_9 := Lib.hid (H_8.out.alloc (.cells (wC x q2) 29))
  have C_9 := Lib.hid (C_8.out.alloc (.cells (wC x q2) 29))
  have YA_9 := Lib.hid (YA_8.out.alloc (.cells (wC x q2) 29))
  have YAr_9 := Lib.hid (YAr_8.out.alloc (.cells (wC x q2) 29))
  have WYA_9 := Lib.hid (WYA_8.out.call ((Below.refl _ _).alloc (Nat.le_refl _) (.cells (wC x q2) 29)))
  have NYA_9 := Lib.hid (NYA_8.out.call ((Below.refl _ _).alloc (Nat.le_refl _) (.cells (wC x q2) 29)))
  have WOA_9 := Lib.hid (WOA_8.out.call ((Below.refl _ _).alloc (Nat.le_refl _) (.cells (wC x q2) 29)))
  have NOA_9 := Lib.hid (NOA_8.out.call ((Below.refl _ _).alloc (Nat.le_refl _) (.cells (wC x q2) 29)))
  have OA_9 := Lib.hid (Holds.newb (w := w) (A := (wC x q2)) (t := 29) (n := u8.heap.size) B_8.out rfl)
  clear B_8 H_8 C_8 YA_8 YAr_8 WYA_8 NYA_8 WOA_8 NOA_8
  generalize u8.alloc (.cells (wC x q2) 29) = V9 at *
  have s10 : (V9.alloc (.cells #[.int .i64 S.err, .int .i64 S.kind, .int .i64 S.room, .slice qa2 S.players.length qc2, .slice ia2 S.items.length ic2, .int .i64 S.coins] 38)).heap.size = V9.heap.size + 1 := by simp
  have B_10 := Lib.hid (B_9.out.alloc B_9.out.size (.cells #[.int .i64 S.err, .int .i64 S.kind, .int .i64 S.room, .slice qa2 S.players.length qc2, .slice ia2 S.items.length ic2, .int .i64 S.coins] 38))
  have H_10 := Lib.hid (H_9.out.alloc (.cells #[.int .i64 S.err, .int .i64 S.kind, .int .i64 S.room, .slice qa2 S.players.length qc2, .slice ia2 S.items.length ic2, .int .i64 S.coins] 38))
  have C_10 := Lib.hid (C_9.out.alloc (.cells #[.int .i64 S.err, .int .i64 S.kind, .int .i64 S.room, .slice qa2 S.players.length qc2, .slice ia2 S.items.length ic2, .int .i64 S.coins] 38))
  have YA_10 := Lib.hid (YA_9.out.alloc (.cells #[.int .i64 S.err, .int .i64 S.kind, .int .i64 S.room, .slice qa2 S.players.length qc2, .slice ia2 S.items.length ic2, .int .i64 S.coins] 38))
  have YAr_10 := Lib.hid (YAr_9.out.alloc (.cells #[.int .i64 S.err, .int .i64 S.kind, .int .i64 S.room, .slice qa2 S.players.length qc2, .slice ia2 S.items.length ic2, .int .i64 S.coins] 38))
  have OA_10 := Lib.hid (OA_9.out.alloc (.cells #[.int .i64 S.err, .int .i64 S.kind, .int .i64 S.room, .slice qa2 S.players.length qc2, .slice ia2 S.items.length ic2, .int .i64 S.coins] 38))
  have WYA_10 := Lib.hid (WYA_9.out.call ((Below.refl _ _).alloc (Nat.le_refl _) (.cells #[.int .i64 S.err, .int .i64 S.kind, .int .i64 S.room, .slice qa2 S.players.length qc2, .slice ia2 S.items.length ic2, .int .i64 S.coins] 38)))
  have NYA_10 := Lib.hid (NYA_9.out.call ((Below.refl _ _).alloc (Nat.le_refl _) (.cells #[.int .i64 S.err, .int .i64 S.kind, .int .i64 S.room, .slice qa2 S.players.length qc2, .slice ia2 S.items.length ic2, .int .i64 S.coins] 38)))
  have WOA_10 := Lib.hid (WOA_9.out.call ((Below.refl _ _).alloc (Nat.le_refl _) (.cells #[.int .i64 S.err, .int .i64 S.kind, .int .i64 S.room, .slice qa2 S.players.length qc2, .slice ia2 S.items.length ic2, .int .i64 S.coins] 38)))
  have NOA_10 := Lib.hid (NOA_9.out.call ((Below.refl _ _).alloc (Nat.le_refl _) (.cells #[.int .i64 S.err, .int .i64 S.kind, .int .i64 S.room, .slice qa2 S.players.length qc2, .slice ia2 S.items.length ic2, .int .i64 S.coins] 38)))
  have OAr_10 := Lib.hid (Holds.newb (w := w) (A := #[.int .i64 S.err, .int .i64 S.kind, .int .i64 S.room, .slice qa2 S.players.length qc2, .slice ia2 S.items.length ic2, .int .i64 S.coins]) (t := 38) (n := u8.heap.size + 1) B_9.out (by omega))
  clear B_9 H_9 C_9 YA_9 YAr_9 OA_9 WYA_9 NYA_9 WOA_9 NOA_9
  generalize V9.alloc (.cells #[.int .i64 S.err, .int .i64 S.kind, .int .i64 S.room, .slice qa2 S.players.length qc2, .slice ia2 S.items.length ic2, .int .i64 S.coins] 38) = V10 at *
  clear s9 s10
  have hcH := H_10.out.2.2
  have hlH := H_10.out.2.1
  have hcC := C_10.out.2.2
  have hlC := C_10.out.2.1
  have hcYA := YA_10.out.2.2
  have hlYA := YA_10.out.2.1
  have hcYAr := YAr_10.out.2.2
  have hlYAr := YAr_10.out.2.1
  have hcOA := OA_10.out.2.2
  have hlOA := OA_10.out.2.1
  have hcOAr := OAr_10.out.2.2
  have hlOAr := OAr_10.out.2.1
  refine (ado_as SY.out q1 i ⟨9, 0, 0, 0, 0, [], 0, [], 0⟩ none none 0 0 _ RY.out WYA_10.out (by rw [SY.out.at_]; exact hil) (IntsAt.nil _ _) (IntsAt.nil _ _) ((look13 y i).trans (by rw [HHT.out]))).mono ?_
  rintro e u11 ⟨q3, qa3, ia3, qc3, ic3, rfl, g, b11⟩
  clear hcH hlH hcC hlC hcYA hlYA hcYAr hlYAr hcOA hlOA hcOAr hlOAr
  have B_11 := Lib.hid (bl B_10.out b11)
  have H_11 := Lib.hid (H_10.out.call b11)
  have C_11 := Lib.hid (C_10.out.call b11)
  have YA_11 := Lib.hid (YA_10.out.call b11)
  have YAr_11 := Lib.hid (YAr_10.out.call b11)
  have OA_11 := Lib.hid (OA_10.out.call b11)
  have OAr_11 := Lib.hid (OAr_10.out.call b11)
  have WYA_11 := Lib.hid (WYA_10.out.call b11)
  have NYA_11 := Lib.hid (NYA_10.out.call b11)
  have WOA_11 := Lib.hid (WOA_10.out.call b11)
  have NOA_11 := Lib.hid (NOA_10.out.call b11)
  clear b11 B_10 H_10 C_10 YA_10 YAr_10 OA_10 OAr_10 WYA_10 NYA_10 WOA_10 NOA_10
  have hcH := H_11.out.2.2
  have hlH := H_11.out.2.1
  have hcC := C_11.out.2.2
  have hlC := C_11.out.2.1
  have hcYA := YA_11.out.2.2
  have hlYA := YA_11.out.2.1
  have hcYAr := YAr_11.out.2.2
  have hlYAr := YAr_11.out.2.1
  have hcOA := OA_11.out.2.2
  have hlOA := OA_11.out.2.1
  have hcOAr := OAr_11.out.2.2
  have hlOAr := OAr_11.out.2.1
  have NLA_11 := Lib.hid g.2
  clear g
  go_wp2_with fail
  go_ret
  refine ⟨rfl, ?_⟩
  refine B_11.out.trans (Below.mono ?_ B_11.out.size)
  exact (((Below.refl _ _).alloc (Nat.le_refl _) _).alloc (by simp) _).alloc (by simp; omega) _
set_option maxRecDepth 100000 in
set_option maxHeartbeats 4000000 in
theorem atomSees_k1 (x : Wd) (p : Wp) (a i : Nat) (c : Cm) (ga wa : Option Addr) (gc wc : Nat) (haa : a ≤ 255) (hi : a % x.at_.length = i) (w : World) (h : WorldAt w p x) (hg : IntsAt w ga c.gives) (hw : IntsAt w wa c.wants) (hf : fitsB x = true) (hfw : cfewB c = true) (hmy : refMayB c = true) (he : (doW x i c).2.err = 0) (hk : c.kind = 1) : Calls Tryz.prog 6 #[.agg (wC x p), .int .u8 (a : Int), .agg #[.int .i64 c.kind, .int .i64 c.dir, .int .i64 c.item, .int .i64 c.box, .int .i64 c.who, .slice ga c.gives.length gc, .int .i64 c.pay, .slice wa c.wants.length wc, .int .i64 c.fee]] w fun e w' => e = .returned (.bool true) ∧ Below w.heap.size w w' := by
  have r1 := run_tmod7 a x.at_.length
  have m1 := run_mod7 a x.at_.length
  rw [hi] at r1 m1
  have FT := Lib.hid (fits_fit hf)
  have hlp : 0 < x.at_.length := (right_lens FT.out.right).1
  have hne : ¬ x.at_ = [] := List.length_pos_iff.1 hlp
  have hil : i < x.at_.length := by rw [← hi]; exact Nat.mod_lt _ hlp
  have hlen6 := (right_lens FT.out.right).2.1
  obtain ⟨⟨y, R⟩, hR⟩ : ∃ R, doW x i c = R := ⟨_, rfl⟩
  have HR := Lib.hid hR
  have SY := Lib.hid (show Shape x y by have := do_shape x i c; rwa [hR] at this)
  have RY := Lib.hid (show rightW y = true by have := do_right FT.out.right hil c; rwa [hR] at this)
  rw [hR] at he
  simp only at he
  have hne1 : (R.err != 0) = false := by simp [he]
  have HS := Lib.hid (sees1 FT.out.right hil hmy hR he hk)
  have t1 : (c.kind == 1) = true := by rw [hk]; rfl
  obtain ⟨S, hS⟩ : ∃ S, haveR y i = S := ⟨_, rfl⟩
  obtain ⟨T, hT⟩ : ∃ T, lookR y i = T := ⟨_, rfl⟩
  have HHS := Lib.hid hS
  have HHT := Lib.hid hT
  rw [hT] at HS
  clear he hS hT hk
  clear hi hlp hR
  have HF := Lib.hid hf
  have HWA := Lib.hid h
  clear hf h
  have HG := Lib.hid hg
  have HW := Lib.hid hw
  clear hg hw
  have HFW := Lib.hid hfw
  clear hfw
  have HMY := Lib.hid hmy
  clear hmy
  have HP0 := Lib.hid (Holds.pair w (wC x p) #[.int .i64 c.kind, .int .i64 c.dir, .int .i64 c.item, .int .i64 c.box, .int .i64 c.who, .slice ga c.gives.length gc, .int .i64 c.pay, .slice wa c.wants.length wc, .int .i64 c.fee] 29 31)
  have hWC := @wC.eq_1
  go_enter Tryz.func6, Tryz.ntmps6
  go_wp2_with fail
  generalize (w.alloc (.cells (wC x p) 29)).alloc (.cells #[.int .i64 c.kind, .int .i64 c.dir, .int .i64 c.item, .int .i64 c.box, .int .i64 c.who, .slice ga c.gives.length gc, .int .i64 c.pay, .slice wa c.wants.length wc, .int .i64 c.fee] 31) = V0 at *
  have H_0 := Lib.hid HP0.out.1
  have C_0 := Lib.hid HP0.out.2
  have B_0 := Lib.hid H_0.out.1
  clear HP0
  refine (awake13_any _).mono ?_
  rintro e u1 ⟨rfl, b1⟩
  have B_1 := Lib.hid (bl B_0.out b1)
  have H_1 := Lib.hid (H_0.out.call b1)
  have C_1 := Lib.hid (C_0.out.call b1)
  clear b1 B_0 H_0 C_0
  have hcH := H_1.out.2.2
  have hlH := H_1.out.2.1
  have hcC := C_1.out.2.2
  have hlC := C_1.out.2.1
  go_wp2_with fail
  refine (fits13_any x p _ (HWA.out.below B_1.out (Nat.le_refl _))).mono ?_
  rintro e u2 ⟨rfl, b2⟩
  rw [HF.out]
  clear hcH hlH hcC hlC
  have B_2 := Lib.hid (bl B_1.out b2)
  have H_2 := Lib.hid (H_1.out.call b2)
  have C_2 := Lib.hid (C_1.out.call b2)
  clear b2 B_1 H_1 C_1
  have hcH := H_2.out.2.2
  have hlH := H_2.out.2.1
  have hcC := C_2.out.2.2
  have hlC := C_2.out.2.1
  go_wp2_with fail
  refine (cfew_any c ga wa gc wc _ (HG.out.below B_2.out (Nat.le_refl _)) (HW.out.below B_2.out (Nat.le_refl _))).mono ?_
  rintro e u3 ⟨rfl, b3⟩
  rw [HFW.out]
  clear hcH hlH hcC hlC
  have B_3 := Lib.hid (bl B_2.out b3)
  have H_3 := Lib.hid (H_2.out.call b3)
  have C_3 := Lib.hid (C_2.out.call b3)
  clear b3 B_2 H_2 C_2
  have hcH := H_3.out.2.2
  have hlH := H_3.out.2.1
  have hcC := C_3.out.2.2
  have hlC := C_3.out.2.1
  go_wp2_with fail
  refine (rcmay_any c ga wa gc wc _ (HG.out.below B_3.out (Nat.le_refl _)) (HW.out.below B_3.out (Nat.le_refl _))).mono ?_
  rintro e u4 ⟨rfl, b4⟩
  rw [HMY.out]
  clear hcH hlH hcC hlC
  have B_4 := Lib.hid (bl B_3.out b4)
  have H_4 := Lib.hid (H_3.out.call b4)
  have C_4 := Lib.hid (C_3.out.call b4)
  clear b4 B_3 H_3 C_3
  have hcH := H_4.out.2.2
  have hlH := H_4.out.2.1
  have hcC := C_4.out.2.2
  have hlC := C_4.out.2.1
  go_wp2_with fail
  refine (ado_as (Shape.refl x) p i c ga wa gc wc _ FT.out.right (HWA.out.below B_4.out (Nat.le_refl _)) hil (HG.out.below B_4.out (Nat.le_refl _)) (HW.out.below B_4.out (Nat.le_refl _)) HR.out).mono ?_
  rintro e u5 ⟨q1, qa1, ia1, qc1, ic1, rfl, g, b5⟩
  clear hcH hlH hcC hlC
  have B_5 := Lib.hid (bl B_4.out b5)
  have H_5 := Lib.hid (H_4.out.call b5)
  have C_5 := Lib.hid (C_4.out.call b5)
  clear b5 B_4 H_4 C_4
  have hcH := H_5.out.2.2
  have hlH := H_5.out.2.1
  have hcC := C_5.out.2.2
  have hlC := C_5.out.2.1
  have WYA_5 := Lib.hid (g.world (HWA.out.below B_5.out (Nat.le_refl _)))
  have NYA_5 := Lib.hid g.2
  clear g
  go_wp2_with fail
  clear hcH hlH hcC hlC
  have s6 : (u5.alloc (.cells (wC x q1) 29)).heap.size = u5.heap.size + 1 := by simp
  have B_6 := Lib.hid (B_5.out.alloc B_5.out.size (.cells (wC x q1) 29))
  have H_6 := Lib.hid (H_5.out.alloc (.cells (wC x q1) 29))
  have C_6 := Lib.hid (C_5.out.alloc (.cells (wC x q1) 29))
  have WYA_6 := Lib.hid (WYA_5.out.call ((Below.refl _ _).alloc (Nat.le_refl _) (.cells (wC x q1) 29)))
  have NYA_6 := Lib.hid (NYA_5.out.call ((Below.refl _ _).alloc (Nat.le_refl _) (.cells (wC x q1) 29)))
  have YA_6 := Lib.hid (Holds.newb (w := w) (A := (wC x q1)) (t := 29) (n := u5.heap.size) B_5.out rfl)
  clear B_5 H_5 C_5 WYA_5 NYA_5
  generalize u5.alloc (.cells (wC x q1) 29) = V6 at *
  have s7 : (V6.alloc (.cells #[.int .i64 R.err, .int .i64 R.kind, .int .i64 R.room, .slice qa1 R.players.length qc1, .slice ia1 R.items.length ic1, .int .i64 R.coins] 38)).heap.size = V6.heap.size + 1 := by simp
  have B_7 := Lib.hid (B_6.out.alloc B_6.out.size (.cells #[.int .i64 R.err, .int .i64 R.kind, .int .i64 R.room, .slice qa1 R.players.length qc1, .slice ia1 R.items.length ic1, .int .i64 R.coins] 38))
  have H_7 := Lib.hid (H_6.out.alloc (.cells #[.int .i64 R.err, .int .i64 R.kind, .int .i64 R.room, .slice qa1 R.players.length qc1, .slice ia1 R.items.length ic1, .int .i64 R.coins] 38))
  have C_7 := Lib.hid (C_6.out.alloc (.cells #[.int .i64 R.err, .int .i64 R.kind, .int .i64 R.room, .slice qa1 R.players.length qc1, .slice ia1 R.items.length ic1, .int .i64 R.coins] 38))
  have YA_7 := Lib.hid (YA_6.out.alloc (.cells #[.int .i64 R.err, .int .i64 R.kind, .int .i64 R.room, .slice qa1 R.players.length qc1, .slice ia1 R.items.length ic1, .int .i64 R.coins] 38))
  have WYA_7 := Lib.hid (WYA_6.out.call ((Below.refl _ _).alloc (Nat.le_refl _) (.cells #[.int .i64 R.err, .int .i64 R.kind, .int .i64 R.room, .slice qa1 R.players.length qc1, .slice ia1 R.items.length ic1, .int .i64 R.coins] 38)))
  have NYA_7 := Lib.hid (NYA_6.out.call ((Below.refl _ _).alloc (Nat.le_refl _) (.cells #[.int .i64 R.err, .int .i64 R.kind, .int .i64 R.room, .slice qa1 R.players.length qc1, .slice ia1 R.items.length ic1, .int .i64 R.coins] 38)))
  have YAr_7 := Lib.hid (Holds.newb (w := w) (A := #[.int .i64 R.err, .int .i64 R.kind, .int .i64 R.room, .slice qa1 R.players.length qc1, .slice ia1 R.items.length ic1, .int .i64 R.coins]) (t := 38) (n := u5.heap.size + 1) B_6.out (by omega))
  clear B_6 H_6 C_6 YA_6 WYA_6 NYA_6
  generalize V6.alloc (.cells #[.int .i64 R.err, .int .i64 R.kind, .int .i64 R.room, .slice qa1 R.players.length qc1, .slice ia1 R.items.length ic1, .int .i64 R.coins] 38) = V7 at *
  clear s6 s7
  have hcH := H_7.out.2.2
  have hlH := H_7.out.2.1
  have hcC := C_7.out.2.2
  have hlC := C_7.out.2.1
  have hcYA := YA_7.out.2.2
  have hlYA := YA_7.out.2.1
  have hcYAr := YAr_7.out.2.2
  have hlYAr := YAr_7.out.2.1
  refine (ado_as SY.out q1 i ⟨10, 0, 0, 0, 0, [], 0, [], 0⟩ none none 0 0 _ RY.out WYA_7.out (by rw [SY.out.at_]; exact hil) (IntsAt.nil _ _) (IntsAt.nil _ _) ((own13 y i).trans (by rw [HHS.out]))).mono ?_
  rintro e u8 ⟨q2, qa2, ia2, qc2, ic2, rfl, g, b8⟩
  clear hcH hlH hcC hlC hcYA hlYA hcYAr hlYAr
  have B_8 := Lib.hid (bl B_7.out b8)
  have H_8 := Lib.hid (H_7.out.call b8)
  have C_8 := Lib.hid (C_7.out.call b8)
  have YA_8 := Lib.hid (YA_7.out.call b8)
  have YAr_8 := Lib.hid (YAr_7.out.call b8)
  have WYA_8 := Lib.hid (WYA_7.out.call b8)
  have NYA_8 := Lib.hid (NYA_7.out.call b8)
  clear b8 B_7 H_7 C_7 YA_7 YAr_7 WYA_7 NYA_7
  have hcH := H_8.out.2.2
  have hlH := H_8.out.2.1
  have hcC := C_8.out.2.2
  have hlC := C_8.out.2.1
  have hcYA := YA_8.out.2.2
  have hlYA := YA_8.out.2.1
  have hcYAr := YAr_8.out.2.2
  have hlYAr := YAr_8.out.2.1
  have WOA_8 := Lib.hid (g.world (WYA_8.out))
  have NOA_8 := Lib.hid g.2
  clear g
  go_wp2_with fail
  clear hcH hlH hcC hlC hcYA hlYA hcYAr hlYAr
  have s9 : (u8.alloc (.cells (wC x q2) 29)).heap.size = u8.heap.size + 1 := by simp
  have B_9 := Lib.hid (B_8.out.alloc B_8.out.size (.cells (wC x q2) 29))
  have H_9 := Lib.hid (H_8.out.alloc (.cells (wC x q2) 29))
  have C_9 := Lib.hid (C_8.out.alloc (.cells (wC x q2) 29))
  have YA_9 := Lib.hid (YA_8.out.alloc (.cells (wC x q2) 29))
  have YAr_9 := Lib.hid (YAr_8.out.alloc (.cells (wC x q2) 29))
  have WYA_9 := Lib.hid (WYA_8.out.call ((Below.refl _ _).alloc (Nat.le_refl _) (.cells (wC x q2) 29)))
  have NYA_9 := Lib.hid (NYA_8.out.call ((Below.refl _ _).alloc (Nat.le_refl _) (.cells (wC x q2) 29)))
  have WOA_9 := Lib.hid (WOA_8.out.call ((Below.refl _ _).alloc (Nat.le_refl _) (.cells (wC x q2) 29)))
  have NOA_9 := Lib.hid (NOA_8.out.call ((Below.refl _ _).alloc (Nat.le_refl _) (.cells (wC x q2) 29)))
  have OA_9 := Lib.hid (Holds.newb (w := w) (A := (wC x q2)) (t := 29) (n := u8.heap.size) B_8.out rfl)
  clear B_8 H_8 C_8 YA_8 YAr_8 WYA_8 NYA_8 WOA_8 NOA_8
  generalize u8.alloc (.cells (wC x q2) 29) = V9 at *
  have s10 : (V9.alloc (.cells #[.int .i64 S.err, .int .i64 S.kind, .int .i64 S.room, .slice qa2 S.players.length qc2, .slice ia2 S.items.length ic2, .int .i64 S.coins] 38)).heap.size = V9.heap.size + 1 := by simp
  have B_10 := Lib.hid (B_9.out.alloc B_9.out.size (.cells #[.int .i64 S.err, .int .i64 S.kind, .int .i64 S.room, .slice qa2 S.players.length qc2, .slice ia2 S.items.length ic2, .int .i64 S.coins] 38))
  have H_10 := Lib.hid (H_9.out.alloc (.cells #[.int .i64 S.err, .int .i64 S.kind, .int .i64 S.room, .slice qa2 S.players.length qc2, .slice ia2 S.items.length ic2, .int .i64 S.coins] 38))
  have C_10 := Lib.hid (C_9.out.alloc (.cells #[.int .i64 S.err, .int .i64 S.kind, .int .i64 S.room, .slice qa2 S.players.length qc2, .slice ia2 S.items.length ic2, .int .i64 S.coins] 38))
  have YA_10 := Lib.hid (YA_9.out.alloc (.cells #[.int .i64 S.err, .int .i64 S.kind, .int .i64 S.room, .slice qa2 S.players.length qc2, .slice ia2 S.items.length ic2, .int .i64 S.coins] 38))
  have YAr_10 := Lib.hid (YAr_9.out.alloc (.cells #[.int .i64 S.err, .int .i64 S.kind, .int .i64 S.room, .slice qa2 S.players.length qc2, .slice ia2 S.items.length ic2, .int .i64 S.coins] 38))
  have OA_10 := Lib.hid (OA_9.out.alloc (.cells #[.int .i64 S.err, .int .i64 S.kind, .int .i64 S.room, .slice qa2 S.players.length qc2, .slice ia2 S.items.length ic2, .int .i64 S.coins] 38))
  have WYA_10 := Lib.hid (WYA_9.out.call ((Below.refl _ _).alloc (Nat.le_refl _) (.cells #[.int .i64 S.err, .int .i64 S.kind, .int .i64 S.room, .slice qa2 S.players.length qc2, .slice ia2 S.items.length ic2, .int .i64 S.coins] 38)))
  have NYA_10 := Lib.hid (NYA_9.out.call ((Below.refl _ _).alloc (Nat.le_refl _) (.cells #[.int .i64 S.err, .int .i64 S.kind, .int .i64 S.room, .slice qa2 S.players.length qc2, .slice ia2 S.items.length ic2, .int .i64 S.coins] 38)))
  have WOA_10 := Lib.hid (WOA_9.out.call ((Below.refl _ _).alloc (Nat.le_refl _) (.cells #[.int .i64 S.err, .int .i64 S.kind, .int .i64 S.room, .slice qa2 S.players.length qc2, .slice ia2 S.items.length ic2, .int .i64 S.coins] 38)))
  have NOA_10 := Lib.hid (NOA_9.out.call ((Below.refl _ _).alloc (Nat.le_refl _) (.cells #[.int .i64 S.err, .int .i64 S.kind, .int .i64 S.room, .slice qa2 S.players.length qc2, .slice ia2 S.items.length ic2, .int .i64 S.coins] 38)))
  have OAr_10 := Lib.hid (Holds.newb (w := w) (A := #[.int .i64 S.err, .int .i64 S.kind, .int .i64 S.room, .slice qa2 S.players.length qc2, .slice ia2 S.items.length ic2, .int .i64 S.coins]) (t := 38) (n := u8.heap.size + 1) B_9.out (by omega))
  clear B_9 H_9 C_9 YA_9 YAr_9 OA_9 WYA_9 NYA_9 WOA_9 NOA_9
  generalize V9.alloc (.cells #[.int .i64 S.err, .int .i64 S.kind, .int .i64 S.room, .slice qa2 S.players.length qc2, .slice ia2 S.items.length ic2, .int .i64 S.coins] 38) = V10 at *
  clear s9 s10
  have hcH := H_10.out.2.2
  have hlH := H_10.out.2.1
  have hcC := C_10.out.2.2
  have hlC := C_10.out.2.1
  have hcYA := YA_10.out.2.2
  have hlYA := YA_10.out.2.1
  have hcYAr := YAr_10.out.2.2
  have hlYAr := YAr_10.out.2.1
  have hcOA := OA_10.out.2.2
  have hlOA := OA_10.out.2.1
  have hcOAr := OAr_10.out.2.2
  have hlOAr := OAr_10.out.2.1
  refine (ado_as SY.out q1 i ⟨9, 0, 0, 0, 0, [], 0, [], 0⟩ none none 0 0 _ RY.out WYA_10.out (by rw [SY.out.at_]; exact hil) (IntsAt.nil _ _) (IntsAt.nil _ _) ((look13 y i).trans (by rw [HHT.out]))).mono ?_
  rintro e u11 ⟨q3, qa3, ia3, qc3, ic3, rfl, g, b11⟩
  clear hcH hlH hcC hlC hcYA hlYA hcYAr hlYAr hcOA hlOA hcOAr hlOAr
  have B_11 := Lib.hid (bl B_10.out b11)
  have H_11 := Lib.hid (H_10.out.call b11)
  have C_11 := Lib.hid (C_10.out.call b11)
  have YA_11 := Lib.hid (YA_10.out.call b11)
  have YAr_11 := Lib.hid (YAr_10.out.call b11)
  have OA_11 := Lib.hid (OA_10.out.call b11)
  have OAr_11 := Lib.hid (OAr_10.out.call b11)
  have WYA_11 := Lib.hid (WYA_10.out.call b11)
  have NYA_11 := Lib.hid (NYA_10.out.call b11)
  have WOA_11 := Lib.hid (WOA_10.out.call b11)
  have NOA_11 := Lib.hid (NOA_10.out.call b11)
  clear b11 B_10 H_10 C_10 YA_10 YAr_10 OA_10 OAr_10 WYA_10 NYA_10 WOA_10 NOA_10
  have hcH := H_11.out.2.2
  have hlH := H_11.out.2.1
  have hcC := C_11.out.2.2
  have hlC := C_11.out.2.1
  have hcYA := YA_11.out.2.2
  have hlYA := YA_11.out.2.1
  have hcYAr := YAr_11.out.2.2
  have hlYAr := YAr_11.out.2.1
  have hcOA := OA_11.out.2.2
  have hlOA := OA_11.out.2.1
  have hcOAr := OAr_11.out.2.2
  have hlOAr := OAr_11.out.2.1
  have NLA_11 := Lib.hid g.2
  clear g
  have hrm : (T.room == R.room) = true := by rw [HS.out]; simp
  go_wp2_with fail
  go_ret
  refine ⟨rfl, ?_⟩
  refine B_11.out.trans (Below.mono ?_ B_11.out.size)
  exact (((Below.refl _ _).alloc (Nat.le_refl _) _).alloc (by simp) _).alloc (by simp; omega) _
set_option maxRecDepth 100000 in
set_option maxHeartbeats 4000000 in
theorem atomSees_k3 (x : Wd) (p : Wp) (a i : Nat) (c : Cm) (ga wa : Option Addr) (gc wc : Nat) (haa : a ≤ 255) (hi : a % x.at_.length = i) (w : World) (h : WorldAt w p x) (hg : IntsAt w ga c.gives) (hw : IntsAt w wa c.wants) (hf : fitsB x = true) (hfw : cfewB c = true) (hmy : refMayB c = true) (he : (doW x i c).2.err = 0) (hk : c.kind = 3) : Calls Tryz.prog 6 #[.agg (wC x p), .int .u8 (a : Int), .agg #[.int .i64 c.kind, .int .i64 c.dir, .int .i64 c.item, .int .i64 c.box, .int .i64 c.who, .slice ga c.gives.length gc, .int .i64 c.pay, .slice wa c.wants.length wc, .int .i64 c.fee]] w fun e w' => e = .returned (.bool true) ∧ Below w.heap.size w w' := by
  have r1 := run_tmod7 a x.at_.length
  have m1 := run_mod7 a x.at_.length
  rw [hi] at r1 m1
  have FT := Lib.hid (fits_fit hf)
  have hlp : 0 < x.at_.length := (right_lens FT.out.right).1
  have hne : ¬ x.at_ = [] := List.length_pos_iff.1 hlp
  have hil : i < x.at_.length := by rw [← hi]; exact Nat.mod_lt _ hlp
  have hlen6 := (right_lens FT.out.right).2.1
  obtain ⟨⟨y, R⟩, hR⟩ : ∃ R, doW x i c = R := ⟨_, rfl⟩
  have HR := Lib.hid hR
  have SY := Lib.hid (show Shape x y by have := do_shape x i c; rwa [hR] at this)
  have RY := Lib.hid (show rightW y = true by have := do_right FT.out.right hil c; rwa [hR] at this)
  rw [hR] at he
  simp only at he
  have hne1 : (R.err != 0) = false := by simp [he]
  have HS := Lib.hid (sees3 hmy hR he hk)
  have t1 : (c.kind == 1) = false := by rw [hk]; rfl
  have t3 : (c.kind == 3) = true := by rw [hk]; rfl
  obtain ⟨S, hS⟩ : ∃ S, haveR y i = S := ⟨_, rfl⟩
  obtain ⟨T, hT⟩ : ∃ T, lookR y i = T := ⟨_, rfl⟩
  have HHS := Lib.hid hS
  have HHT := Lib.hid hT
  rw [hS] at HS
  clear he hS hT hk
  clear hi hlp hR
  have HF := Lib.hid hf
  have HWA := Lib.hid h
  clear hf h
  have HG := Lib.hid hg
  have HW := Lib.hid hw
  clear hg hw
  have HFW := Lib.hid hfw
  clear hfw
  have HMY := Lib.hid hmy
  clear hmy
  have HP0 := Lib.hid (Holds.pair w (wC x p) #[.int .i64 c.kind, .int .i64 c.dir, .int .i64 c.item, .int .i64 c.box, .int .i64 c.who, .slice ga c.gives.length gc, .int .i64 c.pay, .slice wa c.wants.length wc, .int .i64 c.fee] 29 31)
  have hWC := @wC.eq_1
  go_enter Tryz.func6, Tryz.ntmps6
  go_wp2_with fail
  generalize (w.alloc (.cells (wC x p) 29)).alloc (.cells #[.int .i64 c.kind, .int .i64 c.dir, .int .i64 c.item, .int .i64 c.box, .int .i64 c.who, .slice ga c.gives.length gc, .int .i64 c.pay, .slice wa c.wants.length wc, .int .i64 c.fee] 31) = V0 at *
  have H_0 := Lib.hid HP0.out.1
  have C_0 := Lib.hid HP0.out.2
  have B_0 := Lib.hid H_0.out.1
  clear HP0
  refine (awake13_any _).mono ?_
  rintro e u1 ⟨rfl, b1⟩
  have B_1 := Lib.hid (bl B_0.out b1)
  have H_1 := Lib.hid (H_0.out.call b1)
  have C_1 := Lib.hid (C_0.out.call b1)
  clear b1 B_0 H_0 C_0
  have hcH := H_1.out.2.2
  have hlH := H_1.out.2.1
  have hcC := C_1.out.2.2
  have hlC := C_1.out.2.1
  go_wp2_with fail
  refine (fits13_any x p _ (HWA.out.below B_1.out (Nat.le_refl _))).mono ?_
  rintro e u2 ⟨rfl, b2⟩
  rw [HF.out]
  clear hcH hlH hcC hlC
  have B_2 := Lib.hid (bl B_1.out b2)
  have H_2 := Lib.hid (H_1.out.call b2)
  have C_2 := Lib.hid (C_1.out.call b2)
  clear b2 B_1 H_1 C_1
  have hcH := H_2.out.2.2
  have hlH := H_2.out.2.1
  have hcC := C_2.out.2.2
  have hlC := C_2.out.2.1
  go_wp2_with fail
  refine (cfew_any c ga wa gc wc _ (HG.out.below B_2.out (Nat.le_refl _)) (HW.out.below B_2.out (Nat.le_refl _))).mono ?_
  rintro e u3 ⟨rfl, b3⟩
  rw [HFW.out]
  clear hcH hlH hcC hlC
  have B_3 := Lib.hid (bl B_2.out b3)
  have H_3 := Lib.hid (H_2.out.call b3)
  have C_3 := Lib.hid (C_2.out.call b3)
  clear b3 B_2 H_2 C_2
  have hcH := H_3.out.2.2
  have hlH := H_3.out.2.1
  have hcC := C_3.out.2.2
  have hlC := C_3.out.2.1
  go_wp2_with fail
  refine (rcmay_any c ga wa gc wc _ (HG.out.below B_3.out (Nat.le_refl _)) (HW.out.below B_3.out (Nat.le_refl _))).mono ?_
  rintro e u4 ⟨rfl, b4⟩
  rw [HMY.out]
  clear hcH hlH hcC hlC
  have B_4 := Lib.hid (bl B_3.out b4)
  have H_4 := Lib.hid (H_3.out.call b4)
  have C_4 := Lib.hid (C_3.out.call b4)
  clear b4 B_3 H_3 C_3
  have hcH := H_4.out.2.2
  have hlH := H_4.out.2.1
  have hcC := C_4.out.2.2
  have hlC := C_4.out.2.1
  go_wp2_with fail
  refine (ado_as (Shape.refl x) p i c ga wa gc wc _ FT.out.right (HWA.out.below B_4.out (Nat.le_refl _)) hil (HG.out.below B_4.out (Nat.le_refl _)) (HW.out.below B_4.out (Nat.le_refl _)) HR.out).mono ?_
  rintro e u5 ⟨q1, qa1, ia1, qc1, ic1, rfl, g, b5⟩
  clear hcH hlH hcC hlC
  have B_5 := Lib.hid (bl B_4.out b5)
  have H_5 := Lib.hid (H_4.out.call b5)
  have C_5 := Lib.hid (C_4.out.call b5)
  clear b5 B_4 H_4 C_4
  have hcH := H_5.out.2.2
  have hlH := H_5.out.2.1
  have hcC := C_5.out.2.2
  have hlC := C_5.out.2.1
  have WYA_5 := Lib.hid (g.world (HWA.out.below B_5.out (Nat.le_refl _)))
  have NYA_5 := Lib.hid g.2
  clear g
  go_wp2_with fail
  clear hcH hlH hcC hlC
  have s6 : (u5.alloc (.cells (wC x q1) 29)).heap.size = u5.heap.size + 1 := by simp
  have B_6 := Lib.hid (B_5.out.alloc B_5.out.size (.cells (wC x q1) 29))
  have H_6 := Lib.hid (H_5.out.alloc (.cells (wC x q1) 29))
  have C_6 := Lib.hid (C_5.out.alloc (.cells (wC x q1) 29))
  have WYA_6 := Lib.hid (WYA_5.out.call ((Below.refl _ _).alloc (Nat.le_refl _) (.cells (wC x q1) 29)))
  have NYA_6 := Lib.hid (NYA_5.out.call ((Below.refl _ _).alloc (Nat.le_refl _) (.cells (wC x q1) 29)))
  have YA_6 := Lib.hid (Holds.newb (w := w) (A := (wC x q1)) (t := 29) (n := u5.heap.size) B_5.out rfl)
  clear B_5 H_5 C_5 WYA_5 NYA_5
  generalize u5.alloc (.cells (wC x q1) 29) = V6 at *
  have s7 : (V6.alloc (.cells #[.int .i64 R.err, .int .i64 R.kind, .int .i64 R.room, .slice qa1 R.players.length qc1, .slice ia1 R.items.length ic1, .int .i64 R.coins] 38)).heap.size = V6.heap.size + 1 := by simp
  have B_7 := Lib.hid (B_6.out.alloc B_6.out.size (.cells #[.int .i64 R.err, .int .i64 R.kind, .int .i64 R.room, .slice qa1 R.players.length qc1, .slice ia1 R.items.length ic1, .int .i64 R.coins] 38))
  have H_7 := Lib.hid (H_6.out.alloc (.cells #[.int .i64 R.err, .int .i64 R.kind, .int .i64 R.room, .slice qa1 R.players.length qc1, .slice ia1 R.items.length ic1, .int .i64 R.coins] 38))
  have C_7 := Lib.hid (C_6.out.alloc (.cells #[.int .i64 R.err, .int .i64 R.kind, .int .i64 R.room, .slice qa1 R.players.length qc1, .slice ia1 R.items.length ic1, .int .i64 R.coins] 38))
  have YA_7 := Lib.hid (YA_6.out.alloc (.cells #[.int .i64 R.err, .int .i64 R.kind, .int .i64 R.room, .slice qa1 R.players.length qc1, .slice ia1 R.items.length ic1, .int .i64 R.coins] 38))
  have WYA_7 := Lib.hid (WYA_6.out.call ((Below.refl _ _).alloc (Nat.le_refl _) (.cells #[.int .i64 R.err, .int .i64 R.kind, .int .i64 R.room, .slice qa1 R.players.length qc1, .slice ia1 R.items.length ic1, .int .i64 R.coins] 38)))
  have NYA_7 := Lib.hid (NYA_6.out.call ((Below.refl _ _).alloc (Nat.le_refl _) (.cells #[.int .i64 R.err, .int .i64 R.kind, .int .i64 R.room, .slice qa1 R.players.length qc1, .slice ia1 R.items.length ic1, .int .i64 R.coins] 38)))
  have YAr_7 := Lib.hid (Holds.newb (w := w) (A := #[.int .i64 R.err, .int .i64 R.kind, .int .i64 R.room, .slice qa1 R.players.length qc1, .slice ia1 R.items.length ic1, .int .i64 R.coins]) (t := 38) (n := u5.heap.size + 1) B_6.out (by omega))
  clear B_6 H_6 C_6 YA_6 WYA_6 NYA_6
  generalize V6.alloc (.cells #[.int .i64 R.err, .int .i64 R.kind, .int .i64 R.room, .slice qa1 R.players.length qc1, .slice ia1 R.items.length ic1, .int .i64 R.coins] 38) = V7 at *
  clear s6 s7
  have hcH := H_7.out.2.2
  have hlH := H_7.out.2.1
  have hcC := C_7.out.2.2
  have hlC := C_7.out.2.1
  have hcYA := YA_7.out.2.2
  have hlYA := YA_7.out.2.1
  have hcYAr := YAr_7.out.2.2
  have hlYAr := YAr_7.out.2.1
  refine (ado_as SY.out q1 i ⟨10, 0, 0, 0, 0, [], 0, [], 0⟩ none none 0 0 _ RY.out WYA_7.out (by rw [SY.out.at_]; exact hil) (IntsAt.nil _ _) (IntsAt.nil _ _) ((own13 y i).trans (by rw [HHS.out]))).mono ?_
  rintro e u8 ⟨q2, qa2, ia2, qc2, ic2, rfl, g, b8⟩
  clear hcH hlH hcC hlC hcYA hlYA hcYAr hlYAr
  have B_8 := Lib.hid (bl B_7.out b8)
  have H_8 := Lib.hid (H_7.out.call b8)
  have C_8 := Lib.hid (C_7.out.call b8)
  have YA_8 := Lib.hid (YA_7.out.call b8)
  have YAr_8 := Lib.hid (YAr_7.out.call b8)
  have WYA_8 := Lib.hid (WYA_7.out.call b8)
  have NYA_8 := Lib.hid (NYA_7.out.call b8)
  clear b8 B_7 H_7 C_7 YA_7 YAr_7 WYA_7 NYA_7
  have hcH := H_8.out.2.2
  have hlH := H_8.out.2.1
  have hcC := C_8.out.2.2
  have hlC := C_8.out.2.1
  have hcYA := YA_8.out.2.2
  have hlYA := YA_8.out.2.1
  have hcYAr := YAr_8.out.2.2
  have hlYAr := YAr_8.out.2.1
  have WOA_8 := Lib.hid (g.world (WYA_8.out))
  have NOA_8 := Lib.hid g.2
  clear g
  go_wp2_with fail
  clear hcH hlH hcC hlC hcYA hlYA hcYAr hlYAr
  have s9 : (u8.alloc (.cells (wC x q2) 29)).heap.size = u8.heap.size + 1 := by simp
  have B_9 := Lib.hid (B_8.out.alloc B_8.out.size (.cells (wC x q2) 29))
  have H_9 := Lib.hid (H_8.out.alloc (.cells (wC x q2) 29))
  have C_9 := Lib.hid (C_8.out.alloc (.cells (wC x q2) 29))
  have YA_9 := Lib.hid (YA_8.out.alloc (.cells (wC x q2) 29))
  have YAr_9 := Lib.hid (YAr_8.out.alloc (.cells (wC x q2) 29))
  have WYA_9 := Lib.hid (WYA_8.out.call ((Below.refl _ _).alloc (Nat.le_refl _) (.cells (wC x q2) 29)))
  have NYA_9 := Lib.hid (NYA_8.out.call ((Below.refl _ _).alloc (Nat.le_refl _) (.cells (wC x q2) 29)))
  have WOA_9 := Lib.hid (WOA_8.out.call ((Below.refl _ _).alloc (Nat.le_refl _) (.cells (wC x q2) 29)))
  have NOA_9 := Lib.hid (NOA_8.out.call ((Below.refl _ _).alloc (Nat.le_refl _) (.cells (wC x q2) 29)))
  have OA_9 := Lib.hid (Holds.newb (w := w) (A := (wC x q2)) (t := 29) (n := u8.heap.size) B_8.out rfl)
  clear B_8 H_8 C_8 YA_8 YAr_8 WYA_8 NYA_8 WOA_8 NOA_8
  generalize u8.alloc (.cells (wC x q2) 29) = V9 at *
  have s10 : (V9.alloc (.cells #[.int .i64 S.err, .int .i64 S.kind, .int .i64 S.room, .slice qa2 S.players.length qc2, .slice ia2 S.items.length ic2, .int .i64 S.coins] 38)).heap.size = V9.heap.size + 1 := by simp
  have B_10 := Lib.hid (B_9.out.alloc B_9.out.size (.cells #[.int .i64 S.err, .int .i64 S.kind, .int .i64 S.room, .slice qa2 S.players.length qc2, .slice ia2 S.items.length ic2, .int .i64 S.coins] 38))
  have H_10 := Lib.hid (H_9.out.alloc (.cells #[.int .i64 S.err, .int .i64 S.kind, .int .i64 S.room, .slice qa2 S.players.length qc2, .slice ia2 S.items.length ic2, .int .i64 S.coins] 38))
  have C_10 := Lib.hid (C_9.out.alloc (.cells #[.int .i64 S.err, .int .i64 S.kind, .int .i64 S.room, .slice qa2 S.players.length qc2, .slice ia2 S.items.length ic2, .int .i64 S.coins] 38))
  have YA_10 := Lib.hid (YA_9.out.alloc (.cells #[.int .i64 S.err, .int .i64 S.kind, .int .i64 S.room, .slice qa2 S.players.length qc2, .slice ia2 S.items.length ic2, .int .i64 S.coins] 38))
  have YAr_10 := Lib.hid (YAr_9.out.alloc (.cells #[.int .i64 S.err, .int .i64 S.kind, .int .i64 S.room, .slice qa2 S.players.length qc2, .slice ia2 S.items.length ic2, .int .i64 S.coins] 38))
  have OA_10 := Lib.hid (OA_9.out.alloc (.cells #[.int .i64 S.err, .int .i64 S.kind, .int .i64 S.room, .slice qa2 S.players.length qc2, .slice ia2 S.items.length ic2, .int .i64 S.coins] 38))
  have WYA_10 := Lib.hid (WYA_9.out.call ((Below.refl _ _).alloc (Nat.le_refl _) (.cells #[.int .i64 S.err, .int .i64 S.kind, .int .i64 S.room, .slice qa2 S.players.length qc2, .slice ia2 S.items.length ic2, .int .i64 S.coins] 38)))
  have NYA_10 := Lib.hid (NYA_9.out.call ((Below.refl _ _).alloc (Nat.le_refl _) (.cells #[.int .i64 S.err, .int .i64 S.kind, .int .i64 S.room, .slice qa2 S.players.length qc2, .slice ia2 S.items.length ic2, .int .i64 S.coins] 38)))
  have WOA_10 := Lib.hid (WOA_9.out.call ((Below.refl _ _).alloc (Nat.le_refl _) (.cells #[.int .i64 S.err, .int .i64 S.kind, .int .i64 S.room, .slice qa2 S.players.length qc2, .slice ia2 S.items.length ic2, .int .i64 S.coins] 38)))
  have NOA_10 := Lib.hid (NOA_9.out.call ((Below.refl _ _).alloc (Nat.le_refl _) (.cells #[.int .i64 S.err, .int .i64 S.kind, .int .i64 S.room, .slice qa2 S.players.length qc2, .slice ia2 S.items.length ic2, .int .i64 S.coins] 38)))
  have OAr_10 := Lib.hid (Holds.newb (w := w) (A := #[.int .i64 S.err, .int .i64 S.kind, .int .i64 S.room, .slice qa2 S.players.length qc2, .slice ia2 S.items.length ic2, .int .i64 S.coins]) (t := 38) (n := u8.heap.size + 1) B_9.out (by omega))
  clear B_9 H_9 C_9 YA_9 YAr_9 OA_9 WYA_9 NYA_9 WOA_9 NOA_9
  generalize V9.alloc (.cells #[.int .i64 S.err, .int .i64 S.kind, .int .i64 S.room, .slice qa2 S.players.length qc2, .slice ia2 S.items.length ic2, .int .i64 S.coins] 38) = V10 at *
  clear s9 s10
  have hcH := H_10.out.2.2
  have hlH := H_10.out.2.1
  have hcC := C_10.out.2.2
  have hlC := C_10.out.2.1
  have hcYA := YA_10.out.2.2
  have hlYA := YA_10.out.2.1
  have hcYAr := YAr_10.out.2.2
  have hlYAr := YAr_10.out.2.1
  have hcOA := OA_10.out.2.2
  have hlOA := OA_10.out.2.1
  have hcOAr := OAr_10.out.2.2
  have hlOAr := OAr_10.out.2.1
  refine (ado_as SY.out q1 i ⟨9, 0, 0, 0, 0, [], 0, [], 0⟩ none none 0 0 _ RY.out WYA_10.out (by rw [SY.out.at_]; exact hil) (IntsAt.nil _ _) (IntsAt.nil _ _) ((look13 y i).trans (by rw [HHT.out]))).mono ?_
  rintro e u11 ⟨q3, qa3, ia3, qc3, ic3, rfl, g, b11⟩
  clear hcH hlH hcC hlC hcYA hlYA hcYAr hlYAr hcOA hlOA hcOAr hlOAr
  have B_11 := Lib.hid (bl B_10.out b11)
  have H_11 := Lib.hid (H_10.out.call b11)
  have C_11 := Lib.hid (C_10.out.call b11)
  have YA_11 := Lib.hid (YA_10.out.call b11)
  have YAr_11 := Lib.hid (YAr_10.out.call b11)
  have OA_11 := Lib.hid (OA_10.out.call b11)
  have OAr_11 := Lib.hid (OAr_10.out.call b11)
  have WYA_11 := Lib.hid (WYA_10.out.call b11)
  have NYA_11 := Lib.hid (NYA_10.out.call b11)
  have WOA_11 := Lib.hid (WOA_10.out.call b11)
  have NOA_11 := Lib.hid (NOA_10.out.call b11)
  clear b11 B_10 H_10 C_10 YA_10 YAr_10 OA_10 OAr_10 WYA_10 NYA_10 WOA_10 NOA_10
  have hcH := H_11.out.2.2
  have hlH := H_11.out.2.1
  have hcC := C_11.out.2.2
  have hlC := C_11.out.2.1
  have hcYA := YA_11.out.2.2
  have hlYA := YA_11.out.2.1
  have hcYAr := YAr_11.out.2.2
  have hlYAr := YAr_11.out.2.1
  have hcOA := OA_11.out.2.2
  have hlOA := OA_11.out.2.1
  have hcOAr := OAr_11.out.2.2
  have hlOAr := OAr_11.out.2.1
  have NLA_11 := Lib.hid g.2
  clear g
  have hci : 0 ≤ c.item := may_item HMY.out (by have := t3; simp at this; omega)
  have hci2 : ¬ c.item < 0 := by omega
  go_upto_region 27 with fail
  clear hcH hlH hcC hlC hcYA hlYA hcYAr hlYAr hcOA hlOA hcOAr hlOAr
  refine gen_wp (fun V => Below u11.heap.size u11 V ∧ Blk V (u11.heap.size + 1) 38 #[.int .i64 T.err, .int .i64 T.kind, .int .i64 T.room, .slice qa3 T.players.length qc3, .slice ia3 T.items.length ic3, .int .i64 T.coins] ∧ Blk V (u11.heap.size + 1 + 1) 52 #[.int .i64 1, .int .i64 (i : Int)]) ⟨?_, ?_, ?_⟩ (fun VZ hV => ?_)
  · exact (((Below.refl _ _).alloc (Nat.le_refl _) _).alloc (by simp) _).alloc (by simp; omega) _
  · exact (Blk.newn _ _ _ (by simp)).alloc _
  · exact Blk.newn _ _ _ (by simp)
  have HV := Lib.hid hV
  clear hV
  have B_12 := Lib.hid (bl B_11.out HV.out.1)
  have H_12 := Lib.hid (H_11.out.call HV.out.1)
  have C_12 := Lib.hid (C_11.out.call HV.out.1)
  have YA_12 := Lib.hid (YA_11.out.call HV.out.1)
  have YAr_12 := Lib.hid (YAr_11.out.call HV.out.1)
  have OA_12 := Lib.hid (OA_11.out.call HV.out.1)
  have OAr_12 := Lib.hid (OAr_11.out.call HV.out.1)
  have WYA_12 := Lib.hid (WYA_11.out.call HV.out.1)
  have NYA_12 := Lib.hid (NYA_11.out.call HV.out.1)
  have WOA_12 := Lib.hid (WOA_11.out.call HV.out.1)
  have NOA_12 := Lib.hid (NOA_11.out.call HV.out.1)
  have NLA_12 := Lib.hid (NLA_11.out.call HV.out.1)
  have LR_12 := Lib.hid (show Holds w (u11.heap.size + 1) #[.int .i64 T.err, .int .i64 T.kind, .int .i64 T.room, .slice qa3 T.players.length qc3, .slice ia3 T.items.length ic3, .int .i64 T.coins] VZ from ⟨B_12.out, HV.out.2.1.lt, HV.out.2.1.cell⟩)
  have ZZ_12 := Lib.hid (show Holds w (u11.heap.size + 1 + 1) #[.int .i64 1, .int .i64 (i : Int)] VZ from ⟨B_12.out, HV.out.2.2.lt, HV.out.2.2.cell⟩)
  clear HV B_11 H_11 C_11 YA_11 YAr_11 OA_11 OAr_11 WYA_11 NYA_11 WOA_11 NOA_11 NLA_11
  have LS_12 := Lib.hid NOA_12.out.sns
  obtain ⟨L, hL⟩ : ∃ L, S.items = L := ⟨_, rfl⟩
  rw [hL] at LS_12 HS
  try simp only [hL]
  clear hL
  obtain ⟨sw, hsw⟩ : ∃ sw : Sn, sw = ⟨c.item, 1, (i : Int)⟩ := ⟨_, rfl⟩
  rw [← hsw] at HS
  have HSW := Lib.hid hsw
  clear hsw
  have hm63 := LS_12.out.len
  go_wp2_with fail
  go_loopw [17, 18] (fun fv kv wr => ∃ k : Nat, k ≤ L.length ∧ fv = .int .i64 (((L.take k).count sw : Nat) : Int) ∧ kv = .int .i64 k ∧ Below VZ.heap.size VZ wr) (fun _ kv _ => L.length - (intOf kv).toNat)
  case atStart => exact ⟨0, Nat.zero_le _, by simp, rfl, Below.refl _ _⟩
  case round =>
    obtain ⟨k, hk, rfl, rfl, hB⟩ := hrel
    have HB := Lib.hid hB
    clear hB
    obtain ⟨cnt, hcnt⟩ : ∃ n, (L.take k).count sw = n := ⟨_, rfl⟩
    have hcl : cnt ≤ k := by rw [← hcnt]; exact Nat.le_trans List.count_le_length (by simp; omega)
    have HCN := Lib.hid hcnt
    rw [hcnt]
    clear hcnt
    by_cases hlt : k < L.length
    · obtain ⟨gb, go, ha, hgb, hlc⟩ := (LS_12.out.call HB.out).at_ hlt
      obtain ⟨e0, e1, e2⟩ := hlc k hlt
      have HCT := Lib.hid (count_take hlt sw)
      obtain ⟨⟨it, kd, id⟩, hs0⟩ : ∃ s, L[k] = s := ⟨_, rfl⟩
      rw [hs0] at e0 e1 e2 HCT
      simp only at e0 e1 e2
      clear hs0 hlc
      subst ha
      have cw := (ZZ_12.out.call HB.out).2.2
      have hlw := (ZZ_12.out.call HB.out).2.1
      by_cases e : (⟨it, kd, id⟩ : Sn) = sw
      · have hq : ∀ W9, (binOp .eql 54 (.agg #[.int .i64 it, .int .i64 kd, .int .i64 id]) (.agg #[.int .i64 c.item, .int .i64 1, .int .i64 (i : Int)])).run Tryz.prog W9 = .ok (.bool true) W9 := fun W9 => by rw [run_seen_eql, ← HSW.out, e]; simp
        have HT := Lib.hid (show (L.take (k + 1)).count sw = cnt + 1 by rw [HCT.out, HCN.out]; simp [e])
        clear e HCT HCN
        go_wp2_with fail
        refine wp_region_noPanic ?_
        refine wp_region_held_drew (S := (fun w' => w'.cell? ⟨gb, go + k * 3, none⟩ = some (.int .i64 it) ∧ w'.cell? ⟨gb, go + k * 3 + 1, none⟩ = some (.int .i64 kd) ∧ w'.cell? ⟨gb, go + k * 3 + 2, none⟩ = some (.int .i64 id) ∧ (∀ ii, w'.cell? ⟨u11.heap.size + 1 + 1, ii, none⟩ = (#[.int .i64 1, .int .i64 (i : Int)][ii]? : Option Value)))) (by kernel_rfl) (by (first | (exact ⟨e0, e1, e2, cw⟩))) (fun hHeld => ?_)
        iterate 8
          (first | refine tkW 0 (v := ?_) ?_ ?_ | refine tkW 1 (v := ?_) ?_ ?_ | refine tkW 2 (v := ?_) ?_ ?_ | refine tkW 3 (v := ?_) ?_ ?_ | refine tkW 4 (v := ?_) ?_ ?_ | refine tkW 5 (v := ?_) ?_ ?_ | refine tkW 6 (v := ?_) ?_ ?_ | refine tkW 7 (v := ?_) ?_ ?_)
          rotate_left
          · (intro ww hSw; (try dsimp only at hSw); go_simp; (try with_reducible rfl))
          try simp only [Act.put, List.setIfInBounds_toArray, List.set_cons_zero, List.set_cons_succ]
        refine wpAnyH_done (by kernel_rfl) ?_ _
        refine NoPanic.normal ?_
        clear hHeld e0 e1 e2 cw hq
        have HB9 := Lib.hid (bdrew1 HB.out)
        generalize wr.drew = WR at *
        go_wp2_with fail
        go_roundw
        case rel => exact ⟨k + 1, by omega, by rw [HT.out]; try go_num, by go_num, HB9.out⟩
        case measure => simp [intOf]; omega
      · have hq : ∀ W9, (binOp .eql 54 (.agg #[.int .i64 it, .int .i64 kd, .int .i64 id]) (.agg #[.int .i64 c.item, .int .i64 1, .int .i64 (i : Int)])).run Tryz.prog W9 = .ok (.bool false) W9 := fun W9 => by rw [run_seen_eql, ← HSW.out]; simp [e]
        have HT := Lib.hid (show (L.take (k + 1)).count sw = cnt by rw [HCT.out, HCN.out]; simp [e])
        clear e HCT HCN
        go_wp2_with fail
        refine wp_region_noPanic ?_
        refine wp_region_held_drew (S := (fun w' => w'.cell? ⟨gb, go + k * 3, none⟩ = some (.int .i64 it) ∧ w'.cell? ⟨gb, go + k * 3 + 1, none⟩ = some (.int .i64 kd) ∧ w'.cell? ⟨gb, go + k * 3 + 2, none⟩ = some (.int .i64 id) ∧ (∀ ii, w'.cell? ⟨u11.heap.size + 1 + 1, ii, none⟩ = (#[.int .i64 1, .int .i64 (i : Int)][ii]? : Option Value)))) (by kernel_rfl) (by (first | (exact ⟨e0, e1, e2, cw⟩))) (fun hHeld => ?_)
        iterate 8
          (first | refine tkW 0 (v := ?_) ?_ ?_ | refine tkW 1 (v := ?_) ?_ ?_ | refine tkW 2 (v := ?_) ?_ ?_ | refine tkW 3 (v := ?_) ?_ ?_ | refine tkW 4 (v := ?_) ?_ ?_ | refine tkW 5 (v := ?_) ?_ ?_ | refine tkW 6 (v := ?_) ?_ ?_ | refine tkW 7 (v := ?_) ?_ ?_)
          rotate_left
          · (intro ww hSw; (try dsimp only at hSw); go_simp; (try with_reducible rfl))
          try simp only [Act.put, List.setIfInBounds_toArray, List.set_cons_zero, List.set_cons_succ]
        refine wpAnyH_done (by kernel_rfl) ?_ _
        refine NoPanic.normal ?_
        clear hHeld e0 e1 e2 cw hq
        have HB9 := Lib.hid (bdrew1 HB.out)
        generalize wr.drew = WR at *
        go_wp2_with fail
        go_roundw
        case rel => exact ⟨k + 1, by omega, by rw [HT.out]; try go_num, by go_num, HB9.out⟩
        case measure => simp [intOf]; omega
    · obtain rfl : k = L.length := by omega
      obtain rfl : cnt = 1 := by rw [← HCN.out, List.take_length]; exact HS.out
      go_wp2_with fail
      go_ret
      exact ⟨rfl, bl B_12.out HB.out⟩
set_option maxRecDepth 100000 in
set_option maxHeartbeats 4000000 in
theorem atomSees_k6 (x : Wd) (p : Wp) (a i : Nat) (c : Cm) (ga wa : Option Addr) (gc wc : Nat) (haa : a ≤ 255) (hi : a % x.at_.length = i) (w : World) (h : WorldAt w p x) (hg : IntsAt w ga c.gives) (hw : IntsAt w wa c.wants) (hf : fitsB x = true) (hfw : cfewB c = true) (hmy : refMayB c = true) (he : (doW x i c).2.err = 0) (hk : c.kind = 6) : Calls Tryz.prog 6 #[.agg (wC x p), .int .u8 (a : Int), .agg #[.int .i64 c.kind, .int .i64 c.dir, .int .i64 c.item, .int .i64 c.box, .int .i64 c.who, .slice ga c.gives.length gc, .int .i64 c.pay, .slice wa c.wants.length wc, .int .i64 c.fee]] w fun e w' => e = .returned (.bool true) ∧ Below w.heap.size w w' := by
  have r1 := run_tmod7 a x.at_.length
  have m1 := run_mod7 a x.at_.length
  rw [hi] at r1 m1
  have FT := Lib.hid (fits_fit hf)
  have hlp : 0 < x.at_.length := (right_lens FT.out.right).1
  have hne : ¬ x.at_ = [] := List.length_pos_iff.1 hlp
  have hil : i < x.at_.length := by rw [← hi]; exact Nat.mod_lt _ hlp
  have hlen6 := (right_lens FT.out.right).2.1
  obtain ⟨⟨y, R⟩, hR⟩ : ∃ R, doW x i c = R := ⟨_, rfl⟩
  have HR := Lib.hid hR
  have SY := Lib.hid (show Shape x y by have := do_shape x i c; rwa [hR] at this)
  have RY := Lib.hid (show rightW y = true by have := do_right FT.out.right hil c; rwa [hR] at this)
  rw [hR] at he
  simp only at he
  have hne1 : (R.err != 0) = false := by simp [he]
  have HS := Lib.hid (sees6 FT.out.right hmy hR he hk)
  have t1 : (c.kind == 1) = false := by rw [hk]; rfl
  have t3 : (c.kind == 3) = false := by rw [hk]; rfl
  have t6 : (c.kind == 6) = true := by rw [hk]; rfl
  obtain ⟨S, hS⟩ : ∃ S, haveR y i = S := ⟨_, rfl⟩
  obtain ⟨T, hT⟩ : ∃ T, lookR y i = T := ⟨_, rfl⟩
  have HHS := Lib.hid hS
  have HHT := Lib.hid hT
  rw [hS] at HS
  clear he hS hT hk
  clear hi hlp hR
  have HF := Lib.hid hf
  have HWA := Lib.hid h
  clear hf h
  have HG := Lib.hid hg
  have HW := Lib.hid hw
  clear hg hw
  have HFW := Lib.hid hfw
  clear hfw
  have HMY := Lib.hid hmy
  clear hmy
  have HP0 := Lib.hid (Holds.pair w (wC x p) #[.int .i64 c.kind, .int .i64 c.dir, .int .i64 c.item, .int .i64 c.box, .int .i64 c.who, .slice ga c.gives.length gc, .int .i64 c.pay, .slice wa c.wants.length wc, .int .i64 c.fee] 29 31)
  have hWC := @wC.eq_1
  go_enter Tryz.func6, Tryz.ntmps6
  go_wp2_with fail
  generalize (w.alloc (.cells (wC x p) 29)).alloc (.cells #[.int .i64 c.kind, .int .i64 c.dir, .int .i64 c.item, .int .i64 c.box, .int .i64 c.who, .slice ga c.gives.length gc, .int .i64 c.pay, .slice wa c.wants.length wc, .int .i64 c.fee] 31) = V0 at *
  have H_0 := Lib.hid HP0.out.1
  have C_0 := Lib.hid HP0.out.2
  have B_0 := Lib.hid H_0.out.1
  clear HP0
  refine (awake13_any _).mono ?_
  rintro e u1 ⟨rfl, b1⟩
  have B_1 := Lib.hid (bl B_0.out b1)
  have H_1 := Lib.hid (H_0.out.call b1)
  have C_1 := Lib.hid (C_0.out.call b1)
  clear b1 B_0 H_0 C_0
  have hcH := H_1.out.2.2
  have hlH := H_1.out.2.1
  have hcC := C_1.out.2.2
  have hlC := C_1.out.2.1
  go_wp2_with fail
  refine (fits13_any x p _ (HWA.out.below B_1.out (Nat.le_refl _))).mono ?_
  rintro e u2 ⟨rfl, b2⟩
  rw [HF.out]
  clear hcH hlH hcC hlC
  have B_2 := Lib.hid (bl B_1.out b2)
  have H_2 := Lib.hid (H_1.out.call b2)
  have C_2 := Lib.hid (C_1.out.call b2)
  clear b2 B_1 H_1 C_1
  have hcH := H_2.out.2.2
  have hlH := H_2.out.2.1
  have hcC := C_2.out.2.2
  have hlC := C_2.out.2.1
  go_wp2_with fail
  refine (cfew_any c ga wa gc wc _ (HG.out.below B_2.out (Nat.le_refl _)) (HW.out.below B_2.out (Nat.le_refl _))).mono ?_
  rintro e u3 ⟨rfl, b3⟩
  rw [HFW.out]
  clear hcH hlH hcC hlC
  have B_3 := Lib.hid (bl B_2.out b3)
  have H_3 := Lib.hid (H_2.out.call b3)
  have C_3 := Lib.hid (C_2.out.call b3)
  clear b3 B_2 H_2 C_2
  have hcH := H_3.out.2.2
  have hlH := H_3.out.2.1
  have hcC := C_3.out.2.2
  have hlC := C_3.out.2.1
  go_wp2_with fail
  refine (rcmay_any c ga wa gc wc _ (HG.out.below B_3.out (Nat.le_refl _)) (HW.out.below B_3.out (Nat.le_refl _))).mono ?_
  rintro e u4 ⟨rfl, b4⟩
  rw [HMY.out]
  clear hcH hlH hcC hlC
  have B_4 := Lib.hid (bl B_3.out b4)
  have H_4 := Lib.hid (H_3.out.call b4)
  have C_4 := Lib.hid (C_3.out.call b4)
  clear b4 B_3 H_3 C_3
  have hcH := H_4.out.2.2
  have hlH := H_4.out.2.1
  have hcC := C_4.out.2.2
  have hlC := C_4.out.2.1
  go_wp2_with fail
  refine (ado_as (Shape.refl x) p i c ga wa gc wc _ FT.out.right (HWA.out.below B_4.out (Nat.le_refl _)) hil (HG.out.below B_4.out (Nat.le_refl _)) (HW.out.below B_4.out (Nat.le_refl _)) HR.out).mono ?_
  rintro e u5 ⟨q1, qa1, ia1, qc1, ic1, rfl, g, b5⟩
  clear hcH hlH hcC hlC
  have B_5 := Lib.hid (bl B_4.out b5)
  have H_5 := Lib.hid (H_4.out.call b5)
  have C_5 := Lib.hid (C_4.out.call b5)
  clear b5 B_4 H_4 C_4
  have hcH := H_5.out.2.2
  have hlH := H_5.out.2.1
  have hcC := C_5.out.2.2
  have hlC := C_5.out.2.1
  have WYA_5 := Lib.hid (g.world (HWA.out.below B_5.out (Nat.le_refl _)))
  have NYA_5 := Lib.hid g.2
  clear g
  go_wp2_with fail
  clear hcH hlH hcC hlC
  have s6 : (u5.alloc (.cells (wC x q1) 29)).heap.size = u5.heap.size + 1 := by simp
  have B_6 := Lib.hid (B_5.out.alloc B_5.out.size (.cells (wC x q1) 29))
  have H_6 := Lib.hid (H_5.out.alloc (.cells (wC x q1) 29))
  have C_6 := Lib.hid (C_5.out.alloc (.cells (wC x q1) 29))
  have WYA_6 := Lib.hid (WYA_5.out.call ((Below.refl _ _).alloc (Nat.le_refl _) (.cells (wC x q1) 29)))
  have NYA_6 := Lib.hid (NYA_5.out.call ((Below.refl _ _).alloc (Nat.le_refl _) (.cells (wC x q1) 29)))
  have YA_6 := Lib.hid (Holds.newb (w := w) (A := (wC x q1)) (t := 29) (n := u5.heap.size) B_5.out rfl)
  clear B_5 H_5 C_5 WYA_5 NYA_5
  generalize u5.alloc (.cells (wC x q1) 29) = V6 at *
  have s7 : (V6.alloc (.cells #[.int .i64 R.err, .int .i64 R.kind, .int .i64 R.room, .slice qa1 R.players.length qc1, .slice ia1 R.items.length ic1, .int .i64 R.coins] 38)).heap.size = V6.heap.size + 1 := by simp
  have B_7 := Lib.hid (B_6.out.alloc B_6.out.size (.cells #[.int .i64 R.err, .int .i64 R.kind, .int .i64 R.room, .slice qa1 R.players.length qc1, .slice ia1 R.items.length ic1, .int .i64 R.coins] 38))
  have H_7 := Lib.hid (H_6.out.alloc (.cells #[.int .i64 R.err, .int .i64 R.kind, .int .i64 R.room, .slice qa1 R.players.length qc1, .slice ia1 R.items.length ic1, .int .i64 R.coins] 38))
  have C_7 := Lib.hid (C_6.out.alloc (.cells #[.int .i64 R.err, .int .i64 R.kind, .int .i64 R.room, .slice qa1 R.players.length qc1, .slice ia1 R.items.length ic1, .int .i64 R.coins] 38))
  have YA_7 := Lib.hid (YA_6.out.alloc (.cells #[.int .i64 R.err, .int .i64 R.kind, .int .i64 R.room, .slice qa1 R.players.length qc1, .slice ia1 R.items.length ic1, .int .i64 R.coins] 38))
  have WYA_7 := Lib.hid (WYA_6.out.call ((Below.refl _ _).alloc (Nat.le_refl _) (.cells #[.int .i64 R.err, .int .i64 R.kind, .int .i64 R.room, .slice qa1 R.players.length qc1, .slice ia1 R.items.length ic1, .int .i64 R.coins] 38)))
  have NYA_7 := Lib.hid (NYA_6.out.call ((Below.refl _ _).alloc (Nat.le_refl _) (.cells #[.int .i64 R.err, .int .i64 R.kind, .int .i64 R.room, .slice qa1 R.players.length qc1, .slice ia1 R.items.length ic1, .int .i64 R.coins] 38)))
  have YAr_7 := Lib.hid (Holds.newb (w := w) (A := #[.int .i64 R.err, .int .i64 R.kind, .int .i64 R.room, .slice qa1 R.players.length qc1, .slice ia1 R.items.length ic1, .int .i64 R.coins]) (t := 38) (n := u5.heap.size + 1) B_6.out (by omega))
  clear B_6 H_6 C_6 YA_6 WYA_6 NYA_6
  generalize V6.alloc (.cells #[.int .i64 R.err, .int .i64 R.kind, .int .i64 R.room, .slice qa1 R.players.length qc1, .slice ia1 R.items.length ic1, .int .i64 R.coins] 38) = V7 at *
  clear s6 s7
  have hcH := H_7.out.2.2
  have hlH := H_7.out.2.1
  have hcC := C_7.out.2.2
  have hlC := C_7.out.2.1
  have hcYA := YA_7.out.2.2
  have hlYA := YA_7.out.2.1
  have hcYAr := YAr_7.out.2.2
  have hlYAr := YAr_7.out.2.1
  refine (ado_as SY.out q1 i ⟨10, 0, 0, 0, 0, [], 0, [], 0⟩ none none 0 0 _ RY.out WYA_7.out (by rw [SY.out.at_]; exact hil) (IntsAt.nil _ _) (IntsAt.nil _ _) ((own13 y i).trans (by rw [HHS.out]))).mono ?_
  rintro e u8 ⟨q2, qa2, ia2, qc2, ic2, rfl, g, b8⟩
  clear hcH hlH hcC hlC hcYA hlYA hcYAr hlYAr
  have B_8 := Lib.hid (bl B_7.out b8)
  have H_8 := Lib.hid (H_7.out.call b8)
  have C_8 := Lib.hid (C_7.out.call b8)
  have YA_8 := Lib.hid (YA_7.out.call b8)
  have YAr_8 := Lib.hid (YAr_7.out.call b8)
  have WYA_8 := Lib.hid (WYA_7.out.call b8)
  have NYA_8 := Lib.hid (NYA_7.out.call b8)
  clear b8 B_7 H_7 C_7 YA_7 YAr_7 WYA_7 NYA_7
  have hcH := H_8.out.2.2
  have hlH := H_8.out.2.1
  have hcC := C_8.out.2.2
  have hlC := C_8.out.2.1
  have hcYA := YA_8.out.2.2
  have hlYA := YA_8.out.2.1
  have hcYAr := YAr_8.out.2.2
  have hlYAr := YAr_8.out.2.1
  have WOA_8 := Lib.hid (g.world (WYA_8.out))
  have NOA_8 := Lib.hid g.2
  clear g
  go_wp2_with fail
  clear hcH hlH hcC hlC hcYA hlYA hcYAr hlYAr
  have s9 : (u8.alloc (.cells (wC x q2) 29)).heap.size = u8.heap.size + 1 := by simp
  have B_9 := Lib.hid (B_8.out.alloc B_8.out.size (.cells (wC x q2) 29))
  have H_9 := Lib.hid (H_8.out.alloc (.cells (wC x q2) 29))
  have C_9 := Lib.hid (C_8.out.alloc (.cells (wC x q2) 29))
  have YA_9 := Lib.hid (YA_8.out.alloc (.cells (wC x q2) 29))
  have YAr_9 := Lib.hid (YAr_8.out.alloc (.cells (wC x q2) 29))
  have WYA_9 := Lib.hid (WYA_8.out.call ((Below.refl _ _).alloc (Nat.le_refl _) (.cells (wC x q2) 29)))
  have NYA_9 := Lib.hid (NYA_8.out.call ((Below.refl _ _).alloc (Nat.le_refl _) (.cells (wC x q2) 29)))
  have WOA_9 := Lib.hid (WOA_8.out.call ((Below.refl _ _).alloc (Nat.le_refl _) (.cells (wC x q2) 29)))
  have NOA_9 := Lib.hid (NOA_8.out.call ((Below.refl _ _).alloc (Nat.le_refl _) (.cells (wC x q2) 29)))
  have OA_9 := Lib.hid (Holds.newb (w := w) (A := (wC x q2)) (t := 29) (n := u8.heap.size) B_8.out rfl)
  clear B_8 H_8 C_8 YA_8 YAr_8 WYA_8 NYA_8 WOA_8 NOA_8
  generalize u8.alloc (.cells (wC x q2) 29) = V9 at *
  have s10 : (V9.alloc (.cells #[.int .i64 S.err, .int .i64 S.kind, .int .i64 S.room, .slice qa2 S.players.length qc2, .slice ia2 S.items.length ic2, .int .i64 S.coins] 38)).heap.size = V9.heap.size + 1 := by simp
  have B_10 := Lib.hid (B_9.out.alloc B_9.out.size (.cells #[.int .i64 S.err, .int .i64 S.kind, .int .i64 S.room, .slice qa2 S.players.length qc2, .slice ia2 S.items.length ic2, .int .i64 S.coins] 38))
  have H_10 := Lib.hid (H_9.out.alloc (.cells #[.int .i64 S.err, .int .i64 S.kind, .int .i64 S.room, .slice qa2 S.players.length qc2, .slice ia2 S.items.length ic2, .int .i64 S.coins] 38))
  have C_10 := Lib.hid (C_9.out.alloc (.cells #[.int .i64 S.err, .int .i64 S.kind, .int .i64 S.room, .slice qa2 S.players.length qc2, .slice ia2 S.items.length ic2, .int .i64 S.coins] 38))
  have YA_10 := Lib.hid (YA_9.out.alloc (.cells #[.int .i64 S.err, .int .i64 S.kind, .int .i64 S.room, .slice qa2 S.players.length qc2, .slice ia2 S.items.length ic2, .int .i64 S.coins] 38))
  have YAr_10 := Lib.hid (YAr_9.out.alloc (.cells #[.int .i64 S.err, .int .i64 S.kind, .int .i64 S.room, .slice qa2 S.players.length qc2, .slice ia2 S.items.length ic2, .int .i64 S.coins] 38))
  have OA_10 := Lib.hid (OA_9.out.alloc (.cells #[.int .i64 S.err, .int .i64 S.kind, .int .i64 S.room, .slice qa2 S.players.length qc2, .slice ia2 S.items.length ic2, .int .i64 S.coins] 38))
  have WYA_10 := Lib.hid (WYA_9.out.call ((Below.refl _ _).alloc (Nat.le_refl _) (.cells #[.int .i64 S.err, .int .i64 S.kind, .int .i64 S.room, .slice qa2 S.players.length qc2, .slice ia2 S.items.length ic2, .int .i64 S.coins] 38)))
  have NYA_10 := Lib.hid (NYA_9.out.call ((Below.refl _ _).alloc (Nat.le_refl _) (.cells #[.int .i64 S.err, .int .i64 S.kind, .int .i64 S.room, .slice qa2 S.players.length qc2, .slice ia2 S.items.length ic2, .int .i64 S.coins] 38)))
  have WOA_10 := Lib.hid (WOA_9.out.call ((Below.refl _ _).alloc (Nat.le_refl _) (.cells #[.int .i64 S.err, .int .i64 S.kind, .int .i64 S.room, .slice qa2 S.players.length qc2, .slice ia2 S.items.length ic2, .int .i64 S.coins] 38)))
  have NOA_10 := Lib.hid (NOA_9.out.call ((Below.refl _ _).alloc (Nat.le_refl _) (.cells #[.int .i64 S.err, .int .i64 S.kind, .int .i64 S.room, .slice qa2 S.players.length qc2, .slice ia2 S.items.length ic2, .int .i64 S.coins] 38)))
  have OAr_10 := Lib.hid (Holds.newb (w := w) (A := #[.int .i64 S.err, .int .i64 S.kind, .int .i64 S.room, .slice qa2 S.players.length qc2, .slice ia2 S.items.length ic2, .int .i64 S.coins]) (t := 38) (n := u8.heap.size + 1) B_9.out (by omega))
  clear B_9 H_9 C_9 YA_9 YAr_9 OA_9 WYA_9 NYA_9 WOA_9 NOA_9
  generalize V9.alloc (.cells #[.int .i64 S.err, .int .i64 S.kind, .int .i64 S.room, .slice qa2 S.players.length qc2, .slice ia2 S.items.length ic2, .int .i64 S.coins] 38) = V10 at *
  clear s9 s10
  have hcH := H_10.out.2.2
  have hlH := H_10.out.2.1
  have hcC := C_10.out.2.2
  have hlC := C_10.out.2.1
  have hcYA := YA_10.out.2.2
  have hlYA := YA_10.out.2.1
  have hcYAr := YAr_10.out.2.2
  have hlYAr := YAr_10.out.2.1
  have hcOA := OA_10.out.2.2
  have hlOA := OA_10.out.2.1
  have hcOAr := OAr_10.out.2.2
  have hlOAr := OAr_10.out.2.1
  refine (ado_as SY.out q1 i ⟨9, 0, 0, 0, 0, [], 0, [], 0⟩ none none 0 0 _ RY.out WYA_10.out (by rw [SY.out.at_]; exact hil) (IntsAt.nil _ _) (IntsAt.nil _ _) ((look13 y i).trans (by rw [HHT.out]))).mono ?_
  rintro e u11 ⟨q3, qa3, ia3, qc3, ic3, rfl, g, b11⟩
  clear hcH hlH hcC hlC hcYA hlYA hcYAr hlYAr hcOA hlOA hcOAr hlOAr
  have B_11 := Lib.hid (bl B_10.out b11)
  have H_11 := Lib.hid (H_10.out.call b11)
  have C_11 := Lib.hid (C_10.out.call b11)
  have YA_11 := Lib.hid (YA_10.out.call b11)
  have YAr_11 := Lib.hid (YAr_10.out.call b11)
  have OA_11 := Lib.hid (OA_10.out.call b11)
  have OAr_11 := Lib.hid (OAr_10.out.call b11)
  have WYA_11 := Lib.hid (WYA_10.out.call b11)
  have NYA_11 := Lib.hid (NYA_10.out.call b11)
  have WOA_11 := Lib.hid (WOA_10.out.call b11)
  have NOA_11 := Lib.hid (NOA_10.out.call b11)
  clear b11 B_10 H_10 C_10 YA_10 YAr_10 OA_10 OAr_10 WYA_10 NYA_10 WOA_10 NOA_10
  have hcH := H_11.out.2.2
  have hlH := H_11.out.2.1
  have hcC := C_11.out.2.2
  have hlC := C_11.out.2.1
  have hcYA := YA_11.out.2.2
  have hlYA := YA_11.out.2.1
  have hcYAr := YAr_11.out.2.2
  have hlYAr := YAr_11.out.2.1
  have hcOA := OA_11.out.2.2
  have hlOA := OA_11.out.2.1
  have hcOAr := OAr_11.out.2.2
  have hlOAr := OAr_11.out.2.1
  have NLA_11 := Lib.hid g.2
  clear g
  have hci : 0 ≤ c.item := may_item HMY.out (by have := t6; simp at this; omega)
  have hci2 : ¬ c.item < 0 := by omega
  go_upto_region 27 with fail
  clear hcH hlH hcC hlC hcYA hlYA hcYAr hlYAr hcOA hlOA hcOAr hlOAr
  refine gen_wp (fun V => Below u11.heap.size u11 V ∧ Blk V (u11.heap.size + 1) 38 #[.int .i64 T.err, .int .i64 T.kind, .int .i64 T.room, .slice qa3 T.players.length qc3, .slice ia3 T.items.length ic3, .int .i64 T.coins] ∧ Blk V (u11.heap.size + 1 + 1) 52 #[.int .i64 1, .int .i64 (i : Int)]) ⟨?_, ?_, ?_⟩ (fun VZ hV => ?_)
  · exact (((Below.refl _ _).alloc (Nat.le_refl _) _).alloc (by simp) _).alloc (by simp; omega) _
  · exact (Blk.newn _ _ _ (by simp)).alloc _
  · exact Blk.newn _ _ _ (by simp)
  have HV := Lib.hid hV
  clear hV
  have B_12 := Lib.hid (bl B_11.out HV.out.1)
  have H_12 := Lib.hid (H_11.out.call HV.out.1)
  have C_12 := Lib.hid (C_11.out.call HV.out.1)
  have YA_12 := Lib.hid (YA_11.out.call HV.out.1)
  have YAr_12 := Lib.hid (YAr_11.out.call HV.out.1)
  have OA_12 := Lib.hid (OA_11.out.call HV.out.1)
  have OAr_12 := Lib.hid (OAr_11.out.call HV.out.1)
  have WYA_12 := Lib.hid (WYA_11.out.call HV.out.1)
  have NYA_12 := Lib.hid (NYA_11.out.call HV.out.1)
  have WOA_12 := Lib.hid (WOA_11.out.call HV.out.1)
  have NOA_12 := Lib.hid (NOA_11.out.call HV.out.1)
  have NLA_12 := Lib.hid (NLA_11.out.call HV.out.1)
  have LR_12 := Lib.hid (show Holds w (u11.heap.size + 1) #[.int .i64 T.err, .int .i64 T.kind, .int .i64 T.room, .slice qa3 T.players.length qc3, .slice ia3 T.items.length ic3, .int .i64 T.coins] VZ from ⟨B_12.out, HV.out.2.1.lt, HV.out.2.1.cell⟩)
  have ZZ_12 := Lib.hid (show Holds w (u11.heap.size + 1 + 1) #[.int .i64 1, .int .i64 (i : Int)] VZ from ⟨B_12.out, HV.out.2.2.lt, HV.out.2.2.cell⟩)
  clear HV B_11 H_11 C_11 YA_11 YAr_11 OA_11 OAr_11 WYA_11 NYA_11 WOA_11 NOA_11 NLA_11
  have LS_12 := Lib.hid NOA_12.out.sns
  obtain ⟨L, hL⟩ : ∃ L, S.items = L := ⟨_, rfl⟩
  rw [hL] at LS_12 HS
  try simp only [hL]
  clear hL
  obtain ⟨sw, hsw⟩ : ∃ sw : Sn, sw = ⟨c.item, 1, (i : Int)⟩ := ⟨_, rfl⟩
  rw [← hsw] at HS
  have HSW := Lib.hid hsw
  clear hsw
  have hm63 := LS_12.out.len
  go_wp2_with fail
  go_loopw [17, 18] (fun fv kv wr => ∃ k : Nat, k ≤ L.length ∧ fv = .int .i64 (((L.take k).count sw : Nat) : Int) ∧ kv = .int .i64 k ∧ Below VZ.heap.size VZ wr) (fun _ kv _ => L.length - (intOf kv).toNat)
  case atStart => exact ⟨0, Nat.zero_le _, by simp, rfl, Below.refl _ _⟩
  case round =>
    obtain ⟨k, hk, rfl, rfl, hB⟩ := hrel
    have HB := Lib.hid hB
    clear hB
    obtain ⟨cnt, hcnt⟩ : ∃ n, (L.take k).count sw = n := ⟨_, rfl⟩
    have hcl : cnt ≤ k := by rw [← hcnt]; exact Nat.le_trans List.count_le_length (by simp; omega)
    have HCN := Lib.hid hcnt
    rw [hcnt]
    clear hcnt
    by_cases hlt : k < L.length
    · obtain ⟨gb, go, ha, hgb, hlc⟩ := (LS_12.out.call HB.out).at_ hlt
      obtain ⟨e0, e1, e2⟩ := hlc k hlt
      have HCT := Lib.hid (count_take hlt sw)
      obtain ⟨⟨it, kd, id⟩, hs0⟩ : ∃ s, L[k] = s := ⟨_, rfl⟩
      rw [hs0] at e0 e1 e2 HCT
      simp only at e0 e1 e2
      clear hs0 hlc
      subst ha
      have cw := (ZZ_12.out.call HB.out).2.2
      have hlw := (ZZ_12.out.call HB.out).2.1
      by_cases e : (⟨it, kd, id⟩ : Sn) = sw
      · have hq : ∀ W9, (binOp .eql 54 (.agg #[.int .i64 it, .int .i64 kd, .int .i64 id]) (.agg #[.int .i64 c.item, .int .i64 1, .int .i64 (i : Int)])).run Tryz.prog W9 = .ok (.bool true) W9 := fun W9 => by rw [run_seen_eql, ← HSW.out, e]; simp
        have HT := Lib.hid (show (L.take (k + 1)).count sw = cnt + 1 by rw [HCT.out, HCN.out]; simp [e])
        clear e HCT HCN
        go_wp2_with fail
        refine wp_region_noPanic ?_
        refine wp_region_held_drew (S := (fun w' => w'.cell? ⟨gb, go + k * 3, none⟩ = some (.int .i64 it) ∧ w'.cell? ⟨gb, go + k * 3 + 1, none⟩ = some (.int .i64 kd) ∧ w'.cell? ⟨gb, go + k * 3 + 2, none⟩ = some (.int .i64 id) ∧ (∀ ii, w'.cell? ⟨u11.heap.size + 1 + 1, ii, none⟩ = (#[.int .i64 1, .int .i64 (i : Int)][ii]? : Option Value)))) (by kernel_rfl) (by (first | (exact ⟨e0, e1, e2, cw⟩))) (fun hHeld => ?_)
        iterate 8
          (first | refine tkW 0 (v := ?_) ?_ ?_ | refine tkW 1 (v := ?_) ?_ ?_ | refine tkW 2 (v := ?_) ?_ ?_ | refine tkW 3 (v := ?_) ?_ ?_ | refine tkW 4 (v := ?_) ?_ ?_ | refine tkW 5 (v := ?_) ?_ ?_ | refine tkW 6 (v := ?_) ?_ ?_ | refine tkW 7 (v := ?_) ?_ ?_)
          rotate_left
          · (intro ww hSw; (try dsimp only at hSw); go_simp; (try with_reducible rfl))
          try simp only [Act.put, List.setIfInBounds_toArray, List.set_cons_zero, List.set_cons_succ]
        refine wpAnyH_done (by kernel_rfl) ?_ _
        refine NoPanic.normal ?_
        clear hHeld e0 e1 e2 cw hq
        have HB9 := Lib.hid (bdrew1 HB.out)
        generalize wr.drew = WR at *
        go_wp2_with fail
        go_roundw
        case rel => exact ⟨k + 1, by omega, by rw [HT.out]; try go_num, by go_num, HB9.out⟩
        case measure => simp [intOf]; omega
      · have hq : ∀ W9, (binOp .eql 54 (.agg #[.int .i64 it, .int .i64 kd, .int .i64 id]) (.agg #[.int .i64 c.item, .int .i64 1, .int .i64 (i : Int)])).run Tryz.prog W9 = .ok (.bool false) W9 := fun W9 => by rw [run_seen_eql, ← HSW.out]; simp [e]
        have HT := Lib.hid (show (L.take (k + 1)).count sw = cnt by rw [HCT.out, HCN.out]; simp [e])
        clear e HCT HCN
        go_wp2_with fail
        refine wp_region_noPanic ?_
        refine wp_region_held_drew (S := (fun w' => w'.cell? ⟨gb, go + k * 3, none⟩ = some (.int .i64 it) ∧ w'.cell? ⟨gb, go + k * 3 + 1, none⟩ = some (.int .i64 kd) ∧ w'.cell? ⟨gb, go + k * 3 + 2, none⟩ = some (.int .i64 id) ∧ (∀ ii, w'.cell? ⟨u11.heap.size + 1 + 1, ii, none⟩ = (#[.int .i64 1, .int .i64 (i : Int)][ii]? : Option Value)))) (by kernel_rfl) (by (first | (exact ⟨e0, e1, e2, cw⟩))) (fun hHeld => ?_)
        iterate 8
          (first | refine tkW 0 (v := ?_) ?_ ?_ | refine tkW 1 (v := ?_) ?_ ?_ | refine tkW 2 (v := ?_) ?_ ?_ | refine tkW 3 (v := ?_) ?_ ?_ | refine tkW 4 (v := ?_) ?_ ?_ | refine tkW 5 (v := ?_) ?_ ?_ | refine tkW 6 (v := ?_) ?_ ?_ | refine tkW 7 (v := ?_) ?_ ?_)
          rotate_left
          · (intro ww hSw; (try dsimp only at hSw); go_simp; (try with_reducible rfl))
          try simp only [Act.put, List.setIfInBounds_toArray, List.set_cons_zero, List.set_cons_succ]
        refine wpAnyH_done (by kernel_rfl) ?_ _
        refine NoPanic.normal ?_
        clear hHeld e0 e1 e2 cw hq
        have HB9 := Lib.hid (bdrew1 HB.out)
        generalize wr.drew = WR at *
        go_wp2_with fail
        go_roundw
        case rel => exact ⟨k + 1, by omega, by rw [HT.out]; try go_num, by go_num, HB9.out⟩
        case measure => simp [intOf]; omega
    · obtain rfl : k = L.length := by omega
      obtain rfl : cnt = 1 := by rw [← HCN.out, List.take_length]; exact HS.out
      go_wp2_with fail
      go_ret
      exact ⟨rfl, bl B_12.out HB.out⟩
set_option maxRecDepth 100000 in
set_option maxHeartbeats 4000000 in
theorem atomSees_k4 (x : Wd) (p : Wp) (a i : Nat) (c : Cm) (ga wa : Option Addr) (gc wc : Nat) (haa : a ≤ 255) (hi : a % x.at_.length = i) (w : World) (h : WorldAt w p x) (hg : IntsAt w ga c.gives) (hw : IntsAt w wa c.wants) (hf : fitsB x = true) (hfw : cfewB c = true) (hmy : refMayB c = true) (he : (doW x i c).2.err = 0) (hk : c.kind = 4) : Calls Tryz.prog 6 #[.agg (wC x p), .int .u8 (a : Int), .agg #[.int .i64 c.kind, .int .i64 c.dir, .int .i64 c.item, .int .i64 c.box, .int .i64 c.who, .slice ga c.gives.length gc, .int .i64 c.pay, .slice wa c.wants.length wc, .int .i64 c.fee]] w fun e w' => e = .returned (.bool true) ∧ Below w.heap.size w w' := by
  have r1 := run_tmod7 a x.at_.length
  have m1 := run_mod7 a x.at_.length
  rw [hi] at r1 m1
  have FT := Lib.hid (fits_fit hf)
  have hlp : 0 < x.at_.length := (right_lens FT.out.right).1
  have hne : ¬ x.at_ = [] := List.length_pos_iff.1 hlp
  have hil : i < x.at_.length := by rw [← hi]; exact Nat.mod_lt _ hlp
  have hlen6 := (right_lens FT.out.right).2.1
  obtain ⟨⟨y, R⟩, hR⟩ : ∃ R, doW x i c = R := ⟨_, rfl⟩
  have HR := Lib.hid hR
  have SY := Lib.hid (show Shape x y by have := do_shape x i c; rwa [hR] at this)
  have RY := Lib.hid (show rightW y = true by have := do_right FT.out.right hil c; rwa [hR] at this)
  rw [hR] at he
  simp only at he
  have hne1 : (R.err != 0) = false := by simp [he]
  have HS := Lib.hid (sees4 hmy hR he hk)
  have t1 : (c.kind == 1) = false := by rw [hk]; rfl
  have t3 : (c.kind == 3) = false := by rw [hk]; rfl
  have t6 : (c.kind == 6) = false := by rw [hk]; rfl
  have t4 : (c.kind == 4) = true := by rw [hk]; rfl
  obtain ⟨S, hS⟩ : ∃ S, haveR y i = S := ⟨_, rfl⟩
  obtain ⟨T, hT⟩ : ∃ T, lookR y i = T := ⟨_, rfl⟩
  have HHS := Lib.hid hS
  have HHT := Lib.hid hT
  rw [hT] at HS
  clear he hS hT hk
  clear hi hlp hR
  have HF := Lib.hid hf
  have HWA := Lib.hid h
  clear hf h
  have HG := Lib.hid hg
  have HW := Lib.hid hw
  clear hg hw
  have HFW := Lib.hid hfw
  clear hfw
  have HMY := Lib.hid hmy
  clear hmy
  have HP0 := Lib.hid (Holds.pair w (wC x p) #[.int .i64 c.kind, .int .i64 c.dir, .int .i64 c.item, .int .i64 c.box, .int .i64 c.who, .slice ga c.gives.length gc, .int .i64 c.pay, .slice wa c.wants.length wc, .int .i64 c.fee] 29 31)
  have hWC := @wC.eq_1
  go_enter Tryz.func6, Tryz.ntmps6
  go_wp2_with fail
  generalize (w.alloc (.cells (wC x p) 29)).alloc (.cells #[.int .i64 c.kind, .int .i64 c.dir, .int .i64 c.item, .int .i64 c.box, .int .i64 c.who, .slice ga c.gives.length gc, .int .i64 c.pay, .slice wa c.wants.length wc, .int .i64 c.fee] 31) = V0 at *
  have H_0 := Lib.hid HP0.out.1
  have C_0 := Lib.hid HP0.out.2
  have B_0 := Lib.hid H_0.out.1
  clear HP0
  refine (awake13_any _).mono ?_
  rintro e u1 ⟨rfl, b1⟩
  have B_1 := Lib.hid (bl B_0.out b1)
  have H_1 := Lib.hid (H_0.out.call b1)
  have C_1 := Lib.hid (C_0.out.call b1)
  clear b1 B_0 H_0 C_0
  have hcH := H_1.out.2.2
  have hlH := H_1.out.2.1
  have hcC := C_1.out.2.2
  have hlC := C_1.out.2.1
  go_wp2_with fail
  refine (fits13_any x p _ (HWA.out.below B_1.out (Nat.le_refl _))).mono ?_
  rintro e u2 ⟨rfl, b2⟩
  rw [HF.out]
  clear hcH hlH hcC hlC
  have B_2 := Lib.hid (bl B_1.out b2)
  have H_2 := Lib.hid (H_1.out.call b2)
  have C_2 := Lib.hid (C_1.out.call b2)
  clear b2 B_1 H_1 C_1
  have hcH := H_2.out.2.2
  have hlH := H_2.out.2.1
  have hcC := C_2.out.2.2
  have hlC := C_2.out.2.1
  go_wp2_with fail
  refine (cfew_any c ga wa gc wc _ (HG.out.below B_2.out (Nat.le_refl _)) (HW.out.below B_2.out (Nat.le_refl _))).mono ?_
  rintro e u3 ⟨rfl, b3⟩
  rw [HFW.out]
  clear hcH hlH hcC hlC
  have B_3 := Lib.hid (bl B_2.out b3)
  have H_3 := Lib.hid (H_2.out.call b3)
  have C_3 := Lib.hid (C_2.out.call b3)
  clear b3 B_2 H_2 C_2
  have hcH := H_3.out.2.2
  have hlH := H_3.out.2.1
  have hcC := C_3.out.2.2
  have hlC := C_3.out.2.1
  go_wp2_with fail
  refine (rcmay_any c ga wa gc wc _ (HG.out.below B_3.out (Nat.le_refl _)) (HW.out.below B_3.out (Nat.le_refl _))).mono ?_
  rintro e u4 ⟨rfl, b4⟩
  rw [HMY.out]
  clear hcH hlH hcC hlC
  have B_4 := Lib.hid (bl B_3.out b4)
  have H_4 := Lib.hid (H_3.out.call b4)
  have C_4 := Lib.hid (C_3.out.call b4)
  clear b4 B_3 H_3 C_3
  have hcH := H_4.out.2.2
  have hlH := H_4.out.2.1
  have hcC := C_4.out.2.2
  have hlC := C_4.out.2.1
  go_wp2_with fail
  refine (ado_as (Shape.refl x) p i c ga wa gc wc _ FT.out.right (HWA.out.below B_4.out (Nat.le_refl _)) hil (HG.out.below B_4.out (Nat.le_refl _)) (HW.out.below B_4.out (Nat.le_refl _)) HR.out).mono ?_
  rintro e u5 ⟨q1, qa1, ia1, qc1, ic1, rfl, g, b5⟩
  clear hcH hlH hcC hlC
  have B_5 := Lib.hid (bl B_4.out b5)
  have H_5 := Lib.hid (H_4.out.call b5)
  have C_5 := Lib.hid (C_4.out.call b5)
  clear b5 B_4 H_4 C_4
  have hcH := H_5.out.2.2
  have hlH := H_5.out.2.1
  have hcC := C_5.out.2.2
  have hlC := C_5.out.2.1
  have WYA_5 := Lib.hid (g.world (HWA.out.below B_5.out (Nat.le_refl _)))
  have NYA_5 := Lib.hid g.2
  clear g
  go_wp2_with fail
  clear hcH hlH hcC hlC
  have s6 : (u5.alloc (.cells (wC x q1) 29)).heap.size = u5.heap.size + 1 := by simp
  have B_6 := Lib.hid (B_5.out.alloc B_5.out.size (.cells (wC x q1) 29))
  have H_6 := Lib.hid (H_5.out.alloc (.cells (wC x q1) 29))
  have C_6 := Lib.hid (C_5.out.alloc (.cells (wC x q1) 29))
  have WYA_6 := Lib.hid (WYA_5.out.call ((Below.refl _ _).alloc (Nat.le_refl _) (.cells (wC x q1) 29)))
  have NYA_6 := Lib.hid (NYA_5.out.call ((Below.refl _ _).alloc (Nat.le_refl _) (.cells (wC x q1) 29)))
  have YA_6 := Lib.hid (Holds.newb (w := w) (A := (wC x q1)) (t := 29) (n := u5.heap.size) B_5.out rfl)
  clear B_5 H_5 C_5 WYA_5 NYA_5
  generalize u5.alloc (.cells (wC x q1) 29) = V6 at *
  have s7 : (V6.alloc (.cells #[.int .i64 R.err, .int .i64 R.kind, .int .i64 R.room, .slice qa1 R.players.length qc1, .slice ia1 R.items.length ic1, .int .i64 R.coins] 38)).heap.size = V6.heap.size + 1 := by simp
  have B_7 := Lib.hid (B_6.out.alloc B_6.out.size (.cells #[.int .i64 R.err, .int .i64 R.kind, .int .i64 R.room, .slice qa1 R.players.length qc1, .slice ia1 R.items.length ic1, .int .i64 R.coins] 38))
  have H_7 := Lib.hid (H_6.out.alloc (.cells #[.int .i64 R.err, .int .i64 R.kind, .int .i64 R.room, .slice qa1 R.players.length qc1, .slice ia1 R.items.length ic1, .int .i64 R.coins] 38))
  have C_7 := Lib.hid (C_6.out.alloc (.cells #[.int .i64 R.err, .int .i64 R.kind, .int .i64 R.room, .slice qa1 R.players.length qc1, .slice ia1 R.items.length ic1, .int .i64 R.coins] 38))
  have YA_7 := Lib.hid (YA_6.out.alloc (.cells #[.int .i64 R.err, .int .i64 R.kind, .int .i64 R.room, .slice qa1 R.players.length qc1, .slice ia1 R.items.length ic1, .int .i64 R.coins] 38))
  have WYA_7 := Lib.hid (WYA_6.out.call ((Below.refl _ _).alloc (Nat.le_refl _) (.cells #[.int .i64 R.err, .int .i64 R.kind, .int .i64 R.room, .slice qa1 R.players.length qc1, .slice ia1 R.items.length ic1, .int .i64 R.coins] 38)))
  have NYA_7 := Lib.hid (NYA_6.out.call ((Below.refl _ _).alloc (Nat.le_refl _) (.cells #[.int .i64 R.err, .int .i64 R.kind, .int .i64 R.room, .slice qa1 R.players.length qc1, .slice ia1 R.items.length ic1, .int .i64 R.coins] 38)))
  have YAr_7 := Lib.hid (Holds.newb (w := w) (A := #[.int .i64 R.err, .int .i64 R.kind, .int .i64 R.room, .slice qa1 R.players.length qc1, .slice ia1 R.items.length ic1, .int .i64 R.coins]) (t := 38) (n := u5.heap.size + 1) B_6.out (by omega))
  clear B_6 H_6 C_6 YA_6 WYA_6 NYA_6
  generalize V6.alloc (.cells #[.int .i64 R.err, .int .i64 R.kind, .int .i64 R.room, .slice qa1 R.players.length qc1, .slice ia1 R.items.length ic1, .int .i64 R.coins] 38) = V7 at *
  clear s6 s7
  have hcH := H_7.out.2.2
  have hlH := H_7.out.2.1
  have hcC := C_7.out.2.2
  have hlC := C_7.out.2.1
  have hcYA := YA_7.out.2.2
  have hlYA := YA_7.out.2.1
  have hcYAr := YAr_7.out.2.2
  have hlYAr := YAr_7.out.2.1
  refine (ado_as SY.out q1 i ⟨10, 0, 0, 0, 0, [], 0, [], 0⟩ none none 0 0 _ RY.out WYA_7.out (by rw [SY.out.at_]; exact hil) (IntsAt.nil _ _) (IntsAt.nil _ _) ((own13 y i).trans (by rw [HHS.out]))).mono ?_
  rintro e u8 ⟨q2, qa2, ia2, qc2, ic2, rfl, g, b8⟩
  clear hcH hlH hcC hlC hcYA hlYA hcYAr hlYAr
  have B_8 := Lib.hid (bl B_7.out b8)
  have H_8 := Lib.hid (H_7.out.call b8)
  have C_8 := Lib.hid (C_7.out.call b8)
  have YA_8 := Lib.hid (YA_7.out.call b8)
  have YAr_8 := Lib.hid (YAr_7.out.call b8)
  have WYA_8 := Lib.hid (WYA_7.out.call b8)
  have NYA_8 := Lib.hid (NYA_7.out.call b8)
  clear b8 B_7 H_7 C_7 YA_7 YAr_7 WYA_7 NYA_7
  have hcH := H_8.out.2.2
  have hlH := H_8.out.2.1
  have hcC := C_8.out.2.2
  have hlC := C_8.out.2.1
  have hcYA := YA_8.out.2.2
  have hlYA := YA_8.out.2.1
  have hcYAr := YAr_8.out.2.2
  have hlYAr := YAr_8.out.2.1
  have WOA_8 := Lib.hid (g.world (WYA_8.out))
  have NOA_8 := Lib.hid g.2
  clear g
  go_wp2_with fail
  clear hcH hlH hcC hlC hcYA hlYA hcYAr hlYAr
  have s9 : (u8.alloc (.cells (wC x q2) 29)).heap.size = u8.heap.size + 1 := by simp
  have B_9 := Lib.hid (B_8.out.alloc B_8.out.size (.cells (wC x q2) 29))
  have H_9 := Lib.hid (H_8.out.alloc (.cells (wC x q2) 29))
  have C_9 := Lib.hid (C_8.out.alloc (.cells (wC x q2) 29))
  have YA_9 := Lib.hid (YA_8.out.alloc (.cells (wC x q2) 29))
  have YAr_9 := Lib.hid (YAr_8.out.alloc (.cells (wC x q2) 29))
  have WYA_9 := Lib.hid (WYA_8.out.call ((Below.refl _ _).alloc (Nat.le_refl _) (.cells (wC x q2) 29)))
  have NYA_9 := Lib.hid (NYA_8.out.call ((Below.refl _ _).alloc (Nat.le_refl _) (.cells (wC x q2) 29)))
  have WOA_9 := Lib.hid (WOA_8.out.call ((Below.refl _ _).alloc (Nat.le_refl _) (.cells (wC x q2) 29)))
  have NOA_9 := Lib.hid (NOA_8.out.call ((Below.refl _ _).alloc (Nat.le_refl _) (.cells (wC x q2) 29)))
  have OA_9 := Lib.hid (Holds.newb (w := w) (A := (wC x q2)) (t := 29) (n := u8.heap.size) B_8.out rfl)
  clear B_8 H_8 C_8 YA_8 YAr_8 WYA_8 NYA_8 WOA_8 NOA_8
  generalize u8.alloc (.cells (wC x q2) 29) = V9 at *
  have s10 : (V9.alloc (.cells #[.int .i64 S.err, .int .i64 S.kind, .int .i64 S.room, .slice qa2 S.players.length qc2, .slice ia2 S.items.length ic2, .int .i64 S.coins] 38)).heap.size = V9.heap.size + 1 := by simp
  have B_10 := Lib.hid (B_9.out.alloc B_9.out.size (.cells #[.int .i64 S.err, .int .i64 S.kind, .int .i64 S.room, .slice qa2 S.players.length qc2, .slice ia2 S.items.length ic2, .int .i64 S.coins] 38))
  have H_10 := Lib.hid (H_9.out.alloc (.cells #[.int .i64 S.err, .int .i64 S.kind, .int .i64 S.room, .slice qa2 S.players.length qc2, .slice ia2 S.items.length ic2, .int .i64 S.coins] 38))
  have C_10 := Lib.hid (C_9.out.alloc (.cells #[.int .i64 S.err, .int .i64 S.kind, .int .i64 S.room, .slice qa2 S.players.length qc2, .slice ia2 S.items.length ic2, .int .i64 S.coins] 38))
  have YA_10 := Lib.hid (YA_9.out.alloc (.cells #[.int .i64 S.err, .int .i64 S.kind, .int .i64 S.room, .slice qa2 S.players.length qc2, .slice ia2 S.items.length ic2, .int .i64 S.coins] 38))
  have YAr_10 := Lib.hid (YAr_9.out.alloc (.cells #[.int .i64 S.err, .int .i64 S.kind, .int .i64 S.room, .slice qa2 S.players.length qc2, .slice ia2 S.items.length ic2, .int .i64 S.coins] 38))
  have OA_10 := Lib.hid (OA_9.out.alloc (.cells #[.int .i64 S.err, .int .i64 S.kind, .int .i64 S.room, .slice qa2 S.players.length qc2, .slice ia2 S.items.length ic2, .int .i64 S.coins] 38))
  have WYA_10 := Lib.hid (WYA_9.out.call ((Below.refl _ _).alloc (Nat.le_refl _) (.cells #[.int .i64 S.err, .int .i64 S.kind, .int .i64 S.room, .slice qa2 S.players.length qc2, .slice ia2 S.items.length ic2, .int .i64 S.coins] 38)))
  have NYA_10 := Lib.hid (NYA_9.out.call ((Below.refl _ _).alloc (Nat.le_refl _) (.cells #[.int .i64 S.err, .int .i64 S.kind, .int .i64 S.room, .slice qa2 S.players.length qc2, .slice ia2 S.items.length ic2, .int .i64 S.coins] 38)))
  have WOA_10 := Lib.hid (WOA_9.out.call ((Below.refl _ _).alloc (Nat.le_refl _) (.cells #[.int .i64 S.err, .int .i64 S.kind, .int .i64 S.room, .slice qa2 S.players.length qc2, .slice ia2 S.items.length ic2, .int .i64 S.coins] 38)))
  have NOA_10 := Lib.hid (NOA_9.out.call ((Below.refl _ _).alloc (Nat.le_refl _) (.cells #[.int .i64 S.err, .int .i64 S.kind, .int .i64 S.room, .slice qa2 S.players.length qc2, .slice ia2 S.items.length ic2, .int .i64 S.coins] 38)))
  have OAr_10 := Lib.hid (Holds.newb (w := w) (A := #[.int .i64 S.err, .int .i64 S.kind, .int .i64 S.room, .slice qa2 S.players.length qc2, .slice ia2 S.items.length ic2, .int .i64 S.coins]) (t := 38) (n := u8.heap.size + 1) B_9.out (by omega))
  clear B_9 H_9 C_9 YA_9 YAr_9 OA_9 WYA_9 NYA_9 WOA_9 NOA_9
  generalize V9.alloc (.cells #[.int .i64 S.err, .int .i64 S.kind, .int .i64 S.room, .slice qa2 S.players.length qc2, .slice ia2 S.items.length ic2, .int .i64 S.coins] 38) = V10 at *
  clear s9 s10
  have hcH := H_10.out.2.2
  have hlH := H_10.out.2.1
  have hcC := C_10.out.2.2
  have hlC := C_10.out.2.1
  have hcYA := YA_10.out.2.2
  have hlYA := YA_10.out.2.1
  have hcYAr := YAr_10.out.2.2
  have hlYAr := YAr_10.out.2.1
  have hcOA := OA_10.out.2.2
  have hlOA := OA_10.out.2.1
  have hcOAr := OAr_10.out.2.2
  have hlOAr := OAr_10.out.2.1
  refine (ado_as SY.out q1 i ⟨9, 0, 0, 0, 0, [], 0, [], 0⟩ none none 0 0 _ RY.out WYA_10.out (by rw [SY.out.at_]; exact hil) (IntsAt.nil _ _) (IntsAt.nil _ _) ((look13 y i).trans (by rw [HHT.out]))).mono ?_
  rintro e u11 ⟨q3, qa3, ia3, qc3, ic3, rfl, g, b11⟩
  clear hcH hlH hcC hlC hcYA hlYA hcYAr hlYAr hcOA hlOA hcOAr hlOAr
  have B_11 := Lib.hid (bl B_10.out b11)
  have H_11 := Lib.hid (H_10.out.call b11)
  have C_11 := Lib.hid (C_10.out.call b11)
  have YA_11 := Lib.hid (YA_10.out.call b11)
  have YAr_11 := Lib.hid (YAr_10.out.call b11)
  have OA_11 := Lib.hid (OA_10.out.call b11)
  have OAr_11 := Lib.hid (OAr_10.out.call b11)
  have WYA_11 := Lib.hid (WYA_10.out.call b11)
  have NYA_11 := Lib.hid (NYA_10.out.call b11)
  have WOA_11 := Lib.hid (WOA_10.out.call b11)
  have NOA_11 := Lib.hid (NOA_10.out.call b11)
  clear b11 B_10 H_10 C_10 YA_10 YAr_10 OA_10 OAr_10 WYA_10 NYA_10 WOA_10 NOA_10
  have hcH := H_11.out.2.2
  have hlH := H_11.out.2.1
  have hcC := C_11.out.2.2
  have hlC := C_11.out.2.1
  have hcYA := YA_11.out.2.2
  have hlYA := YA_11.out.2.1
  have hcYAr := YAr_11.out.2.2
  have hlYAr := YAr_11.out.2.1
  have hcOA := OA_11.out.2.2
  have hlOA := OA_11.out.2.1
  have hcOAr := OAr_11.out.2.2
  have hlOAr := OAr_11.out.2.1
  have NLA_11 := Lib.hid g.2
  clear g
  have hci : 0 ≤ c.item := may_item HMY.out (by have := t4; simp at this; omega)
  have hci2 : ¬ c.item < 0 := by omega
  go_upto_region 27 with fail
  clear hcH hlH hcC hlC hcYA hlYA hcYAr hlYAr hcOA hlOA hcOAr hlOAr
  refine gen_wp (fun V => Below u11.heap.size u11 V ∧ Blk V (u11.heap.size + 1) 38 #[.int .i64 T.err, .int .i64 T.kind, .int .i64 T.room, .slice qa3 T.players.length qc3, .slice ia3 T.items.length ic3, .int .i64 T.coins] ∧ Blk V (u11.heap.size + 1 + 1) 52 #[.int .i64 0, .int .i64 T.room]) ⟨?_, ?_, ?_⟩ (fun VZ hV => ?_)
  · exact (((Below.refl _ _).alloc (Nat.le_refl _) _).alloc (by simp) _).alloc (by simp; omega) _
  · exact (Blk.newn _ _ _ (by simp)).alloc _
  · exact Blk.newn _ _ _ (by simp)
  have HV := Lib.hid hV
  clear hV
  have B_12 := Lib.hid (bl B_11.out HV.out.1)
  have H_12 := Lib.hid (H_11.out.call HV.out.1)
  have C_12 := Lib.hid (C_11.out.call HV.out.1)
  have YA_12 := Lib.hid (YA_11.out.call HV.out.1)
  have YAr_12 := Lib.hid (YAr_11.out.call HV.out.1)
  have OA_12 := Lib.hid (OA_11.out.call HV.out.1)
  have OAr_12 := Lib.hid (OAr_11.out.call HV.out.1)
  have WYA_12 := Lib.hid (WYA_11.out.call HV.out.1)
  have NYA_12 := Lib.hid (NYA_11.out.call HV.out.1)
  have WOA_12 := Lib.hid (WOA_11.out.call HV.out.1)
  have NOA_12 := Lib.hid (NOA_11.out.call HV.out.1)
  have NLA_12 := Lib.hid (NLA_11.out.call HV.out.1)
  have LR_12 := Lib.hid (show Holds w (u11.heap.size + 1) #[.int .i64 T.err, .int .i64 T.kind, .int .i64 T.room, .slice qa3 T.players.length qc3, .slice ia3 T.items.length ic3, .int .i64 T.coins] VZ from ⟨B_12.out, HV.out.2.1.lt, HV.out.2.1.cell⟩)
  have ZZ_12 := Lib.hid (show Holds w (u11.heap.size + 1 + 1) #[.int .i64 0, .int .i64 T.room] VZ from ⟨B_12.out, HV.out.2.2.lt, HV.out.2.2.cell⟩)
  clear HV B_11 H_11 C_11 YA_11 YAr_11 OA_11 OAr_11 WYA_11 NYA_11 WOA_11 NOA_11 NLA_11
  have LS_12 := Lib.hid NLA_12.out.sns
  obtain ⟨L, hL⟩ : ∃ L, T.items = L := ⟨_, rfl⟩
  rw [hL] at LS_12 HS
  try simp only [hL]
  clear hL
  obtain ⟨sw, hsw⟩ : ∃ sw : Sn, sw = ⟨c.item, 0, T.room⟩ := ⟨_, rfl⟩
  rw [← hsw] at HS
  have HSW := Lib.hid hsw
  clear hsw
  have hm63 := LS_12.out.len
  go_wp2_with fail
  go_loopw [17, 18] (fun fv kv wr => ∃ k : Nat, k ≤ L.length ∧ fv = .int .i64 (((L.take k).count sw : Nat) : Int) ∧ kv = .int .i64 k ∧ Below VZ.heap.size VZ wr) (fun _ kv _ => L.length - (intOf kv).toNat)
  case atStart => exact ⟨0, Nat.zero_le _, by simp, rfl, Below.refl _ _⟩
  case round =>
    obtain ⟨k, hk, rfl, rfl, hB⟩ := hrel
    have HB := Lib.hid hB
    clear hB
    obtain ⟨cnt, hcnt⟩ : ∃ n, (L.take k).count sw = n := ⟨_, rfl⟩
    have hcl : cnt ≤ k := by rw [← hcnt]; exact Nat.le_trans List.count_le_length (by simp; omega)
    have HCN := Lib.hid hcnt
    rw [hcnt]
    clear hcnt
    by_cases hlt : k < L.length
    · obtain ⟨gb, go, ha, hgb, hlc⟩ := (LS_12.out.call HB.out).at_ hlt
      obtain ⟨e0, e1, e2⟩ := hlc k hlt
      have HCT := Lib.hid (count_take hlt sw)
      obtain ⟨⟨it, kd, id⟩, hs0⟩ : ∃ s, L[k] = s := ⟨_, rfl⟩
      rw [hs0] at e0 e1 e2 HCT
      simp only at e0 e1 e2
      clear hs0 hlc
      subst ha
      have cw := (ZZ_12.out.call HB.out).2.2
      have hlw := (ZZ_12.out.call HB.out).2.1
      by_cases e : (⟨it, kd, id⟩ : Sn) = sw
      · have hq : ∀ W9, (binOp .eql 54 (.agg #[.int .i64 it, .int .i64 kd, .int .i64 id]) (.agg #[.int .i64 c.item, .int .i64 0, .int .i64 T.room])).run Tryz.prog W9 = .ok (.bool true) W9 := fun W9 => by rw [run_seen_eql, ← HSW.out, e]; simp
        have HT := Lib.hid (show (L.take (k + 1)).count sw = cnt + 1 by rw [HCT.out, HCN.out]; simp [e])
        clear e HCT HCN
        go_wp2_with fail
        refine wp_region_noPanic ?_
        refine wp_region_held_drew (S := (fun w' => w'.cell? ⟨gb, go + k * 3, none⟩ = some (.int .i64 it) ∧ w'.cell? ⟨gb, go + k * 3 + 1, none⟩ = some (.int .i64 kd) ∧ w'.cell? ⟨gb, go + k * 3 + 2, none⟩ = some (.int .i64 id) ∧ (∀ ii, w'.cell? ⟨u11.heap.size + 1 + 1, ii, none⟩ = (#[.int .i64 0, .int .i64 T.room][ii]? : Option Value)))) (by kernel_rfl) (by (first | (exact ⟨e0, e1, e2, cw⟩))) (fun hHeld => ?_)
        iterate 8
          (first | refine tkW 0 (v := ?_) ?_ ?_ | refine tkW 1 (v := ?_) ?_ ?_ | refine tkW 2 (v := ?_) ?_ ?_ | refine tkW 3 (v := ?_) ?_ ?_ | refine tkW 4 (v := ?_) ?_ ?_ | refine tkW 5 (v := ?_) ?_ ?_ | refine tkW 6 (v := ?_) ?_ ?_ | refine tkW 7 (v := ?_) ?_ ?_)
          rotate_left
          · (intro ww hSw; (try dsimp only at hSw); go_simp; (try with_reducible rfl))
          try simp only [Act.put, List.setIfInBounds_toArray, List.set_cons_zero, List.set_cons_succ]
        refine wpAnyH_done (by kernel_rfl) ?_ _
        refine NoPanic.normal ?_
        clear hHeld e0 e1 e2 cw hq
        have HB9 := Lib.hid (bdrew1 HB.out)
        generalize wr.drew = WR at *
        go_wp2_with fail
        go_roundw
        case rel => exact ⟨k + 1, by omega, by rw [HT.out]; try go_num, by go_num, HB9.out⟩
        case measure => simp [intOf]; omega
      · have hq : ∀ W9, (binOp .eql 54 (.agg #[.int .i64 it, .int .i64 kd, .int .i64 id]) (.agg #[.int .i64 c.item, .int .i64 0, .int .i64 T.room])).run Tryz.prog W9 = .ok (.bool false) W9 := fun W9 => by rw [run_seen_eql, ← HSW.out]; simp [e]
        have HT := Lib.hid (show (L.take (k + 1)).count sw = cnt by rw [HCT.out, HCN.out]; simp [e])
        clear e HCT HCN
        go_wp2_with fail
        refine wp_region_noPanic ?_
        refine wp_region_held_drew (S := (fun w' => w'.cell? ⟨gb, go + k * 3, none⟩ = some (.int .i64 it) ∧ w'.cell? ⟨gb, go + k * 3 + 1, none⟩ = some (.int .i64 kd) ∧ w'.cell? ⟨gb, go + k * 3 + 2, none⟩ = some (.int .i64 id) ∧ (∀ ii, w'.cell? ⟨u11.heap.size + 1 + 1, ii, none⟩ = (#[.int .i64 0, .int .i64 T.room][ii]? : Option Value)))) (by kernel_rfl) (by (first | (exact ⟨e0, e1, e2, cw⟩))) (fun hHeld => ?_)
        iterate 8
          (first | refine tkW 0 (v := ?_) ?_ ?_ | refine tkW 1 (v := ?_) ?_ ?_ | refine tkW 2 (v := ?_) ?_ ?_ | refine tkW 3 (v := ?_) ?_ ?_ | refine tkW 4 (v := ?_) ?_ ?_ | refine tkW 5 (v := ?_) ?_ ?_ | refine tkW 6 (v := ?_) ?_ ?_ | refine tkW 7 (v := ?_) ?_ ?_)
          rotate_left
          · (intro ww hSw; (try dsimp only at hSw); go_simp; (try with_reducible rfl))
          try simp only [Act.put, List.setIfInBounds_toArray, List.set_cons_zero, List.set_cons_succ]
        refine wpAnyH_done (by kernel_rfl) ?_ _
        refine NoPanic.normal ?_
        clear hHeld e0 e1 e2 cw hq
        have HB9 := Lib.hid (bdrew1 HB.out)
        generalize wr.drew = WR at *
        go_wp2_with fail
        go_roundw
        case rel => exact ⟨k + 1, by omega, by rw [HT.out]; try go_num, by go_num, HB9.out⟩
        case measure => simp [intOf]; omega
    · obtain rfl : k = L.length := by omega
      obtain rfl : cnt = 1 := by rw [← HCN.out, List.take_length]; exact HS.out
      go_wp2_with fail
      go_ret
      exact ⟨rfl, bl B_12.out HB.out⟩
set_option maxRecDepth 100000 in
set_option maxHeartbeats 4000000 in
theorem atomSees_k5 (x : Wd) (p : Wp) (a i : Nat) (c : Cm) (ga wa : Option Addr) (gc wc : Nat) (haa : a ≤ 255) (hi : a % x.at_.length = i) (w : World) (h : WorldAt w p x) (hg : IntsAt w ga c.gives) (hw : IntsAt w wa c.wants) (hf : fitsB x = true) (hfw : cfewB c = true) (hmy : refMayB c = true) (he : (doW x i c).2.err = 0) (hk : c.kind = 5) : Calls Tryz.prog 6 #[.agg (wC x p), .int .u8 (a : Int), .agg #[.int .i64 c.kind, .int .i64 c.dir, .int .i64 c.item, .int .i64 c.box, .int .i64 c.who, .slice ga c.gives.length gc, .int .i64 c.pay, .slice wa c.wants.length wc, .int .i64 c.fee]] w fun e w' => e = .returned (.bool true) ∧ Below w.heap.size w w' := by
  have r1 := run_tmod7 a x.at_.length
  have m1 := run_mod7 a x.at_.length
  rw [hi] at r1 m1
  have FT := Lib.hid (fits_fit hf)
  have hlp : 0 < x.at_.length := (right_lens FT.out.right).1
  have hne : ¬ x.at_ = [] := List.length_pos_iff.1 hlp
  have hil : i < x.at_.length := by rw [← hi]; exact Nat.mod_lt _ hlp
  have hlen6 := (right_lens FT.out.right).2.1
  obtain ⟨⟨y, R⟩, hR⟩ : ∃ R, doW x i c = R := ⟨_, rfl⟩
  have HR := Lib.hid hR
  have SY := Lib.hid (show Shape x y by have := do_shape x i c; rwa [hR] at this)
  have RY := Lib.hid (show rightW y = true by have := do_right FT.out.right hil c; rwa [hR] at this)
  rw [hR] at he
  simp only at he
  have hne1 : (R.err != 0) = false := by simp [he]
  have HS := Lib.hid (sees5 FT.out.right hmy hR he hk)
  have t1 : (c.kind == 1) = false := by rw [hk]; rfl
  have t3 : (c.kind == 3) = false := by rw [hk]; rfl
  have t6 : (c.kind == 6) = false := by rw [hk]; rfl
  have t4 : (c.kind == 4) = false := by rw [hk]; rfl
  have t5 : (c.kind == 5) = true := by rw [hk]; rfl
  obtain ⟨S, hS⟩ : ∃ S, haveR y i = S := ⟨_, rfl⟩
  obtain ⟨T, hT⟩ : ∃ T, lookR y i = T := ⟨_, rfl⟩
  have HHS := Lib.hid hS
  have HHT := Lib.hid hT
  rw [hS, hT] at HS
  clear he hS hT hk
  clear hi hlp hR
  have HF := Lib.hid hf
  have HWA := Lib.hid h
  clear hf h
  have HG := Lib.hid hg
  have HW := Lib.hid hw
  clear hg hw
  have HFW := Lib.hid hfw
  clear hfw
  have HMY := Lib.hid hmy
  clear hmy
  have HP0 := Lib.hid (Holds.pair w (wC x p) #[.int .i64 c.kind, .int .i64 c.dir, .int .i64 c.item, .int .i64 c.box, .int .i64 c.who, .slice ga c.gives.length gc, .int .i64 c.pay, .slice wa c.wants.length wc, .int .i64 c.fee] 29 31)
  have hWC := @wC.eq_1
  go_enter Tryz.func6, Tryz.ntmps6
  go_wp2_with fail
  generalize (w.alloc (.cells (wC x p) 29)).alloc (.cells #[.int .i64 c.kind, .int .i64 c.dir, .int .i64 c.item, .int .i64 c.box, .int .i64 c.who, .slice ga c.gives.length gc, .int .i64 c.pay, .slice wa c.wants.length wc, .int .i64 c.fee] 31) = V0 at *
  have H_0 := Lib.hid HP0.out.1
  have C_0 := Lib.hid HP0.out.2
  have B_0 := Lib.hid H_0.out.1
  clear HP0
  refine (awake13_any _).mono ?_
  rintro e u1 ⟨rfl, b1⟩
  have B_1 := Lib.hid (bl B_0.out b1)
  have H_1 := Lib.hid (H_0.out.call b1)
  have C_1 := Lib.hid (C_0.out.call b1)
  clear b1 B_0 H_0 C_0
  have hcH := H_1.out.2.2
  have hlH := H_1.out.2.1
  have hcC := C_1.out.2.2
  have hlC := C_1.out.2.1
  go_wp2_with fail
  refine (fits13_any x p _ (HWA.out.below B_1.out (Nat.le_refl _))).mono ?_
  rintro e u2 ⟨rfl, b2⟩
  rw [HF.out]
  clear hcH hlH hcC hlC
  have B_2 := Lib.hid (bl B_1.out b2)
  have H_2 := Lib.hid (H_1.out.call b2)
  have C_2 := Lib.hid (C_1.out.call b2)
  clear b2 B_1 H_1 C_1
  have hcH := H_2.out.2.2
  have hlH := H_2.out.2.1
  have hcC := C_2.out.2.2
  have hlC := C_2.out.2.1
  go_wp2_with fail
  refine (cfew_any c ga wa gc wc _ (HG.out.below B_2.out (Nat.le_refl _)) (HW.out.below B_2.out (Nat.le_refl _))).mono ?_
  rintro e u3 ⟨rfl, b3⟩
  rw [HFW.out]
  clear hcH hlH hcC hlC
  have B_3 := Lib.hid (bl B_2.out b3)
  have H_3 := Lib.hid (H_2.out.call b3)
  have C_3 := Lib.hid (C_2.out.call b3)
  clear b3 B_2 H_2 C_2
  have hcH := H_3.out.2.2
  have hlH := H_3.out.2.1
  have hcC := C_3.out.2.2
  have hlC := C_3.out.2.1
  go_wp2_with fail
  refine (rcmay_any c ga wa gc wc _ (HG.out.below B_3.out (Nat.le_refl _)) (HW.out.below B_3.out (Nat.le_refl _))).mono ?_
  rintro e u4 ⟨rfl, b4⟩
  rw [HMY.out]
  clear hcH hlH hcC hlC
  have B_4 := Lib.hid (bl B_3.out b4)
  have H_4 := Lib.hid (H_3.out.call b4)
  have C_4 := Lib.hid (C_3.out.call b4)
  clear b4 B_3 H_3 C_3
  have hcH := H_4.out.2.2
  have hlH := H_4.out.2.1
  have hcC := C_4.out.2.2
  have hlC := C_4.out.2.1
  go_wp2_with fail
  refine (ado_as (Shape.refl x) p i c ga wa gc wc _ FT.out.right (HWA.out.below B_4.out (Nat.le_refl _)) hil (HG.out.below B_4.out (Nat.le_refl _)) (HW.out.below B_4.out (Nat.le_refl _)) HR.out).mono ?_
  rintro e u5 ⟨q1, qa1, ia1, qc1, ic1, rfl, g, b5⟩
  clear hcH hlH hcC hlC
  have B_5 := Lib.hid (bl B_4.out b5)
  have H_5 := Lib.hid (H_4.out.call b5)
  have C_5 := Lib.hid (C_4.out.call b5)
  clear b5 B_4 H_4 C_4
  have hcH := H_5.out.2.2
  have hlH := H_5.out.2.1
  have hcC := C_5.out.2.2
  have hlC := C_5.out.2.1
  have WYA_5 := Lib.hid (g.world (HWA.out.below B_5.out (Nat.le_refl _)))
  have NYA_5 := Lib.hid g.2
  clear g
  go_wp2_with fail
  clear hcH hlH hcC hlC
  have s6 : (u5.alloc (.cells (wC x q1) 29)).heap.size = u5.heap.size + 1 := by simp
  have B_6 := Lib.hid (B_5.out.alloc B_5.out.size (.cells (wC x q1) 29))
  have H_6 := Lib.hid (H_5.out.alloc (.cells (wC x q1) 29))
  have C_6 := Lib.hid (C_5.out.alloc (.cells (wC x q1) 29))
  have WYA_6 := Lib.hid (WYA_5.out.call ((Below.refl _ _).alloc (Nat.le_refl _) (.cells (wC x q1) 29)))
  have NYA_6 := Lib.hid (NYA_5.out.call ((Below.refl _ _).alloc (Nat.le_refl _) (.cells (wC x q1) 29)))
  have YA_6 := Lib.hid (Holds.newb (w := w) (A := (wC x q1)) (t := 29) (n := u5.heap.size) B_5.out rfl)
  clear B_5 H_5 C_5 WYA_5 NYA_5
  generalize u5.alloc (.cells (wC x q1) 29) = V6 at *
  have s7 : (V6.alloc (.cells #[.int .i64 R.err, .int .i64 R.kind, .int .i64 R.room, .slice qa1 R.players.length qc1, .slice ia1 R.items.length ic1, .int .i64 R.coins] 38)).heap.size = V6.heap.size + 1 := by simp
  have B_7 := Lib.hid (B_6.out.alloc B_6.out.size (.cells #[.int .i64 R.err, .int .i64 R.kind, .int .i64 R.room, .slice qa1 R.players.length qc1, .slice ia1 R.items.length ic1, .int .i64 R.coins] 38))
  have H_7 := Lib.hid (H_6.out.alloc (.cells #[.int .i64 R.err, .int .i64 R.kind, .int .i64 R.room, .slice qa1 R.players.length qc1, .slice ia1 R.items.length ic1, .int .i64 R.coins] 38))
  have C_7 := Lib.hid (C_6.out.alloc (.cells #[.int .i64 R.err, .int .i64 R.kind, .int .i64 R.room, .slice qa1 R.players.length qc1, .slice ia1 R.items.length ic1, .int .i64 R.coins] 38))
  have YA_7 := Lib.hid (YA_6.out.alloc (.cells #[.int .i64 R.err, .int .i64 R.kind, .int .i64 R.room, .slice qa1 R.players.length qc1, .slice ia1 R.items.length ic1, .int .i64 R.coins] 38))
  have WYA_7 := Lib.hid (WYA_6.out.call ((Below.refl _ _).alloc (Nat.le_refl _) (.cells #[.int .i64 R.err, .int .i64 R.kind, .int .i64 R.room, .slice qa1 R.players.length qc1, .slice ia1 R.items.length ic1, .int .i64 R.coins] 38)))
  have NYA_7 := Lib.hid (NYA_6.out.call ((Below.refl _ _).alloc (Nat.le_refl _) (.cells #[.int .i64 R.err, .int .i64 R.kind, .int .i64 R.room, .slice qa1 R.players.length qc1, .slice ia1 R.items.length ic1, .int .i64 R.coins] 38)))
  have YAr_7 := Lib.hid (Holds.newb (w := w) (A := #[.int .i64 R.err, .int .i64 R.kind, .int .i64 R.room, .slice qa1 R.players.length qc1, .slice ia1 R.items.length ic1, .int .i64 R.coins]) (t := 38) (n := u5.heap.size + 1) B_6.out (by omega))
  clear B_6 H_6 C_6 YA_6 WYA_6 NYA_6
  generalize V6.alloc (.cells #[.int .i64 R.err, .int .i64 R.kind, .int .i64 R.room, .slice qa1 R.players.length qc1, .slice ia1 R.items.length ic1, .int .i64 R.coins] 38) = V7 at *
  clear s6 s7
  have hcH := H_7.out.2.2
  have hlH := H_7.out.2.1
  have hcC := C_7.out.2.2
  have hlC := C_7.out.2.1
  have hcYA := YA_7.out.2.2
  have hlYA := YA_7.out.2.1
  have hcYAr := YAr_7.out.2.2
  have hlYAr := YAr_7.out.2.1
  refine (ado_as SY.out q1 i ⟨10, 0, 0, 0, 0, [], 0, [], 0⟩ none none 0 0 _ RY.out WYA_7.out (by rw [SY.out.at_]; exact hil) (IntsAt.nil _ _) (IntsAt.nil _ _) ((own13 y i).trans (by rw [HHS.out]))).mono ?_
  rintro e u8 ⟨q2, qa2, ia2, qc2, ic2, rfl, g, b8⟩
  clear hcH hlH hcC hlC hcYA hlYA hcYAr hlYAr
  have B_8 := Lib.hid (bl B_7.out b8)
  have H_8 := Lib.hid (H_7.out.call b8)
  have C_8 := Lib.hid (C_7.out.call b8)
  have YA_8 := Lib.hid (YA_7.out.call b8)
  have YAr_8 := Lib.hid (YAr_7.out.call b8)
  have WYA_8 := Lib.hid (WYA_7.out.call b8)
  have NYA_8 := Lib.hid (NYA_7.out.call b8)
  clear b8 B_7 H_7 C_7 YA_7 YAr_7 WYA_7 NYA_7
  have hcH := H_8.out.2.2
  have hlH := H_8.out.2.1
  have hcC := C_8.out.2.2
  have hlC := C_8.out.2.1
  have hcYA := YA_8.out.2.2
  have hlYA := YA_8.out.2.1
  have hcYAr := YAr_8.out.2.2
  have hlYAr := YAr_8.out.2.1
  have WOA_8 := Lib.hid (g.world (WYA_8.out))
  have NOA_8 := Lib.hid g.2
  clear g
  go_wp2_with fail
  clear hcH hlH hcC hlC hcYA hlYA hcYAr hlYAr
  have s9 : (u8.alloc (.cells (wC x q2) 29)).heap.size = u8.heap.size + 1 := by simp
  have B_9 := Lib.hid (B_8.out.alloc B_8.out.size (.cells (wC x q2) 29))
  have H_9 := Lib.hid (H_8.out.alloc (.cells (wC x q2) 29))
  have C_9 := Lib.hid (C_8.out.alloc (.cells (wC x q2) 29))
  have YA_9 := Lib.hid (YA_8.out.alloc (.cells (wC x q2) 29))
  have YAr_9 := Lib.hid (YAr_8.out.alloc (.cells (wC x q2) 29))
  have WYA_9 := Lib.hid (WYA_8.out.call ((Below.refl _ _).alloc (Nat.le_refl _) (.cells (wC x q2) 29)))
  have NYA_9 := Lib.hid (NYA_8.out.call ((Below.refl _ _).alloc (Nat.le_refl _) (.cells (wC x q2) 29)))
  have WOA_9 := Lib.hid (WOA_8.out.call ((Below.refl _ _).alloc (Nat.le_refl _) (.cells (wC x q2) 29)))
  have NOA_9 := Lib.hid (NOA_8.out.call ((Below.refl _ _).alloc (Nat.le_refl _) (.cells (wC x q2) 29)))
  have OA_9 := Lib.hid (Holds.newb (w := w) (A := (wC x q2)) (t := 29) (n := u8.heap.size) B_8.out rfl)
  clear B_8 H_8 C_8 YA_8 YAr_8 WYA_8 NYA_8 WOA_8 NOA_8
  generalize u8.alloc (.cells (wC x q2) 29) = V9 at *
  have s10 : (V9.alloc (.cells #[.int .i64 S.err, .int .i64 S.kind, .int .i64 S.room, .slice qa2 S.players.length qc2, .slice ia2 S.items.length ic2, .int .i64 S.coins] 38)).heap.size = V9.heap.size + 1 := by simp
  have B_10 := Lib.hid (B_9.out.alloc B_9.out.size (.cells #[.int .i64 S.err, .int .i64 S.kind, .int .i64 S.room, .slice qa2 S.players.length qc2, .slice ia2 S.items.length ic2, .int .i64 S.coins] 38))
  have H_10 := Lib.hid (H_9.out.alloc (.cells #[.int .i64 S.err, .int .i64 S.kind, .int .i64 S.room, .slice qa2 S.players.length qc2, .slice ia2 S.items.length ic2, .int .i64 S.coins] 38))
  have C_10 := Lib.hid (C_9.out.alloc (.cells #[.int .i64 S.err, .int .i64 S.kind, .int .i64 S.room, .slice qa2 S.players.length qc2, .slice ia2 S.items.length ic2, .int .i64 S.coins] 38))
  have YA_10 := Lib.hid (YA_9.out.alloc (.cells #[.int .i64 S.err, .int .i64 S.kind, .int .i64 S.room, .slice qa2 S.players.length qc2, .slice ia2 S.items.length ic2, .int .i64 S.coins] 38))
  have YAr_10 := Lib.hid (YAr_9.out.alloc (.cells #[.int .i64 S.err, .int .i64 S.kind, .int .i64 S.room, .slice qa2 S.players.length qc2, .slice ia2 S.items.length ic2, .int .i64 S.coins] 38))
  have OA_10 := Lib.hid (OA_9.out.alloc (.cells #[.int .i64 S.err, .int .i64 S.kind, .int .i64 S.room, .slice qa2 S.players.length qc2, .slice ia2 S.items.length ic2, .int .i64 S.coins] 38))
  have WYA_10 := Lib.hid (WYA_9.out.call ((Below.refl _ _).alloc (Nat.le_refl _) (.cells #[.int .i64 S.err, .int .i64 S.kind, .int .i64 S.room, .slice qa2 S.players.length qc2, .slice ia2 S.items.length ic2, .int .i64 S.coins] 38)))
  have NYA_10 := Lib.hid (NYA_9.out.call ((Below.refl _ _).alloc (Nat.le_refl _) (.cells #[.int .i64 S.err, .int .i64 S.kind, .int .i64 S.room, .slice qa2 S.players.length qc2, .slice ia2 S.items.length ic2, .int .i64 S.coins] 38)))
  have WOA_10 := Lib.hid (WOA_9.out.call ((Below.refl _ _).alloc (Nat.le_refl _) (.cells #[.int .i64 S.err, .int .i64 S.kind, .int .i64 S.room, .slice qa2 S.players.length qc2, .slice ia2 S.items.length ic2, .int .i64 S.coins] 38)))
  have NOA_10 := Lib.hid (NOA_9.out.call ((Below.refl _ _).alloc (Nat.le_refl _) (.cells #[.int .i64 S.err, .int .i64 S.kind, .int .i64 S.room, .slice qa2 S.players.length qc2, .slice ia2 S.items.length ic2, .int .i64 S.coins] 38)))
  have OAr_10 := Lib.hid (Holds.newb (w := w) (A := #[.int .i64 S.err, .int .i64 S.kind, .int .i64 S.room, .slice qa2 S.players.length qc2, .slice ia2 S.items.length ic2, .int .i64 S.coins]) (t := 38) (n := u8.heap.size + 1) B_9.out (by omega))
  clear B_9 H_9 C_9 YA_9 YAr_9 OA_9 WYA_9 NYA_9 WOA_9 NOA_9
  generalize V9.alloc (.cells #[.int .i64 S.err, .int .i64 S.kind, .int .i64 S.room, .slice qa2 S.players.length qc2, .slice ia2 S.items.length ic2, .int .i64 S.coins] 38) = V10 at *
  clear s9 s10
  have hcH := H_10.out.2.2
  have hlH := H_10.out.2.1
  have hcC := C_10.out.2.2
  have hlC := C_10.out.2.1
  have hcYA := YA_10.out.2.2
  have hlYA := YA_10.out.2.1
  have hcYAr := YAr_10.out.2.2
  have hlYAr := YAr_10.out.2.1
  have hcOA := OA_10.out.2.2
  have hlOA := OA_10.out.2.1
  have hcOAr := OAr_10.out.2.2
  have hlOAr := OAr_10.out.2.1
  refine (ado_as SY.out q1 i ⟨9, 0, 0, 0, 0, [], 0, [], 0⟩ none none 0 0 _ RY.out WYA_10.out (by rw [SY.out.at_]; exact hil) (IntsAt.nil _ _) (IntsAt.nil _ _) ((look13 y i).trans (by rw [HHT.out]))).mono ?_
  rintro e u11 ⟨q3, qa3, ia3, qc3, ic3, rfl, g, b11⟩
  clear hcH hlH hcC hlC hcYA hlYA hcYAr hlYAr hcOA hlOA hcOAr hlOAr
  have B_11 := Lib.hid (bl B_10.out b11)
  have H_11 := Lib.hid (H_10.out.call b11)
  have C_11 := Lib.hid (C_10.out.call b11)
  have YA_11 := Lib.hid (YA_10.out.call b11)
  have YAr_11 := Lib.hid (YAr_10.out.call b11)
  have OA_11 := Lib.hid (OA_10.out.call b11)
  have OAr_11 := Lib.hid (OAr_10.out.call b11)
  have WYA_11 := Lib.hid (WYA_10.out.call b11)
  have NYA_11 := Lib.hid (NYA_10.out.call b11)
  have WOA_11 := Lib.hid (WOA_10.out.call b11)
  have NOA_11 := Lib.hid (NOA_10.out.call b11)
  clear b11 B_10 H_10 C_10 YA_10 YAr_10 OA_10 OAr_10 WYA_10 NYA_10 WOA_10 NOA_10
  have hcH := H_11.out.2.2
  have hlH := H_11.out.2.1
  have hcC := C_11.out.2.2
  have hlC := C_11.out.2.1
  have hcYA := YA_11.out.2.2
  have hlYA := YA_11.out.2.1
  have hcYAr := YAr_11.out.2.2
  have hlYAr := YAr_11.out.2.1
  have hcOA := OA_11.out.2.2
  have hlOA := OA_11.out.2.1
  have hcOAr := OAr_11.out.2.2
  have hlOAr := OAr_11.out.2.1
  have NLA_11 := Lib.hid g.2
  clear g
  have hci : 0 ≤ c.item := may_item HMY.out (by have := t5; simp at this; omega)
  have hci2 : ¬ c.item < 0 := by omega
  go_upto_region 26 with fail
  clear hcH hlH hcC hlC hcYA hlYA hcYAr hlYAr hcOA hlOA hcOAr hlOAr
  refine gen_wp (fun V => Below u11.heap.size u11 V ∧ Blk V (u11.heap.size + 1) 38 #[.int .i64 T.err, .int .i64 T.kind, .int .i64 T.room, .slice qa3 T.players.length qc3, .slice ia3 T.items.length ic3, .int .i64 T.coins] ∧ Blk V (u11.heap.size + 1 + 1) 52 #[.int .i64 2, .int .i64 c.box]) ⟨?_, ?_, ?_⟩ (fun VZ hV => ?_)
  · exact (((Below.refl _ _).alloc (Nat.le_refl _) _).alloc (by simp) _).alloc (by simp; omega) _
  · exact (Blk.newn _ _ _ (by simp)).alloc _
  · exact Blk.newn _ _ _ (by simp)
  have HV := Lib.hid hV
  clear hV
  have B_12 := Lib.hid (bl B_11.out HV.out.1)
  have H_12 := Lib.hid (H_11.out.call HV.out.1)
  have C_12 := Lib.hid (C_11.out.call HV.out.1)
  have YA_12 := Lib.hid (YA_11.out.call HV.out.1)
  have YAr_12 := Lib.hid (YAr_11.out.call HV.out.1)
  have OA_12 := Lib.hid (OA_11.out.call HV.out.1)
  have OAr_12 := Lib.hid (OAr_11.out.call HV.out.1)
  have WYA_12 := Lib.hid (WYA_11.out.call HV.out.1)
  have NYA_12 := Lib.hid (NYA_11.out.call HV.out.1)
  have WOA_12 := Lib.hid (WOA_11.out.call HV.out.1)
  have NOA_12 := Lib.hid (NOA_11.out.call HV.out.1)
  have NLA_12 := Lib.hid (NLA_11.out.call HV.out.1)
  have LR_12 := Lib.hid (show Holds w (u11.heap.size + 1) #[.int .i64 T.err, .int .i64 T.kind, .int .i64 T.room, .slice qa3 T.players.length qc3, .slice ia3 T.items.length ic3, .int .i64 T.coins] VZ from ⟨B_12.out, HV.out.2.1.lt, HV.out.2.1.cell⟩)
  have ZZ_12 := Lib.hid (show Holds w (u11.heap.size + 1 + 1) #[.int .i64 2, .int .i64 c.box] VZ from ⟨B_12.out, HV.out.2.2.lt, HV.out.2.2.cell⟩)
  clear HV B_11 H_11 C_11 YA_11 YAr_11 OA_11 OAr_11 WYA_11 NYA_11 WOA_11 NOA_11 NLA_11
  obtain ⟨v1, W1, gA, cA, W2, hr1, hr2, hb1, hb2, hli⟩ := sappend_both (W := VZ.drew) (ca := ic2) (cb := ic3) rfl (RowAt.call NOA_12.out.it.row (bdrew1 (Below.refl _ _))) (RowAt.call NLA_12.out.it.row (bdrew1 (Below.refl _ _))) (by rw [← HHS.out]; have := own_len13 RY.out (i := i); omega) (by rw [← HHT.out]; have := look_len13 RY.out (i := i); omega)
  obtain ⟨L, hL⟩ : ∃ L, S.items ++ T.items = L := ⟨_, rfl⟩
  rw [hL] at hr2 hli HS
  clear hL
  have HR1 := Lib.hid hr1
  have HR2 := Lib.hid hr2
  have D0 := Lib.hid (bdrew1 (Below.refl VZ.heap.size VZ))
  have DA := Lib.hid (D0.out.trans ((Below.refl VZ.drew.heap.size VZ.drew).alloc (Nat.le_refl _) (.cells #[] 54)))
  have D1 := Lib.hid (D0.out.trans hb1)
  have D2 := Lib.hid (D0.out.trans hb2)
  have HLI := Lib.hid (sns_row hli)
  clear hr1 hr2 hb1 hb2 hli
  have KS : Hid (∀ w', Below VZ.heap.size VZ w' → Below VZ.heap.size VZ w' ∧ (∀ ii, w'.cell? ⟨u8.heap.size + 1, ii, none⟩ = (#[.int .i64 S.err, .int .i64 S.kind, .int .i64 S.room, .slice qa2 S.players.length qc2, .slice ia2 S.items.length ic2, .int .i64 S.coins][ii]? : Option Value)) ∧ (∀ ii, w'.cell? ⟨u11.heap.size + 1, ii, none⟩ = (#[.int .i64 T.err, .int .i64 T.kind, .int .i64 T.room, .slice qa3 T.players.length qc3, .slice ia3 T.items.length ic3, .int .i64 T.coins][ii]? : Option Value))) := Lib.hid (fun w' hb => ⟨hb, fun ii => (hb.cell (p := ⟨u8.heap.size + 1, ii, none⟩) OAr_12.out.2.1).trans (OAr_12.out.2.2 ii), fun ii => (hb.cell (p := ⟨u11.heap.size + 1, ii, none⟩) LR_12.out.2.1).trans (LR_12.out.2.2 ii)⟩)
  refine wp_region_noPanic ?_
  refine wp_region_held_drew (S := (fun w' => Below VZ.heap.size VZ w' ∧ (∀ ii, w'.cell? ⟨u8.heap.size + 1, ii, none⟩ = (#[.int .i64 S.err, .int .i64 S.kind, .int .i64 S.room, .slice qa2 S.players.length qc2, .slice ia2 S.items.length ic2, .int .i64 S.coins][ii]? : Option Value)) ∧ (∀ ii, w'.cell? ⟨u11.heap.size + 1, ii, none⟩ = (#[.int .i64 T.err, .int .i64 T.kind, .int .i64 T.room, .slice qa3 T.players.length qc3, .slice ia3 T.items.length ic3, .int .i64 T.coins][ii]? : Option Value)))) (by kernel_rfl) (by (first | (with_reducible exact KS.out _ D0.out))) (fun hHeld => ?_)
  iterate 4
    (first | refine tkW 1 (v := ?_) ?_ ?_ | refine tkW 2 (v := ?_) ?_ ?_ | refine tkW 4 (v := ?_) ?_ ?_ | refine tkW 5 (v := ?_) ?_ ?_)
    rotate_left
    · (intro ww hSw; (try dsimp only at hSw); go_simp; (try with_reducible rfl))
    try simp only [Act.put, List.setIfInBounds_toArray, List.set_cons_zero, List.set_cons_succ]
  refine rdy1 0 (fun K hK => ?_)
  go_simp
  try go_wp2_with fail
  refine hK.out _ _ (by (first | (exact KS.out _ DA.out))) (fun hHeld => ?_)
  clear hK K
  try simp only [Act.put, List.setIfInBounds_toArray, List.set_cons_zero, List.set_cons_succ]
  refine rdy1 3 (fun K hK => ?_)
  refine sstep_append rfl (.tmp 102) (.tmp 104) 36 rfl _ _ v1 W1 rfl rfl HR1.out ?_
  refine hK.out _ _ (by (first | (with_reducible exact KS.out _ D1.out))) (fun hHeld => ?_)
  clear hK K
  try simp only [Act.put, List.setIfInBounds_toArray, List.set_cons_zero, List.set_cons_succ]
  refine rdy1 6 (fun K hK => ?_)
  refine sstep_append rfl (.tmp 105) (.tmp 107) 36 rfl _ _ _ W2 rfl rfl HR2.out ?_
  refine hK.out _ _ (by (first | (with_reducible exact KS.out _ D2.out))) (fun hHeld => ?_)
  clear hK K
  try simp only [Act.put, List.setIfInBounds_toArray, List.set_cons_zero, List.set_cons_succ]
  iterate 1
    (first | refine tkW 7 (v := ?_) ?_ ?_)
    rotate_left
    · (intro ww hSw; (try dsimp only at hSw); go_simp; (try with_reducible rfl))
    try simp only [Act.put, List.setIfInBounds_toArray, List.set_cons_zero, List.set_cons_succ]
  refine wpAnyH_done (by kernel_rfl) ?_ _
  refine NoPanic.normal ?_
  clear hHeld KS HR1 HR2 DA D1 D0
  have B_13 := Lib.hid (bl B_12.out D2.out)
  have H_13 := Lib.hid (H_12.out.call D2.out)
  have C_13 := Lib.hid (C_12.out.call D2.out)
  have YA_13 := Lib.hid (YA_12.out.call D2.out)
  have YAr_13 := Lib.hid (YAr_12.out.call D2.out)
  have OA_13 := Lib.hid (OA_12.out.call D2.out)
  have OAr_13 := Lib.hid (OAr_12.out.call D2.out)
  have LR_13 := Lib.hid (LR_12.out.call D2.out)
  have ZZ_13 := Lib.hid (ZZ_12.out.call D2.out)
  have WYA_13 := Lib.hid (WYA_12.out.call D2.out)
  have NYA_13 := Lib.hid (NYA_12.out.call D2.out)
  have WOA_13 := Lib.hid (WOA_12.out.call D2.out)
  have NOA_13 := Lib.hid (NOA_12.out.call D2.out)
  have NLA_13 := Lib.hid (NLA_12.out.call D2.out)
  clear D2 B_12 H_12 C_12 YA_12 YAr_12 OA_12 OAr_12 LR_12 ZZ_12 WYA_12 NYA_12 WOA_12 NOA_12 NLA_12
  have LS_13 := HLI
  clear HLI
  obtain ⟨sw, hsw⟩ : ∃ sw : Sn, sw = ⟨c.item, 2, c.box⟩ := ⟨_, rfl⟩
  rw [← hsw] at HS
  have HSW := Lib.hid hsw
  clear hsw
  have hm63 := LS_13.out.len
  go_wp2_with fail
  go_loopw [17, 18] (fun fv kv wr => ∃ k : Nat, k ≤ L.length ∧ fv = .int .i64 (((L.take k).count sw : Nat) : Int) ∧ kv = .int .i64 k ∧ Below W2.heap.size W2 wr) (fun _ kv _ => L.length - (intOf kv).toNat)
  case atStart => exact ⟨0, Nat.zero_le _, by simp, rfl, Below.refl _ _⟩
  case round =>
    obtain ⟨k, hk, rfl, rfl, hB⟩ := hrel
    have HB := Lib.hid hB
    clear hB
    obtain ⟨cnt, hcnt⟩ : ∃ n, (L.take k).count sw = n := ⟨_, rfl⟩
    have hcl : cnt ≤ k := by rw [← hcnt]; exact Nat.le_trans List.count_le_length (by simp; omega)
    have HCN := Lib.hid hcnt
    rw [hcnt]
    clear hcnt
    by_cases hlt : k < L.length
    · obtain ⟨gb, go, ha, hgb, hlc⟩ := (LS_13.out.call HB.out).at_ hlt
      obtain ⟨e0, e1, e2⟩ := hlc k hlt
      have HCT := Lib.hid (count_take hlt sw)
      obtain ⟨⟨it, kd, id⟩, hs0⟩ : ∃ s, L[k] = s := ⟨_, rfl⟩
      rw [hs0] at e0 e1 e2 HCT
      simp only at e0 e1 e2
      clear hs0 hlc
      subst ha
      have cw := (ZZ_13.out.call HB.out).2.2
      have hlw := (ZZ_13.out.call HB.out).2.1
      by_cases e : (⟨it, kd, id⟩ : Sn) = sw
      · have hq : ∀ W9, (binOp .eql 54 (.agg #[.int .i64 it, .int .i64 kd, .int .i64 id]) (.agg #[.int .i64 c.item, .int .i64 2, .int .i64 c.box])).run Tryz.prog W9 = .ok (.bool true) W9 := fun W9 => by rw [run_seen_eql, ← HSW.out, e]; simp
        have HT := Lib.hid (show (L.take (k + 1)).count sw = cnt + 1 by rw [HCT.out, HCN.out]; simp [e])
        clear e HCT HCN
        go_wp2_with fail
        refine wp_region_noPanic ?_
        refine wp_region_held_drew (S := (fun w' => w'.cell? ⟨gb, go + k * 3, none⟩ = some (.int .i64 it) ∧ w'.cell? ⟨gb, go + k * 3 + 1, none⟩ = some (.int .i64 kd) ∧ w'.cell? ⟨gb, go + k * 3 + 2, none⟩ = some (.int .i64 id) ∧ (∀ ii, w'.cell? ⟨u11.heap.size + 1 + 1, ii, none⟩ = (#[.int .i64 2, .int .i64 c.box][ii]? : Option Value)))) (by kernel_rfl) (by (first | (exact ⟨e0, e1, e2, cw⟩))) (fun hHeld => ?_)
        iterate 8
          (first | refine tkW 0 (v := ?_) ?_ ?_ | refine tkW 1 (v := ?_) ?_ ?_ | refine tkW 2 (v := ?_) ?_ ?_ | refine tkW 3 (v := ?_) ?_ ?_ | refine tkW 4 (v := ?_) ?_ ?_ | refine tkW 5 (v := ?_) ?_ ?_ | refine tkW 6 (v := ?_) ?_ ?_ | refine tkW 7 (v := ?_) ?_ ?_)
          rotate_left
          · (intro ww hSw; (try dsimp only at hSw); go_simp; (try with_reducible rfl))
          try simp only [Act.put, List.setIfInBounds_toArray, List.set_cons_zero, List.set_cons_succ]
        refine wpAnyH_done (by kernel_rfl) ?_ _
        refine NoPanic.normal ?_
        clear hHeld e0 e1 e2 cw hq
        have HB9 := Lib.hid (bdrew1 HB.out)
        generalize wr.drew = WR at *
        go_wp2_with fail
        go_roundw
        case rel => exact ⟨k + 1, by omega, by rw [HT.out]; try go_num, by go_num, HB9.out⟩
        case measure => simp [intOf]; omega
      · have hq : ∀ W9, (binOp .eql 54 (.agg #[.int .i64 it, .int .i64 kd, .int .i64 id]) (.agg #[.int .i64 c.item, .int .i64 2, .int .i64 c.box])).run Tryz.prog W9 = .ok (.bool false) W9 := fun W9 => by rw [run_seen_eql, ← HSW.out]; simp [e]
        have HT := Lib.hid (show (L.take (k + 1)).count sw = cnt by rw [HCT.out, HCN.out]; simp [e])
        clear e HCT HCN
        go_wp2_with fail
        refine wp_region_noPanic ?_
        refine wp_region_held_drew (S := (fun w' => w'.cell? ⟨gb, go + k * 3, none⟩ = some (.int .i64 it) ∧ w'.cell? ⟨gb, go + k * 3 + 1, none⟩ = some (.int .i64 kd) ∧ w'.cell? ⟨gb, go + k * 3 + 2, none⟩ = some (.int .i64 id) ∧ (∀ ii, w'.cell? ⟨u11.heap.size + 1 + 1, ii, none⟩ = (#[.int .i64 2, .int .i64 c.box][ii]? : Option Value)))) (by kernel_rfl) (by (first | (exact ⟨e0, e1, e2, cw⟩))) (fun hHeld => ?_)
        iterate 8
          (first | refine tkW 0 (v := ?_) ?_ ?_ | refine tkW 1 (v := ?_) ?_ ?_ | refine tkW 2 (v := ?_) ?_ ?_ | refine tkW 3 (v := ?_) ?_ ?_ | refine tkW 4 (v := ?_) ?_ ?_ | refine tkW 5 (v := ?_) ?_ ?_ | refine tkW 6 (v := ?_) ?_ ?_ | refine tkW 7 (v := ?_) ?_ ?_)
          rotate_left
          · (intro ww hSw; (try dsimp only at hSw); go_simp; (try with_reducible rfl))
          try simp only [Act.put, List.setIfInBounds_toArray, List.set_cons_zero, List.set_cons_succ]
        refine wpAnyH_done (by kernel_rfl) ?_ _
        refine NoPanic.normal ?_
        clear hHeld e0 e1 e2 cw hq
        have HB9 := Lib.hid (bdrew1 HB.out)
        generalize wr.drew = WR at *
        go_wp2_with fail
        go_roundw
        case rel => exact ⟨k + 1, by omega, by rw [HT.out]; try go_num, by go_num, HB9.out⟩
        case measure => simp [intOf]; omega
    · obtain rfl : k = L.length := by omega
      obtain rfl : cnt = 1 := by rw [← HCN.out, List.take_length]; exact HS.out
      go_wp2_with fail
      go_ret
      exact ⟨rfl, bl B_13.out HB.out⟩
theorem walk_atomSees (x : Wd) (p : Wp) (a : Int) (c : Cm) (ga wa : Option Addr) (gc wc : Nat) (w : World) (ha : (Lit.int .u8 a).wf = true) (h : WorldAt w p x) (hg : IntsAt w ga c.gives) (hw : IntsAt w wa c.wants) (_ : c.Wf) : Calls Tryz.prog 6 #[.agg (wC x p), .int .u8 a, .agg #[.int .i64 c.kind, .int .i64 c.dir, .int .i64 c.item, .int .i64 c.box, .int .i64 c.who, .slice ga c.gives.length gc, .int .i64 c.pay, .slice wa c.wants.length wc, .int .i64 c.fee]] w fun e w' => e = .returned (.bool true) ∧ Below w.heap.size w w' := by
  cases hf : fitsB x
  · exact atomSees_no x p a c ga wa gc wc w h hg hw hf
  cases hfw : cfewB c
  · exact atomSees_nofew x p a c ga wa gc wc w h hg hw hf hfw
  cases hmy : refMayB c
  · exact atomSees_nomay x p a c ga wa gc wc w h hg hw hf hfw hmy
  have h1 := wf_u8 ha
  obtain ⟨m1, rfl⟩ : ∃ m : Nat, a = m := ⟨a.toNat, by omega⟩
  by_cases he : (doW x (m1 % x.at_.length) c).2.err = 0
  case neg => exact atomSees_err x p m1 _ c ga wa gc wc (by omega) rfl w h hg hw hf hfw hmy he
  by_cases k1 : c.kind = 1
  · exact atomSees_k1 x p m1 _ c ga wa gc wc (by omega) rfl w h hg hw hf hfw hmy he k1
  by_cases k3 : c.kind = 3
  · exact atomSees_k3 x p m1 _ c ga wa gc wc (by omega) rfl w h hg hw hf hfw hmy he k3
  by_cases k6 : c.kind = 6
  · exact atomSees_k6 x p m1 _ c ga wa gc wc (by omega) rfl w h hg hw hf hfw hmy he k6
  by_cases k4 : c.kind = 4
  · exact atomSees_k4 x p m1 _ c ga wa gc wc (by omega) rfl w h hg hw hf hfw hmy he k4
  by_cases k5 : c.kind = 5
  · exact atomSees_k5 x p m1 _ c ga wa gc wc (by omega) rfl w h hg hw hf hfw hmy he k5
  exact atomSees_k0 x p m1 _ c ga wa gc wc (by omega) rfl w h hg hw hf hfw hmy he k1 k3 k6 k4 k5
set_option maxRecDepth 100000 in
theorem lifted_atomSees (os : Os) (started : os.Started) (H : Type) (enc : TypeId × Value → H) :
    ReturnsInHanded {} Tryz.checked os 6 .any (Rows.atomSeesSpec.pre6 enc Tryz.prog Tryz.f6 Rows.atomSeesRow.domain false) (Rows.atomSeesSpec.post enc Tryz.prog Tryz.f6 false true false false) := by
  refine returnsInHanded_of_change (C := Tryz.checked) (by kernel_rfl) started (by kernel_rfl) Tryz.func6
    (ChangeSpec.witness6 (enc := enc) (C := Tryz.checked) false ⟨#[], #[.agg #[.slice none 0 0, .slice none 0 0, .slice none 0 0, .slice none 0 0, .slice none 0 0, .int .i64 0, .int .i64 0, .int .i64 0, .slice none 0 0, .slice none 0 0, .slice none 0 0], .int .u8 0, .agg #[.int .i64 0, .int .i64 0, .int .i64 0, .int .i64 0, .int .i64 0, .slice none 0 0, .int .i64 0, .slice none 0 0, .int .i64 0]], []⟩ 8 (by kernel_rfl) (by kernel_rfl) (by kernel_rfl) (by kernel_rfl)) ?_
  intro W base args ds gs before hval0 hW hcnd _
  have hval : ∀ (j : Nat) t v, Tryz.f6.params[j]? = some t → args[j]? = some v → Value.okWide Tryz.prog W .any base t v := hval0
  have hW' := hW
  obtain ⟨p, q, hA0, hV, rfl, hfz, hnd⟩ := hW
  have hA : DataW.TrodAll enc Tryz.prog W 0 (fun _ => true) true Tryz.f6.params.toList args.toList ds p := hA0
  rw [Tryz.params6] at hA hval
  obtain ⟨v0, vs0, d0, ds0, p0, q0, hargs, rfl, rfl, h0, r0⟩ := trodAll_cons hA
  obtain ⟨v1, vs1, d1, ds1, p1, q1, rfl, rfl, rfl, h1, r1⟩ := trodAll_cons r0
  obtain ⟨v2, vs2, d2, ds2, p2, q2, rfl, rfl, rfl, h2, r2⟩ := trodAll_cons r1
  obtain ⟨rfl, rfl, rfl⟩ := trodAll_nil r2
  obtain rfl : args = #[v0, v1, v2] := by cases args; simp_all
  obtain ⟨rfl, rfl⟩ := trodVars_none hV
  obtain ⟨wx0, wp0, rfl, m0⟩ := read_world (hval 0 29 v0 rfl rfl) h0
  obtain ⟨a1, rfl, rfl, rfl, w1⟩ := open_int Tryz.underlying5 (hval 1 5 v1 rfl rfl) h1
  obtain ⟨c2, ga2, wa2, gc2, wc2, rfl, ma2, mb2, mg2⟩ := read_cmd (hval 2 31 v2 rfl rfl) h2
  clear hA0 hval0
  simp only [List.append_nil] at hW'
  refine (walk_atomSees wx0 wp0 a1 c2 ga2 wa2 gc2 wc2 W w1 m0 ma2 mb2 mg2).mono fun e W' ⟨he, hg⟩ => ?_
  subst he
  exact ⟨_, rfl, law_post (by kernel_rfl) rfl (by rw [Tryz.params6]; decide +kernel) rfl rfl Tryz.underlying4 hW' hg⟩

/-- ████ THE STATEMENT ████ -/
theorem proved_atomSees : Rows.AtomSeesSaid :=
  OpenClaim.holds_of_wide 6 Tryz.f6 rfl rfl rfl rfl rfl rfl rfl ⟨rfl, rfl, rfl, rfl, rfl⟩ rfl rfl rfl rfl rfl (by kernel_rfl) Tryz.func6 (by kernel_rfl)
    (of_decide_eq_true (by kernel_rfl)) (by unfold Func.isWrapper; first | (rw [if_pos (by decide +kernel)]; kernel_rfl) | (rw [if_neg (by decide +kernel)]; exact ⟨rfl, rfl⟩))
    (fun os started H enc _ => lifted_atomSees os started H enc)
#print axioms proved_atomSees
end Go.Proofs.YthagafopkkhjjaaGreat
