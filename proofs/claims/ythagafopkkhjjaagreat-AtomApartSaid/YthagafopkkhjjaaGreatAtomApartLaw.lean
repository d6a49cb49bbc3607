/- AtomApart: two commands of players in unlike rooms, who neither go, push, give nor trade, come to the same in either order. -/
import Derived.Test.YthagafopkkhjjaaGreatRows
import Derived.Test.YthagafopkkhjjaaGreatTk
import Derived.Test.YthagafopkkhjjaaGreatKit
import Derived.Test.YthagafopkkhjjaaGreatGMem
import Derived.Test.YthagafopkkhjjaaGreatCoin
import Derived.Test.YthagafopkkhjjaaGreatGWorld
import Derived.Test.YthagafopkkhjjaaGreatGCmdN
import Derived.Test.YthagafopkkhjjaaGreatGCmdR
import Derived.Test.YthagafopkkhjjaaGreatCmdRead
import Derived.Test.YthagafopkkhjjaaGreatDescMay
import Derived.Test.YthagafopkkhjjaaGreatGDescN
import Derived.Test.YthagafopkkhjjaaGreatGRight
import Derived.Test.YthagafopkkhjjaaGreatGCopy
import Derived.Test.YthagafopkkhjjaaGreatGRefD
import Derived.Test.YthagafopkkhjjaaGreatGAs
import Derived.Test.YthagafopkkhjjaaGreatRefRight
import Derived.Test.YthagafopkkhjjaaGreatGTreeL
import Derived.Test.YthagafopkkhjjaaGreatGRepR
import Derived.Test.YthagafopkkhjjaaGreatHoldS
import Derived.Test.YthagafopkkhjjaaGreatGSightC
import Derived.Test.YthagafopkkhjjaaGreatAtomMath
import Derived.Test.YthagafopkkhjjaaGreatAtomA
import Derived.Test.YthagafopkkhjjaaGreatAtomB
import Derived.Test.YthagafopkkhjjaaGreatAtomArg
import Derived.Test.YthagafopkkhjjaaGreatAtomAll
import Derived.Test.YthagafopkkhjjaaGreatAtomAwake
import Derived.Test.YthagafopkkhjjaaGreatAtomMath2
import Derived.Test.YthagafopkkhjjaaGreatAtomFar
import Derived.Test.YthagafopkkhjjaaGreatAtomApart
import Derived.Deep.DeepCutAuto
import Derived.Deep.QuietTactic
import Derived.BigQuiet
import Derived.Deep.RegionHeld3
import Derived.WalkKit
import Derived.ProofKit
import Derived.OpenShut
import Derived.IntWalk
namespace Go.Proofs.YthagafopkkhjjaaGreat
open Go.ChangeShapes Go.WideShapes Go.ChangeAt Go.RowKit
set_option linter.unusedVariables false
open Go.RowKit
theorem rp_eq {a b : Rp} (h : a = b) (pa ia pb ib : Option Addr) (pc ic pcb icb : Nat) (w : World) (h1 : IntsAt w pa a.players) (h2 : SnsAt w ia a.items) (h3 : IntsAt w pb b.players) (h4 : SnsAt w ib b.items) :
    Calls Tryz.prog 13 #[.agg #[.int .i64 a.err, .int .i64 a.kind, .int .i64 a.room, .slice pa a.players.length pc, .slice ia a.items.length ic, .int .i64 a.coins], .agg #[.int .i64 b.err, .int .i64 b.kind, .int .i64 b.room, .slice pb b.players.length pcb, .slice ib b.items.length icb, .int .i64 b.coins]] w fun e w' => e = .returned (.bool true) ∧ Below w.heap.size w w' := by
  have := rrefsame_any a b pa ia pb ib pc ic pcb icb w h1 h2 h3 h4
  rwa [show rsameB a b = true by rw [h]; exact rsameB_refl _] at this
theorem do_act13 {x : Wd} {i : Nat} {c : Cm} (hm : refMayB c = true) (hk : 3 ≤ c.kind ∧ c.kind ≤ 6) : doW x i c = ((actW x i c).1, if (actW x i c).2.2 = 0 then okR c.kind 0 else errR (actW x i c).2.2) := by
  rw [deed_do hm (by omega)]
  unfold deedR
  rw [act_room0 x i c hk.1]
  by_cases h : (actW x i c).2.2 = 0
  · rw [if_pos h, if_pos h]
  · rw [if_neg h, if_neg h, act_stays h]
theorem do_none13 {x : Wd} {i : Nat} {c : Cm} (hm : ¬ refMayB c = true) : doW x i c = (x, errR 2) := by
  unfold doW; rw [if_pos (by simpa using hm)]
theorem do_apart {x : Wd} (hx : rightW x = true) {i k : Nat} (hi : i < x.at_.length) (hk : k < x.at_.length) (hr : ¬ roomOf x i = roomOf x k) {c d : Cm} (hc : 3 ≤ c.kind ∧ c.kind ≤ 6) (hd : 3 ≤ d.kind ∧ d.kind ≤ 6) :
    (doW (doW x k d).1 i c).2 = (doW x i c).2 ∧ (doW (doW x i c).1 k d).2 = (doW x k d).2 ∧ (doW (doW x i c).1 k d).1 = (doW (doW x k d).1 i c).1 := by
  by_cases mc : refMayB c = true
  · by_cases md : refMayB d = true
    · obtain ⟨e1, e2, e3⟩ := act_apart hx hi hk hr hc hd (may_kind mc).2.2.2 (may_kind md).2.2.2
      simp only [do_act13 mc hc, do_act13 md hd, e1, e2, e3, and_self]
    · simp only [do_none13 md, and_self]
  · simp only [do_none13 mc, and_self]
set_option maxRecDepth 100000 in
set_option maxHeartbeats 1000000 in
theorem atomApart_no0 (x : Wd) (p : Wp) (a b2 : Int) (c d : Cm) (gac wac gad wad : Option Addr) (gcc wcc gcd wcd : Nat) (w : World) (h : WorldAt w p x) (hgc : IntsAt w gac c.gives) (hwc : IntsAt w wac c.wants) (hgd : IntsAt w gad d.gives) (hwd : IntsAt w wad d.wants) (hf : fitsB x = false) : Calls Tryz.prog 5 #[.agg (wC x p), .int .u8 a, .agg #[.int .i64 c.kind, .int .i64 c.dir, .int .i64 c.item, .int .i64 c.box, .int .i64 c.who, .slice gac c.gives.length gcc, .int .i64 c.pay, .slice wac c.wants.length wcc, .int .i64 c.fee], .int .u8 b2, .agg #[.int .i64 d.kind, .int .i64 d.dir, .int .i64 d.item, .int .i64 d.box, .int .i64 d.who, .slice gad d.gives.length gcd, .int .i64 d.pay, .slice wad d.wants.length wcd, .int .i64 d.fee]] w fun e w' => e = .returned (.bool true) ∧ Below w.heap.size w w' := by
  have HF := Lib.hid hf
  have HWA := Lib.hid h
  clear hf h
  have HGc := Lib.hid hgc
  have HWc := Lib.hid hwc
  clear hgc hwc
  have HGd := Lib.hid hgd
  have HWd := Lib.hid hwd
  clear hgd hwd
  have HP0 := Lib.hid (Tri.start 29 31 31 w (wC x p) #[.int .i64 c.kind, .int .i64 c.dir, .int .i64 c.item, .int .i64 c.box, .int .i64 c.who, .slice gac c.gives.length gcc, .int .i64 c.pay, .slice wac c.wants.length wcc, .int .i64 c.fee] #[.int .i64 d.kind, .int .i64 d.dir, .int .i64 d.item, .int .i64 d.box, .int .i64 d.who, .slice gad d.gives.length gcd, .int .i64 d.pay, .slice wad d.wants.length wcd, .int .i64 d.fee])
  have hWC := @wC.eq_1
  go_enter Tryz.func5, Tryz.ntmps5
  go_wp2_with fail
  generalize ((w.alloc (.cells (wC x p) 29)).alloc (.cells #[.int .i64 c.kind, .int .i64 c.dir, .int .i64 c.item, .int .i64 c.box, .int .i64 c.who, .slice gac c.gives.length gcc, .int .i64 c.pay, .slice wac c.wants.length wcc, .int .i64 c.fee] 31)).alloc (.cells #[.int .i64 d.kind, .int .i64 d.dir, .int .i64 d.item, .int .i64 d.box, .int .i64 d.who, .slice gad d.gives.length gcd, .int .i64 d.pay, .slice wad d.wants.length wcd, .int .i64 d.fee] 31) = V0 at *
  have B_0 := Lib.hid HP0.out.b
  have H_0 := Lib.hid (show Holds w w.heap.size (wC x p) V0 from ⟨B_0.out, HP0.out.a.lt, HP0.out.a.cell⟩)
  have C_0 := Lib.hid (show Holds w (w.heap.size + 1) #[.int .i64 c.kind, .int .i64 c.dir, .int .i64 c.item, .int .i64 c.box, .int .i64 c.who, .slice gac c.gives.length gcc, .int .i64 c.pay, .slice wac c.wants.length wcc, .int .i64 c.fee] V0 from ⟨B_0.out, HP0.out.m.lt, HP0.out.m.cell⟩)
  have D_0 := Lib.hid (show Holds w (w.heap.size + 2) #[.int .i64 d.kind, .int .i64 d.dir, .int .i64 d.item, .int .i64 d.box, .int .i64 d.who, .slice gad d.gives.length gcd, .int .i64 d.pay, .slice wad d.wants.length wcd, .int .i64 d.fee] V0 from ⟨B_0.out, HP0.out.r.lt, HP0.out.r.cell⟩)
  clear HP0
  refine (awake13_any _).mono ?_
  rintro e u1 ⟨rfl, b1⟩
  have B_1 := Lib.hid (bl B_0.out b1)
  have H_1 := Lib.hid (H_0.out.call b1)
  have C_1 := Lib.hid (C_0.out.call b1)
  have D_1 := Lib.hid (D_0.out.call b1)
  clear b1 B_0 H_0 C_0 D_0
  have hcH := H_1.out.2.2
  have hlH := H_1.out.2.1
  have hcC := C_1.out.2.2
  have hlC := C_1.out.2.1
  have hcD := D_1.out.2.2
  have hlD := D_1.out.2.1
  go_wp2_with fail
  refine (fits13_any x p _ (HWA.out.below B_1.out (Nat.le_refl _))).mono ?_
  rintro e u2 ⟨rfl, b2⟩
  rw [HF.out]
  clear hcH hlH hcC hlC hcD hlD
  have B_2 := Lib.hid (bl B_1.out b2)
  have H_2 := Lib.hid (H_1.out.call b2)
  have C_2 := Lib.hid (C_1.out.call b2)
  have D_2 := Lib.hid (D_1.out.call b2)
  clear b2 B_1 H_1 C_1 D_1
  have hcH := H_2.out.2.2
  have hlH := H_2.out.2.1
  have hcC := C_2.out.2.2
  have hlC := C_2.out.2.1
  have hcD := D_2.out.2.2
  have hlD := D_2.out.2.1
  go_wp2_with fail
  refine (awake13_any _).mono ?_
  rintro e u3 ⟨rfl, b3⟩
  clear hcH hlH hcC hlC hcD hlD
  have B_3 := Lib.hid (bl B_2.out b3)
  have H_3 := Lib.hid (H_2.out.call b3)
  have C_3 := Lib.hid (C_2.out.call b3)
  have D_3 := Lib.hid (D_2.out.call b3)
  clear b3 B_2 H_2 C_2 D_2
  have hcH := H_3.out.2.2
  have hlH := H_3.out.2.1
  have hcC := C_3.out.2.2
  have hlC := C_3.out.2.1
  have hcD := D_3.out.2.2
  have hlD := D_3.out.2.1
  go_wp2_with fail
  go_ret
  exact ⟨rfl, B_3.out⟩
set_option maxRecDepth 100000 in
set_option maxHeartbeats 1000000 in
theorem atomApart_no1 (x : Wd) (p : Wp) (a b2 : Int) (c d : Cm) (gac wac gad wad : Option Addr) (gcc wcc gcd wcd : Nat) (w : World) (h : WorldAt w p x) (hgc : IntsAt w gac c.gives) (hwc : IntsAt w wac c.wants) (hgd : IntsAt w gad d.gives) (hwd : IntsAt w wad d.wants) (hf : fitsB x = true) (hfwc : cfewB c = false) : Calls Tryz.prog 5 #[.agg (wC x p), .int .u8 a, .agg #[.int .i64 c.kind, .int .i64 c.dir, .int .i64 c.item, .int .i64 c.box, .int .i64 c.who, .slice gac c.gives.length gcc, .int .i64 c.pay, .slice wac c.wants.length wcc, .int .i64 c.fee], .int .u8 b2, .agg #[.int .i64 d.kind, .int .i64 d.dir, .int .i64 d.item, .int .i64 d.box, .int .i64 d.who, .slice gad d.gives.length gcd, .int .i64 d.pay, .slice wad d.wants.length wcd, .int .i64 d.fee]] w fun e w' => e = .returned (.bool true) ∧ Below w.heap.size w w' := by
  have HF := Lib.hid hf
  have HWA := Lib.hid h
  clear hf h
  have HGc := Lib.hid hgc
  have HWc := Lib.hid hwc
  clear hgc hwc
  have HGd := Lib.hid hgd
  have HWd := Lib.hid hwd
  clear hgd hwd
  have HFWc := Lib.hid hfwc
  clear hfwc
  have HP0 := Lib.hid (Tri.start 29 31 31 w (wC x p) #[.int .i64 c.kind, .int .i64 c.dir, .int .i64 c.item, .int .i64 c.box, .int .i64 c.who, .slice gac c.gives.length gcc, .int .i64 c.pay, .slice wac c.wants.length wcc, .int .i64 c.fee] #[.int .i64 d.kind, .int .i64 d.dir, .int .i64 d.item, .int .i64 d.box, .int .i64 d.who, .slice gad d.gives.length gcd, .int .i64 d.pay, .slice wad d.wants.length wcd, .int .i64 d.fee])
  have hWC := @wC.eq_1
  go_enter Tryz.func5, Tryz.ntmps5
  go_wp2_with fail
  generalize ((w.alloc (.cells (wC x p) 29)).alloc (.cells #[.int .i64 c.kind, .int .i64 c.dir, .int .i64 c.item, .int .i64 c.box, .int .i64 c.who, .slice gac c.gives.length gcc, .int .i64 c.pay, .slice wac c.wants.length wcc, .int .i64 c.fee] 31)).alloc (.cells #[.int .i64 d.kind, .int .i64 d.dir, .int .i64 d.item, .int .i64 d.box, .int .i64 d.who, .slice gad d.gives.length gcd, .int .i64 d.pay, .slice wad d.wants.length wcd, .int .i64 d.fee] 31) = V0 at *
  have B_0 := Lib.hid HP0.out.b
  have H_0 := Lib.hid (show Holds w w.heap.size (wC x p) V0 from ⟨B_0.out, HP0.out.a.lt, HP0.out.a.cell⟩)
  have C_0 := Lib.hid (show Holds w (w.heap.size + 1) #[.int .i64 c.kind, .int .i64 c.dir, .int .i64 c.item, .int .i64 c.box, .int .i64 c.who, .slice gac c.gives.length gcc, .int .i64 c.pay, .slice wac c.wants.length wcc, .int .i64 c.fee] V0 from ⟨B_0.out, HP0.out.m.lt, HP0.out.m.cell⟩)
  have D_0 := Lib.hid (show Holds w (w.heap.size + 2) #[.int .i64 d.kind, .int .i64 d.dir, .int .i64 d.item, .int .i64 d.box, .int .i64 d.who, .slice gad d.gives.length gcd, .int .i64 d.pay, .slice wad d.wants.length wcd, .int .i64 d.fee] V0 from ⟨B_0.out, HP0.out.r.lt, HP0.out.r.cell⟩)
  clear HP0
  refine (awake13_any _).mono ?_
  rintro e u1 ⟨rfl, b1⟩
  have B_1 := Lib.hid (bl B_0.out b1)
  have H_1 := Lib.hid (H_0.out.call b1)
  have C_1 := Lib.hid (C_0.out.call b1)
  have D_1 := Lib.hid (D_0.out.call b1)
  clear b1 B_0 H_0 C_0 D_0
  have hcH := H_1.out.2.2
  have hlH := H_1.out.2.1
  have hcC := C_1.out.2.2
  have hlC := C_1.out.2.1
  have hcD := D_1.out.2.2
  have hlD := D_1.out.2.1
  go_wp2_with fail
  refine (fits13_any x p _ (HWA.out.below B_1.out (Nat.le_refl _))).mono ?_
  rintro e u2 ⟨rfl, b2⟩
  rw [HF.out]
  clear hcH hlH hcC hlC hcD hlD
  have B_2 := Lib.hid (bl B_1.out b2)
  have H_2 := Lib.hid (H_1.out.call b2)
  have C_2 := Lib.hid (C_1.out.call b2)
  have D_2 := Lib.hid (D_1.out.call b2)
  clear b2 B_1 H_1 C_1 D_1
  have hcH := H_2.out.2.2
  have hlH := H_2.out.2.1
  have hcC := C_2.out.2.2
  have hlC := C_2.out.2.1
  have hcD := D_2.out.2.2
  have hlD := D_2.out.2.1
  go_wp2_with fail
  refine (cfew_any c gac wac gcc wcc _ (HGc.out.below B_2.out (Nat.le_refl _)) (HWc.out.below B_2.out (Nat.le_refl _))).mono ?_
  rintro e u3 ⟨rfl, b3⟩
  rw [HFWc.out]
  clear hcH hlH hcC hlC hcD hlD
  have B_3 := Lib.hid (bl B_2.out b3)
  have H_3 := Lib.hid (H_2.out.call b3)
  have C_3 := Lib.hid (C_2.out.call b3)
  have D_3 := Lib.hid (D_2.out.call b3)
  clear b3 B_2 H_2 C_2 D_2
  have hcH := H_3.out.2.2
  have hlH := H_3.out.2.1
  have hcC := C_3.out.2.2
  have hlC := C_3.out.2.1
  have hcD := D_3.out.2.2
  have hlD := D_3.out.2.1
  go_wp2_with fail
  refine (awake13_any _).mono ?_
  rintro e u4 ⟨rfl, b4⟩
  clear hcH hlH hcC hlC hcD hlD
  have B_4 := Lib.hid (bl B_3.out b4)
  have H_4 := Lib.hid (H_3.out.call b4)
  have C_4 := Lib.hid (C_3.out.call b4)
  have D_4 := Lib.hid (D_3.out.call b4)
  clear b4 B_3 H_3 C_3 D_3
  have hcH := H_4.out.2.2
  have hlH := H_4.out.2.1
  have hcC := C_4.out.2.2
  have hlC := C_4.out.2.1
  have hcD := D_4.out.2.2
  have hlD := D_4.out.2.1
  go_wp2_with fail
  go_ret
  exact ⟨rfl, B_4.out⟩
set_option maxRecDepth 100000 in
set_option maxHeartbeats 1000000 in
theorem atomApart_no2 (x : Wd) (p : Wp) (a b2 : Int) (c d : Cm) (gac wac gad wad : Option Addr) (gcc wcc gcd wcd : Nat) (w : World) (h : WorldAt w p x) (hgc : IntsAt w gac c.gives) (hwc : IntsAt w wac c.wants) (hgd : IntsAt w gad d.gives) (hwd : IntsAt w wad d.wants) (hf : fitsB x = true) (hfwc : cfewB c = true) (hfwd : cfewB d = false) : Calls Tryz.prog 5 #[.agg (wC x p), .int .u8 a, .agg #[.int .i64 c.kind, .int .i64 c.dir, .int .i64 c.item, .int .i64 c.box, .int .i64 c.who, .slice gac c.gives.length gcc, .int .i64 c.pay, .slice wac c.wants.length wcc, .int .i64 c.fee], .int .u8 b2, .agg #[.int .i64 d.kind, .int .i64 d.dir, .int .i64 d.item, .int .i64 d.box, .int .i64 d.who, .slice gad d.gives.length gcd, .int .i64 d.pay, .slice wad d.wants.length wcd, .int .i64 d.fee]] w fun e w' => e = .returned (.bool true) ∧ Below w.heap.size w w' := by
  have HF := Lib.hid hf
  have HWA := Lib.hid h
  clear hf h
  have HGc := Lib.hid hgc
  have HWc := Lib.hid hwc
  clear hgc hwc
  have HGd := Lib.hid hgd
  have HWd := Lib.hid hwd
  clear hgd hwd
  have HFWc := Lib.hid hfwc
  clear hfwc
  have HFWd := Lib.hid hfwd
  clear hfwd
  have HP0 := Lib.hid (Tri.start 29 31 31 w (wC x p) #[.int .i64 c.kind, .int .i64 c.dir, .int .i64 c.item, .int .i64 c.box, .int .i64 c.who, .slice gac c.gives.length gcc, .int .i64 c.pay, .slice wac c.wants.length wcc, .int .i64 c.fee] #[.int .i64 d.kind, .int .i64 d.dir, .int .i64 d.item, .int .i64 d.box, .int .i64 d.who, .slice gad d.gives.length gcd, .int .i64 d.pay, .slice wad d.wants.length wcd, .int .i64 d.fee])
  have hWC := @wC.eq_1
  go_enter Tryz.func5, Tryz.ntmps5
  go_wp2_with fail
  generalize ((w.alloc (.cells (wC x p) 29)).alloc (.cells #[.int .i64 c.kind, .int .i64 c.dir, .int .i64 c.item, .int .i64 c.box, .int .i64 c.who, .slice gac c.gives.length gcc, .int .i64 c.pay, .slice wac c.wants.length wcc, .int .i64 c.fee] 31)).alloc (.cells #[.int .i64 d.kind, .int .i64 d.dir, .int .i64 d.item, .int .i64 d.box, .int .i64 d.who, .slice gad d.gives.length gcd, .int .i64 d.pay, .slice wad d.wants.length wcd, .int .i64 d.fee] 31) = V0 at *
  have B_0 := Lib.hid HP0.out.b
  have H_0 := Lib.hid (show Holds w w.heap.size (wC x p) V0 from ⟨B_0.out, HP0.out.a.lt, HP0.out.a.cell⟩)
  have C_0 := Lib.hid (show Holds w (w.heap.size + 1) #[.int .i64 c.kind, .int .i64 c.dir, .int .i64 c.item, .int .i64 c.box, .int .i64 c.who, .slice gac c.gives.length gcc, .int .i64 c.pay, .slice wac c.wants.length wcc, .int .i64 c.fee] V0 from ⟨B_0.out, HP0.out.m.lt, HP0.out.m.cell⟩)
  have D_0 := Lib.hid (show Holds w (w.heap.size + 2) #[.int .i64 d.kind, .int .i64 d.dir, .int .i64 d.item, .int .i64 d.box, .int .i64 d.who, .slice gad d.gives.length gcd, .int .i64 d.pay, .slice wad d.wants.length wcd, .int .i64 d.fee] V0 from ⟨B_0.out, HP0.out.r.lt, HP0.out.r.cell⟩)
  clear HP0
  refine (awake13_any _).mono ?_
  rintro e u1 ⟨rfl, b1⟩
  have B_1 := Lib.hid (bl B_0.out b1)
  have H_1 := Lib.hid (H_0.out.call b1)
  have C_1 := Lib.hid (C_0.out.call b1)
  have D_1 := Lib.hid (D_0.out.call b1)
  clear b1 B_0 H_0 C_0 D_0
  have hcH := H_1.out.2.2
  have hlH := H_1.out.2.1
  have hcC := C_1.out.2.2
  have hlC := C_1.out.2.1
  have hcD := D_1.out.2.2
  have hlD := D_1.out.2.1
  go_wp2_with fail
  refine (fits13_any x p _ (HWA.out.below B_1.out (Nat.le_refl _))).mono ?_
  rintro e u2 ⟨rfl, b2⟩
  rw [HF.out]
  clear hcH hlH hcC hlC hcD hlD
  have B_2 := Lib.hid (bl B_1.out b2)
  have H_2 := Lib.hid (H_1.out.call b2)
  have C_2 := Lib.hid (C_1.out.call b2)
  have D_2 := Lib.hid (D_1.out.call b2)
  clear b2 B_1 H_1 C_1 D_1
  have hcH := H_2.out.2.2
  have hlH := H_2.out.2.1
  have hcC := C_2.out.2.2
  have hlC := C_2.out.2.1
  have hcD := D_2.out.2.2
  have hlD := D_2.out.2.1
  go_wp2_with fail
  refine (cfew_any c gac wac gcc wcc _ (HGc.out.below B_2.out (Nat.le_refl _)) (HWc.out.below B_2.out (Nat.le_refl _))).mono ?_
  rintro e u3 ⟨rfl, b3⟩
  rw [HFWc.out]
  clear hcH hlH hcC hlC hcD hlD
  have B_3 := Lib.hid (bl B_2.out b3)
  have H_3 := Lib.hid (H_2.out.call b3)
  have C_3 := Lib.hid (C_2.out.call b3)
  have D_3 := Lib.hid (D_2.out.call b3)
  clear b3 B_2 H_2 C_2 D_2
  have hcH := H_3.out.2.2
  have hlH := H_3.out.2.1
  have hcC := C_3.out.2.2
  have hlC := C_3.out.2.1
  have hcD := D_3.out.2.2
  have hlD := D_3.out.2.1
  go_wp2_with fail
  refine (cfew_any d gad wad gcd wcd _ (HGd.out.below B_3.out (Nat.le_refl _)) (HWd.out.below B_3.out (Nat.le_refl _))).mono ?_
  rintro e u4 ⟨rfl, b4⟩
  rw [HFWd.out]
  clear hcH hlH hcC hlC hcD hlD
  have B_4 := Lib.hid (bl B_3.out b4)
  have H_4 := Lib.hid (H_3.out.call b4)
  have C_4 := Lib.hid (C_3.out.call b4)
  have D_4 := Lib.hid (D_3.out.call b4)
  clear b4 B_3 H_3 C_3 D_3
  have hcH := H_4.out.2.2
  have hlH := H_4.out.2.1
  have hcC := C_4.out.2.2
  have hlC := C_4.out.2.1
  have hcD := D_4.out.2.2
  have hlD := D_4.out.2.1
  go_wp2_with fail
  refine (awake13_any _).mono ?_
  rintro e u5 ⟨rfl, b5⟩
  clear hcH hlH hcC hlC hcD hlD
  have B_5 := Lib.hid (bl B_4.out b5)
  have H_5 := Lib.hid (H_4.out.call b5)
  have C_5 := Lib.hid (C_4.out.call b5)
  have D_5 := Lib.hid (D_4.out.call b5)
  clear b5 B_4 H_4 C_4 D_4
  have hcH := H_5.out.2.2
  have hlH := H_5.out.2.1
  have hcC := C_5.out.2.2
  have hlC := C_5.out.2.1
  have hcD := D_5.out.2.2
  have hlD := D_5.out.2.1
  go_wp2_with fail
  go_ret
  exact ⟨rfl, B_5.out⟩
set_option maxRecDepth 100000 in
set_option maxHeartbeats 1000000 in
theorem atomApart_no3 (x : Wd) (p : Wp) (a b2 : Int) (c d : Cm) (gac wac gad wad : Option Addr) (gcc wcc gcd wcd : Nat) (w : World) (h : WorldAt w p x) (hgc : IntsAt w gac c.gives) (hwc : IntsAt w wac c.wants) (hgd : IntsAt w gad d.gives) (hwd : IntsAt w wad d.wants) (hf : fitsB x = true) (hfwc : cfewB c = true) (hfwd : cfewB d = true) (k0 : decide (c.kind < 3) = true) : Calls Tryz.prog 5 #[.agg (wC x p), .int .u8 a, .agg #[.int .i64 c.kind, .int .i64 c.dir, .int .i64 c.item, .int .i64 c.box, .int .i64 c.who, .slice gac c.gives.length gcc, .int .i64 c.pay, .slice wac c.wants.length wcc, .int .i64 c.fee], .int .u8 b2, .agg #[.int .i64 d.kind, .int .i64 d.dir, .int .i64 d.item, .int .i64 d.box, .int .i64 d.who, .slice gad d.gives.length gcd, .int .i64 d.pay, .slice wad d.wants.length wcd, .int .i64 d.fee]] w fun e w' => e = .returned (.bool true) ∧ Below w.heap.size w w' := by
  have HF := Lib.hid hf
  have HWA := Lib.hid h
  clear hf h
  have HGc := Lib.hid hgc
  have HWc := Lib.hid hwc
  clear hgc hwc
  have HGd := Lib.hid hgd
  have HWd := Lib.hid hwd
  clear hgd hwd
  have HFWc := Lib.hid hfwc
  clear hfwc
  have HFWd := Lib.hid hfwd
  clear hfwd
  have HP0 := Lib.hid (Tri.start 29 31 31 w (wC x p) #[.int .i64 c.kind, .int .i64 c.dir, .int .i64 c.item, .int .i64 c.box, .int .i64 c.who, .slice gac c.gives.length gcc, .int .i64 c.pay, .slice wac c.wants.length wcc, .int .i64 c.fee] #[.int .i64 d.kind, .int .i64 d.dir, .int .i64 d.item, .int .i64 d.box, .int .i64 d.who, .slice gad d.gives.length gcd, .int .i64 d.pay, .slice wad d.wants.length wcd, .int .i64 d.fee])
  have hWC := @wC.eq_1
  go_enter Tryz.func5, Tryz.ntmps5
  go_wp2_with fail
  generalize ((w.alloc (.cells (wC x p) 29)).alloc (.cells #[.int .i64 c.kind, .int .i64 c.dir, .int .i64 c.item, .int .i64 c.box, .int .i64 c.who, .slice gac c.gives.length gcc, .int .i64 c.pay, .slice wac c.wants.length wcc, .int .i64 c.fee] 31)).alloc (.cells #[.int .i64 d.kind, .int .i64 d.dir, .int .i64 d.item, .int .i64 d.box, .int .i64 d.who, .slice gad d.gives.length gcd, .int .i64 d.pay, .slice wad d.wants.length wcd, .int .i64 d.fee] 31) = V0 at *
  have B_0 := Lib.hid HP0.out.b
  have H_0 := Lib.hid (show Holds w w.heap.size (wC x p) V0 from ⟨B_0.out, HP0.out.a.lt, HP0.out.a.cell⟩)
  have C_0 := Lib.hid (show Holds w (w.heap.size + 1) #[.int .i64 c.kind, .int .i64 c.dir, .int .i64 c.item, .int .i64 c.box, .int .i64 c.who, .slice gac c.gives.length gcc, .int .i64 c.pay, .slice wac c.wants.length wcc, .int .i64 c.fee] V0 from ⟨B_0.out, HP0.out.m.lt, HP0.out.m.cell⟩)
  have D_0 := Lib.hid (show Holds w (w.heap.size + 2) #[.int .i64 d.kind, .int .i64 d.dir, .int .i64 d.item, .int .i64 d.box, .int .i64 d.who, .slice gad d.gives.length gcd, .int .i64 d.pay, .slice wad d.wants.length wcd, .int .i64 d.fee] V0 from ⟨B_0.out, HP0.out.r.lt, HP0.out.r.cell⟩)
  clear HP0
  refine (awake13_any _).mono ?_
  rintro e u1 ⟨rfl, b1⟩
  have B_1 := Lib.hid (bl B_0.out b1)
  have H_1 := Lib.hid (H_0.out.call b1)
  have C_1 := Lib.hid (C_0.out.call b1)
  have D_1 := Lib.hid (D_0.out.call b1)
  clear b1 B_0 H_0 C_0 D_0
  have hcH := H_1.out.2.2
  have hlH := H_1.out.2.1
  have hcC := C_1.out.2.2
  have hlC := C_1.out.2.1
  have hcD := D_1.out.2.2
  have hlD := D_1.out.2.1
  go_wp2_with fail
  refine (fits13_any x p _ (HWA.out.below B_1.out (Nat.le_refl _))).mono ?_
  rintro e u2 ⟨rfl, b2⟩
  rw [HF.out]
  clear hcH hlH hcC hlC hcD hlD
  have B_2 := Lib.hid (bl B_1.out b2)
  have H_2 := Lib.hid (H_1.out.call b2)
  have C_2 := Lib.hid (C_1.out.call b2)
  have D_2 := Lib.hid (D_1.out.call b2)
  clear b2 B_1 H_1 C_1 D_1
  have hcH := H_2.out.2.2
  have hlH := H_2.out.2.1
  have hcC := C_2.out.2.2
  have hlC := C_2.out.2.1
  have hcD := D_2.out.2.2
  have hlD := D_2.out.2.1
  go_wp2_with fail
  refine (cfew_any c gac wac gcc wcc _ (HGc.out.below B_2.out (Nat.le_refl _)) (HWc.out.below B_2.out (Nat.le_refl _))).mono ?_
  rintro e u3 ⟨rfl, b3⟩
  rw [HFWc.out]
  clear hcH hlH hcC hlC hcD hlD
  have B_3 := Lib.hid (bl B_2.out b3)
  have H_3 := Lib.hid (H_2.out.call b3)
  have C_3 := Lib.hid (C_2.out.call b3)
  have D_3 := Lib.hid (D_2.out.call b3)
  clear b3 B_2 H_2 C_2 D_2
  have hcH := H_3.out.2.2
  have hlH := H_3.out.2.1
  have hcC := C_3.out.2.2
  have hlC := C_3.out.2.1
  have hcD := D_3.out.2.2
  have hlD := D_3.out.2.1
  go_wp2_with fail
  refine (cfew_any d gad wad gcd wcd _ (HGd.out.below B_3.out (Nat.le_refl _)) (HWd.out.below B_3.out (Nat.le_refl _))).mono ?_
  rintro e u4 ⟨rfl, b4⟩
  rw [HFWd.out]
  clear hcH hlH hcC hlC hcD hlD
  have B_4 := Lib.hid (bl B_3.out b4)
  have H_4 := Lib.hid (H_3.out.call b4)
  have C_4 := Lib.hid (C_3.out.call b4)
  have D_4 := Lib.hid (D_3.out.call b4)
  clear b4 B_3 H_3 C_3 D_3
  have hcH := H_4.out.2.2
  have hlH := H_4.out.2.1
  have hcC := C_4.out.2.2
  have hlC := C_4.out.2.1
  have hcD := D_4.out.2.2
  have hlD := D_4.out.2.1
  go_wp2_with fail
  refine (awake13_any _).mono ?_
  rintro e u5 ⟨rfl, b5⟩
  clear hcH hlH hcC hlC hcD hlD
  have B_5 := Lib.hid (bl B_4.out b5)
  have H_5 := Lib.hid (H_4.out.call b5)
  have C_5 := Lib.hid (C_4.out.call b5)
  have D_5 := Lib.hid (D_4.out.call b5)
  clear b5 B_4 H_4 C_4 D_4
  have hcH := H_5.out.2.2
  have hlH := H_5.out.2.1
  have hcC := C_5.out.2.2
  have hlC := C_5.out.2.1
  have hcD := D_5.out.2.2
  have hlD := D_5.out.2.1
  go_wp2_with fail
  go_ret
  exact ⟨rfl, B_5.out⟩
set_option maxRecDepth 100000 in
set_option maxHeartbeats 1000000 in
theorem atomApart_no4 (x : Wd) (p : Wp) (a b2 : Int) (c d : Cm) (gac wac gad wad : Option Addr) (gcc wcc gcd wcd : Nat) (w : World) (h : WorldAt w p x) (hgc : IntsAt w gac c.gives) (hwc : IntsAt w wac c.wants) (hgd : IntsAt w gad d.gives) (hwd : IntsAt w wad d.wants) (hf : fitsB x = true) (hfwc : cfewB c = true) (hfwd : cfewB d = true) (k0 : decide (c.kind < 3) = false) (k1 : decide (6 < c.kind) = true) : Calls Tryz.prog 5 #[.agg (wC x p), .int .u8 a, .agg #[.int .i64 c.kind, .int .i64 c.dir, .int .i64 c.item, .int .i64 c.box, .int .i64 c.who, .slice gac c.gives.length gcc, .int .i64 c.pay, .slice wac c.wants.length wcc, .int .i64 c.fee], .int .u8 b2, .agg #[.int .i64 d.kind, .int .i64 d.dir, .int .i64 d.item, .int .i64 d.box, .int .i64 d.who, .slice gad d.gives.length gcd, .int .i64 d.pay, .slice wad d.wants.length wcd, .int .i64 d.fee]] w fun e w' => e = .returned (.bool true) ∧ Below w.heap.size w w' := by
  have HF := Lib.hid hf
  have HWA := Lib.hid h
  clear hf h
  have HGc := Lib.hid hgc
  have HWc := Lib.hid hwc
  clear hgc hwc
  have HGd := Lib.hid hgd
  have HWd := Lib.hid hwd
  clear hgd hwd
  have HFWc := Lib.hid hfwc
  clear hfwc
  have HFWd := Lib.hid hfwd
  clear hfwd
  have HP0 := Lib.hid (Tri.start 29 31 31 w (wC x p) #[.int .i64 c.kind, .int .i64 c.dir, .int .i64 c.item, .int .i64 c.box, .int .i64 c.who, .slice gac c.gives.length gcc, .int .i64 c.pay, .slice wac c.wants.length wcc, .int .i64 c.fee] #[.int .i64 d.kind, .int .i64 d.dir, .int .i64 d.item, .int .i64 d.box, .int .i64 d.who, .slice gad d.gives.length gcd, .int .i64 d.pay, .slice wad d.wants.length wcd, .int .i64 d.fee])
  have hWC := @wC.eq_1
  go_enter Tryz.func5, Tryz.ntmps5
  go_wp2_with fail
  generalize ((w.alloc (.cells (wC x p) 29)).alloc (.cells #[.int .i64 c.kind, .int .i64 c.dir, .int .i64 c.item, .int .i64 c.box, .int .i64 c.who, .slice gac c.gives.length gcc, .int .i64 c.pay, .slice wac c.wants.length wcc, .int .i64 c.fee] 31)).alloc (.cells #[.int .i64 d.kind, .int .i64 d.dir, .int .i64 d.item, .int .i64 d.box, .int .i64 d.who, .slice gad d.gives.length gcd, .int .i64 d.pay, .slice wad d.wants.length wcd, .int .i64 d.fee] 31) = V0 at *
  have B_0 := Lib.hid HP0.out.b
  have H_0 := Lib.hid (show Holds w w.heap.size (wC x p) V0 from ⟨B_0.out, HP0.out.a.lt, HP0.out.a.cell⟩)
  have C_0 := Lib.hid (show Holds w (w.heap.size + 1) #[.int .i64 c.kind, .int .i64 c.dir, .int .i64 c.item, .int .i64 c.box, .int .i64 c.who, .slice gac c.gives.length gcc, .int .i64 c.pay, .slice wac c.wants.length wcc, .int .i64 c.fee] V0 from ⟨B_0.out, HP0.out.m.lt, HP0.out.m.cell⟩)
  have D_0 := Lib.hid (show Holds w (w.heap.size + 2) #[.int .i64 d.kind, .int .i64 d.dir, .int .i64 d.item, .int .i64 d.box, .int .i64 d.who, .slice gad d.gives.length gcd, .int .i64 d.pay, .slice wad d.wants.length wcd, .int .i64 d.fee] V0 from ⟨B_0.out, HP0.out.r.lt, HP0.out.r.cell⟩)
  clear HP0
  refine (awake13_any _).mono ?_
  rintro e u1 ⟨rfl, b1⟩
  have B_1 := Lib.hid (bl B_0.out b1)
  have H_1 := Lib.hid (H_0.out.call b1)
  have C_1 := Lib.hid (C_0.out.call b1)
  have D_1 := Lib.hid (D_0.out.call b1)
  clear b1 B_0 H_0 C_0 D_0
  have hcH := H_1.out.2.2
  have hlH := H_1.out.2.1
  have hcC := C_1.out.2.2
  have hlC := C_1.out.2.1
  have hcD := D_1.out.2.2
  have hlD := D_1.out.2.1
  go_wp2_with fail
  refine (fits13_any x p _ (HWA.out.below B_1.out (Nat.le_refl _))).mono ?_
  rintro e u2 ⟨rfl, b2⟩
  rw [HF.out]
  clear hcH hlH hcC hlC hcD hlD
  have B_2 := Lib.hid (bl B_1.out b2)
  have H_2 := Lib.hid (H_1.out.call b2)
  have C_2 := Lib.hid (C_1.out.call b2)
  have D_2 := Lib.hid (D_1.out.call b2)
  clear b2 B_1 H_1 C_1 D_1
  have hcH := H_2.out.2.2
  have hlH := H_2.out.2.1
  have hcC := C_2.out.2.2
  have hlC := C_2.out.2.1
  have hcD := D_2.out.2.2
  have hlD := D_2.out.2.1
  go_wp2_with fail
  refine (cfew_any c gac wac gcc wcc _ (HGc.out.below B_2.out (Nat.le_refl _)) (HWc.out.below B_2.out (Nat.le_refl _))).mono ?_
  rintro e u3 ⟨rfl, b3⟩
  rw [HFWc.out]
  clear hcH hlH hcC hlC hcD hlD
  have B_3 := Lib.hid (bl B_2.out b3)
  have H_3 := Lib.hid (H_2.out.call b3)
  have C_3 := Lib.hid (C_2.out.call b3)
  have D_3 := Lib.hid (D_2.out.call b3)
  clear b3 B_2 H_2 C_2 D_2
  have hcH := H_3.out.2.2
  have hlH := H_3.out.2.1
  have hcC := C_3.out.2.2
  have hlC := C_3.out.2.1
  have hcD := D_3.out.2.2
  have hlD := D_3.out.2.1
  go_wp2_with fail
  refine (cfew_any d gad wad gcd wcd _ (HGd.out.below B_3.out (Nat.le_refl _)) (HWd.out.below B_3.out (Nat.le_refl _))).mono ?_
  rintro e u4 ⟨rfl, b4⟩
  rw [HFWd.out]
  clear hcH hlH hcC hlC hcD hlD
  have B_4 := Lib.hid (bl B_3.out b4)
  have H_4 := Lib.hid (H_3.out.call b4)
  have C_4 := Lib.hid (C_3.out.call b4)
  have D_4 := Lib.hid (D_3.out.call b4)
  clear b4 B_3 H_3 C_3 D_3
  have hcH := H_4.out.2.2
  have hlH := H_4.out.2.1
  have hcC := C_4.out.2.2
  have hlC := C_4.out.2.1
  have hcD := D_4.out.2.2
  have hlD := D_4.out.2.1
  go_wp2_with fail
  refine (awake13_any _).mono ?_
  rintro e u5 ⟨rfl, b5⟩
  clear hcH hlH hcC hlC hcD hlD
  have B_5 := Lib.hid (bl B_4.out b5)
  have H_5 := Lib.hid (H_4.out.call b5)
  have C_5 := Lib.hid (C_4.out.call b5)
  have D_5 := Lib.hid (D_4.out.call b5)
  clear b5 B_4 H_4 C_4 D_4
  have hcH := H_5.out.2.2
  have hlH := H_5.out.2.1
  have hcC := C_5.out.2.2
  have hlC := C_5.out.2.1
  have hcD := D_5.out.2.2
  have hlD := D_5.out.2.1
  go_wp2_with fail
  go_ret
  exact ⟨rfl, B_5.out⟩
set_option maxRecDepth 100000 in
set_option maxHeartbeats 1000000 in
theorem atomApart_no5 (x : Wd) (p : Wp) (a b2 : Int) (c d : Cm) (gac wac gad wad : Option Addr) (gcc wcc gcd wcd : Nat) (w : World) (h : WorldAt w p x) (hgc : IntsAt w gac c.gives) (hwc : IntsAt w wac c.wants) (hgd : IntsAt w gad d.gives) (hwd : IntsAt w wad d.wants) (hf : fitsB x = true) (hfwc : cfewB c = true) (hfwd : cfewB d = true) (k0 : decide (c.kind < 3) = false) (k1 : decide (6 < c.kind) = false) (k2 : decide (d.kind < 3) = true) : Calls Tryz.prog 5 #[.agg (wC x p), .int .u8 a, .agg #[.int .i64 c.kind, .int .i64 c.dir, .int .i64 c.item, .int .i64 c.box, .int .i64 c.who, .slice gac c.gives.length gcc, .int .i64 c.pay, .slice wac c.wants.length wcc, .int .i64 c.fee], .int .u8 b2, .agg #[.int .i64 d.kind, .int .i64 d.dir, .int .i64 d.item, .int .i64 d.box, .int .i64 d.who, .slice gad d.gives.length gcd, .int .i64 d.pay, .slice wad d.wants.length wcd, .int .i64 d.fee]] w fun e w' => e = .returned (.bool true) ∧ Below w.heap.size w w' := by
  have HF := Lib.hid hf
  have HWA := Lib.hid h
  clear hf h
  have HGc := Lib.hid hgc
  have HWc := Lib.hid hwc
  clear hgc hwc
  have HGd := Lib.hid hgd
  have HWd := Lib.hid hwd
  clear hgd hwd
  have HFWc := Lib.hid hfwc
  clear hfwc
  have HFWd := Lib.hid hfwd
  clear hfwd
  have HP0 := Lib.hid (Tri.start 29 31 31 w (wC x p) #[.int .i64 c.kind, .int .i64 c.dir, .int .i64 c.item, .int .i64 c.box, .int .i64 c.who, .slice gac c.gives.length gcc, .int .i64 c.pay, .slice wac c.wants.length wcc, .int .i64 c.fee] #[.int .i64 d.kind, .int .i64 d.dir, .int .i64 d.item, .int .i64 d.box, .int .i64 d.who, .slice gad d.gives.length gcd, .int .i64 d.pay, .slice wad d.wants.length wcd, .int .i64 d.fee])
  have hWC := @wC.eq_1
  go_enter Tryz.func5, Tryz.ntmps5
  go_wp2_with fail
  generalize ((w.alloc (.cells (wC x p) 29)).alloc (.cells #[.int .i64 c.kind, .int .i64 c.dir, .int .i64 c.item, .int .i64 c.box, .int .i64 c.who, .slice gac c.gives.length gcc, .int .i64 c.pay, .slice wac c.wants.length wcc, .int .i64 c.fee] 31)).alloc (.cells #[.int .i64 d.kind, .int .i64 d.dir, .int .i64 d.item, .int .i64 d.box, .int .i64 d.who, .slice gad d.gives.length gcd, .int .i64 d.pay, .slice wad d.wants.length wcd, .int .i64 d.fee] 31) = V0 at *
  have B_0 := Lib.hid HP0.out.b
  have H_0 := Lib.hid (show Holds w w.heap.size (wC x p) V0 from ⟨B_0.out, HP0.out.a.lt, HP0.out.a.cell⟩)
  have C_0 := Lib.hid (show Holds w (w.heap.size + 1) #[.int .i64 c.kind, .int .i64 c.dir, .int .i64 c.item, .int .i64 c.box, .int .i64 c.who, .slice gac c.gives.length gcc, .int .i64 c.pay, .slice wac c.wants.length wcc, .int .i64 c.fee] V0 from ⟨B_0.out, HP0.out.m.lt, HP0.out.m.cell⟩)
  have D_0 := Lib.hid (show Holds w (w.heap.size + 2) #[.int .i64 d.kind, .int .i64 d.dir, .int .i64 d.item, .int .i64 d.box, .int .i64 d.who, .slice gad d.gives.length gcd, .int .i64 d.pay, .slice wad d.wants.length wcd, .int .i64 d.fee] V0 from ⟨B_0.out, HP0.out.r.lt, HP0.out.r.cell⟩)
  clear HP0
  refine (awake13_any _).mono ?_
  rintro e u1 ⟨rfl, b1⟩
  have B_1 := Lib.hid (bl B_0.out b1)
  have H_1 := Lib.hid (H_0.out.call b1)
  have C_1 := Lib.hid (C_0.out.call b1)
  have D_1 := Lib.hid (D_0.out.call b1)
  clear b1 B_0 H_0 C_0 D_0
  have hcH := H_1.out.2.2
  have hlH := H_1.out.2.1
  have hcC := C_1.out.2.2
  have hlC := C_1.out.2.1
  have hcD := D_1.out.2.2
  have hlD := D_1.out.2.1
  go_wp2_with fail
  refine (fits13_any x p _ (HWA.out.below B_1.out (Nat.le_refl _))).mono ?_
  rintro e u2 ⟨rfl, b2⟩
  rw [HF.out]
  clear hcH hlH hcC hlC hcD hlD
  have B_2 := Lib.hid (bl B_1.out b2)
  have H_2 := Lib.hid (H_1.out.call b2)
  have C_2 := Lib.hid (C_1.out.call b2)
  have D_2 := Lib.hid (D_1.out.call b2)
  clear b2 B_1 H_1 C_1 D_1
  have hcH := H_2.out.2.2
  have hlH := H_2.out.2.1
  have hcC := C_2.out.2.2
  have hlC := C_2.out.2.1
  have hcD := D_2.out.2.2
  have hlD := D_2.out.2.1
  go_wp2_with fail
  refine (cfew_any c gac wac gcc wcc _ (HGc.out.below B_2.out (Nat.le_refl _)) (HWc.out.below B_2.out (Nat.le_refl _))).mono ?_
  rintro e u3 ⟨rfl, b3⟩
  rw [HFWc.out]
  clear hcH hlH hcC hlC hcD hlD
  have B_3 := Lib.hid (bl B_2.out b3)
  have H_3 := Lib.hid (H_2.out.call b3)
  have C_3 := Lib.hid (C_2.out.call b3)
  have D_3 := Lib.hid (D_2.out.call b3)
  clear b3 B_2 H_2 C_2 D_2
  have hcH := H_3.out.2.2
  have hlH := H_3.out.2.1
  have hcC := C_3.out.2.2
  have hlC := C_3.out.2.1
  have hcD := D_3.out.2.2
  have hlD := D_3.out.2.1
  go_wp2_with fail
  refine (cfew_any d gad wad gcd wcd _ (HGd.out.below B_3.out (Nat.le_refl _)) (HWd.out.below B_3.out (Nat.le_refl _))).mono ?_
  rintro e u4 ⟨rfl, b4⟩
  rw [HFWd.out]
  clear hcH hlH hcC hlC hcD hlD
  have B_4 := Lib.hid (bl B_3.out b4)
  have H_4 := Lib.hid (H_3.out.call b4)
  have C_4 := Lib.hid (C_3.out.call b4)
  have D_4 := Lib.hid (D_3.out.call b4)
  clear b4 B_3 H_3 C_3 D_3
  have hcH := H_4.out.2.2
  have hlH := H_4.out.2.1
  have hcC := C_4.out.2.2
  have hlC := C_4.out.2.1
  have hcD := D_4.out.2.2
  have hlD := D_4.out.2.1
  go_wp2_with fail
  refine (awake13_any _).mono ?_
  rintro e u5 ⟨rfl, b5⟩
  clear hcH hlH hcC hlC hcD hlD
  have B_5 := Lib.hid (bl B_4.out b5)
  have H_5 := Lib.hid (H_4.out.call b5)
  have C_5 := Lib.hid (C_4.out.call b5)
  have D_5 := Lib.hid (D_4.out.call b5)
  clear b5 B_4 H_4 C_4 D_4
  have hcH := H_5.out.2.2
  have hlH := H_5.out.2.1
  have hcC := C_5.out.2.2
  have hlC := C_5.out.2.1
  have hcD := D_5.out.2.2
  have hlD := D_5.out.2.1
  go_wp2_with fail
  go_ret
  exact ⟨rfl, B_5.out⟩
set_option maxRecDepth 100000 in
set_option maxHeartbeats 1000000 in
theorem atomApart_no6 (x : Wd) (p : Wp) (a b2 : Int) (c d : Cm) (gac wac gad wad : Option Addr) (gcc wcc gcd wcd : Nat) (w : World) (h : WorldAt w p x) (hgc : IntsAt w gac c.gives) (hwc : IntsAt w wac c.wants) (hgd : IntsAt w gad d.gives) (hwd : IntsAt w wad d.wants) (hf : fitsB x = true) (hfwc : cfewB c = true) (hfwd : cfewB d = true) (k0 : decide (c.kind < 3) = false) (k1 : decide (6 < c.kind) = false) (k2 : decide (d.kind < 3) = false) (k3 : decide (6 < d.kind) = true) : Calls Tryz.prog 5 #[.agg (wC x p), .int .u8 a, .agg #[.int .i64 c.kind, .int .i64 c.dir, .int .i64 c.item, .int .i64 c.box, .int .i64 c.who, .slice gac c.gives.length gcc, .int .i64 c.pay, .slice wac c.wants.length wcc, .int .i64 c.fee], .int .u8 b2, .agg #[.int .i64 d.kind, .int .i64 d.dir, .int .i64 d.item, .int .i64 d.box, .int .i64 d.who, .slice gad d.gives.length gcd, .int .i64 d.pay, .slice wad d.wants.length wcd, .int .i64 d.fee]] w fun e w' => e = .returned (.bool true) ∧ Below w.heap.size w w' := by
  have HF := Lib.hid hf
  have HWA := Lib.hid h
  clear hf h
  have HGc := Lib.hid hgc
  have HWc := Lib.hid hwc
  clear hgc hwc
  have HGd := Lib.hid hgd
  have HWd := Lib.hid hwd
  clear hgd hwd
  have HFWc := Lib.hid hfwc
  clear hfwc
  have HFWd := Lib.hid hfwd
  clear hfwd
  have HP0 := Lib.hid (Tri.start 29 31 31 w (wC x p) #[.int .i64 c.kind, .int .i64 c.dir, .int .i64 c.item, .int .i64 c.box, .int .i64 c.who, .slice gac c.gives.length gcc, .int .i64 c.pay, .slice wac c.wants.length wcc, .int .i64 c.fee] #[.int .i64 d.kind, .int .i64 d.dir, .int .i64 d.item, .int .i64 d.box, .int .i64 d.who, .slice gad d.gives.length gcd, .int .i64 d.pay, .slice wad d.wants.length wcd, .int .i64 d.fee])
  have hWC := @wC.eq_1
  go_enter Tryz.func5, Tryz.ntmps5
  go_wp2_with fail
  generalize ((w.alloc (.cells (wC x p) 29)).alloc (.cells #[.int .i64 c.kind, .int .i64 c.dir, .int .i64 c.item, .int .i64 c.box, .int .i64 c.who, .slice gac c.gives.length gcc, .int .i64 c.pay, .slice wac c.wants.length wcc, .int .i64 c.fee] 31)).alloc (.cells #[.int .i64 d.kind, .int .i64 d.dir, .int .i64 d.item, .int .i64 d.box, .int .i64 d.who, .slice gad d.gives.length gcd, .int .i64 d.pay, .slice wad d.wants.length wcd, .int .i64 d.fee] 31) = V0 at *
  have B_0 := Lib.hid HP0.out.b
  have H_0 := Lib.hid (show Holds w w.heap.size (wC x p) V0 from ⟨B_0.out, HP0.out.a.lt, HP0.out.a.cell⟩)
  have C_0 := Lib.hid (show Holds w (w.heap.size + 1) #[.int .i64 c.kind, .int .i64 c.dir, .int .i64 c.item, .int .i64 c.box, .int .i64 c.who, .slice gac c.gives.length gcc, .int .i64 c.pay, .slice wac c.wants.length wcc, .int .i64 c.fee] V0 from ⟨B_0.out, HP0.out.m.lt, HP0.out.m.cell⟩)
  have D_0 := Lib.hid (show Holds w (w.heap.size + 2) #[.int .i64 d.kind, .int .i64 d.dir, .int .i64 d.item, .int .i64 d.box, .int .i64 d.who, .slice gad d.gives.length gcd, .int .i64 d.pay, .slice wad d.wants.length wcd, .int .i64 d.fee] V0 from ⟨B_0.out, HP0.out.r.lt, HP0.out.r.cell⟩)
  clear HP0
  refine (awake13_any _).mono ?_
  rintro e u1 ⟨rfl, b1⟩
  have B_1 := Lib.hid (bl B_0.out b1)
  have H_1 := Lib.hid (H_0.out.call b1)
  have C_1 := Lib.hid (C_0.out.call b1)
  have D_1 := Lib.hid (D_0.out.call b1)
  clear b1 B_0 H_0 C_0 D_0
  have hcH := H_1.out.2.2
  have hlH := H_1.out.2.1
  have hcC := C_1.out.2.2
  have hlC := C_1.out.2.1
  have hcD := D_1.out.2.2
  have hlD := D_1.out.2.1
  go_wp2_with fail
  refine (fits13_any x p _ (HWA.out.below B_1.out (Nat.le_refl _))).mono ?_
  rintro e u2 ⟨rfl, b2⟩
  rw [HF.out]
  clear hcH hlH hcC hlC hcD hlD
  have B_2 := Lib.hid (bl B_1.out b2)
  have H_2 := Lib.hid (H_1.out.call b2)
  have C_2 := Lib.hid (C_1.out.call b2)
  have D_2 := Lib.hid (D_1.out.call b2)
  clear b2 B_1 H_1 C_1 D_1
  have hcH := H_2.out.2.2
  have hlH := H_2.out.2.1
  have hcC := C_2.out.2.2
  have hlC := C_2.out.2.1
  have hcD := D_2.out.2.2
  have hlD := D_2.out.2.1
  go_wp2_with fail
  refine (cfew_any c gac wac gcc wcc _ (HGc.out.below B_2.out (Nat.le_refl _)) (HWc.out.below B_2.out (Nat.le_refl _))).mono ?_
  rintro e u3 ⟨rfl, b3⟩
  rw [HFWc.out]
  clear hcH hlH hcC hlC hcD hlD
  have B_3 := Lib.hid (bl B_2.out b3)
  have H_3 := Lib.hid (H_2.out.call b3)
  have C_3 := Lib.hid (C_2.out.call b3)
  have D_3 := Lib.hid (D_2.out.call b3)
  clear b3 B_2 H_2 C_2 D_2
  have hcH := H_3.out.2.2
  have hlH := H_3.out.2.1
  have hcC := C_3.out.2.2
  have hlC := C_3.out.2.1
  have hcD := D_3.out.2.2
  have hlD := D_3.out.2.1
  go_wp2_with fail
  refine (cfew_any d gad wad gcd wcd _ (HGd.out.below B_3.out (Nat.le_refl _)) (HWd.out.below B_3.out (Nat.le_refl _))).mono ?_
  rintro e u4 ⟨rfl, b4⟩
  rw [HFWd.out]
  clear hcH hlH hcC hlC hcD hlD
  have B_4 := Lib.hid (bl B_3.out b4)
  have H_4 := Lib.hid (H_3.out.call b4)
  have C_4 := Lib.hid (C_3.out.call b4)
  have D_4 := Lib.hid (D_3.out.call b4)
  clear b4 B_3 H_3 C_3 D_3
  have hcH := H_4.out.2.2
  have hlH := H_4.out.2.1
  have hcC := C_4.out.2.2
  have hlC := C_4.out.2.1
  have hcD := D_4.out.2.2
  have hlD := D_4.out.2.1
  go_wp2_with fail
  refine (awake13_any _).mono ?_
  rintro e u5 ⟨rfl, b5⟩
  clear hcH hlH hcC hlC hcD hlD
  have B_5 := Lib.hid (bl B_4.out b5)
  have H_5 := Lib.hid (H_4.out.call b5)
  have C_5 := Lib.hid (C_4.out.call b5)
  have D_5 := Lib.hid (D_4.out.call b5)
  clear b5 B_4 H_4 C_4 D_4
  have hcH := H_5.out.2.2
  have hlH := H_5.out.2.1
  have hcC := C_5.out.2.2
  have hlC := C_5.out.2.1
  have hcD := D_5.out.2.2
  have hlD := D_5.out.2.1
  go_wp2_with fail
  go_ret
  exact ⟨rfl, B_5.out⟩
set_option maxRecDepth 100000 in
set_option maxHeartbeats 1000000 in
theorem atomApart_same (x : Wd) (pd : Dp) (b o pac : Nat) (pk pw : Option Addr) (pkc pwc : Nat) (a i b2 i2 : Nat) (c d : Cm) (gac wac gad wad : Option Addr) (gcc wcc gcd wcd : Nat) (haa : a ≤ 255) (hi : a % x.at_.length = i) (hbb : b2 ≤ 255) (hi2 : b2 % x.at_.length = i2) (w : World) (h : WorldAt w ⟨pd, some ⟨b, o, none⟩, pac, pk, pkc, pw, pwc⟩ x) (hgc : IntsAt w gac c.gives) (hwc : IntsAt w wac c.wants) (hgd : IntsAt w gad d.gives) (hwd : IntsAt w wad d.wants) (hf : fitsB x = true) (hfwc : cfewB c = true) (hfwd : cfewB d = true) (k0 : decide (c.kind < 3) = false) (k1 : decide (6 < c.kind) = false) (k2 : decide (d.kind < 3) = false) (k3 : decide (6 < d.kind) = false) (hr : roomOf x i = roomOf x i2) : Calls Tryz.prog 5 #[.agg (wC x ⟨pd, some ⟨b, o, none⟩, pac, pk, pkc, pw, pwc⟩), .int .u8 (a : Int), .agg #[.int .i64 c.kind, .int .i64 c.dir, .int .i64 c.item, .int .i64 c.box, .int .i64 c.who, .slice gac c.gives.length gcc, .int .i64 c.pay, .slice wac c.wants.length wcc, .int .i64 c.fee], .int .u8 (b2 : Int), .agg #[.int .i64 d.kind, .int .i64 d.dir, .int .i64 d.item, .int .i64 d.box, .int .i64 d.who, .slice gad d.gives.length gcd, .int .i64 d.pay, .slice wad d.wants.length wcd, .int .i64 d.fee]] w fun e w' => e = .returned (.bool true) ∧ Below w.heap.size w w' := by
  have r1 := run_tmod7 a x.at_.length
  have m1 := run_mod7 a x.at_.length
  rw [hi] at r1 m1
  have FT := Lib.hid (fits_fit hf)
  have hlp : 0 < x.at_.length := (right_lens FT.out.right).1
  have hne : ¬ x.at_ = [] := List.length_pos_iff.1 hlp
  have hil : i < x.at_.length := by rw [← hi]; exact Nat.mod_lt _ hlp
  have hlen6 := (right_lens FT.out.right).2.1
  have r2 := run_tmod7 b2 x.at_.length
  have m2 := run_mod7 b2 x.at_.length
  rw [hi2] at r2 m2
  have hil2 : i2 < x.at_.length := by rw [← hi2]; exact Nat.mod_lt _ hlp
  obtain ⟨b', o', eb, hb, hcs⟩ := h.at_.at_ hil
  simp only [Option.some.injEq, Addr.mk.injEq, and_true] at eb
  obtain ⟨rfl, rfl⟩ := eb
  have c1 := hcs i hil
  have c2 := hcs i2 hil2
  rw [(room_at FT.out.right hil).1] at c1
  rw [(room_at FT.out.right hil2).1] at c2
  generalize hrr1 : roomOf x i = rm1 at *
  generalize hrr2 : roomOf x i2 = rm2 at *
  subst hr
  have hrm : ((rm1 : Int) == (rm1 : Int)) = true := by simp
  have HC1 := Lib.hid (show CellAt w b (o + i) (.int .i64 (rm1 : Int)) from ⟨c1, hb⟩)
  have HC2 := Lib.hid (show CellAt w b (o + i2) (.int .i64 (rm1 : Int)) from ⟨c2, hb⟩)
  clear hi hi2 hlp hcs c1 c2 hb hrr1 hrr2
  have HF := Lib.hid hf
  have HWA := Lib.hid h
  clear hf h
  have HGc := Lib.hid hgc
  have HWc := Lib.hid hwc
  clear hgc hwc
  have HGd := Lib.hid hgd
  have HWd := Lib.hid hwd
  clear hgd hwd
  have HFWc := Lib.hid hfwc
  clear hfwc
  have HFWd := Lib.hid hfwd
  clear hfwd
  have HP0 := Lib.hid (Tri.start 29 31 31 w (wC x ⟨pd, some ⟨b, o, none⟩, pac, pk, pkc, pw, pwc⟩) #[.int .i64 c.kind, .int .i64 c.dir, .int .i64 c.item, .int .i64 c.box, .int .i64 c.who, .slice gac c.gives.length gcc, .int .i64 c.pay, .slice wac c.wants.length wcc, .int .i64 c.fee] #[.int .i64 d.kind, .int .i64 d.dir, .int .i64 d.item, .int .i64 d.box, .int .i64 d.who, .slice gad d.gives.length gcd, .int .i64 d.pay, .slice wad d.wants.length wcd, .int .i64 d.fee])
  have hWC := @wC.eq_1
  go_enter Tryz.func5, Tryz.ntmps5
  go_wp2_with fail
  generalize ((w.alloc (.cells (wC x ⟨pd, some ⟨b, o, none⟩, pac, pk, pkc, pw, pwc⟩) 29)).alloc (.cells #[.int .i64 c.kind, .int .i64 c.dir, .int .i64 c.item, .int .i64 c.box, .int .i64 c.who, .slice gac c.gives.length gcc, .int .i64 c.pay, .slice wac c.wants.length wcc, .int .i64 c.fee] 31)).alloc (.cells #[.int .i64 d.kind, .int .i64 d.dir, .int .i64 d.item, .int .i64 d.box, .int .i64 d.who, .slice gad d.gives.length gcd, .int .i64 d.pay, .slice wad d.wants.length wcd, .int .i64 d.fee] 31) = V0 at *
  have B_0 := Lib.hid HP0.out.b
  have H_0 := Lib.hid (show Holds w w.heap.size (wC x ⟨pd, some ⟨b, o, none⟩, pac, pk, pkc, pw, pwc⟩) V0 from ⟨B_0.out, HP0.out.a.lt, HP0.out.a.cell⟩)
  have C_0 := Lib.hid (show Holds w (w.heap.size + 1) #[.int .i64 c.kind, .int .i64 c.dir, .int .i64 c.item, .int .i64 c.box, .int .i64 c.who, .slice gac c.gives.length gcc, .int .i64 c.pay, .slice wac c.wants.length wcc, .int .i64 c.fee] V0 from ⟨B_0.out, HP0.out.m.lt, HP0.out.m.cell⟩)
  have D_0 := Lib.hid (show Holds w (w.heap.size + 2) #[.int .i64 d.kind, .int .i64 d.dir, .int .i64 d.item, .int .i64 d.box, .int .i64 d.who, .slice gad d.gives.length gcd, .int .i64 d.pay, .slice wad d.wants.length wcd, .int .i64 d.fee] V0 from ⟨B_0.out, HP0.out.r.lt, HP0.out.r.cell⟩)
  clear HP0
  refine (awake13_any _).mono ?_
  rintro e u1 ⟨rfl, b1⟩
  have B_1 := Lib.hid (bl B_0.out b1)
  have H_1 := Lib.hid (H_0.out.call b1)
  have C_1 := Lib.hid (C_0.out.call b1)
  have D_1 := Lib.hid (D_0.out.call b1)
  clear b1 B_0 H_0 C_0 D_0
  have hcH := H_1.out.2.2
  have hlH := H_1.out.2.1
  have hcC := C_1.out.2.2
  have hlC := C_1.out.2.1
  have hcD := D_1.out.2.2
  have hlD := D_1.out.2.1
  go_wp2_with fail
  refine (fits13_any x ⟨pd, some ⟨b, o, none⟩, pac, pk, pkc, pw, pwc⟩ _ (HWA.out.below B_1.out (Nat.le_refl _))).mono ?_
  rintro e u2 ⟨rfl, b2⟩
  rw [HF.out]
  clear hcH hlH hcC hlC hcD hlD
  have B_2 := Lib.hid (bl B_1.out b2)
  have H_2 := Lib.hid (H_1.out.call b2)
  have C_2 := Lib.hid (C_1.out.call b2)
  have D_2 := Lib.hid (D_1.out.call b2)
  clear b2 B_1 H_1 C_1 D_1
  have hcH := H_2.out.2.2
  have hlH := H_2.out.2.1
  have hcC := C_2.out.2.2
  have hlC := C_2.out.2.1
  have hcD := D_2.out.2.2
  have hlD := D_2.out.2.1
  go_wp2_with fail
  refine (cfew_any c gac wac gcc wcc _ (HGc.out.below B_2.out (Nat.le_refl _)) (HWc.out.below B_2.out (Nat.le_refl _))).mono ?_
  rintro e u3 ⟨rfl, b3⟩
  rw [HFWc.out]
  clear hcH hlH hcC hlC hcD hlD
  have B_3 := Lib.hid (bl B_2.out b3)
  have H_3 := Lib.hid (H_2.out.call b3)
  have C_3 := Lib.hid (C_2.out.call b3)
  have D_3 := Lib.hid (D_2.out.call b3)
  clear b3 B_2 H_2 C_2 D_2
  have hcH := H_3.out.2.2
  have hlH := H_3.out.2.1
  have hcC := C_3.out.2.2
  have hlC := C_3.out.2.1
  have hcD := D_3.out.2.2
  have hlD := D_3.out.2.1
  go_wp2_with fail
  refine (cfew_any d gad wad gcd wcd _ (HGd.out.below B_3.out (Nat.le_refl _)) (HWd.out.below B_3.out (Nat.le_refl _))).mono ?_
  rintro e u4 ⟨rfl, b4⟩
  rw [HFWd.out]
  clear hcH hlH hcC hlC hcD hlD
  have B_4 := Lib.hid (bl B_3.out b4)
  have H_4 := Lib.hid (H_3.out.call b4)
  have C_4 := Lib.hid (C_3.out.call b4)
  have D_4 := Lib.hid (D_3.out.call b4)
  clear b4 B_3 H_3 C_3 D_3
  have hcH := H_4.out.2.2
  have hlH := H_4.out.2.1
  have hcC := C_4.out.2.2
  have hlC := C_4.out.2.1
  have hcD := D_4.out.2.2
  have hlD := D_4.out.2.1
  go_wp2_with fail
  clear hcH hlH hcC hlC hcD hlD
  have CA1 := Lib.hid (cell_call HC1.out.1 B_4.out)
  have CA2 := Lib.hid (cell_call HC2.out.1 B_4.out)
  have hlb : b < u4.heap.size := Nat.lt_of_lt_of_le HC1.out.2 B_4.out.size
  have HQ := Lib.hid (show (∀ ii, u4.drew.cell? ⟨w.heap.size, ii, none⟩ = ((wC x ⟨pd, some ⟨b, o, none⟩, pac, pk, pkc, pw, pwc⟩)[ii]? : Option Value)) ∧ u4.drew.cell? ⟨b, o + i, none⟩ = some (.int .i64 (rm1 : Int)) ∧ u4.drew.cell? ⟨b, o + i2, none⟩ = some (.int .i64 (rm1 : Int)) from ⟨H_4.out.2.2, CA1.out, CA2.out⟩)
  refine wp_region_noPanic ?_
  refine wp_region_held_drew (S := (fun w' => (∀ ii, w'.cell? ⟨w.heap.size, ii, none⟩ = ((wC x ⟨pd, some ⟨b, o, none⟩, pac, pk, pkc, pw, pwc⟩)[ii]? : Option Value)) ∧ w'.cell? ⟨b, o + i, none⟩ = some (.int .i64 (rm1 : Int)) ∧ w'.cell? ⟨b, o + i2, none⟩ = some (.int .i64 (rm1 : Int)))) (by kernel_rfl) (by (first | (with_reducible exact HQ.out))) (fun hHeld => ?_)
  iterate 10
    (first | refine tkW 0 (v := ?_) ?_ ?_ | refine tkW 1 (v := ?_) ?_ ?_ | refine tkW 2 (v := ?_) ?_ ?_ | refine tkW 3 (v := ?_) ?_ ?_ | refine tkW 4 (v := ?_) ?_ ?_ | refine tkW 5 (v := ?_) ?_ ?_ | refine tkW 6 (v := ?_) ?_ ?_ | refine tkW 7 (v := ?_) ?_ ?_ | refine tkW 8 (v := ?_) ?_ ?_ | refine tkW 9 (v := ?_) ?_ ?_)
    rotate_left
    · (intro ww hSw; (try dsimp only at hSw); go_simp; (try with_reducible rfl))
    try simp only [Act.put, List.setIfInBounds_toArray, List.set_cons_zero, List.set_cons_succ]
  iterate 1
    (first | refine tkW 10 (v := ?_) ?_ ?_)
    rotate_left
    · (intro ww hSw; (try dsimp only at hSw); go_simp; (try with_reducible rfl))
    try simp only [Act.put, List.setIfInBounds_toArray, List.set_cons_zero, List.set_cons_succ]
  refine wpAnyH_done (by kernel_rfl) ?_ _
  refine NoPanic.normal ?_
  clear hHeld
  have B_5 := Lib.hid (bl B_4.out (bdrew1 (Below.refl u4.heap.size u4)))
  have H_5 := Lib.hid (H_4.out.call (bdrew1 (Below.refl u4.heap.size u4)))
  have C_5 := Lib.hid (C_4.out.call (bdrew1 (Below.refl u4.heap.size u4)))
  have D_5 := Lib.hid (D_4.out.call (bdrew1 (Below.refl u4.heap.size u4)))
  clear B_4 H_4 C_4 D_4 CA1 CA2 hlb HQ
  generalize u4.drew = W5 at *
  go_wp2_with fail
  go_ret
  exact ⟨rfl, B_5.out⟩
set_option maxRecDepth 100000 in
set_option maxHeartbeats 4000000 in
theorem atomApart_go (x : Wd) (pd : Dp) (b o pac : Nat) (pk pw : Option Addr) (pkc pwc : Nat) (a i b2 i2 : Nat) (c d : Cm) (gac wac gad wad : Option Addr) (gcc wcc gcd wcd : Nat) (haa : a ≤ 255) (hi : a % x.at_.length = i) (hbb : b2 ≤ 255) (hi2 : b2 % x.at_.length = i2) (w : World) (h : WorldAt w ⟨pd, some ⟨b, o, none⟩, pac, pk, pkc, pw, pwc⟩ x) (hgc : IntsAt w gac c.gives) (hwc : IntsAt w wac c.wants) (hgd : IntsAt w gad d.gives) (hwd : IntsAt w wad d.wants) (hf : fitsB x = true) (hfwc : cfewB c = true) (hfwd : cfewB d = true) (k0 : decide (c.kind < 3) = false) (k1 : decide (6 < c.kind) = false) (k2 : decide (d.kind < 3) = false) (k3 : decide (6 < d.kind) = false) (hkc : 3 ≤ c.kind ∧ c.kind ≤ 6) (hkd : 3 ≤ d.kind ∧ d.kind ≤ 6) (hr : ¬ roomOf x i = roomOf x i2) : Calls Tryz.prog 5 #[.agg (wC x ⟨pd, some ⟨b, o, none⟩, pac, pk, pkc, pw, pwc⟩), .int .u8 (a : Int), .agg #[.int .i64 c.kind, .int .i64 c.dir, .int .i64 c.item, .int .i64 c.box, .int .i64 c.who, .slice gac c.gives.length gcc, .int .i64 c.pay, .slice wac c.wants.length wcc, .int .i64 c.fee], .int .u8 (b2 : Int), .agg #[.int .i64 d.kind, .int .i64 d.dir, .int .i64 d.item, .int .i64 d.box, .int .i64 d.who, .slice gad d.gives.length gcd, .int .i64 d.pay, .slice wad d.wants.length wcd, .int .i64 d.fee]] w fun e w' => e = .returned (.bool true) ∧ Below w.heap.size w w' := by
  have r1 := run_tmod7 a x.at_.length
  have m1 := run_mod7 a x.at_.length
  rw [hi] at r1 m1
  have FT := Lib.hid (fits_fit hf)
  have hlp : 0 < x.at_.length := (right_lens FT.out.right).1
  have hne : ¬ x.at_ = [] := List.length_pos_iff.1 hlp
  have hil : i < x.at_.length := by rw [← hi]; exact Nat.mod_lt _ hlp
  have hlen6 := (right_lens FT.out.right).2.1
  have r2 := run_tmod7 b2 x.at_.length
  have m2 := run_mod7 b2 x.at_.length
  rw [hi2] at r2 m2
  have hil2 : i2 < x.at_.length := by rw [← hi2]; exact Nat.mod_lt _ hlp
  obtain ⟨b', o', eb, hb, hcs⟩ := h.at_.at_ hil
  simp only [Option.some.injEq, Addr.mk.injEq, and_true] at eb
  obtain ⟨rfl, rfl⟩ := eb
  have c1 := hcs i hil
  have c2 := hcs i2 hil2
  rw [(room_at FT.out.right hil).1] at c1
  rw [(room_at FT.out.right hil2).1] at c2
  obtain ⟨⟨y, R⟩, hR⟩ : ∃ R, doW x i c = R := ⟨_, rfl⟩
  obtain ⟨⟨z, S⟩, hS⟩ : ∃ R, doW y i2 d = R := ⟨_, rfl⟩
  obtain ⟨⟨u, T⟩, hT⟩ : ∃ R, doW x i2 d = R := ⟨_, rfl⟩
  obtain ⟨⟨v, U⟩, hU⟩ : ∃ R, doW u i c = R := ⟨_, rfl⟩
  have hap := do_apart FT.out.right hil hil2 hr hkc hkd
  simp only [hR, hT, hS, hU] at hap
  have HAP := Lib.hid hap
  have SY := Lib.hid (show Shape x y by have := do_shape x i c; rwa [hR] at this)
  have SU := Lib.hid (show Shape x u by have := do_shape x i2 d; rwa [hT] at this)
  have SZ := Lib.hid (show Shape x z from SY.out.trans' (by have := do_shape y i2 d; rwa [hS] at this))
  have SV := Lib.hid (show Shape x v from SU.out.trans' (by have := do_shape u i c; rwa [hU] at this))
  have RY := Lib.hid (show rightW y = true by have := do_right FT.out.right hil c; rwa [hR] at this)
  have RU := Lib.hid (show rightW u = true by have := do_right FT.out.right hil2 d; rwa [hT] at this)
  have HR := Lib.hid hR
  have HS := Lib.hid hS
  have HT := Lib.hid hT
  have HU := Lib.hid hU
  generalize roomOf x i = rm1 at *
  generalize roomOf x i2 = rm2 at *
  have hrm : ((rm1 : Int) == (rm2 : Int)) = false := beq_eq_false_iff_ne.2 (fun e => hr (by omega))
  have HC1 := Lib.hid (show CellAt w b (o + i) (.int .i64 (rm1 : Int)) from ⟨c1, hb⟩)
  have HC2 := Lib.hid (show CellAt w b (o + i2) (.int .i64 (rm2 : Int)) from ⟨c2, hb⟩)
  clear hi hi2 hlp hcs c1 c2 hb hR hS hT hU hap hr hkc hkd
  have HF := Lib.hid hf
  have HWA := Lib.hid h
  clear hf h
  have HGc := Lib.hid hgc
  have HWc := Lib.hid hwc
  clear hgc hwc
  have HGd := Lib.hid hgd
  have HWd := Lib.hid hwd
  clear hgd hwd
  have HFWc := Lib.hid hfwc
  clear hfwc
  have HFWd := Lib.hid hfwd
  clear hfwd
  have HP0 := Lib.hid (Tri.start 29 31 31 w (wC x ⟨pd, some ⟨b, o, none⟩, pac, pk, pkc, pw, pwc⟩) #[.int .i64 c.kind, .int .i64 c.dir, .int .i64 c.item, .int .i64 c.box, .int .i64 c.who, .slice gac c.gives.length gcc, .int .i64 c.pay, .slice wac c.wants.length wcc, .int .i64 c.fee] #[.int .i64 d.kind, .int .i64 d.dir, .int .i64 d.item, .int .i64 d.box, .int .i64 d.who, .slice gad d.gives.length gcd, .int .i64 d.pay, .slice wad d.wants.length wcd, .int .i64 d.fee])
  have hWC := @wC.eq_1
  go_enter Tryz.func5, Tryz.ntmps5
  go_wp2_with fail
  generalize ((w.alloc (.cells (wC x ⟨pd, some ⟨b, o, none⟩, pac, pk, pkc, pw, pwc⟩) 29)).alloc (.cells #[.int .i64 c.kind, .int .i64 c.dir, .int .i64 c.item, .int .i64 c.box, .int .i64 c.who, .slice gac c.gives.length gcc, .int .i64 c.pay, .slice wac c.wants.length wcc, .int .i64 c.fee] 31)).alloc (.cells #[.int .i64 d.kind, .int .i64 d.dir, .int .i64 d.item, .int .i64 d.box, .int .i64 d.who, .slice gad d.gives.length gcd, .int .i64 d.pay, .slice wad d.wants.length wcd, .int .i64 d.fee] 31) = V0 at *
  have B_0 := Lib.hid HP0.out.b
  have H_0 := Lib.hid (show Holds w w.heap.size (wC x ⟨pd, some ⟨b, o, none⟩, pac, pk, pkc, pw, pwc⟩) V0 from ⟨B_0.out, HP0.out.a.lt, HP0.out.a.cell⟩)
  have C_0 := Lib.hid (show Holds w (w.heap.size + 1) #[.int .i64 c.kind, .int .i64 c.dir, .int .i64 c.item, .int .i64 c.box, .int .i64 c.who, .slice gac c.gives.length gcc, .int .i64 c.pay, .slice wac c.wants.length wcc, .int .i64 c.fee] V0 from ⟨B_0.out, HP0.out.m.lt, HP0.out.m.cell⟩)
  have D_0 := Lib.hid (show Holds w (w.heap.size + 2) #[.int .i64 d.kind, .int .i64 d.dir, .int .i64 d.item, .int .i64 d.box, .int .i64 d.who, .slice gad d.gives.length gcd, .int .i64 d.pay, .slice wad d.wants.length wcd, .int .i64 d.fee] V0 from ⟨B_0.out, HP0.out.r.lt, HP0.out.r.cell⟩)
  clear HP0
  refine (awake13_any _).mono ?_
  rintro e u1 ⟨rfl, b1⟩
  have B_1 := Lib.hid (bl B_0.out b1)
  have H_1 := Lib.hid (H_0.out.call b1)
  have C_1 := Lib.hid (C_0.out.call b1)
  have D_1 := Lib.hid (D_0.out.call b1)
  clear b1 B_0 H_0 C_0 D_0
  have hcH := H_1.out.2.2
  have hlH := H_1.out.2.1
  have hcC := C_1.out.2.2
  have hlC := C_1.out.2.1
  have hcD := D_1.out.2.2
  have hlD := D_1.out.2.1
  go_wp2_with fail
  refine (fits13_any x ⟨pd, some ⟨b, o, none⟩, pac, pk, pkc, pw, pwc⟩ _ (HWA.out.below B_1.out (Nat.le_refl _))).mono ?_
  rintro e u2 ⟨rfl, b2⟩
  rw [HF.out]
  clear hcH hlH hcC hlC hcD hlD
  have B_2 := Lib.hid (bl B_1.out b2)
  have H_2 := Lib.hid (H_1.out.call b2)
  have C_2 := Lib.hid (C_1.out.call b2)
  have D_2 := Lib.hid (D_1.out.call b2)
  clear b2 B_1 H_1 C_1 D_1
  have hcH := H_2.out.2.2
  have hlH := H_2.out.2.1
  have hcC := C_2.out.2.2
  have hlC := C_2.out.2.1
  have hcD := D_2.out.2.2
  have hlD := D_2.out.2.1
  go_wp2_with fail
  refine (cfew_any c gac wac gcc wcc _ (HGc.out.below B_2.out (Nat.le_refl _)) (HWc.out.below B_2.out (Nat.le_refl _))).mono ?_
  rintro e u3 ⟨rfl, b3⟩
  rw [HFWc.out]
  clear hcH hlH hcC hlC hcD hlD
  have B_3 := Lib.hid (bl B_2.out b3)
  have H_3 := Lib.hid (H_2.out.call b3)
  have C_3 := Lib.hid (C_2.out.call b3)
  have D_3 := Lib.hid (D_2.out.call b3)
  clear b3 B_2 H_2 C_2 D_2
  have hcH := H_3.out.2.2
  have hlH := H_3.out.2.1
  have hcC := C_3.out.2.2
  have hlC := C_3.out.2.1
  have hcD := D_3.out.2.2
  have hlD := D_3.out.2.1
  go_wp2_with fail
  refine (cfew_any d gad wad gcd wcd _ (HGd.out.below B_3.out (Nat.le_refl _)) (HWd.out.below B_3.out (Nat.le_refl _))).mono ?_
  rintro e u4 ⟨rfl, b4⟩
  rw [HFWd.out]
  clear hcH hlH hcC hlC hcD hlD
  have B_4 := Lib.hid (bl B_3.out b4)
  have H_4 := Lib.hid (H_3.out.call b4)
  have C_4 := Lib.hid (C_3.out.call b4)
  have D_4 := Lib.hid (D_3.out.call b4)
  clear b4 B_3 H_3 C_3 D_3
  have hcH := H_4.out.2.2
  have hlH := H_4.out.2.1
  have hcC := C_4.out.2.2
  have hlC := C_4.out.2.1
  have hcD := D_4.out.2.2
  have hlD := D_4.out.2.1
  go_wp2_with fail
  clear hcH hlH hcC hlC hcD hlD
  have CA1 := Lib.hid (cell_call HC1.out.1 B_4.out)
  have CA2 := Lib.hid (cell_call HC2.out.1 B_4.out)
  have hlb : b < u4.heap.size := Nat.lt_of_lt_of_le HC1.out.2 B_4.out.size
  have HQ := Lib.hid (show (∀ ii, u4.drew.cell? ⟨w.heap.size, ii, none⟩ = ((wC x ⟨pd, some ⟨b, o, none⟩, pac, pk, pkc, pw, pwc⟩)[ii]? : Option Value)) ∧ u4.drew.cell? ⟨b, o + i, none⟩ = some (.int .i64 (rm1 : Int)) ∧ u4.drew.cell? ⟨b, o + i2, none⟩ = some (.int .i64 (rm2 : Int)) from ⟨H_4.out.2.2, CA1.out, CA2.out⟩)
  refine wp_region_noPanic ?_
  refine wp_region_held_drew (S := (fun w' => (∀ ii, w'.cell? ⟨w.heap.size, ii, none⟩ = ((wC x ⟨pd, some ⟨b, o, none⟩, pac, pk, pkc, pw, pwc⟩)[ii]? : Option Value)) ∧ w'.cell? ⟨b, o + i, none⟩ = some (.int .i64 (rm1 : Int)) ∧ w'.cell? ⟨b, o + i2, none⟩ = some (.int .i64 (rm2 : Int)))) (by kernel_rfl) (by (first | (with_reducible exact HQ.out))) (fun hHeld => ?_)
  iterate 10
    (first | refine tkW 0 (v := ?_) ?_ ?_ | refine tkW 1 (v := ?_) ?_ ?_ | refine tkW 2 (v := ?_) ?_ ?_ | refine tkW 3 (v := ?_) ?_ ?_ | refine tkW 4 (v := ?_) ?_ ?_ | refine tkW 5 (v := ?_) ?_ ?_ | refine tkW 6 (v := ?_) ?_ ?_ | refine tkW 7 (v := ?_) ?_ ?_ | refine tkW 8 (v := ?_) ?_ ?_ | refine tkW 9 (v := ?_) ?_ ?_)
    rotate_left
    · (intro ww hSw; (try dsimp only at hSw); go_simp; (try with_reducible rfl))
    try simp only [Act.put, List.setIfInBounds_toArray, List.set_cons_zero, List.set_cons_succ]
  iterate 1
    (first | refine tkW 10 (v := ?_) ?_ ?_)
    rotate_left
    · (intro ww hSw; (try dsimp only at hSw); go_simp; (try with_reducible rfl))
    try simp only [Act.put, List.setIfInBounds_toArray, List.set_cons_zero, List.set_cons_succ]
  refine wpAnyH_done (by kernel_rfl) ?_ _
  refine NoPanic.normal ?_
  clear hHeld
  have B_5 := Lib.hid (bl B_4.out (bdrew1 (Below.refl u4.heap.size u4)))
  have H_5 := Lib.hid (H_4.out.call (bdrew1 (Below.refl u4.heap.size u4)))
  have C_5 := Lib.hid (C_4.out.call (bdrew1 (Below.refl u4.heap.size u4)))
  have D_5 := Lib.hid (D_4.out.call (bdrew1 (Below.refl u4.heap.size u4)))
  clear B_4 H_4 C_4 D_4 CA1 CA2 hlb HQ
  generalize u4.drew = W5 at *
  have hcH := H_5.out.2.2
  have hlH := H_5.out.2.1
  have hcC := C_5.out.2.2
  have hlC := C_5.out.2.1
  have hcD := D_5.out.2.2
  have hlD := D_5.out.2.1
  go_wp2_with fail
  refine (ado_as (Shape.refl x) ⟨pd, some ⟨b, o, none⟩, pac, pk, pkc, pw, pwc⟩ i c gac wac gcc wcc _ FT.out.right (HWA.out.below B_5.out (Nat.le_refl _)) hil (HGc.out.below B_5.out (Nat.le_refl _)) (HWc.out.below B_5.out (Nat.le_refl _)) HR.out).mono ?_
  rintro e u6 ⟨q1, qa1, ia1, qc1, ic1, rfl, g, b6⟩
  clear hcH hlH hcC hlC hcD hlD
  have B_6 := Lib.hid (bl B_5.out b6)
  have H_6 := Lib.hid (H_5.out.call b6)
  have C_6 := Lib.hid (C_5.out.call b6)
  have D_6 := Lib.hid (D_5.out.call b6)
  clear b6 B_5 H_5 C_5 D_5
  have hcH := H_6.out.2.2
  have hlH := H_6.out.2.1
  have hcC := C_6.out.2.2
  have hlC := C_6.out.2.1
  have hcD := D_6.out.2.2
  have hlD := D_6.out.2.1
  have WYA_6 := Lib.hid (g.world (HWA.out.below B_6.out (Nat.le_refl _)))
  have NYA_6 := Lib.hid g.2
  clear g
  go_wp2_with fail
  clear hcH hlH hcC hlC hcD hlD
  have s7 : (u6.alloc (.cells (wC x q1) 29)).heap.size = u6.heap.size + 1 := by simp
  have B_7 := Lib.hid (B_6.out.alloc B_6.out.size (.cells (wC x q1) 29))
  have H_7 := Lib.hid (H_6.out.alloc (.cells (wC x q1) 29))
  have C_7 := Lib.hid (C_6.out.alloc (.cells (wC x q1) 29))
  have D_7 := Lib.hid (D_6.out.alloc (.cells (wC x q1) 29))
  have WYA_7 := Lib.hid (WYA_6.out.call ((Below.refl _ _).alloc (Nat.le_refl _) (.cells (wC x q1) 29)))
  have NYA_7 := Lib.hid (NYA_6.out.call ((Below.refl _ _).alloc (Nat.le_refl _) (.cells (wC x q1) 29)))
  have YA_7 := Lib.hid (Holds.newb (w := w) (A := (wC x q1)) (t := 29) (n := u6.heap.size) B_6.out rfl)
  clear B_6 H_6 C_6 D_6 WYA_6 NYA_6
  generalize u6.alloc (.cells (wC x q1) 29) = V7 at *
  have s8 : (V7.alloc (.cells #[.int .i64 R.err, .int .i64 R.kind, .int .i64 R.room, .slice qa1 R.players.length qc1, .slice ia1 R.items.length ic1, .int .i64 R.coins] 38)).heap.size = V7.heap.size + 1 := by simp
  have B_8 := Lib.hid (B_7.out.alloc B_7.out.size (.cells #[.int .i64 R.err, .int .i64 R.kind, .int .i64 R.room, .slice qa1 R.players.length qc1, .slice ia1 R.items.length ic1, .int .i64 R.coins] 38))
  have H_8 := Lib.hid (H_7.out.alloc (.cells #[.int .i64 R.err, .int .i64 R.kind, .int .i64 R.room, .slice qa1 R.players.length qc1, .slice ia1 R.items.length ic1, .int .i64 R.coins] 38))
  have C_8 := Lib.hid (C_7.out.alloc (.cells #[.int .i64 R.err, .int .i64 R.kind, .int .i64 R.room, .slice qa1 R.players.length qc1, .slice ia1 R.items.length ic1, .int .i64 R.coins] 38))
  have D_8 := Lib.hid (D_7.out.alloc (.cells #[.int .i64 R.err, .int .i64 R.kind, .int .i64 R.room, .slice qa1 R.players.length qc1, .slice ia1 R.items.length ic1, .int .i64 R.coins] 38))
  have YA_8 := Lib.hid (YA_7.out.alloc (.cells #[.int .i64 R.err, .int .i64 R.kind, .int .i64 R.room, .slice qa1 R.players.length qc1, .slice ia1 R.items.length ic1, .int .i64 R.coins] 38))
  have WYA_8 := Lib.hid (WYA_7.out.call ((Below.refl _ _).alloc (Nat.le_refl _) (.cells #[.int .i64 R.err, .int .i64 R.kind, .int .i64 R.room, .slice qa1 R.players.length qc1, .slice ia1 R.items.length ic1, .int .i64 R.coins] 38)))
  have NYA_8 := Lib.hid (NYA_7.out.call ((Below.refl _ _).alloc (Nat.le_refl _) (.cells #[.int .i64 R.err, .int .i64 R.kind, .int .i64 R.room, .slice qa1 R.players.length qc1, .slice ia1 R.items.length ic1, .int .i64 R.coins] 38)))
  have YAr_8 := Lib.hid (Holds.newb (w := w) (A := #[.int .i64 R.err, .int .i64 R.kind, .int .i64 R.room, .slice qa1 R.players.length qc1, .slice ia1 R.items.length ic1, .int .i64 R.coins]) (t := 38) (n := u6.heap.size + 1) B_7.out (by omega))
  clear B_7 H_7 C_7 D_7 YA_7 WYA_7 NYA_7
  generalize V7.alloc (.cells #[.int .i64 R.err, .int .i64 R.kind, .int .i64 R.room, .slice qa1 R.players.length qc1, .slice ia1 R.items.length ic1, .int .i64 R.coins] 38) = V8 at *
  clear s7 s8
  have hcH := H_8.out.2.2
  have hlH := H_8.out.2.1
  have hcC := C_8.out.2.2
  have hlC := C_8.out.2.1
  have hcD := D_8.out.2.2
  have hlD := D_8.out.2.1
  have hcYA := YA_8.out.2.2
  have hlYA := YA_8.out.2.1
  have hcYAr := YAr_8.out.2.2
  have hlYAr := YAr_8.out.2.1
  refine (ado_as SY.out q1 i2 d gad wad gcd wcd _ RY.out WYA_8.out (by rw [SY.out.at_]; exact hil2) (HGd.out.below B_8.out (Nat.le_refl _)) (HWd.out.below B_8.out (Nat.le_refl _)) HS.out).mono ?_
  rintro e u9 ⟨q2, qa2, ia2, qc2, ic2, rfl, g, b9⟩
  clear hcH hlH hcC hlC hcD hlD hcYA hlYA hcYAr hlYAr
  have B_9 := Lib.hid (bl B_8.out b9)
  have H_9 := Lib.hid (H_8.out.call b9)
  have C_9 := Lib.hid (C_8.out.call b9)
  have D_9 := Lib.hid (D_8.out.call b9)
  have YA_9 := Lib.hid (YA_8.out.call b9)
  have YAr_9 := Lib.hid (YAr_8.out.call b9)
  have WYA_9 := Lib.hid (WYA_8.out.call b9)
  have NYA_9 := Lib.hid (NYA_8.out.call b9)
  clear b9 B_8 H_8 C_8 D_8 YA_8 YAr_8 WYA_8 NYA_8
  have hcH := H_9.out.2.2
  have hlH := H_9.out.2.1
  have hcC := C_9.out.2.2
  have hlC := C_9.out.2.1
  have hcD := D_9.out.2.2
  have hlD := D_9.out.2.1
  have hcYA := YA_9.out.2.2
  have hlYA := YA_9.out.2.1
  have hcYAr := YAr_9.out.2.2
  have hlYAr := YAr_9.out.2.1
  have WZA_9 := Lib.hid (g.world (WYA_9.out))
  have NZA_9 := Lib.hid g.2
  clear g
  go_wp2_with fail
  clear hcH hlH hcC hlC hcD hlD hcYA hlYA hcYAr hlYAr
  have s10 : (u9.alloc (.cells (wC x q2) 29)).heap.size = u9.heap.size + 1 := by simp
  have B_10 := Lib.hid (B_9.out.alloc B_9.out.size (.cells (wC x q2) 29))
  have H_10 := Lib.hid (H_9.out.alloc (.cells (wC x q2) 29))
  have C_10 := Lib.hid (C_9.out.alloc (.cells (wC x q2) 29))
  have D_10 := Lib.hid (D_9.out.alloc (.cells (wC x q2) 29))
  have YA_10 := Lib.hid (YA_9.out.alloc (.cells (wC x q2) 29))
  have YAr_10 := Lib.hid (YAr_9.out.alloc (.cells (wC x q2) 29))
  have WYA_10 := Lib.hid (WYA_9.out.call ((Below.refl _ _).alloc (Nat.le_refl _) (.cells (wC x q2) 29)))
  have NYA_10 := Lib.hid (NYA_9.out.call ((Below.refl _ _).alloc (Nat.le_refl _) (.cells (wC x q2) 29)))
  have WZA_10 := Lib.hid (WZA_9.out.call ((Below.refl _ _).alloc (Nat.le_refl _) (.cells (wC x q2) 29)))
  have NZA_10 := Lib.hid (NZA_9.out.call ((Below.refl _ _).alloc (Nat.le_refl _) (.cells (wC x q2) 29)))
  have ZA_10 := Lib.hid (Holds.newb (w := w) (A := (wC x q2)) (t := 29) (n := u9.heap.size) B_9.out rfl)
  clear B_9 H_9 C_9 D_9 YA_9 YAr_9 WYA_9 NYA_9 WZA_9 NZA_9
  generalize u9.alloc (.cells (wC x q2) 29) = V10 at *
  have s11 : (V10.alloc (.cells #[.int .i64 S.err, .int .i64 S.kind, .int .i64 S.room, .slice qa2 S.players.length qc2, .slice ia2 S.items.length ic2, .int .i64 S.coins] 38)).heap.size = V10.heap.size + 1 := by simp
  have B_11 := Lib.hid (B_10.out.alloc B_10.out.size (.cells #[.int .i64 S.err, .int .i64 S.kind, .int .i64 S.room, .slice qa2 S.players.length qc2, .slice ia2 S.items.length ic2, .int .i64 S.coins] 38))
  have H_11 := Lib.hid (H_10.out.alloc (.cells #[.int .i64 S.err, .int .i64 S.kind, .int .i64 S.room, .slice qa2 S.players.length qc2, .slice ia2 S.items.length ic2, .int .i64 S.coins] 38))
  have C_11 := Lib.hid (C_10.out.alloc (.cells #[.int .i64 S.err, .int .i64 S.kind, .int .i64 S.room, .slice qa2 S.players.length qc2, .slice ia2 S.items.length ic2, .int .i64 S.coins] 38))
  have D_11 := Lib.hid (D_10.out.alloc (.cells #[.int .i64 S.err, .int .i64 S.kind, .int .i64 S.room, .slice qa2 S.players.length qc2, .slice ia2 S.items.length ic2, .int .i64 S.coins] 38))
  have YA_11 := Lib.hid (YA_10.out.alloc (.cells #[.int .i64 S.err, .int .i64 S.kind, .int .i64 S.room, .slice qa2 S.players.length qc2, .slice ia2 S.items.length ic2, .int .i64 S.coins] 38))
  have YAr_11 := Lib.hid (YAr_10.out.alloc (.cells #[.int .i64 S.err, .int .i64 S.kind, .int .i64 S.room, .slice qa2 S.players.length qc2, .slice ia2 S.items.length ic2, .int .i64 S.coins] 38))
  have ZA_11 := Lib.hid (ZA_10.out.alloc (.cells #[.int .i64 S.err, .int .i64 S.kind, .int .i64 S.room, .slice qa2 S.players.length qc2, .slice ia2 S.items.length ic2, .int .i64 S.coins] 38))
  have WYA_11 := Lib.hid (WYA_10.out.call ((Below.refl _ _).alloc (Nat.le_refl _) (.cells #[.int .i64 S.err, .int .i64 S.kind, .int .i64 S.room, .slice qa2 S.players.length qc2, .slice ia2 S.items.length ic2, .int .i64 S.coins] 38)))
  have NYA_11 := Lib.hid (NYA_10.out.call ((Below.refl _ _).alloc (Nat.le_refl _) (.cells #[.int .i64 S.err, .int .i64 S.kind, .int .i64 S.room, .slice qa2 S.players.length qc2, .slice ia2 S.items.length ic2, .int .i64 S.coins] 38)))
  have WZA_11 := Lib.hid (WZA_10.out.call ((Below.refl _ _).alloc (Nat.le_refl _) (.cells #[.int .i64 S.err, .int .i64 S.kind, .int .i64 S.room, .slice qa2 S.players.length qc2, .slice ia2 S.items.length ic2, .int .i64 S.coins] 38)))
  have NZA_11 := Lib.hid (NZA_10.out.call ((Below.refl _ _).alloc (Nat.le_refl _) (.cells #[.int .i64 S.err, .int .i64 S.kind, .int .i64 S.room, .slice qa2 S.players.length qc2, .slice ia2 S.items.length ic2, .int .i64 S.coins] 38)))
  have ZAr_11 := Lib.hid (Holds.newb (w := w) (A := #[.int .i64 S.err, .int .i64 S.kind, .int .i64 S.room, .slice qa2 S.players.length qc2, .slice ia2 S.items.length ic2, .int .i64 S.coins]) (t := 38) (n := u9.heap.size + 1) B_10.out (by omega))
  clear B_10 H_10 C_10 D_10 YA_10 YAr_10 ZA_10 WYA_10 NYA_10 WZA_10 NZA_10
  generalize V10.alloc (.cells #[.int .i64 S.err, .int .i64 S.kind, .int .i64 S.room, .slice qa2 S.players.length qc2, .slice ia2 S.items.length ic2, .int .i64 S.coins] 38) = V11 at *
  clear s10 s11
  have hcH := H_11.out.2.2
  have hlH := H_11.out.2.1
  have hcC := C_11.out.2.2
  have hlC := C_11.out.2.1
  have hcD := D_11.out.2.2
  have hlD := D_11.out.2.1
  have hcYA := YA_11.out.2.2
  have hlYA := YA_11.out.2.1
  have hcYAr := YAr_11.out.2.2
  have hlYAr := YAr_11.out.2.1
  have hcZA := ZA_11.out.2.2
  have hlZA := ZA_11.out.2.1
  have hcZAr := ZAr_11.out.2.2
  have hlZAr := ZAr_11.out.2.1
  refine (ado_as (Shape.refl x) ⟨pd, some ⟨b, o, none⟩, pac, pk, pkc, pw, pwc⟩ i2 d gad wad gcd wcd _ FT.out.right (HWA.out.below B_11.out (Nat.le_refl _)) hil2 (HGd.out.below B_11.out (Nat.le_refl _)) (HWd.out.below B_11.out (Nat.le_refl _)) HT.out).mono ?_
  rintro e u12 ⟨q3, qa3, ia3, qc3, ic3, rfl, g, b12⟩
  clear hcH hlH hcC hlC hcD hlD hcYA hlYA hcYAr hlYAr hcZA hlZA hcZAr hlZAr
  have B_12 := Lib.hid (bl B_11.out b12)
  have H_12 := Lib.hid (H_11.out.call b12)
  have C_12 := Lib.hid (C_11.out.call b12)
  have D_12 := Lib.hid (D_11.out.call b12)
  have YA_12 := Lib.hid (YA_11.out.call b12)
  have YAr_12 := Lib.hid (YAr_11.out.call b12)
  have ZA_12 := Lib.hid (ZA_11.out.call b12)
  have ZAr_12 := Lib.hid (ZAr_11.out.call b12)
  have WYA_12 := Lib.hid (WYA_11.out.call b12)
  have NYA_12 := Lib.hid (NYA_11.out.call b12)
  have WZA_12 := Lib.hid (WZA_11.out.call b12)
  have NZA_12 := Lib.hid (NZA_11.out.call b12)
  clear b12 B_11 H_11 C_11 D_11 YA_11 YAr_11 ZA_11 ZAr_11 WYA_11 NYA_11 WZA_11 NZA_11
  have hcH := H_12.out.2.2
  have hlH := H_12.out.2.1
  have hcC := C_12.out.2.2
  have hlC := C_12.out.2.1
  have hcD := D_12.out.2.2
  have hlD := D_12.out.2.1
  have hcYA := YA_12.out.2.2
  have hlYA := YA_12.out.2.1
  have hcYAr := YAr_12.out.2.2
  have hlYAr := YAr_12.out.2.1
  have hcZA := ZA_12.out.2.2
  have hlZA := ZA_12.out.2.1
  have hcZAr := ZAr_12.out.2.2
  have hlZAr := ZAr_12.out.2.1
  have WUA_12 := Lib.hid (g.world (HWA.out.below B_12.out (Nat.le_refl _)))
  have NUA_12 := Lib.hid g.2
  clear g
  go_wp2_with fail
  clear hcH hlH hcC hlC hcD hlD hcYA hlYA hcYAr hlYAr hcZA hlZA hcZAr hlZAr
  have s13 : (u12.alloc (.cells (wC x q3) 29)).heap.size = u12.heap.size + 1 := by simp
  have B_13 := Lib.hid (B_12.out.alloc B_12.out.size (.cells (wC x q3) 29))
  have H_13 := Lib.hid (H_12.out.alloc (.cells (wC x q3) 29))
  have C_13 := Lib.hid (C_12.out.alloc (.cells (wC x q3) 29))
  have D_13 := Lib.hid (D_12.out.alloc (.cells (wC x q3) 29))
  have YA_13 := Lib.hid (YA_12.out.alloc (.cells (wC x q3) 29))
  have YAr_13 := Lib.hid (YAr_12.out.alloc (.cells (wC x q3) 29))
  have ZA_13 := Lib.hid (ZA_12.out.alloc (.cells (wC x q3) 29))
  have ZAr_13 := Lib.hid (ZAr_12.out.alloc (.cells (wC x q3) 29))
  have WYA_13 := Lib.hid (WYA_12.out.call ((Below.refl _ _).alloc (Nat.le_refl _) (.cells (wC x q3) 29)))
  have NYA_13 := Lib.hid (NYA_12.out.call ((Below.refl _ _).alloc (Nat.le_refl _) (.cells (wC x q3) 29)))
  have WZA_13 := Lib.hid (WZA_12.out.call ((Below.refl _ _).alloc (Nat.le_refl _) (.cells (wC x q3) 29)))
  have NZA_13 := Lib.hid (NZA_12.out.call ((Below.refl _ _).alloc (Nat.le_refl _) (.cells (wC x q3) 29)))
  have WUA_13 := Lib.hid (WUA_12.out.call ((Below.refl _ _).alloc (Nat.le_refl _) (.cells (wC x q3) 29)))
  have NUA_13 := Lib.hid (NUA_12.out.call ((Below.refl _ _).alloc (Nat.le_refl _) (.cells (wC x q3) 29)))
  have UA_13 := Lib.hid (Holds.newb (w := w) (A := (wC x q3)) (t := 29) (n := u12.heap.size) B_12.out rfl)
  clear B_12 H_12 C_12 D_12 YA_12 YAr_12 ZA_12 ZAr_12 WYA_12 NYA_12 WZA_12 NZA_12 WUA_12 NUA_12
  generalize u12.alloc (.cells (wC x q3) 29) = V13 at *
  have s14 : (V13.alloc (.cells #[.int .i64 T.err, .int .i64 T.kind, .int .i64 T.room, .slice qa3 T.players.length qc3, .slice ia3 T.items.length ic3, .int .i64 T.coins] 38)).heap.size = V13.heap.size + 1 := by simp
  have B_14 := Lib.hid (B_13.out.alloc B_13.out.size (.cells #[.int .i64 T.err, .int .i64 T.kind, .int .i64 T.room, .slice qa3 T.players.length qc3, .slice ia3 T.items.length ic3, .int .i64 T.coins] 38))
  have H_14 := Lib.hid (H_13.out.alloc (.cells #[.int .i64 T.err, .int .i64 T.kind, .int .i64 T.room, .slice qa3 T.players.length qc3, .slice ia3 T.items.length ic3, .int .i64 T.coins] 38))
  have C_14 := Lib.hid (C_13.out.alloc (.cells #[.int .i64 T.err, .int .i64 T.kind, .int .i64 T.room, .slice qa3 T.players.length qc3, .slice ia3 T.items.length ic3, .int .i64 T.coins] 38))
  have D_14 := Lib.hid (D_13.out.alloc (.cells #[.int .i64 T.err, .int .i64 T.kind, .int .i64 T.room, .slice qa3 T.players.length qc3, .slice ia3 T.items.length ic3, .int .i64 T.coins] 38))
  have YA_14 := Lib.hid (YA_13.out.alloc (.cells #[.int .i64 T.err, .int .i64 T.kind, .int .i64 T.room, .slice qa3 T.players.length qc3, .slice ia3 T.items.length ic3, .int .i64 T.coins] 38))
  have YAr_14 := Lib.hid (YAr_13.out.alloc (.cells #[.int .i64 T.err, .int .i64 T.kind, .int .i64 T.room, .slice qa3 T.players.length qc3, .slice ia3 T.items.length ic3, .int .i64 T.coins] 38))
  have ZA_14 := Lib.hid (ZA_13.out.alloc (.cells #[.int .i64 T.err, .int .i64 T.kind, .int .i64 T.room, .slice qa3 T.players.length qc3, .slice ia3 T.items.length ic3, .int .i64 T.coins] 38))
  have ZAr_14 := Lib.hid (ZAr_13.out.alloc (.cells #[.int .i64 T.err, .int .i64 T.kind, .int .i64 T.room, .slice qa3 T.players.length qc3, .slice ia3 T.items.length ic3, .int .i64 T.coins] 38))
  have UA_14 := Lib.hid (UA_13.out.alloc (.cells #[.int .i64 T.err, .int .i64 T.kind, .int .i64 T.room, .slice qa3 T.players.length qc3, .slice ia3 T.items.length ic3, .int .i64 T.coins] 38))
  have WYA_14 := Lib.hid (WYA_13.out.call ((Below.refl _ _).alloc (Nat.le_refl _) (.cells #[.int .i64 T.err, .int .i64 T.kind, .int .i64 T.room, .slice qa3 T.players.length qc3, .slice ia3 T.items.length ic3, .int .i64 T.coins] 38)))
  have NYA_14 := Lib.hid (NYA_13.out.call ((Below.refl _ _).alloc (Nat.le_refl _) (.cells #[.int .i64 T.err, .int .i64 T.kind, .int .i64 T.room, .slice qa3 T.players.length qc3, .slice ia3 T.items.length ic3, .int .i64 T.coins] 38)))
  have WZA_14 := Lib.hid (WZA_13.out.call ((Below.refl _ _).alloc (Nat.le_refl _) (.cells #[.int .i64 T.err, .int .i64 T.kind, .int .i64 T.room, .slice qa3 T.players.length qc3, .slice ia3 T.items.length ic3, .int .i64 T.coins] 38)))
  have NZA_14 := Lib.hid (NZA_13.out.call ((Below.refl _ _).alloc (Nat.le_refl _) (.cells #[.int .i64 T.err, .int .i64 T.kind, .int .i64 T.room, .slice qa3 T.players.length qc3, .slice ia3 T.items.length ic3, .int .i64 T.coins] 38)))
  have WUA_14 := Lib.hid (WUA_13.out.call ((Below.refl _ _).alloc (Nat.le_refl _) (.cells #[.int .i64 T.err, .int .i64 T.kind, .int .i64 T.room, .slice qa3 T.players.length qc3, .slice ia3 T.items.length ic3, .int .i64 T.coins] 38)))
  have NUA_14 := Lib.hid (NUA_13.out.call ((Below.refl _ _).alloc (Nat.le_refl _) (.cells #[.int .i64 T.err, .int .i64 T.kind, .int .i64 T.room, .slice qa3 T.players.length qc3, .slice ia3 T.items.length ic3, .int .i64 T.coins] 38)))
  have UAr_14 := Lib.hid (Holds.newb (w := w) (A := #[.int .i64 T.err, .int .i64 T.kind, .int .i64 T.room, .slice qa3 T.players.length qc3, .slice ia3 T.items.length ic3, .int .i64 T.coins]) (t := 38) (n := u12.heap.size + 1) B_13.out (by omega))
  clear B_13 H_13 C_13 D_13 YA_13 YAr_13 ZA_13 ZAr_13 UA_13 WYA_13 NYA_13 WZA_13 NZA_13 WUA_13 NUA_13
  generalize V13.alloc (.cells #[.int .i64 T.err, .int .i64 T.kind, .int .i64 T.room, .slice qa3 T.players.length qc3, .slice ia3 T.items.length ic3, .int .i64 T.coins] 38) = V14 at *
  clear s13 s14
  have hcH := H_14.out.2.2
  have hlH := H_14.out.2.1
  have hcC := C_14.out.2.2
  have hlC := C_14.out.2.1
  have hcD := D_14.out.2.2
  have hlD := D_14.out.2.1
  have hcYA := YA_14.out.2.2
  have hlYA := YA_14.out.2.1
  have hcYAr := YAr_14.out.2.2
  have hlYAr := YAr_14.out.2.1
  have hcZA := ZA_14.out.2.2
  have hlZA := ZA_14.out.2.1
  have hcZAr := ZAr_14.out.2.2
  have hlZAr := ZAr_14.out.2.1
  have hcUA := UA_14.out.2.2
  have hlUA := UA_14.out.2.1
  have hcUAr := UAr_14.out.2.2
  have hlUAr := UAr_14.out.2.1
  refine (ado_as SU.out q3 i c gac wac gcc wcc _ RU.out WUA_14.out (by rw [SU.out.at_]; exact hil) (HGc.out.below B_14.out (Nat.le_refl _)) (HWc.out.below B_14.out (Nat.le_refl _)) HU.out).mono ?_
  rintro e u15 ⟨q4, qa4, ia4, qc4, ic4, rfl, g, b15⟩
  clear hcH hlH hcC hlC hcD hlD hcYA hlYA hcYAr hlYAr hcZA hlZA hcZAr hlZAr hcUA hlUA hcUAr hlUAr
  have B_15 := Lib.hid (bl B_14.out b15)
  have H_15 := Lib.hid (H_14.out.call b15)
  have C_15 := Lib.hid (C_14.out.call b15)
  have D_15 := Lib.hid (D_14.out.call b15)
  have YA_15 := Lib.hid (YA_14.out.call b15)
  have YAr_15 := Lib.hid (YAr_14.out.call b15)
  have ZA_15 := Lib.hid (ZA_14.out.call b15)
  have ZAr_15 := Lib.hid (ZAr_14.out.call b15)
  have UA_15 := Lib.hid (UA_14.out.call b15)
  have UAr_15 := Lib.hid (UAr_14.out.call b15)
  have WYA_15 := Lib.hid (WYA_14.out.call b15)
  have NYA_15 := Lib.hid (NYA_14.out.call b15)
  have WZA_15 := Lib.hid (WZA_14.out.call b15)
  have NZA_15 := Lib.hid (NZA_14.out.call b15)
  have WUA_15 := Lib.hid (WUA_14.out.call b15)
  have NUA_15 := Lib.hid (NUA_14.out.call b15)
  clear b15 B_14 H_14 C_14 D_14 YA_14 YAr_14 ZA_14 ZAr_14 UA_14 UAr_14 WYA_14 NYA_14 WZA_14 NZA_14 WUA_14 NUA_14
  have hcH := H_15.out.2.2
  have hlH := H_15.out.2.1
  have hcC := C_15.out.2.2
  have hlC := C_15.out.2.1
  have hcD := D_15.out.2.2
  have hlD := D_15.out.2.1
  have hcYA := YA_15.out.2.2
  have hlYA := YA_15.out.2.1
  have hcYAr := YAr_15.out.2.2
  have hlYAr := YAr_15.out.2.1
  have hcZA := ZA_15.out.2.2
  have hlZA := ZA_15.out.2.1
  have hcZAr := ZAr_15.out.2.2
  have hlZAr := ZAr_15.out.2.1
  have hcUA := UA_15.out.2.2
  have hlUA := UA_15.out.2.1
  have hcUAr := UAr_15.out.2.2
  have hlUAr := UAr_15.out.2.1
  have WVA_15 := Lib.hid (g.world (WUA_15.out))
  have NVA_15 := Lib.hid g.2
  clear g
  go_wp2_with fail
  clear hcH hlH hcC hlC hcD hlD hcYA hlYA hcYAr hlYAr hcZA hlZA hcZAr hlZAr hcUA hlUA hcUAr hlUAr
  have s16 : (u15.alloc (.cells (wC x q4) 29)).heap.size = u15.heap.size + 1 := by simp
  have B_16 := Lib.hid (B_15.out.alloc B_15.out.size (.cells (wC x q4) 29))
  have H_16 := Lib.hid (H_15.out.alloc (.cells (wC x q4) 29))
  have C_16 := Lib.hid (C_15.out.alloc (.cells (wC x q4) 29))
  have D_16 := Lib.hid (D_15.out.alloc (.cells (wC x q4) 29))
  have YA_16 := Lib.hid (YA_15.out.alloc (.cells (wC x q4) 29))
  have YAr_16 := Lib.hid (YAr_15.out.alloc (.cells (wC x q4) 29))
  have ZA_16 := Lib.hid (ZA_15.out.alloc (.cells (wC x q4) 29))
  have ZAr_16 := Lib.hid (ZAr_15.out.alloc (.cells (wC x q4) 29))
  have UA_16 := Lib.hid (UA_15.out.alloc (.cells (wC x q4) 29))
  have UAr_16 := Lib.hid (UAr_15.out.alloc (.cells (wC x q4) 29))
  have WYA_16 := Lib.hid (WYA_15.out.call ((Below.refl _ _).alloc (Nat.le_refl _) (.cells (wC x q4) 29)))
  have NYA_16 := Lib.hid (NYA_15.out.call ((Below.refl _ _).alloc (Nat.le_refl _) (.cells (wC x q4) 29)))
  have WZA_16 := Lib.hid (WZA_15.out.call ((Below.refl _ _).alloc (Nat.le_refl _) (.cells (wC x q4) 29)))
  have NZA_16 := Lib.hid (NZA_15.out.call ((Below.refl _ _).alloc (Nat.le_refl _) (.cells (wC x q4) 29)))
  have WUA_16 := Lib.hid (WUA_15.out.call ((Below.refl _ _).alloc (Nat.le_refl _) (.cells (wC x q4) 29)))
  have NUA_16 := Lib.hid (NUA_15.out.call ((Below.refl _ _).alloc (Nat.le_refl _) (.cells (wC x q4) 29)))
  have WVA_16 := Lib.hid (WVA_15.out.call ((Below.refl _ _).alloc (Nat.le_refl _) (.cells (wC x q4) 29)))
  have NVA_16 := Lib.hid (NVA_15.out.call ((Below.refl _ _).alloc (Nat.le_refl _) (.cells (wC x q4) 29)))
  have VA_16 := Lib.hid (Holds.newb (w := w) (A := (wC x q4)) (t := 29) (n := u15.heap.size) B_15.out rfl)
  clear B_15 H_15 C_15 D_15 YA_15 YAr_15 ZA_15 ZAr_15 UA_15 UAr_15 WYA_15 NYA_15 WZA_15 NZA_15 WUA_15 NUA_15 WVA_15 NVA_15
  generalize u15.alloc (.cells (wC x q4) 29) = V16 at *
  have s17 : (V16.alloc (.cells #[.int .i64 U.err, .int .i64 U.kind, .int .i64 U.room, .slice qa4 U.players.length qc4, .slice ia4 U.items.length ic4, .int .i64 U.coins] 38)).heap.size = V16.heap.size + 1 := by simp
  have B_17 := Lib.hid (B_16.out.alloc B_16.out.size (.cells #[.int .i64 U.err, .int .i64 U.kind, .int .i64 U.room, .slice qa4 U.players.length qc4, .slice ia4 U.items.length ic4, .int .i64 U.coins] 38))
  have H_17 := Lib.hid (H_16.out.alloc (.cells #[.int .i64 U.err, .int .i64 U.kind, .int .i64 U.room, .slice qa4 U.players.length qc4, .slice ia4 U.items.length ic4, .int .i64 U.coins] 38))
  have C_17 := Lib.hid (C_16.out.alloc (.cells #[.int .i64 U.err, .int .i64 U.kind, .int .i64 U.room, .slice qa4 U.players.length qc4, .slice ia4 U.items.length ic4, .int .i64 U.coins] 38))
  have D_17 := Lib.hid (D_16.out.alloc (.cells #[.int .i64 U.err, .int .i64 U.kind, .int .i64 U.room, .slice qa4 U.players.length qc4, .slice ia4 U.items.length ic4, .int .i64 U.coins] 38))
  have YA_17 := Lib.hid (YA_16.out.alloc (.cells #[.int .i64 U.err, .int .i64 U.kind, .int .i64 U.room, .slice qa4 U.players.length qc4, .slice ia4 U.items.length ic4, .int .i64 U.coins] 38))
  have YAr_17 := Lib.hid (YAr_16.out.alloc (.cells #[.int .i64 U.err, .int .i64 U.kind, .int .i64 U.room, .slice qa4 U.players.length qc4, .slice ia4 U.items.length ic4, .int .i64 U.coins] 38))
  have ZA_17 := Lib.hid (ZA_16.out.alloc (.cells #[.int .i64 U.err, .int .i64 U.kind, .int .i64 U.room, .slice qa4 U.players.length qc4, .slice ia4 U.items.length ic4, .int .i64 U.coins] 38))
  have ZAr_17 := Lib.hid (ZAr_16.out.alloc (.cells #[.int .i64 U.err, .int .i64 U.kind, .int .i64 U.room, .slice qa4 U.players.length qc4, .slice ia4 U.items.length ic4, .int .i64 U.coins] 38))
  have UA_17 := Lib.hid (UA_16.out.alloc (.cells #[.int .i64 U.err, .int .i64 U.kind, .int .i64 U.room, .slice qa4 U.players.length qc4, .slice ia4 U.items.length ic4, .int .i64 U.coins] 38))
  have UAr_17 := Lib.hid (UAr_16.out.alloc (.cells #[.int .i64 U.err, .int .i64 U.kind, .int .i64 U.room, .slice qa4 U.players.length qc4, .slice ia4 U.items.length ic4, .int .i64 U.coins] 38))
  have VA_17 := Lib.hid (VA_16.out.alloc (.cells #[.int .i64 U.err, .int .i64 U.kind, .int .i64 U.room, .slice qa4 U.players.length qc4, .slice ia4 U.items.length ic4, .int .i64 U.coins] 38))
  have WYA_17 := Lib.hid (WYA_16.out.call ((Below.refl _ _).alloc (Nat.le_refl _) (.cells #[.int .i64 U.err, .int .i64 U.kind, .int .i64 U.room, .slice qa4 U.players.length qc4, .slice ia4 U.items.length ic4, .int .i64 U.coins] 38)))
  have NYA_17 := Lib.hid (NYA_16.out.call ((Below.refl _ _).alloc (Nat.le_refl _) (.cells #[.int .i64 U.err, .int .i64 U.kind, .int .i64 U.room, .slice qa4 U.players.length qc4, .slice ia4 U.items.length ic4, .int .i64 U.coins] 38)))
  have WZA_17 := Lib.hid (WZA_16.out.call ((Below.refl _ _).alloc (Nat.le_refl _) (.cells #[.int .i64 U.err, .int .i64 U.kind, .int .i64 U.room, .slice qa4 U.players.length qc4, .slice ia4 U.items.length ic4, .int .i64 U.coins] 38)))
  have NZA_17 := Lib.hid (NZA_16.out.call ((Below.refl _ _).alloc (Nat.le_refl _) (.cells #[.int .i64 U.err, .int .i64 U.kind, .int .i64 U.room, .slice qa4 U.players.length qc4, .slice ia4 U.items.length ic4, .int .i64 U.coins] 38)))
  have WUA_17 := Lib.hid (WUA_16.out.call ((Below.refl _ _).alloc (Nat.le_refl _) (.cells #[.int .i64 U.err, .int .i64 U.kind, .int .i64 U.room, .slice qa4 U.players.length qc4, .slice ia4 U.items.length ic4, .int .i64 U.coins] 38)))
  have NUA_17 := Lib.hid (NUA_16.out.call ((Below.refl _ _).alloc (Nat.le_refl _) (.cells #[.int .i64 U.err, .int .i64 U.kind, .int .i64 U.room, .slice qa4 U.players.length qc4, .slice ia4 U.items.length ic4, .int .i64 U.coins] 38)))
  have WVA_17 := Lib.hid (WVA_16.out.call ((Below.refl _ _).alloc (Nat.le_refl _) (.cells #[.int .i64 U.err, .int .i64 U.kind, .int .i64 U.room, .slice qa4 U.players.length qc4, .slice ia4 U.items.length ic4, .int .i64 U.coins] 38)))
  have NVA_17 := Lib.hid (NVA_16.out.call ((Below.refl _ _).alloc (Nat.le_refl _) (.cells #[.int .i64 U.err, .int .i64 U.kind, .int .i64 U.room, .slice qa4 U.players.length qc4, .slice ia4 U.items.length ic4, .int .i64 U.coins] 38)))
  have VAr_17 := Lib.hid (Holds.newb (w := w) (A := #[.int .i64 U.err, .int .i64 U.kind, .int .i64 U.room, .slice qa4 U.players.length qc4, .slice ia4 U.items.length ic4, .int .i64 U.coins]) (t := 38) (n := u15.heap.size + 1) B_16.out (by omega))
  clear B_16 H_16 C_16 D_16 YA_16 YAr_16 ZA_16 ZAr_16 UA_16 UAr_16 VA_16 WYA_16 NYA_16 WZA_16 NZA_16 WUA_16 NUA_16 WVA_16 NVA_16
  generalize V16.alloc (.cells #[.int .i64 U.err, .int .i64 U.kind, .int .i64 U.room, .slice qa4 U.players.length qc4, .slice ia4 U.items.length ic4, .int .i64 U.coins] 38) = V17 at *
  clear s16 s17
  have hcH := H_17.out.2.2
  have hlH := H_17.out.2.1
  have hcC := C_17.out.2.2
  have hlC := C_17.out.2.1
  have hcD := D_17.out.2.2
  have hlD := D_17.out.2.1
  have hcYA := YA_17.out.2.2
  have hlYA := YA_17.out.2.1
  have hcYAr := YAr_17.out.2.2
  have hlYAr := YAr_17.out.2.1
  have hcZA := ZA_17.out.2.2
  have hlZA := ZA_17.out.2.1
  have hcZAr := ZAr_17.out.2.2
  have hlZAr := ZAr_17.out.2.1
  have hcUA := UA_17.out.2.2
  have hlUA := UA_17.out.2.1
  have hcUAr := UAr_17.out.2.2
  have hlUAr := UAr_17.out.2.1
  have hcVA := VA_17.out.2.2
  have hlVA := VA_17.out.2.1
  have hcVAr := VAr_17.out.2.2
  have hlVAr := VAr_17.out.2.1
  refine (rp_eq HAP.out.1.symm qa1 ia1 qa4 ia4 qc1 ic1 qc4 ic4 _ NYA_17.out.ints NYA_17.out.sns NVA_17.out.ints NVA_17.out.sns).mono ?_
  rintro e u18 ⟨rfl, b18⟩
  clear hcH hlH hcC hlC hcD hlD hcYA hlYA hcYAr hlYAr hcZA hlZA hcZAr hlZAr hcUA hlUA hcUAr hlUAr hcVA hlVA hcVAr hlVAr
  have B_18 := Lib.hid (bl B_17.out b18)
  have H_18 := Lib.hid (H_17.out.call b18)
  have C_18 := Lib.hid (C_17.out.call b18)
  have D_18 := Lib.hid (D_17.out.call b18)
  have YA_18 := Lib.hid (YA_17.out.call b18)
  have YAr_18 := Lib.hid (YAr_17.out.call b18)
  have ZA_18 := Lib.hid (ZA_17.out.call b18)
  have ZAr_18 := Lib.hid (ZAr_17.out.call b18)
  have UA_18 := Lib.hid (UA_17.out.call b18)
  have UAr_18 := Lib.hid (UAr_17.out.call b18)
  have VA_18 := Lib.hid (VA_17.out.call b18)
  have VAr_18 := Lib.hid (VAr_17.out.call b18)
  have WYA_18 := Lib.hid (WYA_17.out.call b18)
  have NYA_18 := Lib.hid (NYA_17.out.call b18)
  have WZA_18 := Lib.hid (WZA_17.out.call b18)
  have NZA_18 := Lib.hid (NZA_17.out.call b18)
  have WUA_18 := Lib.hid (WUA_17.out.call b18)
  have NUA_18 := Lib.hid (NUA_17.out.call b18)
  have WVA_18 := Lib.hid (WVA_17.out.call b18)
  have NVA_18 := Lib.hid (NVA_17.out.call b18)
  clear b18 B_17 H_17 C_17 D_17 YA_17 YAr_17 ZA_17 ZAr_17 UA_17 UAr_17 VA_17 VAr_17 WYA_17 NYA_17 WZA_17 NZA_17 WUA_17 NUA_17 WVA_17 NVA_17
  have hcH := H_18.out.2.2
  have hlH := H_18.out.2.1
  have hcC := C_18.out.2.2
  have hlC := C_18.out.2.1
  have hcD := D_18.out.2.2
  have hlD := D_18.out.2.1
  have hcYA := YA_18.out.2.2
  have hlYA := YA_18.out.2.1
  have hcYAr := YAr_18.out.2.2
  have hlYAr := YAr_18.out.2.1
  have hcZA := ZA_18.out.2.2
  have hlZA := ZA_18.out.2.1
  have hcZAr := ZAr_18.out.2.2
  have hlZAr := ZAr_18.out.2.1
  have hcUA := UA_18.out.2.2
  have hlUA := UA_18.out.2.1
  have hcUAr := UAr_18.out.2.2
  have hlUAr := UAr_18.out.2.1
  have hcVA := VA_18.out.2.2
  have hlVA := VA_18.out.2.1
  have hcVAr := VAr_18.out.2.2
  have hlVAr := VAr_18.out.2.1
  go_wp2_with fail
  refine (rp_eq HAP.out.2.1 qa2 ia2 qa3 ia3 qc2 ic2 qc3 ic3 _ NZA_18.out.ints NZA_18.out.sns NUA_18.out.ints NUA_18.out.sns).mono ?_
  rintro e u19 ⟨rfl, b19⟩
  clear hcH hlH hcC hlC hcD hlD hcYA hlYA hcYAr hlYAr hcZA hlZA hcZAr hlZAr hcUA hlUA hcUAr hlUAr hcVA hlVA hcVAr hlVAr
  have B_19 := Lib.hid (bl B_18.out b19)
  have H_19 := Lib.hid (H_18.out.call b19)
  have C_19 := Lib.hid (C_18.out.call b19)
  have D_19 := Lib.hid (D_18.out.call b19)
  have YA_19 := Lib.hid (YA_18.out.call b19)
  have YAr_19 := Lib.hid (YAr_18.out.call b19)
  have ZA_19 := Lib.hid (ZA_18.out.call b19)
  have ZAr_19 := Lib.hid (ZAr_18.out.call b19)
  have UA_19 := Lib.hid (UA_18.out.call b19)
  have UAr_19 := Lib.hid (UAr_18.out.call b19)
  have VA_19 := Lib.hid (VA_18.out.call b19)
  have VAr_19 := Lib.hid (VAr_18.out.call b19)
  have WYA_19 := Lib.hid (WYA_18.out.call b19)
  have NYA_19 := Lib.hid (NYA_18.out.call b19)
  have WZA_19 := Lib.hid (WZA_18.out.call b19)
  have NZA_19 := Lib.hid (NZA_18.out.call b19)
  have WUA_19 := Lib.hid (WUA_18.out.call b19)
  have NUA_19 := Lib.hid (NUA_18.out.call b19)
  have WVA_19 := Lib.hid (WVA_18.out.call b19)
  have NVA_19 := Lib.hid (NVA_18.out.call b19)
  clear b19 B_18 H_18 C_18 D_18 YA_18 YAr_18 ZA_18 ZAr_18 UA_18 UAr_18 VA_18 VAr_18 WYA_18 NYA_18 WZA_18 NZA_18 WUA_18 NUA_18 WVA_18 NVA_18
  have hcH := H_19.out.2.2
  have hlH := H_19.out.2.1
  have hcC := C_19.out.2.2
  have hlC := C_19.out.2.1
  have hcD := D_19.out.2.2
  have hlD := D_19.out.2.1
  have hcYA := YA_19.out.2.2
  have hlYA := YA_19.out.2.1
  have hcYAr := YAr_19.out.2.2
  have hlYAr := YAr_19.out.2.1
  have hcZA := ZA_19.out.2.2
  have hlZA := ZA_19.out.2.1
  have hcZAr := ZAr_19.out.2.2
  have hlZAr := ZAr_19.out.2.1
  have hcUA := UA_19.out.2.2
  have hlUA := UA_19.out.2.1
  have hcUAr := UAr_19.out.2.2
  have hlUAr := UAr_19.out.2.1
  have hcVA := VA_19.out.2.2
  have hlVA := VA_19.out.2.1
  have hcVAr := VAr_19.out.2.2
  have hlVAr := VAr_19.out.2.1
  go_wp2_with fail
  refine (rsame_yes SZ.out SV.out HAP.out.2.2 _ _ _ WZA_19.out WVA_19.out).mono ?_
  rintro e u20 ⟨rfl, b20⟩
  clear hcH hlH hcC hlC hcD hlD hcYA hlYA hcYAr hlYAr hcZA hlZA hcZAr hlZAr hcUA hlUA hcUAr hlUAr hcVA hlVA hcVAr hlVAr
  have B_20 := Lib.hid (bl B_19.out b20)
  have H_20 := Lib.hid (H_19.out.call b20)
  have C_20 := Lib.hid (C_19.out.call b20)
  have D_20 := Lib.hid (D_19.out.call b20)
  have YA_20 := Lib.hid (YA_19.out.call b20)
  have YAr_20 := Lib.hid (YAr_19.out.call b20)
  have ZA_20 := Lib.hid (ZA_19.out.call b20)
  have ZAr_20 := Lib.hid (ZAr_19.out.call b20)
  have UA_20 := Lib.hid (UA_19.out.call b20)
  have UAr_20 := Lib.hid (UAr_19.out.call b20)
  have VA_20 := Lib.hid (VA_19.out.call b20)
  have VAr_20 := Lib.hid (VAr_19.out.call b20)
  have WYA_20 := Lib.hid (WYA_19.out.call b20)
  have NYA_20 := Lib.hid (NYA_19.out.call b20)
  have WZA_20 := Lib.hid (WZA_19.out.call b20)
  have NZA_20 := Lib.hid (NZA_19.out.call b20)
  have WUA_20 := Lib.hid (WUA_19.out.call b20)
  have NUA_20 := Lib.hid (NUA_19.out.call b20)
  have WVA_20 := Lib.hid (WVA_19.out.call b20)
  have NVA_20 := Lib.hid (NVA_19.out.call b20)
  clear b20 B_19 H_19 C_19 D_19 YA_19 YAr_19 ZA_19 ZAr_19 UA_19 UAr_19 VA_19 VAr_19 WYA_19 NYA_19 WZA_19 NZA_19 WUA_19 NUA_19 WVA_19 NVA_19
  go_wp2_with fail
  go_ret
  exact ⟨rfl, B_20.out⟩
theorem walk_atomApart (x : Wd) (p : Wp) (a : Int) (c : Cm) (gac wac : Option Addr) (gcc wcc : Nat) (b2 : Int) (d : Cm) (gad wad : Option Addr) (gcd wcd : Nat) (w : World) (ha : (Lit.int .u8 a).wf = true) (hb : (Lit.int .u8 b2).wf = true) (h : WorldAt w p x) (hgc : IntsAt w gac c.gives) (hwc : IntsAt w wac c.wants) (_ : c.Wf) (hgd : IntsAt w gad d.gives) (hwd : IntsAt w wad d.wants) (_ : d.Wf) : Calls Tryz.prog 5 #[.agg (wC x p), .int .u8 a, .agg #[.int .i64 c.kind, .int .i64 c.dir, .int .i64 c.item, .int .i64 c.box, .int .i64 c.who, .slice gac c.gives.length gcc, .int .i64 c.pay, .slice wac c.wants.length wcc, .int .i64 c.fee], .int .u8 b2, .agg #[.int .i64 d.kind, .int .i64 d.dir, .int .i64 d.item, .int .i64 d.box, .int .i64 d.who, .slice gad d.gives.length gcd, .int .i64 d.pay, .slice wad d.wants.length wcd, .int .i64 d.fee]] w fun e w' => e = .returned (.bool true) ∧ Below w.heap.size w w' := by
  cases hf : fitsB x
  · exact atomApart_no0 x p a b2 c d gac wac gad wad gcc wcc gcd wcd w h hgc hwc hgd hwd hf
  cases hfwc : cfewB c
  · exact atomApart_no1 x p a b2 c d gac wac gad wad gcc wcc gcd wcd w h hgc hwc hgd hwd hf hfwc
  cases hfwd : cfewB d
  · exact atomApart_no2 x p a b2 c d gac wac gad wad gcc wcc gcd wcd w h hgc hwc hgd hwd hf hfwc hfwd
  cases k0 : decide (c.kind < 3)
  case true => exact atomApart_no3 x p a b2 c d gac wac gad wad gcc wcc gcd wcd w h hgc hwc hgd hwd hf hfwc hfwd k0
  cases k1 : decide (6 < c.kind)
  case true => exact atomApart_no4 x p a b2 c d gac wac gad wad gcc wcc gcd wcd w h hgc hwc hgd hwd hf hfwc hfwd k0 k1
  cases k2 : decide (d.kind < 3)
  case true => exact atomApart_no5 x p a b2 c d gac wac gad wad gcc wcc gcd wcd w h hgc hwc hgd hwd hf hfwc hfwd k0 k1 k2
  cases k3 : decide (6 < d.kind)
  case true => exact atomApart_no6 x p a b2 c d gac wac gad wad gcc wcc gcd wcd w h hgc hwc hgd hwd hf hfwc hfwd k0 k1 k2 k3
  have h1 := wf_u8 ha
  obtain ⟨m1, rfl⟩ : ∃ m : Nat, a = m := ⟨a.toNat, by omega⟩
  have h2 := wf_u8 hb
  obtain ⟨m2, rfl⟩ : ∃ m : Nat, b2 = m := ⟨b2.toNat, by omega⟩
  have hlp : 0 < x.at_.length := (right_lens (fits_fit hf).right).1
  obtain ⟨b, o, eb, -, -⟩ := h.at_.at_ hlp
  obtain ⟨pd, pa, pac, pk, pkc, pw, pwc⟩ := p
  simp only at eb
  subst eb
  have e0 := of_decide_eq_false k0
  have e1 := of_decide_eq_false k1
  have e2 := of_decide_eq_false k2
  have e3 := of_decide_eq_false k3
  by_cases hr : roomOf x (m1 % x.at_.length) = roomOf x (m2 % x.at_.length)
  · exact atomApart_same x pd b o pac pk pw pkc pwc m1 _ m2 _ c d gac wac gad wad gcc wcc gcd wcd (by omega) rfl (by omega) rfl w h hgc hwc hgd hwd hf hfwc hfwd k0 k1 k2 k3 hr
  · exact atomApart_go x pd b o pac pk pw pkc pwc m1 _ m2 _ c d gac wac gad wad gcc wcc gcd wcd (by omega) rfl (by omega) rfl w h hgc hwc hgd hwd hf hfwc hfwd k0 k1 k2 k3 (by omega) (by omega) hr
set_option maxRecDepth 100000 in
theorem lifted_atomApart (os : Os) (started : os.Started) (H : Type) (enc : TypeId × Value → H) :
    ReturnsInHanded {} Tryz.checked os 5 .any (Rows.atomApartSpec.pre6 enc Tryz.prog Tryz.f5 Rows.atomApartRow.domain false) (Rows.atomApartSpec.post enc Tryz.prog Tryz.f5 false true false false) := by
  refine returnsInHanded_of_change (C := Tryz.checked) (by kernel_rfl) started (by kernel_rfl) Tryz.func5
    (ChangeSpec.witness6 (enc := enc) (C := Tryz.checked) false ⟨#[], #[.agg #[.slice none 0 0, .slice none 0 0, .slice none 0 0, .slice none 0 0, .slice none 0 0, .int .i64 0, .int .i64 0, .int .i64 0, .slice none 0 0, .slice none 0 0, .slice none 0 0], .int .u8 0, .agg #[.int .i64 0, .int .i64 0, .int .i64 0, .int .i64 0, .int .i64 0, .slice none 0 0, .int .i64 0, .slice none 0 0, .int .i64 0], .int .u8 0, .agg #[.int .i64 0, .int .i64 0, .int .i64 0, .int .i64 0, .int .i64 0, .slice none 0 0, .int .i64 0, .slice none 0 0, .int .i64 0]], []⟩ 8 (by kernel_rfl) (by kernel_rfl) (by kernel_rfl) (by kernel_rfl)) ?_
  intro W base args ds gs before hval0 hW hcnd _
  have hval : ∀ (j : Nat) t v, Tryz.f5.params[j]? = some t → args[j]? = some v → Value.okWide Tryz.prog W .any base t v := hval0
  have hW' := hW
  obtain ⟨p, q, hA0, hV, rfl, hfz, hnd⟩ := hW
  have hA : DataW.TrodAll enc Tryz.prog W 0 (fun _ => true) true Tryz.f5.params.toList args.toList ds p := hA0
  rw [Tryz.params5] at hA hval
  obtain ⟨v0, vs0, d0, ds0, p0, q0, hargs, rfl, rfl, h0, r0⟩ := trodAll_cons hA
  obtain ⟨v1, vs1, d1, ds1, p1, q1, rfl, rfl, rfl, h1, r1⟩ := trodAll_cons r0
  obtain ⟨v2, vs2, d2, ds2, p2, q2, rfl, rfl, rfl, h2, r2⟩ := trodAll_cons r1
  obtain ⟨v3, vs3, d3, ds3, p3, q3, rfl, rfl, rfl, h3, r3⟩ := trodAll_cons r2
  obtain ⟨v4, vs4, d4, ds4, p4, q4, rfl, rfl, rfl, h4, r4⟩ := trodAll_cons r3
  obtain ⟨rfl, rfl, rfl⟩ := trodAll_nil r4
  obtain rfl : args = #[v0, v1, v2, v3, v4] := by cases args; simp_all
  obtain ⟨rfl, rfl⟩ := trodVars_none hV
  obtain ⟨wx0, wp0, rfl, m0⟩ := read_world (hval 0 29 v0 rfl rfl) h0
  obtain ⟨a1, rfl, rfl, rfl, w1⟩ := open_int Tryz.underlying5 (hval 1 5 v1 rfl rfl) h1
  obtain ⟨c2, ga2, wa2, gc2, wc2, rfl, ma2, mb2, mg2⟩ := read_cmd (hval 2 31 v2 rfl rfl) h2
  obtain ⟨a3, rfl, rfl, rfl, w3⟩ := open_int Tryz.underlying5 (hval 3 5 v3 rfl rfl) h3
  obtain ⟨c4, ga4, wa4, gc4, wc4, rfl, ma4, mb4, mg4⟩ := read_cmd (hval 4 31 v4 rfl rfl) h4
  clear hA0 hval0
  simp only [List.append_nil] at hW'
  refine (walk_atomApart wx0 wp0 a1 c2 ga2 wa2 gc2 wc2 a3 c4 ga4 wa4 gc4 wc4 W w1 w3 m0 ma2 mb2 mg2 ma4 mb4 mg4).mono fun e W' ⟨he, hg⟩ => ?_
  subst he
  exact ⟨_, rfl, law_post (by kernel_rfl) rfl (by rw [Tryz.params5]; decide +kernel) rfl rfl Tryz.underlying4 hW' hg⟩

/-- ████ THE STATEMENT ████ -/
theorem proved_atomApart : Rows.AtomApartSaid :=
  OpenClaim.holds_of_wide 5 Tryz.f5 rfl rfl rfl rfl rfl rfl rfl ⟨rfl, rfl, rfl, rfl, rfl⟩ rfl rfl rfl rfl rfl (by kernel_rfl) Tryz.func5 (by kernel_rfl)
    (of_decide_eq_true (by kernel_rfl)) (by unfold Func.isWrapper; first | (rw [if_pos (by decide +kernel)]; kernel_rfl) | (rw [if_neg (by decide +kernel)]; exact ⟨rfl, rfl⟩))
    (fun os started H enc _ => lifted_atomApart os started H enc)
#print axioms proved_atomApart
end Go.Proofs.YthagafopkkhjjaaGreat
