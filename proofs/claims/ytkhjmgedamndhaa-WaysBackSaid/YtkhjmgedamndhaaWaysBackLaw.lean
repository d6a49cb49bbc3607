/- WaysBack: who goes, and whose room then has an exit back, and goes by that, is where it was, and the world is as it was. -/
import Derived.Test.YtkhjmgedamndhaaRows
import Derived.Test.YtkhjmgedamndhaaKit
import Derived.Test.YtkhjmgedamndhaaSlices
import Derived.Test.YtkhjmgedamndhaaStrs
import Derived.Test.YtkhjmgedamndhaaCoin
import Derived.Test.YtkhjmgedamndhaaBlk
import Derived.Test.YtkhjmgedamndhaaHolds
import Derived.Test.YtkhjmgedamndhaaWorldMath
import Derived.Test.YtkhjmgedamndhaaWorldAt
import Derived.Test.YtkhjmgedamndhaaCmdInts
import Derived.Test.YtkhjmgedamndhaaDescNest
import Derived.Test.YtkhjmgedamndhaaDescRight
import Derived.Test.YtkhjmgedamndhaaDescCopy
import Derived.Test.YtkhjmgedamndhaaDescCopy2
import Derived.Test.YtkhjmgedamndhaaDescStore
import Derived.Test.YtkhjmgedamndhaaDescAs
import Derived.Test.YtkhjmgedamndhaaDescEq
import Derived.Test.YtkhjmgedamndhaaRefCopied
import Derived.Test.YtkhjmgedamndhaaRefDescA
import Derived.Test.YtkhjmgedamndhaaRefRight
import Derived.Test.YtkhjmgedamndhaaRefSame
import Derived.Test.YtkhjmgedamndhaaTreeMath
import Derived.Test.YtkhjmgedamndhaaTreeIs
import Derived.Test.YtkhjmgedamndhaaTreeArg
import Derived.Test.YtkhjmgedamndhaaWorldArg
import Derived.Test.YtkhjmgedamndhaaWaysMath
import Derived.Test.YtkhjmgedamndhaaWaysA
import Derived.Test.YtkhjmgedamndhaaWaysB
import Derived.Test.YtkhjmgedamndhaaWaysC
import Derived.Test.YtkhjmgedamndhaaWaysD
import Derived.Test.YtkhjmgedamndhaaWaysE
import Derived.Test.YtkhjmgedamndhaaWaysAwake
import Derived.Test.YtkhjmgedamndhaaWaysAs
import Derived.Deep.QuietTactic
import Derived.BigQuiet
import Derived.Deep.RegionHeld3
import Derived.WalkKit
import Derived.ProofKit
import Derived.OpenShut
import Derived.IntWalk
namespace Go.Proofs.Ytkhjmgedamndhaa
open Go.ChangeShapes Go.WideShapes Go.ChangeAt Go.RowKit
set_option linter.unusedVariables false
open Go.RowKit
set_option maxRecDepth 100000 in
theorem waysBack_no (x : Wd) (p : Wp) (a b0 c : Int) (w : World) (h : WorldAt w p x) (hf : fitsB x = false) : Calls Try.prog 5 #[.agg #[.slice p.d.ex x.d.exits.length p.d.exc, .slice p.d.pl x.d.players.length p.d.plc, .slice p.d.co x.d.coins.length p.d.coc, .slice p.d.it x.d.items.length p.d.itc, .slice p.d.bo x.d.boxes.length p.d.boc, .int .i64 x.d.room, .int .i64 x.d.player, .int .i64 x.d.box, .slice p.at_ x.at_.length p.atc, .slice p.co x.coins.length p.coc, .slice p.wh x.wher.length p.whc], .int .u8 a, .int .u8 b0, .int .u8 c] w fun e w' => e = .returned (.bool true) ∧ Below w.heap.size w w' := by
  have H_0 := Lib.hid (Holds.new w #[.slice p.d.ex x.d.exits.length p.d.exc, .slice p.d.pl x.d.players.length p.d.plc, .slice p.d.co x.d.coins.length p.d.coc, .slice p.d.it x.d.items.length p.d.itc, .slice p.d.bo x.d.boxes.length p.d.boc, .int .i64 x.d.room, .int .i64 x.d.player, .int .i64 x.d.box, .slice p.at_ x.at_.length p.atc, .slice p.co x.coins.length p.coc, .slice p.wh x.wher.length p.whc] 29)
  have HF := Lib.hid hf
  have HWA := Lib.hid h
  clear hf h
  go_enter Try.func5, Try.ntmps5
  go_wp2_with fail
  generalize w.alloc (.cells #[.slice p.d.ex x.d.exits.length p.d.exc, .slice p.d.pl x.d.players.length p.d.plc, .slice p.d.co x.d.coins.length p.d.coc, .slice p.d.it x.d.items.length p.d.itc, .slice p.d.bo x.d.boxes.length p.d.boc, .int .i64 x.d.room, .int .i64 x.d.player, .int .i64 x.d.box, .slice p.at_ x.at_.length p.atc, .slice p.co x.coins.length p.coc, .slice p.wh x.wher.length p.whc] 29) = V0 at *
  have B_0 := Lib.hid H_0.out.1
  refine (awake8_any _).mono ?_
  rintro e u1 ⟨rfl, b1⟩
  have B_1 := Lib.hid (bl B_0.out b1)
  have H_1 := Lib.hid (H_0.out.call b1)
  clear b1 B_0 H_0
  have hcH := H_1.out.2.2
  have hlH := H_1.out.2.1
  go_wp2_with fail
  refine (fits8_any x p _ (HWA.out.below H_1.out.1 (Nat.le_refl _))).mono ?_
  rintro e u2 ⟨rfl, b2⟩
  rw [HF.out]
  clear hcH hlH
  have B_2 := Lib.hid (bl B_1.out b2)
  have H_2 := Lib.hid (H_1.out.call b2)
  clear b2 B_1 H_1
  have hcH := H_2.out.2.2
  have hlH := H_2.out.2.1
  go_wp2_with fail
  refine (awake8_any _).mono ?_
  rintro e u3 ⟨rfl, b3⟩
  clear hcH hlH
  have B_3 := Lib.hid (bl B_2.out b3)
  have H_3 := Lib.hid (H_2.out.call b3)
  clear b3 B_2 H_2
  have hcH := H_3.out.2.2
  have hlH := H_3.out.2.1
  go_wp2_with fail
  go_ret
  exact ⟨rfl, B_3.out⟩
set_option maxRecDepth 100000 in
set_option maxHeartbeats 1000000 in
theorem waysBack_shut (x : Wd) (p : Wp) (a b0 c i k d : Nat) (haa : a ≤ 255) (hbb : b0 ≤ 255) (hcc : c ≤ 255) (hi : a % x.at_.length = i) (hk : b0 % 4 = k) (hc : c % 4 = d) (hR : moveW x i k = (x, 0, 4)) (w : World) (h : WorldAt w p x) (hf : fitsB x = true) : Calls Try.prog 5 #[.agg #[.slice p.d.ex x.d.exits.length p.d.exc, .slice p.d.pl x.d.players.length p.d.plc, .slice p.d.co x.d.coins.length p.d.coc, .slice p.d.it x.d.items.length p.d.itc, .slice p.d.bo x.d.boxes.length p.d.boc, .int .i64 x.d.room, .int .i64 x.d.player, .int .i64 x.d.box, .slice p.at_ x.at_.length p.atc, .slice p.co x.coins.length p.coc, .slice p.wh x.wher.length p.whc], .int .u8 (a : Int), .int .u8 (b0 : Int), .int .u8 (c : Int)] w fun e w' => e = .returned (.bool true) ∧ Below w.heap.size w w' := by
  have r1 := run_tmod7 a x.at_.length
  have m1 := run_mod7 a x.at_.length
  obtain ⟨r4, m4⟩ := run_four b0
  obtain ⟨r2, m2⟩ := run_four c
  rw [hi] at r1 m1
  rw [hk] at r4 m4
  rw [hc] at r2 m2
  have FT := Lib.hid (fits_fit hf)
  have hlp : 0 < x.at_.length := (right_lens FT.out.right).1
  have hne : ¬ x.at_ = [] := List.length_pos_iff.1 hlp
  have hil : i < x.at_.length := by rw [← hi]; exact Nat.mod_lt _ hlp
  have hk4 : k < 4 := by rw [← hk]; exact Nat.mod_lt _ (by decide)
  have hd4 : d < 4 := by rw [← hc]; exact Nat.mod_lt _ (by decide)
  have hd5 : (d : Int) < 4 := by omega
  have hlen6 := (right_lens FT.out.right).2.1
  clear hi hk hc hlp
  have HR := Lib.hid hR
  clear hR
  have H_0 := Lib.hid (Holds.new w #[.slice p.d.ex x.d.exits.length p.d.exc, .slice p.d.pl x.d.players.length p.d.plc, .slice p.d.co x.d.coins.length p.d.coc, .slice p.d.it x.d.items.length p.d.itc, .slice p.d.bo x.d.boxes.length p.d.boc, .int .i64 x.d.room, .int .i64 x.d.player, .int .i64 x.d.box, .slice p.at_ x.at_.length p.atc, .slice p.co x.coins.length p.coc, .slice p.wh x.wher.length p.whc] 29)
  have HF := Lib.hid hf
  have HWA := Lib.hid h
  clear hf h
  go_enter Try.func5, Try.ntmps5
  go_wp2_with fail
  generalize w.alloc (.cells #[.slice p.d.ex x.d.exits.length p.d.exc, .slice p.d.pl x.d.players.length p.d.plc, .slice p.d.co x.d.coins.length p.d.coc, .slice p.d.it x.d.items.length p.d.itc, .slice p.d.bo x.d.boxes.length p.d.boc, .int .i64 x.d.room, .int .i64 x.d.player, .int .i64 x.d.box, .slice p.at_ x.at_.length p.atc, .slice p.co x.coins.length p.coc, .slice p.wh x.wher.length p.whc] 29) = V0 at *
  have B_0 := Lib.hid H_0.out.1
  refine (awake8_any _).mono ?_
  rintro e u1 ⟨rfl, b1⟩
  have B_1 := Lib.hid (bl B_0.out b1)
  have H_1 := Lib.hid (H_0.out.call b1)
  clear b1 B_0 H_0
  have hcH := H_1.out.2.2
  have hlH := H_1.out.2.1
  go_wp2_with fail
  refine (fits8_any x p _ (HWA.out.below H_1.out.1 (Nat.le_refl _))).mono ?_
  rintro e u2 ⟨rfl, b2⟩
  rw [HF.out]
  clear hcH hlH
  have B_2 := Lib.hid (bl B_1.out b2)
  have H_2 := Lib.hid (H_1.out.call b2)
  clear b2 B_1 H_1
  have hcH := H_2.out.2.2
  have hlH := H_2.out.2.1
  go_wp2_with fail
  refine (move_as (Shape.refl x) p i k hk4 _ FT.out.right (HWA.out.below B_2.out (Nat.le_refl _)) hil x 0 4 HR.out).mono ?_
  rintro e u3 ⟨q3, rfl, g3, b3⟩
  clear hcH hlH
  have B_3 := Lib.hid (bl B_2.out b3)
  have H_3 := Lib.hid (H_2.out.call b3)
  clear b3 B_2 H_2 g3
  have hcH := H_3.out.2.2
  have hlH := H_3.out.2.1
  go_wp2_with fail
  go_ret
  exact ⟨rfl, B_3.out.alloc B_3.out.size _⟩
set_option maxRecDepth 100000 in
set_option maxHeartbeats 1000000 in
theorem waysBack_none (x : Wd) (p : Wp) (a b0 c i k d : Nat) (haa : a ≤ 255) (hbb : b0 ≤ 255) (hcc : c ≤ 255) (hi : a % x.at_.length = i) (hk : b0 % 4 = k) (hc : c % 4 = d) (t : Nat) (ht : t < x.d.exits.length) (htx : toW x t d = -1) (hR : moveW x i k = (goW x i t, (t : Int), 0)) (hM : moveW (goW x i t) i d = (goW x i t, 0, 4)) (w : World) (h : WorldAt w p x) (hf : fitsB x = true) : Calls Try.prog 5 #[.agg #[.slice p.d.ex x.d.exits.length p.d.exc, .slice p.d.pl x.d.players.length p.d.plc, .slice p.d.co x.d.coins.length p.d.coc, .slice p.d.it x.d.items.length p.d.itc, .slice p.d.bo x.d.boxes.length p.d.boc, .int .i64 x.d.room, .int .i64 x.d.player, .int .i64 x.d.box, .slice p.at_ x.at_.length p.atc, .slice p.co x.coins.length p.coc, .slice p.wh x.wher.length p.whc], .int .u8 (a : Int), .int .u8 (b0 : Int), .int .u8 (c : Int)] w fun e w' => e = .returned (.bool true) ∧ Below w.heap.size w w' := by
  have r1 := run_tmod7 a x.at_.length
  have m1 := run_mod7 a x.at_.length
  obtain ⟨r4, m4⟩ := run_four b0
  obtain ⟨r2, m2⟩ := run_four c
  rw [hi] at r1 m1
  rw [hk] at r4 m4
  rw [hc] at r2 m2
  have FT := Lib.hid (fits_fit hf)
  have hlp : 0 < x.at_.length := (right_lens FT.out.right).1
  have hne : ¬ x.at_ = [] := List.length_pos_iff.1 hlp
  have hil : i < x.at_.length := by rw [← hi]; exact Nat.mod_lt _ hlp
  have hk4 : k < 4 := by rw [← hk]; exact Nat.mod_lt _ (by decide)
  have hd4 : d < 4 := by rw [← hc]; exact Nat.mod_lt _ (by decide)
  have hd5 : (d : Int) < 4 := by omega
  have hlen6 := (right_lens FT.out.right).2.1
  clear hi hk hc hlp
  have HR := Lib.hid hR
  have HM := Lib.hid hM
  have SY := Lib.hid (goW_shape x i (t : Int))
  have HG := Lib.hid (goW_right FT.out.right (i := i) (t := (t : Int)) (by omega))
  have hla : i < (goW x i t).at_.length := by simp [goW]; exact hil
  have HLA := Lib.hid hla
  have HTX := Lib.hid htx
  clear hR hM hla htx
  have H_0 := Lib.hid (Holds.new w #[.slice p.d.ex x.d.exits.length p.d.exc, .slice p.d.pl x.d.players.length p.d.plc, .slice p.d.co x.d.coins.length p.d.coc, .slice p.d.it x.d.items.length p.d.itc, .slice p.d.bo x.d.boxes.length p.d.boc, .int .i64 x.d.room, .int .i64 x.d.player, .int .i64 x.d.box, .slice p.at_ x.at_.length p.atc, .slice p.co x.coins.length p.coc, .slice p.wh x.wher.length p.whc] 29)
  have HF := Lib.hid hf
  have HWA := Lib.hid h
  clear hf h
  go_enter Try.func5, Try.ntmps5
  go_wp2_with fail
  generalize w.alloc (.cells #[.slice p.d.ex x.d.exits.length p.d.exc, .slice p.d.pl x.d.players.length p.d.plc, .slice p.d.co x.d.coins.length p.d.coc, .slice p.d.it x.d.items.length p.d.itc, .slice p.d.bo x.d.boxes.length p.d.boc, .int .i64 x.d.room, .int .i64 x.d.player, .int .i64 x.d.box, .slice p.at_ x.at_.length p.atc, .slice p.co x.coins.length p.coc, .slice p.wh x.wher.length p.whc] 29) = V0 at *
  have B_0 := Lib.hid H_0.out.1
  refine (awake8_any _).mono ?_
  rintro e u1 ⟨rfl, b1⟩
  have B_1 := Lib.hid (bl B_0.out b1)
  have H_1 := Lib.hid (H_0.out.call b1)
  clear b1 B_0 H_0
  have hcH := H_1.out.2.2
  have hlH := H_1.out.2.1
  go_wp2_with fail
  refine (fits8_any x p _ (HWA.out.below H_1.out.1 (Nat.le_refl _))).mono ?_
  rintro e u2 ⟨rfl, b2⟩
  rw [HF.out]
  clear hcH hlH
  have B_2 := Lib.hid (bl B_1.out b2)
  have H_2 := Lib.hid (H_1.out.call b2)
  clear b2 B_1 H_1
  have hcH := H_2.out.2.2
  have hlH := H_2.out.2.1
  go_wp2_with fail
  refine (move_as (Shape.refl x) p i k hk4 _ FT.out.right (HWA.out.below B_2.out (Nat.le_refl _)) hil (goW x i t) t 0 HR.out).mono ?_
  rintro e u3 ⟨q3, rfl, g3, b3⟩
  clear hcH hlH
  have B_3 := Lib.hid (bl B_2.out b3)
  have H_3 := Lib.hid (H_2.out.call b3)
  have YA_3 := Lib.hid g3
  clear b3 B_2 H_2 g3
  have hcH := H_3.out.2.2
  have hlH := H_3.out.2.1
  go_wp2_with fail
  clear hcH hlH
  have s4 : (u3.alloc (.cells #[.slice q3.d.ex x.d.exits.length q3.d.exc, .slice q3.d.pl x.d.players.length q3.d.plc, .slice q3.d.co x.d.coins.length q3.d.coc, .slice q3.d.it x.d.items.length q3.d.itc, .slice q3.d.bo x.d.boxes.length q3.d.boc, .int .i64 x.d.room, .int .i64 x.d.player, .int .i64 x.d.box, .slice q3.at_ x.at_.length q3.atc, .slice q3.co x.coins.length q3.coc, .slice q3.wh x.wher.length q3.whc] 29)).heap.size = u3.heap.size + 1 := by simp
  have B_4 := Lib.hid (B_3.out.alloc B_3.out.size (.cells #[.slice q3.d.ex x.d.exits.length q3.d.exc, .slice q3.d.pl x.d.players.length q3.d.plc, .slice q3.d.co x.d.coins.length q3.d.coc, .slice q3.d.it x.d.items.length q3.d.itc, .slice q3.d.bo x.d.boxes.length q3.d.boc, .int .i64 x.d.room, .int .i64 x.d.player, .int .i64 x.d.box, .slice q3.at_ x.at_.length q3.atc, .slice q3.co x.coins.length q3.coc, .slice q3.wh x.wher.length q3.whc] 29))
  have H_4 := Lib.hid (H_3.out.alloc (.cells #[.slice q3.d.ex x.d.exits.length q3.d.exc, .slice q3.d.pl x.d.players.length q3.d.plc, .slice q3.d.co x.d.coins.length q3.d.coc, .slice q3.d.it x.d.items.length q3.d.itc, .slice q3.d.bo x.d.boxes.length q3.d.boc, .int .i64 x.d.room, .int .i64 x.d.player, .int .i64 x.d.box, .slice q3.at_ x.at_.length q3.atc, .slice q3.co x.coins.length q3.coc, .slice q3.wh x.wher.length q3.whc] 29))
  have YA_4 := Lib.hid (YA_3.out.call ((Below.refl _ _).alloc (Nat.le_refl _) (.cells #[.slice q3.d.ex x.d.exits.length q3.d.exc, .slice q3.d.pl x.d.players.length q3.d.plc, .slice q3.d.co x.d.coins.length q3.d.coc, .slice q3.d.it x.d.items.length q3.d.itc, .slice q3.d.bo x.d.boxes.length q3.d.boc, .int .i64 x.d.room, .int .i64 x.d.player, .int .i64 x.d.box, .slice q3.at_ x.at_.length q3.atc, .slice q3.co x.coins.length q3.coc, .slice q3.wh x.wher.length q3.whc] 29)))
  have A_4 := Lib.hid (Holds.newb (w := w) (A := #[.slice q3.d.ex x.d.exits.length q3.d.exc, .slice q3.d.pl x.d.players.length q3.d.plc, .slice q3.d.co x.d.coins.length q3.d.coc, .slice q3.d.it x.d.items.length q3.d.itc, .slice q3.d.bo x.d.boxes.length q3.d.boc, .int .i64 x.d.room, .int .i64 x.d.player, .int .i64 x.d.box, .slice q3.at_ x.at_.length q3.atc, .slice q3.co x.coins.length q3.coc, .slice q3.wh x.wher.length q3.whc]) (t := 29) (n := u3.heap.size) B_3.out rfl)
  clear B_3 H_3 YA_3
  generalize u3.alloc (.cells #[.slice q3.d.ex x.d.exits.length q3.d.exc, .slice q3.d.pl x.d.players.length q3.d.plc, .slice q3.d.co x.d.coins.length q3.d.coc, .slice q3.d.it x.d.items.length q3.d.itc, .slice q3.d.bo x.d.boxes.length q3.d.boc, .int .i64 x.d.room, .int .i64 x.d.player, .int .i64 x.d.box, .slice q3.at_ x.at_.length q3.atc, .slice q3.co x.coins.length q3.coc, .slice q3.wh x.wher.length q3.whc] 29) = V4 at *
  have hcH := H_4.out.2.2
  have hlH := H_4.out.2.1
  have hcA := A_4.out.2.2
  have hlA := A_4.out.2.1
  refine (exit_any x p t d ht hd4 _ (HWA.out.d.ex.below B_4.out (Nat.le_refl _))).mono ?_
  rintro e u5 ⟨rfl, b5⟩
  rw [HTX.out]
  clear hcH hlH hcA hlA
  have B_5 := Lib.hid (bl B_4.out b5)
  have H_5 := Lib.hid (H_4.out.call b5)
  have A_5 := Lib.hid (A_4.out.call b5)
  have YA_5 := Lib.hid (YA_4.out.call b5)
  clear b5 B_4 H_4 A_4 YA_4
  have hcH := H_5.out.2.2
  have hlH := H_5.out.2.1
  have hcA := A_5.out.2.2
  have hlA := A_5.out.2.1
  rw [show exA (-1) = 0 from rfl, show ((-1 : Int) != -1) = false from rfl]
  go_wp2_with fail
  refine (move_as SY.out q3 i d hd4 _ HG.out YA_5.out HLA.out (goW x i t) 0 4 HM.out).mono ?_
  rintro e u6 ⟨q6, rfl, g6, b6⟩
  clear hcH hlH hcA hlA
  have B_6 := Lib.hid (bl B_5.out b6)
  have H_6 := Lib.hid (H_5.out.call b6)
  have A_6 := Lib.hid (A_5.out.call b6)
  have YA_6 := Lib.hid (YA_5.out.call b6)
  clear b6 B_5 H_5 A_5 YA_5 g6
  have hcH := H_6.out.2.2
  have hlH := H_6.out.2.1
  have hcA := A_6.out.2.2
  have hlA := A_6.out.2.1
  go_wp2_with fail
  clear hcH hlH hcA hlA
  have s7 : (u6.alloc (.cells #[.slice q6.d.ex x.d.exits.length q6.d.exc, .slice q6.d.pl x.d.players.length q6.d.plc, .slice q6.d.co x.d.coins.length q6.d.coc, .slice q6.d.it x.d.items.length q6.d.itc, .slice q6.d.bo x.d.boxes.length q6.d.boc, .int .i64 x.d.room, .int .i64 x.d.player, .int .i64 x.d.box, .slice q6.at_ x.at_.length q6.atc, .slice q6.co x.coins.length q6.coc, .slice q6.wh x.wher.length q6.whc] 29)).heap.size = u6.heap.size + 1 := by simp
  have B_7 := Lib.hid (B_6.out.alloc B_6.out.size (.cells #[.slice q6.d.ex x.d.exits.length q6.d.exc, .slice q6.d.pl x.d.players.length q6.d.plc, .slice q6.d.co x.d.coins.length q6.d.coc, .slice q6.d.it x.d.items.length q6.d.itc, .slice q6.d.bo x.d.boxes.length q6.d.boc, .int .i64 x.d.room, .int .i64 x.d.player, .int .i64 x.d.box, .slice q6.at_ x.at_.length q6.atc, .slice q6.co x.coins.length q6.coc, .slice q6.wh x.wher.length q6.whc] 29))
  have H_7 := Lib.hid (H_6.out.alloc (.cells #[.slice q6.d.ex x.d.exits.length q6.d.exc, .slice q6.d.pl x.d.players.length q6.d.plc, .slice q6.d.co x.d.coins.length q6.d.coc, .slice q6.d.it x.d.items.length q6.d.itc, .slice q6.d.bo x.d.boxes.length q6.d.boc, .int .i64 x.d.room, .int .i64 x.d.player, .int .i64 x.d.box, .slice q6.at_ x.at_.length q6.atc, .slice q6.co x.coins.length q6.coc, .slice q6.wh x.wher.length q6.whc] 29))
  have A_7 := Lib.hid (A_6.out.alloc (.cells #[.slice q6.d.ex x.d.exits.length q6.d.exc, .slice q6.d.pl x.d.players.length q6.d.plc, .slice q6.d.co x.d.coins.length q6.d.coc, .slice q6.d.it x.d.items.length q6.d.itc, .slice q6.d.bo x.d.boxes.length q6.d.boc, .int .i64 x.d.room, .int .i64 x.d.player, .int .i64 x.d.box, .slice q6.at_ x.at_.length q6.atc, .slice q6.co x.coins.length q6.coc, .slice q6.wh x.wher.length q6.whc] 29))
  have YA_7 := Lib.hid (YA_6.out.call ((Below.refl _ _).alloc (Nat.le_refl _) (.cells #[.slice q6.d.ex x.d.exits.length q6.d.exc, .slice q6.d.pl x.d.players.length q6.d.plc, .slice q6.d.co x.d.coins.length q6.d.coc, .slice q6.d.it x.d.items.length q6.d.itc, .slice q6.d.bo x.d.boxes.length q6.d.boc, .int .i64 x.d.room, .int .i64 x.d.player, .int .i64 x.d.box, .slice q6.at_ x.at_.length q6.atc, .slice q6.co x.coins.length q6.coc, .slice q6.wh x.wher.length q6.whc] 29)))
  have D_7 := Lib.hid (Holds.newb (w := w) (A := #[.slice q6.d.ex x.d.exits.length q6.d.exc, .slice q6.d.pl x.d.players.length q6.d.plc, .slice q6.d.co x.d.coins.length q6.d.coc, .slice q6.d.it x.d.items.length q6.d.itc, .slice q6.d.bo x.d.boxes.length q6.d.boc, .int .i64 x.d.room, .int .i64 x.d.player, .int .i64 x.d.box, .slice q6.at_ x.at_.length q6.atc, .slice q6.co x.coins.length q6.coc, .slice q6.wh x.wher.length q6.whc]) (t := 29) (n := u6.heap.size) B_6.out rfl)
  clear B_6 H_6 A_6 YA_6
  generalize u6.alloc (.cells #[.slice q6.d.ex x.d.exits.length q6.d.exc, .slice q6.d.pl x.d.players.length q6.d.plc, .slice q6.d.co x.d.coins.length q6.d.coc, .slice q6.d.it x.d.items.length q6.d.itc, .slice q6.d.bo x.d.boxes.length q6.d.boc, .int .i64 x.d.room, .int .i64 x.d.player, .int .i64 x.d.box, .slice q6.at_ x.at_.length q6.atc, .slice q6.co x.coins.length q6.coc, .slice q6.wh x.wher.length q6.whc] 29) = V7 at *
  have hcH := H_7.out.2.2
  have hlH := H_7.out.2.1
  have hcA := A_7.out.2.2
  have hlA := A_7.out.2.1
  have hcD := D_7.out.2.2
  have hlD := D_7.out.2.1
  clear hcH hlH hcA hlA hcD hlD
  have KS : Hid (∀ w', Below V7.heap.size V7 w' → Below V7.heap.size V7 w') := Lib.hid (fun w' hb => hb)
  refine wp_region_noPanic ?_
  refine wp_region_held_drew (S := (fun w' => Below V7.heap.size V7 w')) (by kernel_rfl) (by (first | (with_reducible exact KS.out _ (bdrew1 (Below.refl _ _))) | (with_reducible exact KS.out _ (below_call hHeld.1 hHeld.1.size hb9)) | (with_reducible exact hHeld))) (fun hHeld => ?_)
  first
    | (refine wpAnyH_take (i := 0) (v := undef) (by simp only [List.getElem?_toArray, List.getElem?_cons_zero]; rfl) (by kernel_rfl) (by kernel_rfl) (by kernel_rfl) (fun _ _ _ h => h) (Or.inr ⟨by rfl, rfl⟩) (by assumption) ?_; try simp only [Act.put, List.setIfInBounds_toArray, List.set_cons_zero, List.set_cons_succ])
    | (refine wpAnyH_take (i := 0) (v := ?_) (by simp only [List.getElem?_toArray, List.getElem?_cons_zero]; rfl) (by kernel_rfl) (by kernel_rfl) (by kernel_rfl) (fun _ _ _ h => h) (Or.inl ⟨by rfl, ?_⟩) (by assumption) ?_
       rotate_left
       · (intro ww hSw; (try dsimp only at hSw); go_simp; (try with_reducible rfl))
       try simp only [Act.put, List.setIfInBounds_toArray, List.set_cons_zero, List.set_cons_succ])
    | (refine wpAnyH_ready (rs := [0]) (by kernel_rfl) (by simp) (AllReadyH.cons (by simp only [List.getElem?_toArray, List.getElem?_cons_succ, List.getElem?_cons_zero]; rfl) (fun K hK => ?_) AllReadyH.nil)
       go_simp
       first
         | (fail)
       try go_wp2_with fail
       refine hK.out _ _ (by (first | (with_reducible exact KS.out _ (bdrew1 (Below.refl _ _))) | (with_reducible exact KS.out _ (below_call hHeld.1 hHeld.1.size hb9)) | (with_reducible exact hHeld))) (fun hHeld => ?_)
       clear hK K
       try simp only [Act.put, List.setIfInBounds_toArray, List.set_cons_zero, List.set_cons_succ])
  first
    | (refine wpAnyH_take (i := 1) (v := undef) (by simp only [List.getElem?_toArray, List.getElem?_cons_succ, List.getElem?_cons_zero]; rfl) (by kernel_rfl) (by kernel_rfl) (by kernel_rfl) (fun _ _ _ h => h) (Or.inr ⟨by rfl, rfl⟩) (by assumption) ?_; try simp only [Act.put, List.setIfInBounds_toArray, List.set_cons_zero, List.set_cons_succ])
    | (refine wpAnyH_take (i := 1) (v := ?_) (by simp only [List.getElem?_toArray, List.getElem?_cons_succ, List.getElem?_cons_zero]; rfl) (by kernel_rfl) (by kernel_rfl) (by kernel_rfl) (fun _ _ _ h => h) (Or.inl ⟨by rfl, ?_⟩) (by assumption) ?_
       rotate_left
       · (intro ww hSw; (try dsimp only at hSw); go_simp; (try with_reducible rfl))
       try simp only [Act.put, List.setIfInBounds_toArray, List.set_cons_zero, List.set_cons_succ])
    | (refine wpAnyH_ready (rs := [1]) (by kernel_rfl) (by simp) (AllReadyH.cons (by simp only [List.getElem?_toArray, List.getElem?_cons_succ, List.getElem?_cons_zero]; rfl) (fun K hK => ?_) AllReadyH.nil)
       go_simp
       first
         | (fail)
       try go_wp2_with fail
       refine hK.out _ _ (by (first | (with_reducible exact KS.out _ (bdrew1 (Below.refl _ _))) | (with_reducible exact KS.out _ (below_call hHeld.1 hHeld.1.size hb9)) | (with_reducible exact hHeld))) (fun hHeld => ?_)
       clear hK K
       try simp only [Act.put, List.setIfInBounds_toArray, List.set_cons_zero, List.set_cons_succ])
  first
    | (refine wpAnyH_take (i := 2) (v := undef) (by simp only [List.getElem?_toArray, List.getElem?_cons_succ, List.getElem?_cons_zero]; rfl) (by kernel_rfl) (by kernel_rfl) (by kernel_rfl) (fun _ _ _ h => h) (Or.inr ⟨by rfl, rfl⟩) (by assumption) ?_; try simp only [Act.put, List.setIfInBounds_toArray, List.set_cons_zero, List.set_cons_succ])
    | (refine wpAnyH_take (i := 2) (v := ?_) (by simp only [List.getElem?_toArray, List.getElem?_cons_succ, List.getElem?_cons_zero]; rfl) (by kernel_rfl) (by kernel_rfl) (by kernel_rfl) (fun _ _ _ h => h) (Or.inl ⟨by rfl, ?_⟩) (by assumption) ?_
       rotate_left
       · (intro ww hSw; (try dsimp only at hSw); go_simp; (try with_reducible rfl))
       try simp only [Act.put, List.setIfInBounds_toArray, List.set_cons_zero, List.set_cons_succ])
    | (refine wpAnyH_ready (rs := [2]) (by kernel_rfl) (by simp) (AllReadyH.cons (by simp only [List.getElem?_toArray, List.getElem?_cons_succ, List.getElem?_cons_zero]; rfl) (fun K hK => ?_) AllReadyH.nil)
       go_simp
       first
         | (fail)
       try go_wp2_with fail
       refine hK.out _ _ (by (first | (with_reducible exact KS.out _ (bdrew1 (Below.refl _ _))) | (with_reducible exact KS.out _ (below_call hHeld.1 hHeld.1.size hb9)) | (with_reducible exact hHeld))) (fun hHeld => ?_)
       clear hK K
       try simp only [Act.put, List.setIfInBounds_toArray, List.set_cons_zero, List.set_cons_succ])
  first
    | (refine wpAnyH_take (i := 3) (v := undef) (by simp only [List.getElem?_toArray, List.getElem?_cons_succ, List.getElem?_cons_zero]; rfl) (by kernel_rfl) (by kernel_rfl) (by kernel_rfl) (fun _ _ _ h => h) (Or.inr ⟨by rfl, rfl⟩) (by assumption) ?_; try simp only [Act.put, List.setIfInBounds_toArray, List.set_cons_zero, List.set_cons_succ])
    | (refine wpAnyH_take (i := 3) (v := ?_) (by simp only [List.getElem?_toArray, List.getElem?_cons_succ, List.getElem?_cons_zero]; rfl) (by kernel_rfl) (by kernel_rfl) (by kernel_rfl) (fun _ _ _ h => h) (Or.inl ⟨by rfl, ?_⟩) (by assumption) ?_
       rotate_left
       · (intro ww hSw; (try dsimp only at hSw); go_simp; (try with_reducible rfl))
       try simp only [Act.put, List.setIfInBounds_toArray, List.set_cons_zero, List.set_cons_succ])
    | (refine wpAnyH_ready (rs := [3]) (by kernel_rfl) (by simp) (AllReadyH.cons (by simp only [List.getElem?_toArray, List.getElem?_cons_succ, List.getElem?_cons_zero]; rfl) (fun K hK => ?_) AllReadyH.nil)
       go_simp
       first
         | (fail)
       try go_wp2_with fail
       refine hK.out _ _ (by (first | (with_reducible exact KS.out _ (bdrew1 (Below.refl _ _))) | (with_reducible exact KS.out _ (below_call hHeld.1 hHeld.1.size hb9)) | (with_reducible exact hHeld))) (fun hHeld => ?_)
       clear hK K
       try simp only [Act.put, List.setIfInBounds_toArray, List.set_cons_zero, List.set_cons_succ])
  first
    | (refine wpAnyH_take (i := 4) (v := undef) (by simp only [List.getElem?_toArray, List.getElem?_cons_succ, List.getElem?_cons_zero]; rfl) (by kernel_rfl) (by kernel_rfl) (by kernel_rfl) (fun _ _ _ h => h) (Or.inr ⟨by rfl, rfl⟩) (by assumption) ?_; try simp only [Act.put, List.setIfInBounds_toArray, List.set_cons_zero, List.set_cons_succ])
    | (refine wpAnyH_take (i := 4) (v := ?_) (by simp only [List.getElem?_toArray, List.getElem?_cons_succ, List.getElem?_cons_zero]; rfl) (by kernel_rfl) (by kernel_rfl) (by kernel_rfl) (fun _ _ _ h => h) (Or.inl ⟨by rfl, ?_⟩) (by assumption) ?_
       rotate_left
       · (intro ww hSw; (try dsimp only at hSw); go_simp; (try with_reducible rfl))
       try simp only [Act.put, List.setIfInBounds_toArray, List.set_cons_zero, List.set_cons_succ])
    | (refine wpAnyH_ready (rs := [4]) (by kernel_rfl) (by simp) (AllReadyH.cons (by simp only [List.getElem?_toArray, List.getElem?_cons_succ, List.getElem?_cons_zero]; rfl) (fun K hK => ?_) AllReadyH.nil)
       go_simp
       first
         | (fail)
       try go_wp2_with fail
       refine hK.out _ _ (by (first | (with_reducible exact KS.out _ (bdrew1 (Below.refl _ _))) | (with_reducible exact KS.out _ (below_call hHeld.1 hHeld.1.size hb9)) | (with_reducible exact hHeld))) (fun hHeld => ?_)
       clear hK K
       try simp only [Act.put, List.setIfInBounds_toArray, List.set_cons_zero, List.set_cons_succ])
  first
    | (refine wpAnyH_take (i := 5) (v := undef) (by simp only [List.getElem?_toArray, List.getElem?_cons_succ, List.getElem?_cons_zero]; rfl) (by kernel_rfl) (by kernel_rfl) (by kernel_rfl) (fun _ _ _ h => h) (Or.inr ⟨by rfl, rfl⟩) (by assumption) ?_; try simp only [Act.put, List.setIfInBounds_toArray, List.set_cons_zero, List.set_cons_succ])
    | (refine wpAnyH_take (i := 5) (v := ?_) (by simp only [List.getElem?_toArray, List.getElem?_cons_succ, List.getElem?_cons_zero]; rfl) (by kernel_rfl) (by kernel_rfl) (by kernel_rfl) (fun _ _ _ h => h) (Or.inl ⟨by rfl, ?_⟩) (by assumption) ?_
       rotate_left
       · (intro ww hSw; (try dsimp only at hSw); go_simp; (try with_reducible rfl))
       try simp only [Act.put, List.setIfInBounds_toArray, List.set_cons_zero, List.set_cons_succ])
    | (refine wpAnyH_ready (rs := [5]) (by kernel_rfl) (by simp) (AllReadyH.cons (by simp only [List.getElem?_toArray, List.getElem?_cons_succ, List.getElem?_cons_zero]; rfl) (fun K hK => ?_) AllReadyH.nil)
       go_simp
       first
         | (fail)
       try go_wp2_with fail
       refine hK.out _ _ (by (first | (with_reducible exact KS.out _ (bdrew1 (Below.refl _ _))) | (with_reducible exact KS.out _ (below_call hHeld.1 hHeld.1.size hb9)) | (with_reducible exact hHeld))) (fun hHeld => ?_)
       clear hK K
       try simp only [Act.put, List.setIfInBounds_toArray, List.set_cons_zero, List.set_cons_succ])
  first
    | (refine wpAnyH_take (i := 6) (v := undef) (by simp only [List.getElem?_toArray, List.getElem?_cons_succ, List.getElem?_cons_zero]; rfl) (by kernel_rfl) (by kernel_rfl) (by kernel_rfl) (fun _ _ _ h => h) (Or.inr ⟨by rfl, rfl⟩) (by assumption) ?_; try simp only [Act.put, List.setIfInBounds_toArray, List.set_cons_zero, List.set_cons_succ])
    | (refine wpAnyH_take (i := 6) (v := ?_) (by simp only [List.getElem?_toArray, List.getElem?_cons_succ, List.getElem?_cons_zero]; rfl) (by kernel_rfl) (by kernel_rfl) (by kernel_rfl) (fun _ _ _ h => h) (Or.inl ⟨by rfl, ?_⟩) (by assumption) ?_
       rotate_left
       · (intro ww hSw; (try dsimp only at hSw); go_simp; (try with_reducible rfl))
       try simp only [Act.put, List.setIfInBounds_toArray, List.set_cons_zero, List.set_cons_succ])
    | (refine wpAnyH_ready (rs := [6]) (by kernel_rfl) (by simp) (AllReadyH.cons (by simp only [List.getElem?_toArray, List.getElem?_cons_succ, List.getElem?_cons_zero]; rfl) (fun K hK => ?_) AllReadyH.nil)
       go_simp
       first
         | (fail)
       try go_wp2_with fail
       refine hK.out _ _ (by (first | (with_reducible exact KS.out _ (bdrew1 (Below.refl _ _))) | (with_reducible exact KS.out _ (below_call hHeld.1 hHeld.1.size hb9)) | (with_reducible exact hHeld))) (fun hHeld => ?_)
       clear hK K
       try simp only [Act.put, List.setIfInBounds_toArray, List.set_cons_zero, List.set_cons_succ])
  first
    | (refine wpAnyH_take (i := 7) (v := undef) (by simp only [List.getElem?_toArray, List.getElem?_cons_succ, List.getElem?_cons_zero]; rfl) (by kernel_rfl) (by kernel_rfl) (by kernel_rfl) (fun _ _ _ h => h) (Or.inr ⟨by rfl, rfl⟩) (by assumption) ?_; try simp only [Act.put, List.setIfInBounds_toArray, List.set_cons_zero, List.set_cons_succ])
    | (refine wpAnyH_take (i := 7) (v := ?_) (by simp only [List.getElem?_toArray, List.getElem?_cons_succ, List.getElem?_cons_zero]; rfl) (by kernel_rfl) (by kernel_rfl) (by kernel_rfl) (fun _ _ _ h => h) (Or.inl ⟨by rfl, ?_⟩) (by assumption) ?_
       rotate_left
       · (intro ww hSw; (try dsimp only at hSw); go_simp; (try with_reducible rfl))
       try simp only [Act.put, List.setIfInBounds_toArray, List.set_cons_zero, List.set_cons_succ])
    | (refine wpAnyH_ready (rs := [7]) (by kernel_rfl) (by simp) (AllReadyH.cons (by simp only [List.getElem?_toArray, List.getElem?_cons_succ, List.getElem?_cons_zero]; rfl) (fun K hK => ?_) AllReadyH.nil)
       go_simp
       first
         | (fail)
       try go_wp2_with fail
       refine hK.out _ _ (by (first | (with_reducible exact KS.out _ (bdrew1 (Below.refl _ _))) | (with_reducible exact KS.out _ (below_call hHeld.1 hHeld.1.size hb9)) | (with_reducible exact hHeld))) (fun hHeld => ?_)
       clear hK K
       try simp only [Act.put, List.setIfInBounds_toArray, List.set_cons_zero, List.set_cons_succ])
  first
    | (refine wpAnyH_take (i := 8) (v := undef) (by simp only [List.getElem?_toArray, List.getElem?_cons_succ, List.getElem?_cons_zero]; rfl) (by kernel_rfl) (by kernel_rfl) (by kernel_rfl) (fun _ _ _ h => h) (Or.inr ⟨by rfl, rfl⟩) (by assumption) ?_; try simp only [Act.put, List.setIfInBounds_toArray, List.set_cons_zero, List.set_cons_succ])
    | (refine wpAnyH_take (i := 8) (v := ?_) (by simp only [List.getElem?_toArray, List.getElem?_cons_succ, List.getElem?_cons_zero]; rfl) (by kernel_rfl) (by kernel_rfl) (by kernel_rfl) (fun _ _ _ h => h) (Or.inl ⟨by rfl, ?_⟩) (by assumption) ?_
       rotate_left
       · (intro ww hSw; (try dsimp only at hSw); go_simp; (try with_reducible rfl))
       try simp only [Act.put, List.setIfInBounds_toArray, List.set_cons_zero, List.set_cons_succ])
    | (refine wpAnyH_ready (rs := [8]) (by kernel_rfl) (by simp) (AllReadyH.cons (by simp only [List.getElem?_toArray, List.getElem?_cons_succ, List.getElem?_cons_zero]; rfl) (fun K hK => ?_) AllReadyH.nil)
       go_simp
       first
         | (fail)
       try go_wp2_with fail
       refine hK.out _ _ (by (first | (with_reducible exact KS.out _ (bdrew1 (Below.refl _ _))) | (with_reducible exact KS.out _ (below_call hHeld.1 hHeld.1.size hb9)) | (with_reducible exact hHeld))) (fun hHeld => ?_)
       clear hK K
       try simp only [Act.put, List.setIfInBounds_toArray, List.set_cons_zero, List.set_cons_succ])
  first
    | (refine wpAnyH_take (i := 9) (v := undef) (by simp only [List.getElem?_toArray, List.getElem?_cons_succ, List.getElem?_cons_zero]; rfl) (by kernel_rfl) (by kernel_rfl) (by kernel_rfl) (fun _ _ _ h => h) (Or.inr ⟨by rfl, rfl⟩) (by assumption) ?_; try simp only [Act.put, List.setIfInBounds_toArray, List.set_cons_zero, List.set_cons_succ])
    | (refine wpAnyH_take (i := 9) (v := ?_) (by simp only [List.getElem?_toArray, List.getElem?_cons_succ, List.getElem?_cons_zero]; rfl) (by kernel_rfl) (by kernel_rfl) (by kernel_rfl) (fun _ _ _ h => h) (Or.inl ⟨by rfl, ?_⟩) (by assumption) ?_
       rotate_left
       · (intro ww hSw; (try dsimp only at hSw); go_simp; (try with_reducible rfl))
       try simp only [Act.put, List.setIfInBounds_toArray, List.set_cons_zero, List.set_cons_succ])
    | (refine wpAnyH_ready (rs := [9]) (by kernel_rfl) (by simp) (AllReadyH.cons (by simp only [List.getElem?_toArray, List.getElem?_cons_succ, List.getElem?_cons_zero]; rfl) (fun K hK => ?_) AllReadyH.nil)
       go_simp
       first
         | (fail)
       try go_wp2_with fail
       refine hK.out _ _ (by (first | (with_reducible exact KS.out _ (bdrew1 (Below.refl _ _))) | (with_reducible exact KS.out _ (below_call hHeld.1 hHeld.1.size hb9)) | (with_reducible exact hHeld))) (fun hHeld => ?_)
       clear hK K
       try simp only [Act.put, List.setIfInBounds_toArray, List.set_cons_zero, List.set_cons_succ])
  first
    | (refine wpAnyH_take (i := 10) (v := undef) (by simp only [List.getElem?_toArray, List.getElem?_cons_succ, List.getElem?_cons_zero]; rfl) (by kernel_rfl) (by kernel_rfl) (by kernel_rfl) (fun _ _ _ h => h) (Or.inr ⟨by rfl, rfl⟩) (by assumption) ?_; try simp only [Act.put, List.setIfInBounds_toArray, List.set_cons_zero, List.set_cons_succ])
    | (refine wpAnyH_take (i := 10) (v := ?_) (by simp only [List.getElem?_toArray, List.getElem?_cons_succ, List.getElem?_cons_zero]; rfl) (by kernel_rfl) (by kernel_rfl) (by kernel_rfl) (fun _ _ _ h => h) (Or.inl ⟨by rfl, ?_⟩) (by assumption) ?_
       rotate_left
       · (intro ww hSw; (try dsimp only at hSw); go_simp; (try with_reducible rfl))
       try simp only [Act.put, List.setIfInBounds_toArray, List.set_cons_zero, List.set_cons_succ])
    | (refine wpAnyH_ready (rs := [10]) (by kernel_rfl) (by simp) (AllReadyH.cons (by simp only [List.getElem?_toArray, List.getElem?_cons_succ, List.getElem?_cons_zero]; rfl) (fun K hK => ?_) AllReadyH.nil)
       go_simp
       first
         | (fail)
       try go_wp2_with fail
       refine hK.out _ _ (by (first | (with_reducible exact KS.out _ (bdrew1 (Below.refl _ _))) | (with_reducible exact KS.out _ (below_call hHeld.1 hHeld.1.size hb9)) | (with_reducible exact hHeld))) (fun hHeld => ?_)
       clear hK K
       try simp only [Act.put, List.setIfInBounds_toArray, List.set_cons_zero, List.set_cons_succ])
  first
    | (refine wpAnyH_take (i := 11) (v := undef) (by simp only [List.getElem?_toArray, List.getElem?_cons_succ, List.getElem?_cons_zero]; rfl) (by kernel_rfl) (by kernel_rfl) (by kernel_rfl) (fun _ _ _ h => h) (Or.inr ⟨by rfl, rfl⟩) (by assumption) ?_; try simp only [Act.put, List.setIfInBounds_toArray, List.set_cons_zero, List.set_cons_succ])
    | (refine wpAnyH_take (i := 11) (v := ?_) (by simp only [List.getElem?_toArray, List.getElem?_cons_succ, List.getElem?_cons_zero]; rfl) (by kernel_rfl) (by kernel_rfl) (by kernel_rfl) (fun _ _ _ h => h) (Or.inl ⟨by rfl, ?_⟩) (by assumption) ?_
       rotate_left
       · (intro ww hSw; (try dsimp only at hSw); go_simp; (try with_reducible rfl))
       try simp only [Act.put, List.setIfInBounds_toArray, List.set_cons_zero, List.set_cons_succ])
    | (refine wpAnyH_ready (rs := [11]) (by kernel_rfl) (by simp) (AllReadyH.cons (by simp only [List.getElem?_toArray, List.getElem?_cons_succ, List.getElem?_cons_zero]; rfl) (fun K hK => ?_) AllReadyH.nil)
       go_simp
       first
         | (fail)
       try go_wp2_with fail
       refine hK.out _ _ (by (first | (with_reducible exact KS.out _ (bdrew1 (Below.refl _ _))) | (with_reducible exact KS.out _ (below_call hHeld.1 hHeld.1.size hb9)) | (with_reducible exact hHeld))) (fun hHeld => ?_)
       clear hK K
       try simp only [Act.put, List.setIfInBounds_toArray, List.set_cons_zero, List.set_cons_succ])
  first
    | (refine wpAnyH_take (i := 12) (v := undef) (by simp only [List.getElem?_toArray, List.getElem?_cons_succ, List.getElem?_cons_zero]; rfl) (by kernel_rfl) (by kernel_rfl) (by kernel_rfl) (fun _ _ _ h => h) (Or.inr ⟨by rfl, rfl⟩) (by assumption) ?_; try simp only [Act.put, List.setIfInBounds_toArray, List.set_cons_zero, List.set_cons_succ])
    | (refine wpAnyH_take (i := 12) (v := ?_) (by simp only [List.getElem?_toArray, List.getElem?_cons_succ, List.getElem?_cons_zero]; rfl) (by kernel_rfl) (by kernel_rfl) (by kernel_rfl) (fun _ _ _ h => h) (Or.inl ⟨by rfl, ?_⟩) (by assumption) ?_
       rotate_left
       · (intro ww hSw; (try dsimp only at hSw); go_simp; (try with_reducible rfl))
       try simp only [Act.put, List.setIfInBounds_toArray, List.set_cons_zero, List.set_cons_succ])
    | (refine wpAnyH_ready (rs := [12]) (by kernel_rfl) (by simp) (AllReadyH.cons (by simp only [List.getElem?_toArray, List.getElem?_cons_succ, List.getElem?_cons_zero]; rfl) (fun K hK => ?_) AllReadyH.nil)
       go_simp
       first
         | (fail)
       try go_wp2_with fail
       refine hK.out _ _ (by (first | (with_reducible exact KS.out _ (bdrew1 (Below.refl _ _))) | (with_reducible exact KS.out _ (below_call hHeld.1 hHeld.1.size hb9)) | (with_reducible exact hHeld))) (fun hHeld => ?_)
       clear hK K
       try simp only [Act.put, List.setIfInBounds_toArray, List.set_cons_zero, List.set_cons_succ])
  first
    | (refine wpAnyH_take (i := 13) (v := undef) (by simp only [List.getElem?_toArray, List.getElem?_cons_succ, List.getElem?_cons_zero]; rfl) (by kernel_rfl) (by kernel_rfl) (by kernel_rfl) (fun _ _ _ h => h) (Or.inr ⟨by rfl, rfl⟩) (by assumption) ?_; try simp only [Act.put, List.setIfInBounds_toArray, List.set_cons_zero, List.set_cons_succ])
    | (refine wpAnyH_take (i := 13) (v := ?_) (by simp only [List.getElem?_toArray, List.getElem?_cons_succ, List.getElem?_cons_zero]; rfl) (by kernel_rfl) (by kernel_rfl) (by kernel_rfl) (fun _ _ _ h => h) (Or.inl ⟨by rfl, ?_⟩) (by assumption) ?_
       rotate_left
       · (intro ww hSw; (try dsimp only at hSw); go_simp; (try with_reducible rfl))
       try simp only [Act.put, List.setIfInBounds_toArray, List.set_cons_zero, List.set_cons_succ])
    | (refine wpAnyH_ready (rs := [13]) (by kernel_rfl) (by simp) (AllReadyH.cons (by simp only [List.getElem?_toArray, List.getElem?_cons_succ, List.getElem?_cons_zero]; rfl) (fun K hK => ?_) AllReadyH.nil)
       go_simp
       first
         | (fail)
       try go_wp2_with fail
       refine hK.out _ _ (by (first | (with_reducible exact KS.out _ (bdrew1 (Below.refl _ _))) | (with_reducible exact KS.out _ (below_call hHeld.1 hHeld.1.size hb9)) | (with_reducible exact hHeld))) (fun hHeld => ?_)
       clear hK K
       try simp only [Act.put, List.setIfInBounds_toArray, List.set_cons_zero, List.set_cons_succ])
  first
    | (refine wpAnyH_take (i := 14) (v := undef) (by simp only [List.getElem?_toArray, List.getElem?_cons_succ, List.getElem?_cons_zero]; rfl) (by kernel_rfl) (by kernel_rfl) (by kernel_rfl) (fun _ _ _ h => h) (Or.inr ⟨by rfl, rfl⟩) (by assumption) ?_; try simp only [Act.put, List.setIfInBounds_toArray, List.set_cons_zero, List.set_cons_succ])
    | (refine wpAnyH_take (i := 14) (v := ?_) (by simp only [List.getElem?_toArray, List.getElem?_cons_succ, List.getElem?_cons_zero]; rfl) (by kernel_rfl) (by kernel_rfl) (by kernel_rfl) (fun _ _ _ h => h) (Or.inl ⟨by rfl, ?_⟩) (by assumption) ?_
       rotate_left
       · (intro ww hSw; (try dsimp only at hSw); go_simp; (try with_reducible rfl))
       try simp only [Act.put, List.setIfInBounds_toArray, List.set_cons_zero, List.set_cons_succ])
    | (refine wpAnyH_ready (rs := [14]) (by kernel_rfl) (by simp) (AllReadyH.cons (by simp only [List.getElem?_toArray, List.getElem?_cons_succ, List.getElem?_cons_zero]; rfl) (fun K hK => ?_) AllReadyH.nil)
       go_simp
       first
         | (fail)
       try go_wp2_with fail
       refine hK.out _ _ (by (first | (with_reducible exact KS.out _ (bdrew1 (Below.refl _ _))) | (with_reducible exact KS.out _ (below_call hHeld.1 hHeld.1.size hb9)) | (with_reducible exact hHeld))) (fun hHeld => ?_)
       clear hK K
       try simp only [Act.put, List.setIfInBounds_toArray, List.set_cons_zero, List.set_cons_succ])
  first
    | (refine wpAnyH_take (i := 15) (v := undef) (by simp only [List.getElem?_toArray, List.getElem?_cons_succ, List.getElem?_cons_zero]; rfl) (by kernel_rfl) (by kernel_rfl) (by kernel_rfl) (fun _ _ _ h => h) (Or.inr ⟨by rfl, rfl⟩) (by assumption) ?_; try simp only [Act.put, List.setIfInBounds_toArray, List.set_cons_zero, List.set_cons_succ])
    | (refine wpAnyH_take (i := 15) (v := ?_) (by simp only [List.getElem?_toArray, List.getElem?_cons_succ, List.getElem?_cons_zero]; rfl) (by kernel_rfl) (by kernel_rfl) (by kernel_rfl) (fun _ _ _ h => h) (Or.inl ⟨by rfl, ?_⟩) (by assumption) ?_
       rotate_left
       · (intro ww hSw; (try dsimp only at hSw); go_simp; (try with_reducible rfl))
       try simp only [Act.put, List.setIfInBounds_toArray, List.set_cons_zero, List.set_cons_succ])
    | (refine wpAnyH_ready (rs := [15]) (by kernel_rfl) (by simp) (AllReadyH.cons (by simp only [List.getElem?_toArray, List.getElem?_cons_succ, List.getElem?_cons_zero]; rfl) (fun K hK => ?_) AllReadyH.nil)
       go_simp
       first
         | (fail)
       try go_wp2_with fail
       refine hK.out _ _ (by (first | (with_reducible exact KS.out _ (bdrew1 (Below.refl _ _))) | (with_reducible exact KS.out _ (below_call hHeld.1 hHeld.1.size hb9)) | (with_reducible exact hHeld))) (fun hHeld => ?_)
       clear hK K
       try simp only [Act.put, List.setIfInBounds_toArray, List.set_cons_zero, List.set_cons_succ])
  refine wpAnyH_done (by kernel_rfl) ?_ _
  refine NoPanic.normal ?_
  have HE := Lib.hid (below_call B_7.out B_7.out.size hHeld)
  clear hHeld
  go_wp2_with fail
  go_ret
  exact ⟨rfl, HE.out⟩
set_option maxRecDepth 100000 in
set_option maxHeartbeats 1000000 in
theorem waysBack_go (x : Wd) (pd : Dp) (b o pac : Nat) (pk pw : Option Addr) (pkc pwc : Nat) (a b0 c i k d : Nat) (haa : a ≤ 255) (hbb : b0 ≤ 255) (hcc : c ≤ 255) (hi : a % x.at_.length = i) (hk : b0 % 4 = k) (hc : c % 4 = d) (t : Nat) (ht : t < x.d.exits.length) (u : Int) (htx : toW x t d = u ∧ exA u = u ∧ (u != -1) = true) (sm : Bool) (hsm : decide (goW x i u = x) = sm) (hrm : (u == (roomOf x i : Int)) = sm) (hR : moveW x i k = (goW x i t, (t : Int), 0)) (hM : moveW (goW x i t) i d = (goW x i u, u, 0)) (w : World) (h : WorldAt w ⟨pd, some ⟨b, o, none⟩, pac, pk, pkc, pw, pwc⟩ x) (hf : fitsB x = true) : Calls Try.prog 5 #[.agg #[.slice pd.ex x.d.exits.length pd.exc, .slice pd.pl x.d.players.length pd.plc, .slice pd.co x.d.coins.length pd.coc, .slice pd.it x.d.items.length pd.itc, .slice pd.bo x.d.boxes.length pd.boc, .int .i64 x.d.room, .int .i64 x.d.player, .int .i64 x.d.box, .slice (some ⟨b, o, none⟩) x.at_.length pac, .slice pk x.coins.length pkc, .slice pw x.wher.length pwc], .int .u8 (a : Int), .int .u8 (b0 : Int), .int .u8 (c : Int)] w fun e w' => e = .returned (.bool true) ∧ Below w.heap.size w w' := by
  have HSM := Lib.hid hsm
  clear hsm
  have r1 := run_tmod7 a x.at_.length
  have m1 := run_mod7 a x.at_.length
  obtain ⟨r4, m4⟩ := run_four b0
  obtain ⟨r2, m2⟩ := run_four c
  rw [hi] at r1 m1
  rw [hk] at r4 m4
  rw [hc] at r2 m2
  have FT := Lib.hid (fits_fit hf)
  have hlp : 0 < x.at_.length := (right_lens FT.out.right).1
  have hne : ¬ x.at_ = [] := List.length_pos_iff.1 hlp
  have hil : i < x.at_.length := by rw [← hi]; exact Nat.mod_lt _ hlp
  have hk4 : k < 4 := by rw [← hk]; exact Nat.mod_lt _ (by decide)
  have hd4 : d < 4 := by rw [← hc]; exact Nat.mod_lt _ (by decide)
  have hd5 : (d : Int) < 4 := by omega
  have hlen6 := (right_lens FT.out.right).2.1
  clear hi hk hc hlp
  have HR := Lib.hid hR
  have HM := Lib.hid hM
  have SY := Lib.hid (goW_shape x i (t : Int))
  have HG := Lib.hid (goW_right FT.out.right (i := i) (t := (t : Int)) (by omega))
  have hla : i < (goW x i t).at_.length := by simp [goW]; exact hil
  have HLA := Lib.hid hla
  have HTX := Lib.hid htx
  clear hR hM hla htx
  have H_0 := Lib.hid (Holds.new w #[.slice pd.ex x.d.exits.length pd.exc, .slice pd.pl x.d.players.length pd.plc, .slice pd.co x.d.coins.length pd.coc, .slice pd.it x.d.items.length pd.itc, .slice pd.bo x.d.boxes.length pd.boc, .int .i64 x.d.room, .int .i64 x.d.player, .int .i64 x.d.box, .slice (some ⟨b, o, none⟩) x.at_.length pac, .slice pk x.coins.length pkc, .slice pw x.wher.length pwc] 29)
  have HF := Lib.hid hf
  have HWA := Lib.hid h
  clear hf h
  go_enter Try.func5, Try.ntmps5
  go_wp2_with fail
  generalize w.alloc (.cells #[.slice pd.ex x.d.exits.length pd.exc, .slice pd.pl x.d.players.length pd.plc, .slice pd.co x.d.coins.length pd.coc, .slice pd.it x.d.items.length pd.itc, .slice pd.bo x.d.boxes.length pd.boc, .int .i64 x.d.room, .int .i64 x.d.player, .int .i64 x.d.box, .slice (some ⟨b, o, none⟩) x.at_.length pac, .slice pk x.coins.length pkc, .slice pw x.wher.length pwc] 29) = V0 at *
  have B_0 := Lib.hid H_0.out.1
  refine (awake8_any _).mono ?_
  rintro e u1 ⟨rfl, b1⟩
  have B_1 := Lib.hid (bl B_0.out b1)
  have H_1 := Lib.hid (H_0.out.call b1)
  clear b1 B_0 H_0
  have hcH := H_1.out.2.2
  have hlH := H_1.out.2.1
  go_wp2_with fail
  refine (fits8_any x ⟨pd, some ⟨b, o, none⟩, pac, pk, pkc, pw, pwc⟩ _ (HWA.out.below H_1.out.1 (Nat.le_refl _))).mono ?_
  rintro e u2 ⟨rfl, b2⟩
  rw [HF.out]
  clear hcH hlH
  have B_2 := Lib.hid (bl B_1.out b2)
  have H_2 := Lib.hid (H_1.out.call b2)
  clear b2 B_1 H_1
  have hcH := H_2.out.2.2
  have hlH := H_2.out.2.1
  go_wp2_with fail
  refine (move_as (Shape.refl x) ⟨pd, some ⟨b, o, none⟩, pac, pk, pkc, pw, pwc⟩ i k hk4 _ FT.out.right (HWA.out.below B_2.out (Nat.le_refl _)) hil (goW x i t) t 0 HR.out).mono ?_
  rintro e u3 ⟨q3, rfl, g3, b3⟩
  clear hcH hlH
  have B_3 := Lib.hid (bl B_2.out b3)
  have H_3 := Lib.hid (H_2.out.call b3)
  have YA_3 := Lib.hid g3
  clear b3 B_2 H_2 g3
  have hcH := H_3.out.2.2
  have hlH := H_3.out.2.1
  go_wp2_with fail
  clear hcH hlH
  have s4 : (u3.alloc (.cells #[.slice q3.d.ex x.d.exits.length q3.d.exc, .slice q3.d.pl x.d.players.length q3.d.plc, .slice q3.d.co x.d.coins.length q3.d.coc, .slice q3.d.it x.d.items.length q3.d.itc, .slice q3.d.bo x.d.boxes.length q3.d.boc, .int .i64 x.d.room, .int .i64 x.d.player, .int .i64 x.d.box, .slice q3.at_ x.at_.length q3.atc, .slice q3.co x.coins.length q3.coc, .slice q3.wh x.wher.length q3.whc] 29)).heap.size = u3.heap.size + 1 := by simp
  have B_4 := Lib.hid (B_3.out.alloc B_3.out.size (.cells #[.slice q3.d.ex x.d.exits.length q3.d.exc, .slice q3.d.pl x.d.players.length q3.d.plc, .slice q3.d.co x.d.coins.length q3.d.coc, .slice q3.d.it x.d.items.length q3.d.itc, .slice q3.d.bo x.d.boxes.length q3.d.boc, .int .i64 x.d.room, .int .i64 x.d.player, .int .i64 x.d.box, .slice q3.at_ x.at_.length q3.atc, .slice q3.co x.coins.length q3.coc, .slice q3.wh x.wher.length q3.whc] 29))
  have H_4 := Lib.hid (H_3.out.alloc (.cells #[.slice q3.d.ex x.d.exits.length q3.d.exc, .slice q3.d.pl x.d.players.length q3.d.plc, .slice q3.d.co x.d.coins.length q3.d.coc, .slice q3.d.it x.d.items.length q3.d.itc, .slice q3.d.bo x.d.boxes.length q3.d.boc, .int .i64 x.d.room, .int .i64 x.d.player, .int .i64 x.d.box, .slice q3.at_ x.at_.length q3.atc, .slice q3.co x.coins.length q3.coc, .slice q3.wh x.wher.length q3.whc] 29))
  have YA_4 := Lib.hid (YA_3.out.call ((Below.refl _ _).alloc (Nat.le_refl _) (.cells #[.slice q3.d.ex x.d.exits.length q3.d.exc, .slice q3.d.pl x.d.players.length q3.d.plc, .slice q3.d.co x.d.coins.length q3.d.coc, .slice q3.d.it x.d.items.length q3.d.itc, .slice q3.d.bo x.d.boxes.length q3.d.boc, .int .i64 x.d.room, .int .i64 x.d.player, .int .i64 x.d.box, .slice q3.at_ x.at_.length q3.atc, .slice q3.co x.coins.length q3.coc, .slice q3.wh x.wher.length q3.whc] 29)))
  have A_4 := Lib.hid (Holds.newb (w := w) (A := #[.slice q3.d.ex x.d.exits.length q3.d.exc, .slice q3.d.pl x.d.players.length q3.d.plc, .slice q3.d.co x.d.coins.length q3.d.coc, .slice q3.d.it x.d.items.length q3.d.itc, .slice q3.d.bo x.d.boxes.length q3.d.boc, .int .i64 x.d.room, .int .i64 x.d.player, .int .i64 x.d.box, .slice q3.at_ x.at_.length q3.atc, .slice q3.co x.coins.length q3.coc, .slice q3.wh x.wher.length q3.whc]) (t := 29) (n := u3.heap.size) B_3.out rfl)
  clear B_3 H_3 YA_3
  generalize u3.alloc (.cells #[.slice q3.d.ex x.d.exits.length q3.d.exc, .slice q3.d.pl x.d.players.length q3.d.plc, .slice q3.d.co x.d.coins.length q3.d.coc, .slice q3.d.it x.d.items.length q3.d.itc, .slice q3.d.bo x.d.boxes.length q3.d.boc, .int .i64 x.d.room, .int .i64 x.d.player, .int .i64 x.d.box, .slice q3.at_ x.at_.length q3.atc, .slice q3.co x.coins.length q3.coc, .slice q3.wh x.wher.length q3.whc] 29) = V4 at *
  have hcH := H_4.out.2.2
  have hlH := H_4.out.2.1
  have hcA := A_4.out.2.2
  have hlA := A_4.out.2.1
  refine (exit_any x ⟨pd, some ⟨b, o, none⟩, pac, pk, pkc, pw, pwc⟩ t d ht hd4 _ (HWA.out.d.ex.below B_4.out (Nat.le_refl _))).mono ?_
  rintro e u5 ⟨rfl, b5⟩
  rw [HTX.out.1, HTX.out.2.1, HTX.out.2.2]
  clear hcH hlH hcA hlA
  have B_5 := Lib.hid (bl B_4.out b5)
  have H_5 := Lib.hid (H_4.out.call b5)
  have A_5 := Lib.hid (A_4.out.call b5)
  have YA_5 := Lib.hid (YA_4.out.call b5)
  clear b5 B_4 H_4 A_4 YA_4
  have hcH := H_5.out.2.2
  have hlH := H_5.out.2.1
  have hcA := A_5.out.2.2
  have hlA := A_5.out.2.1
  go_wp2_with fail
  refine (move_as SY.out q3 i d hd4 _ HG.out YA_5.out HLA.out (goW x i u) u 0 HM.out).mono ?_
  rintro e u6 ⟨⟨qd, qa, qac, qk, qkc, qw, qwc⟩, rfl, g6, b6⟩
  clear hcH hlH hcA hlA
  have B_6 := Lib.hid (bl B_5.out b6)
  have H_6 := Lib.hid (H_5.out.call b6)
  have A_6 := Lib.hid (A_5.out.call b6)
  have YA_6 := Lib.hid (YA_5.out.call b6)
  obtain ⟨ba, oa, ea, hba, -⟩ := g6.at_.at_ (show i < (goW x i u).at_.length by simp [goW]; exact hil)
  simp only at ea
  subst ea
  have ZA_6 := Lib.hid g6
  have cz := gow_cell g6.at_ hil
  clear b6 B_5 H_5 A_5 YA_5 g6
  have hcH := H_6.out.2.2
  have hlH := H_6.out.2.1
  have hcA := A_6.out.2.2
  have hlA := A_6.out.2.1
  go_wp2_with fail
  clear hcH hlH hcA hlA
  have s7 : (u6.alloc (.cells #[.slice qd.ex x.d.exits.length qd.exc, .slice qd.pl x.d.players.length qd.plc, .slice qd.co x.d.coins.length qd.coc, .slice qd.it x.d.items.length qd.itc, .slice qd.bo x.d.boxes.length qd.boc, .int .i64 x.d.room, .int .i64 x.d.player, .int .i64 x.d.box, .slice (some ⟨ba, oa, none⟩) x.at_.length qac, .slice qk x.coins.length qkc, .slice qw x.wher.length qwc] 29)).heap.size = u6.heap.size + 1 := by simp
  have B_7 := Lib.hid (B_6.out.alloc B_6.out.size (.cells #[.slice qd.ex x.d.exits.length qd.exc, .slice qd.pl x.d.players.length qd.plc, .slice qd.co x.d.coins.length qd.coc, .slice qd.it x.d.items.length qd.itc, .slice qd.bo x.d.boxes.length qd.boc, .int .i64 x.d.room, .int .i64 x.d.player, .int .i64 x.d.box, .slice (some ⟨ba, oa, none⟩) x.at_.length qac, .slice qk x.coins.length qkc, .slice qw x.wher.length qwc] 29))
  have H_7 := Lib.hid (H_6.out.alloc (.cells #[.slice qd.ex x.d.exits.length qd.exc, .slice qd.pl x.d.players.length qd.plc, .slice qd.co x.d.coins.length qd.coc, .slice qd.it x.d.items.length qd.itc, .slice qd.bo x.d.boxes.length qd.boc, .int .i64 x.d.room, .int .i64 x.d.player, .int .i64 x.d.box, .slice (some ⟨ba, oa, none⟩) x.at_.length qac, .slice qk x.coins.length qkc, .slice qw x.wher.length qwc] 29))
  have A_7 := Lib.hid (A_6.out.alloc (.cells #[.slice qd.ex x.d.exits.length qd.exc, .slice qd.pl x.d.players.length qd.plc, .slice qd.co x.d.coins.length qd.coc, .slice qd.it x.d.items.length qd.itc, .slice qd.bo x.d.boxes.length qd.boc, .int .i64 x.d.room, .int .i64 x.d.player, .int .i64 x.d.box, .slice (some ⟨ba, oa, none⟩) x.at_.length qac, .slice qk x.coins.length qkc, .slice qw x.wher.length qwc] 29))
  have YA_7 := Lib.hid (YA_6.out.call ((Below.refl _ _).alloc (Nat.le_refl _) (.cells #[.slice qd.ex x.d.exits.length qd.exc, .slice qd.pl x.d.players.length qd.plc, .slice qd.co x.d.coins.length qd.coc, .slice qd.it x.d.items.length qd.itc, .slice qd.bo x.d.boxes.length qd.boc, .int .i64 x.d.room, .int .i64 x.d.player, .int .i64 x.d.box, .slice (some ⟨ba, oa, none⟩) x.at_.length qac, .slice qk x.coins.length qkc, .slice qw x.wher.length qwc] 29)))
  have ZA_7 := Lib.hid (ZA_6.out.call ((Below.refl _ _).alloc (Nat.le_refl _) (.cells #[.slice qd.ex x.d.exits.length qd.exc, .slice qd.pl x.d.players.length qd.plc, .slice qd.co x.d.coins.length qd.coc, .slice qd.it x.d.items.length qd.itc, .slice qd.bo x.d.boxes.length qd.boc, .int .i64 x.d.room, .int .i64 x.d.player, .int .i64 x.d.box, .slice (some ⟨ba, oa, none⟩) x.at_.length qac, .slice qk x.coins.length qkc, .slice qw x.wher.length qwc] 29)))
  have D_7 := Lib.hid (Holds.newb (w := w) (A := #[.slice qd.ex x.d.exits.length qd.exc, .slice qd.pl x.d.players.length qd.plc, .slice qd.co x.d.coins.length qd.coc, .slice qd.it x.d.items.length qd.itc, .slice qd.bo x.d.boxes.length qd.boc, .int .i64 x.d.room, .int .i64 x.d.player, .int .i64 x.d.box, .slice (some ⟨ba, oa, none⟩) x.at_.length qac, .slice qk x.coins.length qkc, .slice qw x.wher.length qwc]) (t := 29) (n := u6.heap.size) B_6.out rfl)
  clear B_6 H_6 A_6 YA_6 ZA_6
  generalize u6.alloc (.cells #[.slice qd.ex x.d.exits.length qd.exc, .slice qd.pl x.d.players.length qd.plc, .slice qd.co x.d.coins.length qd.coc, .slice qd.it x.d.items.length qd.itc, .slice qd.bo x.d.boxes.length qd.boc, .int .i64 x.d.room, .int .i64 x.d.player, .int .i64 x.d.box, .slice (some ⟨ba, oa, none⟩) x.at_.length qac, .slice qk x.coins.length qkc, .slice qw x.wher.length qwc] 29) = V7 at *
  have hcH := H_7.out.2.2
  have hlH := H_7.out.2.1
  have hcA := A_7.out.2.2
  have hlA := A_7.out.2.1
  have hcD := D_7.out.2.2
  have hlD := D_7.out.2.1
  clear hcH hlH hcA hlA hcD hlD
  clear cz hba
  have SZ := Lib.hid (goW_shape x i u)
  have CI := Lib.hid (show V7.cell? ⟨b, o + i, none⟩ = some (.int .i64 (roomOf x i : Int)) from by have := ints_cell (HWA.out.at_.below B_7.out (Nat.le_refl _)) hil; rwa [(room_at FT.out.right hil).1] at this)
  generalize ((roomOf x i : Nat) : Int) = rm at *
  have KS : Hid (∀ w', Below V7.heap.size V7 w' → Below V7.heap.size V7 w' ∧ (∀ i, w'.cell? ⟨w.heap.size, i, none⟩ = (#[.slice pd.ex x.d.exits.length pd.exc, .slice pd.pl x.d.players.length pd.plc, .slice pd.co x.d.coins.length pd.coc, .slice pd.it x.d.items.length pd.itc, .slice pd.bo x.d.boxes.length pd.boc, .int .i64 x.d.room, .int .i64 x.d.player, .int .i64 x.d.box, .slice (some ⟨b, o, none⟩) x.at_.length pac, .slice pk x.coins.length pkc, .slice pw x.wher.length pwc][i]? : Option Value)) ∧ (∀ i, w'.cell? ⟨u6.heap.size, i, none⟩ = (#[.slice qd.ex x.d.exits.length qd.exc, .slice qd.pl x.d.players.length qd.plc, .slice qd.co x.d.coins.length qd.coc, .slice qd.it x.d.items.length qd.itc, .slice qd.bo x.d.boxes.length qd.boc, .int .i64 x.d.room, .int .i64 x.d.player, .int .i64 x.d.box, .slice (some ⟨ba, oa, none⟩) x.at_.length qac, .slice qk x.coins.length qkc, .slice qw x.wher.length qwc][i]? : Option Value)) ∧ w'.cell? ⟨b, o + i, none⟩ = some (.int .i64 rm)) := Lib.hid (fun w' hb => ⟨hb, fun i => (hb.cell (p := ⟨w.heap.size, i, none⟩) H_7.out.2.1).trans (H_7.out.2.2 i), fun i => (hb.cell (p := ⟨u6.heap.size, i, none⟩) D_7.out.2.1).trans (D_7.out.2.2 i), cell_call CI.out hb⟩)
  refine wp_region_noPanic ?_
  refine wp_region_held_drew (S := (fun w' => Below V7.heap.size V7 w' ∧ (∀ i, w'.cell? ⟨w.heap.size, i, none⟩ = (#[.slice pd.ex x.d.exits.length pd.exc, .slice pd.pl x.d.players.length pd.plc, .slice pd.co x.d.coins.length pd.coc, .slice pd.it x.d.items.length pd.itc, .slice pd.bo x.d.boxes.length pd.boc, .int .i64 x.d.room, .int .i64 x.d.player, .int .i64 x.d.box, .slice (some ⟨b, o, none⟩) x.at_.length pac, .slice pk x.coins.length pkc, .slice pw x.wher.length pwc][i]? : Option Value)) ∧ (∀ i, w'.cell? ⟨u6.heap.size, i, none⟩ = (#[.slice qd.ex x.d.exits.length qd.exc, .slice qd.pl x.d.players.length qd.plc, .slice qd.co x.d.coins.length qd.coc, .slice qd.it x.d.items.length qd.itc, .slice qd.bo x.d.boxes.length qd.boc, .int .i64 x.d.room, .int .i64 x.d.player, .int .i64 x.d.box, .slice (some ⟨ba, oa, none⟩) x.at_.length qac, .slice qk x.coins.length qkc, .slice qw x.wher.length qwc][i]? : Option Value)) ∧ w'.cell? ⟨b, o + i, none⟩ = some (.int .i64 rm))) (by kernel_rfl) (by (first | (with_reducible exact KS.out _ (bdrew1 (Below.refl _ _))) | (with_reducible exact KS.out _ (below_call hHeld.1 hHeld.1.size hb9)) | (with_reducible exact hHeld))) (fun hHeld => ?_)
  first
    | (refine wpAnyH_take (i := 0) (v := undef) (by simp only [List.getElem?_toArray, List.getElem?_cons_zero]; rfl) (by kernel_rfl) (by kernel_rfl) (by kernel_rfl) (fun _ _ _ h => h) (Or.inr ⟨by rfl, rfl⟩) (by assumption) ?_; try simp only [Act.put, List.setIfInBounds_toArray, List.set_cons_zero, List.set_cons_succ])
    | (refine wpAnyH_take (i := 0) (v := ?_) (by simp only [List.getElem?_toArray, List.getElem?_cons_zero]; rfl) (by kernel_rfl) (by kernel_rfl) (by kernel_rfl) (fun _ _ _ h => h) (Or.inl ⟨by rfl, ?_⟩) (by assumption) ?_
       rotate_left
       · (intro ww hSw; (try dsimp only at hSw); go_simp; (try with_reducible rfl))
       try simp only [Act.put, List.setIfInBounds_toArray, List.set_cons_zero, List.set_cons_succ])
    | (refine wpAnyH_ready (rs := [0]) (by kernel_rfl) (by simp) (AllReadyH.cons (by simp only [List.getElem?_toArray, List.getElem?_cons_succ, List.getElem?_cons_zero]; rfl) (fun K hK => ?_) AllReadyH.nil)
       go_simp
       first
         | (fail)
       try go_wp2_with fail
       refine hK.out _ _ (by (first | (with_reducible exact KS.out _ (bdrew1 (Below.refl _ _))) | (with_reducible exact KS.out _ (below_call hHeld.1 hHeld.1.size hb9)) | (with_reducible exact hHeld))) (fun hHeld => ?_)
       clear hK K
       try simp only [Act.put, List.setIfInBounds_toArray, List.set_cons_zero, List.set_cons_succ])
  first
    | (refine wpAnyH_take (i := 1) (v := undef) (by simp only [List.getElem?_toArray, List.getElem?_cons_succ, List.getElem?_cons_zero]; rfl) (by kernel_rfl) (by kernel_rfl) (by kernel_rfl) (fun _ _ _ h => h) (Or.inr ⟨by rfl, rfl⟩) (by assumption) ?_; try simp only [Act.put, List.setIfInBounds_toArray, List.set_cons_zero, List.set_cons_succ])
    | (refine wpAnyH_take (i := 1) (v := ?_) (by simp only [List.getElem?_toArray, List.getElem?_cons_succ, List.getElem?_cons_zero]; rfl) (by kernel_rfl) (by kernel_rfl) (by kernel_rfl) (fun _ _ _ h => h) (Or.inl ⟨by rfl, ?_⟩) (by assumption) ?_
       rotate_left
       · (intro ww hSw; (try dsimp only at hSw); go_simp; (try with_reducible rfl))
       try simp only [Act.put, List.setIfInBounds_toArray, List.set_cons_zero, List.set_cons_succ])
    | (refine wpAnyH_ready (rs := [1]) (by kernel_rfl) (by simp) (AllReadyH.cons (by simp only [List.getElem?_toArray, List.getElem?_cons_succ, List.getElem?_cons_zero]; rfl) (fun K hK => ?_) AllReadyH.nil)
       go_simp
       first
         | (fail)
       try go_wp2_with fail
       refine hK.out _ _ (by (first | (with_reducible exact KS.out _ (bdrew1 (Below.refl _ _))) | (with_reducible exact KS.out _ (below_call hHeld.1 hHeld.1.size hb9)) | (with_reducible exact hHeld))) (fun hHeld => ?_)
       clear hK K
       try simp only [Act.put, List.setIfInBounds_toArray, List.set_cons_zero, List.set_cons_succ])
  first
    | (refine wpAnyH_take (i := 2) (v := undef) (by simp only [List.getElem?_toArray, List.getElem?_cons_succ, List.getElem?_cons_zero]; rfl) (by kernel_rfl) (by kernel_rfl) (by kernel_rfl) (fun _ _ _ h => h) (Or.inr ⟨by rfl, rfl⟩) (by assumption) ?_; try simp only [Act.put, List.setIfInBounds_toArray, List.set_cons_zero, List.set_cons_succ])
    | (refine wpAnyH_take (i := 2) (v := ?_) (by simp only [List.getElem?_toArray, List.getElem?_cons_succ, List.getElem?_cons_zero]; rfl) (by kernel_rfl) (by kernel_rfl) (by kernel_rfl) (fun _ _ _ h => h) (Or.inl ⟨by rfl, ?_⟩) (by assumption) ?_
       rotate_left
       · (intro ww hSw; (try dsimp only at hSw); go_simp; (try with_reducible rfl))
       try simp only [Act.put, List.setIfInBounds_toArray, List.set_cons_zero, List.set_cons_succ])
    | (refine wpAnyH_ready (rs := [2]) (by kernel_rfl) (by simp) (AllReadyH.cons (by simp only [List.getElem?_toArray, List.getElem?_cons_succ, List.getElem?_cons_zero]; rfl) (fun K hK => ?_) AllReadyH.nil)
       go_simp
       first
         | (fail)
       try go_wp2_with fail
       refine hK.out _ _ (by (first | (with_reducible exact KS.out _ (bdrew1 (Below.refl _ _))) | (with_reducible exact KS.out _ (below_call hHeld.1 hHeld.1.size hb9)) | (with_reducible exact hHeld))) (fun hHeld => ?_)
       clear hK K
       try simp only [Act.put, List.setIfInBounds_toArray, List.set_cons_zero, List.set_cons_succ])
  first
    | (refine wpAnyH_take (i := 3) (v := undef) (by simp only [List.getElem?_toArray, List.getElem?_cons_succ, List.getElem?_cons_zero]; rfl) (by kernel_rfl) (by kernel_rfl) (by kernel_rfl) (fun _ _ _ h => h) (Or.inr ⟨by rfl, rfl⟩) (by assumption) ?_; try simp only [Act.put, List.setIfInBounds_toArray, List.set_cons_zero, List.set_cons_succ])
    | (refine wpAnyH_take (i := 3) (v := ?_) (by simp only [List.getElem?_toArray, List.getElem?_cons_succ, List.getElem?_cons_zero]; rfl) (by kernel_rfl) (by kernel_rfl) (by kernel_rfl) (fun _ _ _ h => h) (Or.inl ⟨by rfl, ?_⟩) (by assumption) ?_
       rotate_left
       · (intro ww hSw; (try dsimp only at hSw); go_simp; (try with_reducible rfl))
       try simp only [Act.put, List.setIfInBounds_toArray, List.set_cons_zero, List.set_cons_succ])
    | (refine wpAnyH_ready (rs := [3]) (by kernel_rfl) (by simp) (AllReadyH.cons (by simp only [List.getElem?_toArray, List.getElem?_cons_succ, List.getElem?_cons_zero]; rfl) (fun K hK => ?_) AllReadyH.nil)
       go_simp
       first
         | (fail)
       try go_wp2_with fail
       refine hK.out _ _ (by (first | (with_reducible exact KS.out _ (bdrew1 (Below.refl _ _))) | (with_reducible exact KS.out _ (below_call hHeld.1 hHeld.1.size hb9)) | (with_reducible exact hHeld))) (fun hHeld => ?_)
       clear hK K
       try simp only [Act.put, List.setIfInBounds_toArray, List.set_cons_zero, List.set_cons_succ])
  first
    | (refine wpAnyH_take (i := 4) (v := undef) (by simp only [List.getElem?_toArray, List.getElem?_cons_succ, List.getElem?_cons_zero]; rfl) (by kernel_rfl) (by kernel_rfl) (by kernel_rfl) (fun _ _ _ h => h) (Or.inr ⟨by rfl, rfl⟩) (by assumption) ?_; try simp only [Act.put, List.setIfInBounds_toArray, List.set_cons_zero, List.set_cons_succ])
    | (refine wpAnyH_take (i := 4) (v := ?_) (by simp only [List.getElem?_toArray, List.getElem?_cons_succ, List.getElem?_cons_zero]; rfl) (by kernel_rfl) (by kernel_rfl) (by kernel_rfl) (fun _ _ _ h => h) (Or.inl ⟨by rfl, ?_⟩) (by assumption) ?_
       rotate_left
       · (intro ww hSw; (try dsimp only at hSw); go_simp; (try with_reducible rfl))
       try simp only [Act.put, List.setIfInBounds_toArray, List.set_cons_zero, List.set_cons_succ])
    | (refine wpAnyH_ready (rs := [4]) (by kernel_rfl) (by simp) (AllReadyH.cons (by simp only [List.getElem?_toArray, List.getElem?_cons_succ, List.getElem?_cons_zero]; rfl) (fun K hK => ?_) AllReadyH.nil)
       go_simp
       first
         | (fail)
       try go_wp2_with fail
       refine hK.out _ _ (by (first | (with_reducible exact KS.out _ (bdrew1 (Below.refl _ _))) | (with_reducible exact KS.out _ (below_call hHeld.1 hHeld.1.size hb9)) | (with_reducible exact hHeld))) (fun hHeld => ?_)
       clear hK K
       try simp only [Act.put, List.setIfInBounds_toArray, List.set_cons_zero, List.set_cons_succ])
  first
    | (refine wpAnyH_take (i := 5) (v := undef) (by simp only [List.getElem?_toArray, List.getElem?_cons_succ, List.getElem?_cons_zero]; rfl) (by kernel_rfl) (by kernel_rfl) (by kernel_rfl) (fun _ _ _ h => h) (Or.inr ⟨by rfl, rfl⟩) (by assumption) ?_; try simp only [Act.put, List.setIfInBounds_toArray, List.set_cons_zero, List.set_cons_succ])
    | (refine wpAnyH_take (i := 5) (v := ?_) (by simp only [List.getElem?_toArray, List.getElem?_cons_succ, List.getElem?_cons_zero]; rfl) (by kernel_rfl) (by kernel_rfl) (by kernel_rfl) (fun _ _ _ h => h) (Or.inl ⟨by rfl, ?_⟩) (by assumption) ?_
       rotate_left
       · (intro ww hSw; (try dsimp only at hSw); go_simp; (try with_reducible rfl))
       try simp only [Act.put, List.setIfInBounds_toArray, List.set_cons_zero, List.set_cons_succ])
    | (refine wpAnyH_ready (rs := [5]) (by kernel_rfl) (by simp) (AllReadyH.cons (by simp only [List.getElem?_toArray, List.getElem?_cons_succ, List.getElem?_cons_zero]; rfl) (fun K hK => ?_) AllReadyH.nil)
       go_simp
       first
         | (fail)
       try go_wp2_with fail
       refine hK.out _ _ (by (first | (with_reducible exact KS.out _ (bdrew1 (Below.refl _ _))) | (with_reducible exact KS.out _ (below_call hHeld.1 hHeld.1.size hb9)) | (with_reducible exact hHeld))) (fun hHeld => ?_)
       clear hK K
       try simp only [Act.put, List.setIfInBounds_toArray, List.set_cons_zero, List.set_cons_succ])
  first
    | (refine wpAnyH_take (i := 6) (v := undef) (by simp only [List.getElem?_toArray, List.getElem?_cons_succ, List.getElem?_cons_zero]; rfl) (by kernel_rfl) (by kernel_rfl) (by kernel_rfl) (fun _ _ _ h => h) (Or.inr ⟨by rfl, rfl⟩) (by assumption) ?_; try simp only [Act.put, List.setIfInBounds_toArray, List.set_cons_zero, List.set_cons_succ])
    | (refine wpAnyH_take (i := 6) (v := ?_) (by simp only [List.getElem?_toArray, List.getElem?_cons_succ, List.getElem?_cons_zero]; rfl) (by kernel_rfl) (by kernel_rfl) (by kernel_rfl) (fun _ _ _ h => h) (Or.inl ⟨by rfl, ?_⟩) (by assumption) ?_
       rotate_left
       · (intro ww hSw; (try dsimp only at hSw); go_simp; (try with_reducible rfl))
       try simp only [Act.put, List.setIfInBounds_toArray, List.set_cons_zero, List.set_cons_succ])
    | (refine wpAnyH_ready (rs := [6]) (by kernel_rfl) (by simp) (AllReadyH.cons (by simp only [List.getElem?_toArray, List.getElem?_cons_succ, List.getElem?_cons_zero]; rfl) (fun K hK => ?_) AllReadyH.nil)
       go_simp
       first
         | (fail)
       try go_wp2_with fail
       refine hK.out _ _ (by (first | (with_reducible exact KS.out _ (bdrew1 (Below.refl _ _))) | (with_reducible exact KS.out _ (below_call hHeld.1 hHeld.1.size hb9)) | (with_reducible exact hHeld))) (fun hHeld => ?_)
       clear hK K
       try simp only [Act.put, List.setIfInBounds_toArray, List.set_cons_zero, List.set_cons_succ])
  first
    | (refine wpAnyH_take (i := 7) (v := undef) (by simp only [List.getElem?_toArray, List.getElem?_cons_succ, List.getElem?_cons_zero]; rfl) (by kernel_rfl) (by kernel_rfl) (by kernel_rfl) (fun _ _ _ h => h) (Or.inr ⟨by rfl, rfl⟩) (by assumption) ?_; try simp only [Act.put, List.setIfInBounds_toArray, List.set_cons_zero, List.set_cons_succ])
    | (refine wpAnyH_take (i := 7) (v := ?_) (by simp only [List.getElem?_toArray, List.getElem?_cons_succ, List.getElem?_cons_zero]; rfl) (by kernel_rfl) (by kernel_rfl) (by kernel_rfl) (fun _ _ _ h => h) (Or.inl ⟨by rfl, ?_⟩) (by assumption) ?_
       rotate_left
       · (intro ww hSw; (try dsimp only at hSw); go_simp; (try with_reducible rfl))
       try simp only [Act.put, List.setIfInBounds_toArray, List.set_cons_zero, List.set_cons_succ])
    | (refine wpAnyH_ready (rs := [7]) (by kernel_rfl) (by simp) (AllReadyH.cons (by simp only [List.getElem?_toArray, List.getElem?_cons_succ, List.getElem?_cons_zero]; rfl) (fun K hK => ?_) AllReadyH.nil)
       go_simp
       first
         | (fail)
       try go_wp2_with fail
       refine hK.out _ _ (by (first | (with_reducible exact KS.out _ (bdrew1 (Below.refl _ _))) | (with_reducible exact KS.out _ (below_call hHeld.1 hHeld.1.size hb9)) | (with_reducible exact hHeld))) (fun hHeld => ?_)
       clear hK K
       try simp only [Act.put, List.setIfInBounds_toArray, List.set_cons_zero, List.set_cons_succ])
  first
    | (refine wpAnyH_take (i := 8) (v := undef) (by simp only [List.getElem?_toArray, List.getElem?_cons_succ, List.getElem?_cons_zero]; rfl) (by kernel_rfl) (by kernel_rfl) (by kernel_rfl) (fun _ _ _ h => h) (Or.inr ⟨by rfl, rfl⟩) (by assumption) ?_; try simp only [Act.put, List.setIfInBounds_toArray, List.set_cons_zero, List.set_cons_succ])
    | (refine wpAnyH_take (i := 8) (v := ?_) (by simp only [List.getElem?_toArray, List.getElem?_cons_succ, List.getElem?_cons_zero]; rfl) (by kernel_rfl) (by kernel_rfl) (by kernel_rfl) (fun _ _ _ h => h) (Or.inl ⟨by rfl, ?_⟩) (by assumption) ?_
       rotate_left
       · (intro ww hSw; (try dsimp only at hSw); go_simp; (try with_reducible rfl))
       try simp only [Act.put, List.setIfInBounds_toArray, List.set_cons_zero, List.set_cons_succ])
    | (refine wpAnyH_ready (rs := [8]) (by kernel_rfl) (by simp) (AllReadyH.cons (by simp only [List.getElem?_toArray, List.getElem?_cons_succ, List.getElem?_cons_zero]; rfl) (fun K hK => ?_) AllReadyH.nil)
       go_simp
       first
         | (fail)
       try go_wp2_with fail
       refine hK.out _ _ (by (first | (with_reducible exact KS.out _ (bdrew1 (Below.refl _ _))) | (with_reducible exact KS.out _ (below_call hHeld.1 hHeld.1.size hb9)) | (with_reducible exact hHeld))) (fun hHeld => ?_)
       clear hK K
       try simp only [Act.put, List.setIfInBounds_toArray, List.set_cons_zero, List.set_cons_succ])
  first
    | (refine wpAnyH_take (i := 9) (v := undef) (by simp only [List.getElem?_toArray, List.getElem?_cons_succ, List.getElem?_cons_zero]; rfl) (by kernel_rfl) (by kernel_rfl) (by kernel_rfl) (fun _ _ _ h => h) (Or.inr ⟨by rfl, rfl⟩) (by assumption) ?_; try simp only [Act.put, List.setIfInBounds_toArray, List.set_cons_zero, List.set_cons_succ])
    | (refine wpAnyH_take (i := 9) (v := ?_) (by simp only [List.getElem?_toArray, List.getElem?_cons_succ, List.getElem?_cons_zero]; rfl) (by kernel_rfl) (by kernel_rfl) (by kernel_rfl) (fun _ _ _ h => h) (Or.inl ⟨by rfl, ?_⟩) (by assumption) ?_
       rotate_left
       · (intro ww hSw; (try dsimp only at hSw); go_simp; (try with_reducible rfl))
       try simp only [Act.put, List.setIfInBounds_toArray, List.set_cons_zero, List.set_cons_succ])
    | (refine wpAnyH_ready (rs := [9]) (by kernel_rfl) (by simp) (AllReadyH.cons (by simp only [List.getElem?_toArray, List.getElem?_cons_succ, List.getElem?_cons_zero]; rfl) (fun K hK => ?_) AllReadyH.nil)
       go_simp
       first
         | (fail)
       try go_wp2_with fail
       refine hK.out _ _ (by (first | (with_reducible exact KS.out _ (bdrew1 (Below.refl _ _))) | (with_reducible exact KS.out _ (below_call hHeld.1 hHeld.1.size hb9)) | (with_reducible exact hHeld))) (fun hHeld => ?_)
       clear hK K
       try simp only [Act.put, List.setIfInBounds_toArray, List.set_cons_zero, List.set_cons_succ])
  first
    | (refine wpAnyH_take (i := 10) (v := undef) (by simp only [List.getElem?_toArray, List.getElem?_cons_succ, List.getElem?_cons_zero]; rfl) (by kernel_rfl) (by kernel_rfl) (by kernel_rfl) (fun _ _ _ h => h) (Or.inr ⟨by rfl, rfl⟩) (by assumption) ?_; try simp only [Act.put, List.setIfInBounds_toArray, List.set_cons_zero, List.set_cons_succ])
    | (refine wpAnyH_take (i := 10) (v := ?_) (by simp only [List.getElem?_toArray, List.getElem?_cons_succ, List.getElem?_cons_zero]; rfl) (by kernel_rfl) (by kernel_rfl) (by kernel_rfl) (fun _ _ _ h => h) (Or.inl ⟨by rfl, ?_⟩) (by assumption) ?_
       rotate_left
       · (intro ww hSw; (try dsimp only at hSw); go_simp; (try with_reducible rfl))
       try simp only [Act.put, List.setIfInBounds_toArray, List.set_cons_zero, List.set_cons_succ])
    | (refine wpAnyH_ready (rs := [10]) (by kernel_rfl) (by simp) (AllReadyH.cons (by simp only [List.getElem?_toArray, List.getElem?_cons_succ, List.getElem?_cons_zero]; rfl) (fun K hK => ?_) AllReadyH.nil)
       go_simp
       first
         | (fail)
       try go_wp2_with fail
       refine hK.out _ _ (by (first | (with_reducible exact KS.out _ (bdrew1 (Below.refl _ _))) | (with_reducible exact KS.out _ (below_call hHeld.1 hHeld.1.size hb9)) | (with_reducible exact hHeld))) (fun hHeld => ?_)
       clear hK K
       try simp only [Act.put, List.setIfInBounds_toArray, List.set_cons_zero, List.set_cons_succ])
  first
    | (refine wpAnyH_take (i := 11) (v := undef) (by simp only [List.getElem?_toArray, List.getElem?_cons_succ, List.getElem?_cons_zero]; rfl) (by kernel_rfl) (by kernel_rfl) (by kernel_rfl) (fun _ _ _ h => h) (Or.inr ⟨by rfl, rfl⟩) (by assumption) ?_; try simp only [Act.put, List.setIfInBounds_toArray, List.set_cons_zero, List.set_cons_succ])
    | (refine wpAnyH_take (i := 11) (v := ?_) (by simp only [List.getElem?_toArray, List.getElem?_cons_succ, List.getElem?_cons_zero]; rfl) (by kernel_rfl) (by kernel_rfl) (by kernel_rfl) (fun _ _ _ h => h) (Or.inl ⟨by rfl, ?_⟩) (by assumption) ?_
       rotate_left
       · (intro ww hSw; (try dsimp only at hSw); go_simp; (try with_reducible rfl))
       try simp only [Act.put, List.setIfInBounds_toArray, List.set_cons_zero, List.set_cons_succ])
    | (refine wpAnyH_ready (rs := [11]) (by kernel_rfl) (by simp) (AllReadyH.cons (by simp only [List.getElem?_toArray, List.getElem?_cons_succ, List.getElem?_cons_zero]; rfl) (fun K hK => ?_) AllReadyH.nil)
       go_simp
       first
         | (fail)
       try go_wp2_with fail
       refine hK.out _ _ (by (first | (with_reducible exact KS.out _ (bdrew1 (Below.refl _ _))) | (with_reducible exact KS.out _ (below_call hHeld.1 hHeld.1.size hb9)) | (with_reducible exact hHeld))) (fun hHeld => ?_)
       clear hK K
       try simp only [Act.put, List.setIfInBounds_toArray, List.set_cons_zero, List.set_cons_succ])
  first
    | (refine wpAnyH_take (i := 12) (v := undef) (by simp only [List.getElem?_toArray, List.getElem?_cons_succ, List.getElem?_cons_zero]; rfl) (by kernel_rfl) (by kernel_rfl) (by kernel_rfl) (fun _ _ _ h => h) (Or.inr ⟨by rfl, rfl⟩) (by assumption) ?_; try simp only [Act.put, List.setIfInBounds_toArray, List.set_cons_zero, List.set_cons_succ])
    | (refine wpAnyH_ready (rs := [12]) (by kernel_rfl) (by simp) (AllReadyH.cons (by simp only [List.getElem?_toArray, List.getElem?_cons_succ, List.getElem?_cons_zero]; rfl) (fun K hK => ?_) AllReadyH.nil)
       go_simp; refine (rsame_as SZ.out (Shape.refl x) _ ⟨pd, some ⟨b, o, none⟩, pac, pk, pkc, pw, pwc⟩ _ (ZA_7.out.below hHeld.1 (Nat.le_refl _)) (HWA.out.below (below_call B_7.out B_7.out.size hHeld.1) (Nat.le_refl _))).mono ?_; rintro e w9 ⟨rfl, hb9⟩; rw [HSM.out]; try go_wp2_with fail
       refine hK.out _ _ (by (first | (with_reducible exact KS.out _ (bdrew1 (Below.refl _ _))) | (with_reducible exact KS.out _ (below_call hHeld.1 hHeld.1.size hb9)) | (with_reducible exact hHeld))) (fun hHeld => ?_)
       clear hK K
       try simp only [Act.put, List.setIfInBounds_toArray, List.set_cons_zero, List.set_cons_succ])
  first
    | (refine wpAnyH_take (i := 13) (v := undef) (by simp only [List.getElem?_toArray, List.getElem?_cons_succ, List.getElem?_cons_zero]; rfl) (by kernel_rfl) (by kernel_rfl) (by kernel_rfl) (fun _ _ _ h => h) (Or.inr ⟨by rfl, rfl⟩) (by assumption) ?_; try simp only [Act.put, List.setIfInBounds_toArray, List.set_cons_zero, List.set_cons_succ])
    | (refine wpAnyH_take (i := 13) (v := ?_) (by simp only [List.getElem?_toArray, List.getElem?_cons_succ, List.getElem?_cons_zero]; rfl) (by kernel_rfl) (by kernel_rfl) (by kernel_rfl) (fun _ _ _ h => h) (Or.inl ⟨by rfl, ?_⟩) (by assumption) ?_
       rotate_left
       · (intro ww hSw; (try dsimp only at hSw); go_simp; (try with_reducible rfl))
       try simp only [Act.put, List.setIfInBounds_toArray, List.set_cons_zero, List.set_cons_succ])
    | (refine wpAnyH_ready (rs := [13]) (by kernel_rfl) (by simp) (AllReadyH.cons (by simp only [List.getElem?_toArray, List.getElem?_cons_succ, List.getElem?_cons_zero]; rfl) (fun K hK => ?_) AllReadyH.nil)
       go_simp
       first
         | (fail)
       try go_wp2_with fail
       refine hK.out _ _ (by (first | (with_reducible exact KS.out _ (bdrew1 (Below.refl _ _))) | (with_reducible exact KS.out _ (below_call hHeld.1 hHeld.1.size hb9)) | (with_reducible exact hHeld))) (fun hHeld => ?_)
       clear hK K
       try simp only [Act.put, List.setIfInBounds_toArray, List.set_cons_zero, List.set_cons_succ])
  first
    | (refine wpAnyH_take (i := 14) (v := undef) (by simp only [List.getElem?_toArray, List.getElem?_cons_succ, List.getElem?_cons_zero]; rfl) (by kernel_rfl) (by kernel_rfl) (by kernel_rfl) (fun _ _ _ h => h) (Or.inr ⟨by rfl, rfl⟩) (by assumption) ?_; try simp only [Act.put, List.setIfInBounds_toArray, List.set_cons_zero, List.set_cons_succ])
    | (refine wpAnyH_take (i := 14) (v := ?_) (by simp only [List.getElem?_toArray, List.getElem?_cons_succ, List.getElem?_cons_zero]; rfl) (by kernel_rfl) (by kernel_rfl) (by kernel_rfl) (fun _ _ _ h => h) (Or.inl ⟨by rfl, ?_⟩) (by assumption) ?_
       rotate_left
       · (intro ww hSw; (try dsimp only at hSw); go_simp; (try with_reducible rfl))
       try simp only [Act.put, List.setIfInBounds_toArray, List.set_cons_zero, List.set_cons_succ])
    | (refine wpAnyH_ready (rs := [14]) (by kernel_rfl) (by simp) (AllReadyH.cons (by simp only [List.getElem?_toArray, List.getElem?_cons_succ, List.getElem?_cons_zero]; rfl) (fun K hK => ?_) AllReadyH.nil)
       go_simp
       first
         | (fail)
       try go_wp2_with fail
       refine hK.out _ _ (by (first | (with_reducible exact KS.out _ (bdrew1 (Below.refl _ _))) | (with_reducible exact KS.out _ (below_call hHeld.1 hHeld.1.size hb9)) | (with_reducible exact hHeld))) (fun hHeld => ?_)
       clear hK K
       try simp only [Act.put, List.setIfInBounds_toArray, List.set_cons_zero, List.set_cons_succ])
  first
    | (refine wpAnyH_take (i := 15) (v := undef) (by simp only [List.getElem?_toArray, List.getElem?_cons_succ, List.getElem?_cons_zero]; rfl) (by kernel_rfl) (by kernel_rfl) (by kernel_rfl) (fun _ _ _ h => h) (Or.inr ⟨by rfl, rfl⟩) (by assumption) ?_; try simp only [Act.put, List.setIfInBounds_toArray, List.set_cons_zero, List.set_cons_succ])
    | (refine wpAnyH_take (i := 15) (v := ?_) (by simp only [List.getElem?_toArray, List.getElem?_cons_succ, List.getElem?_cons_zero]; rfl) (by kernel_rfl) (by kernel_rfl) (by kernel_rfl) (fun _ _ _ h => h) (Or.inl ⟨by rfl, ?_⟩) (by assumption) ?_
       rotate_left
       · (intro ww hSw; (try dsimp only at hSw); go_simp; (try with_reducible rfl))
       try simp only [Act.put, List.setIfInBounds_toArray, List.set_cons_zero, List.set_cons_succ])
    | (refine wpAnyH_ready (rs := [15]) (by kernel_rfl) (by simp) (AllReadyH.cons (by simp only [List.getElem?_toArray, List.getElem?_cons_succ, List.getElem?_cons_zero]; rfl) (fun K hK => ?_) AllReadyH.nil)
       go_simp
       first
         | (fail)
       try go_wp2_with fail
       refine hK.out _ _ (by (first | (with_reducible exact KS.out _ (bdrew1 (Below.refl _ _))) | (with_reducible exact KS.out _ (below_call hHeld.1 hHeld.1.size hb9)) | (with_reducible exact hHeld))) (fun hHeld => ?_)
       clear hK K
       try simp only [Act.put, List.setIfInBounds_toArray, List.set_cons_zero, List.set_cons_succ])
  refine wpAnyH_done (by kernel_rfl) ?_ _
  refine NoPanic.normal ?_
  have HE := Lib.hid (below_call B_7.out B_7.out.size hHeld.1)
  clear hHeld
  go_wp2_with fail
  go_ret
  exact ⟨rfl, HE.out⟩
theorem walk_waysBack (x : Wd) (p : Wp) (a b0 c : Int) (w : World) (ha : (Lit.int .u8 a).wf = true) (hb : (Lit.int .u8 b0).wf = true) (hc : (Lit.int .u8 c).wf = true) (h : WorldAt w p x) : Calls Try.prog 5 #[.agg #[.slice p.d.ex x.d.exits.length p.d.exc, .slice p.d.pl x.d.players.length p.d.plc, .slice p.d.co x.d.coins.length p.d.coc, .slice p.d.it x.d.items.length p.d.itc, .slice p.d.bo x.d.boxes.length p.d.boc, .int .i64 x.d.room, .int .i64 x.d.player, .int .i64 x.d.box, .slice p.at_ x.at_.length p.atc, .slice p.co x.coins.length p.coc, .slice p.wh x.wher.length p.whc], .int .u8 a, .int .u8 b0, .int .u8 c] w fun e w' => e = .returned (.bool true) ∧ Below w.heap.size w w' := by
  cases hf : fitsB x
  · exact waysBack_no x p a b0 c w h hf
  have h1 := wf_u8 ha
  have h2 := wf_u8 hb
  have h3 := wf_u8 hc
  obtain ⟨m1, rfl⟩ : ∃ m : Nat, a = m := ⟨a.toNat, by omega⟩
  obtain ⟨m2, rfl⟩ : ∃ m : Nat, b0 = m := ⟨b0.toNat, by omega⟩
  obtain ⟨m3, rfl⟩ : ∃ m : Nat, c = m := ⟨c.toNat, by omega⟩
  have hx := (fits_fit hf).right
  have hil : m1 % x.at_.length < x.at_.length := Nat.mod_lt _ (right_lens hx).1
  have hk : m2 % 4 < 4 := Nat.mod_lt _ (by decide)
  have hd : m3 % 4 < 4 := Nat.mod_lt _ (by decide)
  by_cases h4 : toW x (roomOf x (m1 % x.at_.length)) (m2 % 4) = -1
  · exact waysBack_shut x p m1 m2 m3 _ _ _ (by omega) (by omega) (by omega) rfl rfl rfl (by unfold moveW; rw [if_pos h4]) w h hf
  have h5 := (toW_in hx (room_at hx hil).2 hk).resolve_left h4
  have h6 : moveW x (m1 % x.at_.length) (m2 % 4) = (goW x (m1 % x.at_.length) (toW x (roomOf x (m1 % x.at_.length)) (m2 % 4)), toW x (roomOf x (m1 % x.at_.length)) (m2 % 4), 0) := by unfold moveW; rw [if_neg h4]
  generalize toW x (roomOf x (m1 % x.at_.length)) (m2 % 4) = t0 at *
  obtain ⟨t, rfl⟩ : ∃ t : Nat, t0 = t := ⟨t0.toNat, by omega⟩
  have ht : t < x.d.exits.length := by omega
  have h7 := move_back (x := x) (t := t) (d := m3 % 4) hil
  by_cases h8 : toW x t (m3 % 4) = -1
  · rw [if_pos h8] at h7
    exact waysBack_none x p m1 m2 m3 _ _ _ (by omega) (by omega) (by omega) rfl rfl rfl t ht h8 h6 h7 w h hf
  · rw [if_neg h8] at h7
    obtain ⟨b, o, ea, -, -⟩ := h.at_.at_ hil
    obtain ⟨pd, pa, pac, pk, pkc, pw, pwc⟩ := p
    simp only at ea
    subst ea
    exact waysBack_go x pd b o pac pk pw pkc pwc m1 m2 m3 _ _ _ (by omega) (by omega) (by omega) rfl rfl rfl t ht _ ⟨rfl, by simp [exA, h8], by simpa using h8⟩ _ (goW_same hx hil _) rfl h6 h7 w h hf
set_option maxRecDepth 100000 in
theorem lifted_waysBack (os : Os) (started : os.Started) (H : Type) (enc : TypeId × Value → H) :
    ReturnsInHanded {} Try.checked os 5 .any (Rows.waysBackSpec.pre6 enc Try.prog Try.f5 Rows.waysBackRow.domain false) (Rows.waysBackSpec.post enc Try.prog Try.f5 false true false false) := by
  refine returnsInHanded_of_change (C := Try.checked) (by kernel_rfl) started (by kernel_rfl) Try.func5
    (ChangeSpec.witness6 (enc := enc) (C := Try.checked) false ⟨#[], #[.agg #[.slice none 0 0, .slice none 0 0, .slice none 0 0, .slice none 0 0, .slice none 0 0, .int .i64 0, .int .i64 0, .int .i64 0, .slice none 0 0, .slice none 0 0, .slice none 0 0], .int .u8 0, .int .u8 0, .int .u8 0], []⟩ 8 (by kernel_rfl) (by kernel_rfl) (by kernel_rfl) (by kernel_rfl)) ?_
  intro W base args ds gs before hval0 hW hcnd _
  have hval : ∀ (j : Nat) t v, Try.f5.params[j]? = some t → args[j]? = some v → Value.okWide Try.prog W .any base t v := hval0
  have hW' := hW
  obtain ⟨p, q, hA0, hV, rfl, hfz, hnd⟩ := hW
  have hA : DataW.TrodAll enc Try.prog W 0 (fun _ => true) true Try.f5.params.toList args.toList ds p := hA0
  rw [Try.params5] at hA hval
  obtain ⟨v0, vs0, d0, ds0, p0, q0, hargs, rfl, rfl, h0, r0⟩ := trodAll_cons hA
  obtain ⟨v1, vs1, d1, ds1, p1, q1, rfl, rfl, rfl, h1, r1⟩ := trodAll_cons r0
  obtain ⟨v2, vs2, d2, ds2, p2, q2, rfl, rfl, rfl, h2, r2⟩ := trodAll_cons r1
  obtain ⟨v3, vs3, d3, ds3, p3, q3, rfl, rfl, rfl, h3, r3⟩ := trodAll_cons r2
  obtain ⟨rfl, rfl, rfl⟩ := trodAll_nil r3
  obtain rfl : args = #[v0, v1, v2, v3] := by cases args; simp_all
  obtain ⟨rfl, rfl⟩ := trodVars_none hV
  obtain ⟨wx0, wp0, rfl, m0⟩ := read_world (hval 0 29 v0 rfl rfl) h0
  obtain ⟨a1, rfl, rfl, rfl, w1⟩ := open_int Try.underlying5 (hval 1 5 v1 rfl rfl) h1
  obtain ⟨a2, rfl, rfl, rfl, w2⟩ := open_int Try.underlying5 (hval 2 5 v2 rfl rfl) h2
  obtain ⟨a3, rfl, rfl, rfl, w3⟩ := open_int Try.underlying5 (hval 3 5 v3 rfl rfl) h3
  clear hA0 hval0
  simp only [List.append_nil] at hW'
  refine (walk_waysBack wx0 wp0 a1 a2 a3 W w1 w2 w3 m0).mono fun e W' ⟨he, hg⟩ => ?_
  subst he
  exact ⟨_, rfl, law_post (by kernel_rfl) rfl (by rw [Try.params5]; decide +kernel) rfl rfl Try.underlying4 hW' hg⟩

/-- ████ THE STATEMENT ████ -/
theorem proved_waysBack : Rows.WaysBackSaid :=
  OpenClaim.holds_of_wide 5 Try.f5 rfl rfl rfl rfl rfl rfl rfl ⟨rfl, rfl, rfl, rfl, rfl⟩ rfl rfl rfl rfl rfl (by kernel_rfl) Try.func5 (by kernel_rfl)
    (of_decide_eq_true (by kernel_rfl)) (by unfold Func.isWrapper; first | (rw [if_pos (by decide +kernel)]; kernel_rfl) | (rw [if_neg (by decide +kernel)]; exact ⟨rfl, rfl⟩))
    (fun os started H enc _ => lifted_waysBack os started H enc)
#print axioms proved_waysBack
end Go.Proofs.Ytkhjmgedamndhaa
