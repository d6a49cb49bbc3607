/- WaysMove: of whatever right world, players and way: who goes, or is pushed. -/
import Derived.Test.YtkhjmgedamndhaaRows
import Derived.Test.YtkhjmgedamndhaaKit
import Derived.Test.YtkhjmgedamndhaaSlices
import Derived.Test.YtkhjmgedamndhaaStrs
import Derived.Test.YtkhjmgedamndhaaCoin
import Derived.Test.YtkhjmgedamndhaaBlk
import Derived.Test.YtkhjmgedamndhaaHolds
import Derived.Test.YtkhjmgedamndhaaWorldMath
import Derived.Test.YtkhjmgedamndhaaWorldAt
import Derived.Test.YtkhjmgedamndhaaCmdInts
import Derived.Test.YtkhjmgedamndhaaDescNest
import Derived.Test.YtkhjmgedamndhaaDescRight
import Derived.Test.YtkhjmgedamndhaaDescCopy
import Derived.Test.YtkhjmgedamndhaaDescCopy2
import Derived.Test.YtkhjmgedamndhaaDescStore
import Derived.Test.YtkhjmgedamndhaaDescAs
import Derived.Test.YtkhjmgedamndhaaDescEq
import Derived.Test.YtkhjmgedamndhaaRefCopied
import Derived.Test.YtkhjmgedamndhaaRefDescA
import Derived.Test.YtkhjmgedamndhaaRefRight
import Derived.Test.YtkhjmgedamndhaaRefSame
import Derived.Test.YtkhjmgedamndhaaTreeMath
import Derived.Test.YtkhjmgedamndhaaTreeIs
import Derived.Test.YtkhjmgedamndhaaTreeArg
import Derived.Test.YtkhjmgedamndhaaWorldArg
import Derived.Test.YtkhjmgedamndhaaWaysMath
import Derived.Test.YtkhjmgedamndhaaWaysA
import Derived.Test.YtkhjmgedamndhaaWaysB
import Derived.Test.YtkhjmgedamndhaaWaysC
import Derived.Test.YtkhjmgedamndhaaWaysD
import Derived.Test.YtkhjmgedamndhaaWaysE
import Derived.Test.YtkhjmgedamndhaaWaysAwake
import Derived.Test.YtkhjmgedamndhaaWaysAs
import Derived.Deep.QuietTactic
import Derived.BigQuiet
import Derived.Deep.RegionHeld3
import Derived.WalkKit
import Derived.ProofKit
import Derived.OpenShut
import Derived.IntWalk
namespace Go.Proofs.Ytkhjmgedamndhaa
open Go.ChangeShapes Go.WideShapes Go.ChangeAt Go.RowKit
set_option linter.unusedVariables false
open Go.RowKit
set_option maxRecDepth 100000 in
theorem waysMove_no (x : Wd) (p : Wp) (a q c : Int) (w : World) (h : WorldAt w p x) (hf : fitsB x = false) : Calls Try.prog 3 #[.agg #[.slice p.d.ex x.d.exits.length p.d.exc, .slice p.d.pl x.d.players.length p.d.plc, .slice p.d.co x.d.coins.length p.d.coc, .slice p.d.it x.d.items.length p.d.itc, .slice p.d.bo x.d.boxes.length p.d.boc, .int .i64 x.d.room, .int .i64 x.d.player, .int .i64 x.d.box, .slice p.at_ x.at_.length p.atc, .slice p.co x.coins.length p.coc, .slice p.wh x.wher.length p.whc], .int .u8 a, .int .i64 q, .int .u8 c] w fun e w' => e = .returned (.bool true) ∧ Below w.heap.size w w' := by
  have H_0 := Lib.hid (Holds.new w #[.slice p.d.ex x.d.exits.length p.d.exc, .slice p.d.pl x.d.players.length p.d.plc, .slice p.d.co x.d.coins.length p.d.coc, .slice p.d.it x.d.items.length p.d.itc, .slice p.d.bo x.d.boxes.length p.d.boc, .int .i64 x.d.room, .int .i64 x.d.player, .int .i64 x.d.box, .slice p.at_ x.at_.length p.atc, .slice p.co x.coins.length p.coc, .slice p.wh x.wher.length p.whc] 29)
  have HF := Lib.hid hf
  have HWA := Lib.hid h
  clear hf h
  go_enter Try.func3, Try.ntmps3
  go_wp2_with fail
  generalize w.alloc (.cells #[.slice p.d.ex x.d.exits.length p.d.exc, .slice p.d.pl x.d.players.length p.d.plc, .slice p.d.co x.d.coins.length p.d.coc, .slice p.d.it x.d.items.length p.d.itc, .slice p.d.bo x.d.boxes.length p.d.boc, .int .i64 x.d.room, .int .i64 x.d.player, .int .i64 x.d.box, .slice p.at_ x.at_.length p.atc, .slice p.co x.coins.length p.coc, .slice p.wh x.wher.length p.whc] 29) = V0 at *
  have B_0 := Lib.hid H_0.out.1
  refine (awake8_any _).mono ?_
  rintro e u1 ⟨rfl, b1⟩
  have B_1 := Lib.hid (bl B_0.out b1)
  have H_1 := Lib.hid (H_0.out.call b1)
  clear b1 B_0 H_0
  have hcH := H_1.out.2.2
  have hlH := H_1.out.2.1
  go_wp2_with fail
  refine (fits8_any x p _ (HWA.out.below H_1.out.1 (Nat.le_refl _))).mono ?_
  rintro e u2 ⟨rfl, b2⟩
  rw [HF.out]
  clear hcH hlH
  have B_2 := Lib.hid (bl B_1.out b2)
  have H_2 := Lib.hid (H_1.out.call b2)
  clear b2 B_1 H_1
  have hcH := H_2.out.2.2
  have hlH := H_2.out.2.1
  go_wp2_with fail
  refine (awake8_any _).mono ?_
  rintro e u3 ⟨rfl, b3⟩
  clear hcH hlH
  have B_3 := Lib.hid (bl B_2.out b3)
  have H_3 := Lib.hid (H_2.out.call b3)
  clear b3 B_2 H_2
  have hcH := H_3.out.2.2
  have hlH := H_3.out.2.1
  go_wp2_with fail
  go_ret
  exact ⟨rfl, B_3.out⟩
set_option maxRecDepth 100000 in
set_option maxHeartbeats 4000000 in
theorem waysMove_go (x : Wd) (xe xf xc : Nat) (pp pc pi pb : Option Addr) (ppc pcc pic pbc : Nat) (b o pac : Nat) (pk pw : Option Addr) (pkc pwc : Nat) (a c i d : Nat) (q : Int) (haa : a ≤ 255) (hcc : c ≤ 255) (hi : a % x.at_.length = i) (hc : c % 4 = d) (w : World) (h : WorldAt w ⟨⟨some ⟨xe, xf, none⟩, xc, pp, ppc, pc, pcc, pi, pic, pb, pbc⟩, some ⟨b, o, none⟩, pac, pk, pkc, pw, pwc⟩ x) (hf : fitsB x = true) (c0 : w.cell? ⟨b, o + i, none⟩ = some (.int .i64 (roomOf x i : Int))) (c1 : w.cell? ⟨xe, xf + roomOf x i * 4 + d, none⟩ = some (.int .i64 (toW x (roomOf x i) d))) : Calls Try.prog 3 #[.agg #[.slice (some ⟨xe, xf, none⟩) x.d.exits.length xc, .slice pp x.d.players.length ppc, .slice pc x.d.coins.length pcc, .slice pi x.d.items.length pic, .slice pb x.d.boxes.length pbc, .int .i64 x.d.room, .int .i64 x.d.player, .int .i64 x.d.box, .slice (some ⟨b, o, none⟩) x.at_.length pac, .slice pk x.coins.length pkc, .slice pw x.wher.length pwc], .int .u8 (a : Int), .int .i64 q, .int .u8 (c : Int)] w fun e w' => e = .returned (.bool true) ∧ Below w.heap.size w w' := by
  have r1 := run_tmod7 a x.at_.length
  have m1 := run_mod7 a x.at_.length
  obtain ⟨r2, m2⟩ := run_four c
  rw [hi] at r1 m1
  rw [hc] at r2 m2
  have FT := Lib.hid (fits_fit hf)
  have hlp : 0 < x.at_.length := (right_lens FT.out.right).1
  have hne : ¬ x.at_ = [] := List.length_pos_iff.1 hlp
  have hil : i < x.at_.length := by rw [← hi]; exact Nat.mod_lt _ hlp
  have hd4 : d < 4 := by rw [← hc]; exact Nat.mod_lt _ (by decide)
  have hd5 : (d : Int) < 4 := by omega
  have hlen6 := (right_lens FT.out.right).2.1
  have hroom := room_at FT.out.right hil
  have hre := hroom.2
  have hel := h.d.ex.len
  obtain ⟨⟨y, r, e⟩, hR⟩ : ∃ R, moveW x i d = R := ⟨_, rfl⟩
  obtain ⟨⟨z, s, f⟩, hP⟩ : ∃ R, pushW x i q d = R := ⟨_, rfl⟩
  have HR := Lib.hid hR
  have HP := Lib.hid hP
  have SY := Lib.hid (show Shape x y by have := move_shape x i d; rwa [hR] at this)
  have SZ := Lib.hid (show Shape x z by have := push_shape x i q d; rwa [hP] at this)
  obtain ⟨t, ht⟩ : ∃ t, toW x (roomOf x i) d = t := ⟨_, rfl⟩
  have HT := Lib.hid (show toW x (roomOf x i) d = t ∧ exA t = max t 0 from ⟨ht, by have := toW_in FT.out.right hre hd4; rw [ht] at this; unfold exA; split <;> omega⟩)
  rw [ht] at c1
  have C0 := Lib.hid c0
  have C1 := Lib.hid c1
  clear hi hc hlp hR hP ht hroom c0 c1
  have H_0 := Lib.hid (Holds.new w #[.slice (some ⟨xe, xf, none⟩) x.d.exits.length xc, .slice pp x.d.players.length ppc, .slice pc x.d.coins.length pcc, .slice pi x.d.items.length pic, .slice pb x.d.boxes.length pbc, .int .i64 x.d.room, .int .i64 x.d.player, .int .i64 x.d.box, .slice (some ⟨b, o, none⟩) x.at_.length pac, .slice pk x.coins.length pkc, .slice pw x.wher.length pwc] 29)
  have HF := Lib.hid hf
  have HWA := Lib.hid h
  clear hf h
  go_enter Try.func3, Try.ntmps3
  go_wp2_with fail
  generalize w.alloc (.cells #[.slice (some ⟨xe, xf, none⟩) x.d.exits.length xc, .slice pp x.d.players.length ppc, .slice pc x.d.coins.length pcc, .slice pi x.d.items.length pic, .slice pb x.d.boxes.length pbc, .int .i64 x.d.room, .int .i64 x.d.player, .int .i64 x.d.box, .slice (some ⟨b, o, none⟩) x.at_.length pac, .slice pk x.coins.length pkc, .slice pw x.wher.length pwc] 29) = V0 at *
  have B_0 := Lib.hid H_0.out.1
  refine (awake8_any _).mono ?_
  rintro e u1 ⟨rfl, b1⟩
  have B_1 := Lib.hid (bl B_0.out b1)
  have H_1 := Lib.hid (H_0.out.call b1)
  clear b1 B_0 H_0
  have hcH := H_1.out.2.2
  have hlH := H_1.out.2.1
  go_wp2_with fail
  refine (fits8_any x ⟨⟨some ⟨xe, xf, none⟩, xc, pp, ppc, pc, pcc, pi, pic, pb, pbc⟩, some ⟨b, o, none⟩, pac, pk, pkc, pw, pwc⟩ _ (HWA.out.below H_1.out.1 (Nat.le_refl _))).mono ?_
  rintro e u2 ⟨rfl, b2⟩
  rw [HF.out]
  clear hcH hlH
  have B_2 := Lib.hid (bl B_1.out b2)
  have H_2 := Lib.hid (H_1.out.call b2)
  clear b2 B_1 H_1
  have hcH := H_2.out.2.2
  have hlH := H_2.out.2.1
  go_wp2_with fail
  refine (move_as (Shape.refl x) ⟨⟨some ⟨xe, xf, none⟩, xc, pp, ppc, pc, pcc, pi, pic, pb, pbc⟩, some ⟨b, o, none⟩, pac, pk, pkc, pw, pwc⟩ i d hd4 _ FT.out.right (HWA.out.below B_2.out (Nat.le_refl _)) hil y r e HR.out).mono ?_
  rintro e u3 ⟨q3, rfl, g3, b3⟩
  clear hcH hlH
  have B_3 := Lib.hid (bl B_2.out b3)
  have H_3 := Lib.hid (H_2.out.call b3)
  have YA_3 := Lib.hid g3
  clear b3 B_2 H_2 g3
  have hcH := H_3.out.2.2
  have hlH := H_3.out.2.1
  go_wp2_with fail
  clear hcH hlH
  have s4 : (u3.alloc (.cells #[.slice q3.d.ex x.d.exits.length q3.d.exc, .slice q3.d.pl x.d.players.length q3.d.plc, .slice q3.d.co x.d.coins.length q3.d.coc, .slice q3.d.it x.d.items.length q3.d.itc, .slice q3.d.bo x.d.boxes.length q3.d.boc, .int .i64 x.d.room, .int .i64 x.d.player, .int .i64 x.d.box, .slice q3.at_ x.at_.length q3.atc, .slice q3.co x.coins.length q3.coc, .slice q3.wh x.wher.length q3.whc] 29)).heap.size = u3.heap.size + 1 := by simp
  have B_4 := Lib.hid (B_3.out.alloc B_3.out.size (.cells #[.slice q3.d.ex x.d.exits.length q3.d.exc, .slice q3.d.pl x.d.players.length q3.d.plc, .slice q3.d.co x.d.coins.length q3.d.coc, .slice q3.d.it x.d.items.length q3.d.itc, .slice q3.d.bo x.d.boxes.length q3.d.boc, .int .i64 x.d.room, .int .i64 x.d.player, .int .i64 x.d.box, .slice q3.at_ x.at_.length q3.atc, .slice q3.co x.coins.length q3.coc, .slice q3.wh x.wher.length q3.whc] 29))
  have H_4 := Lib.hid (H_3.out.alloc (.cells #[.slice q3.d.ex x.d.exits.length q3.d.exc, .slice q3.d.pl x.d.players.length q3.d.plc, .slice q3.d.co x.d.coins.length q3.d.coc, .slice q3.d.it x.d.items.length q3.d.itc, .slice q3.d.bo x.d.boxes.length q3.d.boc, .int .i64 x.d.room, .int .i64 x.d.player, .int .i64 x.d.box, .slice q3.at_ x.at_.length q3.atc, .slice q3.co x.coins.length q3.coc, .slice q3.wh x.wher.length q3.whc] 29))
  have YA_4 := Lib.hid (YA_3.out.call ((Below.refl _ _).alloc (Nat.le_refl _) (.cells #[.slice q3.d.ex x.d.exits.length q3.d.exc, .slice q3.d.pl x.d.players.length q3.d.plc, .slice q3.d.co x.d.coins.length q3.d.coc, .slice q3.d.it x.d.items.length q3.d.itc, .slice q3.d.bo x.d.boxes.length q3.d.boc, .int .i64 x.d.room, .int .i64 x.d.player, .int .i64 x.d.box, .slice q3.at_ x.at_.length q3.atc, .slice q3.co x.coins.length q3.coc, .slice q3.wh x.wher.length q3.whc] 29)))
  have A_4 := Lib.hid (Holds.newb (w := w) (A := #[.slice q3.d.ex x.d.exits.length q3.d.exc, .slice q3.d.pl x.d.players.length q3.d.plc, .slice q3.d.co x.d.coins.length q3.d.coc, .slice q3.d.it x.d.items.length q3.d.itc, .slice q3.d.bo x.d.boxes.length q3.d.boc, .int .i64 x.d.room, .int .i64 x.d.player, .int .i64 x.d.box, .slice q3.at_ x.at_.length q3.atc, .slice q3.co x.coins.length q3.coc, .slice q3.wh x.wher.length q3.whc]) (t := 29) (n := u3.heap.size) B_3.out rfl)
  clear B_3 H_3 YA_3
  generalize u3.alloc (.cells #[.slice q3.d.ex x.d.exits.length q3.d.exc, .slice q3.d.pl x.d.players.length q3.d.plc, .slice q3.d.co x.d.coins.length q3.d.coc, .slice q3.d.it x.d.items.length q3.d.itc, .slice q3.d.bo x.d.boxes.length q3.d.boc, .int .i64 x.d.room, .int .i64 x.d.player, .int .i64 x.d.box, .slice q3.at_ x.at_.length q3.atc, .slice q3.co x.coins.length q3.coc, .slice q3.wh x.wher.length q3.whc] 29) = V4 at *
  have hcH := H_4.out.2.2
  have hlH := H_4.out.2.1
  have hcA := A_4.out.2.2
  have hlA := A_4.out.2.1
  refine (refmove_as (Shape.refl x) ⟨⟨some ⟨xe, xf, none⟩, xc, pp, ppc, pc, pcc, pi, pic, pb, pbc⟩, some ⟨b, o, none⟩, pac, pk, pkc, pw, pwc⟩ i d hd4 _ FT.out.right (HWA.out.below B_4.out (Nat.le_refl _)) hil y r e HR.out).mono ?_
  rintro e u5 ⟨q5, rfl, g5, b5⟩
  clear hcH hlH hcA hlA
  have B_5 := Lib.hid (bl B_4.out b5)
  have H_5 := Lib.hid (H_4.out.call b5)
  have A_5 := Lib.hid (A_4.out.call b5)
  have YA_5 := Lib.hid (YA_4.out.call b5)
  have YB_5 := Lib.hid g5
  clear b5 B_4 H_4 A_4 YA_4 g5
  have hcH := H_5.out.2.2
  have hlH := H_5.out.2.1
  have hcA := A_5.out.2.2
  have hlA := A_5.out.2.1
  go_wp2_with fail
  clear hcH hlH hcA hlA
  have s6 : (u5.alloc (.cells #[.slice q5.d.ex x.d.exits.length q5.d.exc, .slice q5.d.pl x.d.players.length q5.d.plc, .slice q5.d.co x.d.coins.length q5.d.coc, .slice q5.d.it x.d.items.length q5.d.itc, .slice q5.d.bo x.d.boxes.length q5.d.boc, .int .i64 x.d.room, .int .i64 x.d.player, .int .i64 x.d.box, .slice q5.at_ x.at_.length q5.atc, .slice q5.co x.coins.length q5.coc, .slice q5.wh x.wher.length q5.whc] 29)).heap.size = u5.heap.size + 1 := by simp
  have B_6 := Lib.hid (B_5.out.alloc B_5.out.size (.cells #[.slice q5.d.ex x.d.exits.length q5.d.exc, .slice q5.d.pl x.d.players.length q5.d.plc, .slice q5.d.co x.d.coins.length q5.d.coc, .slice q5.d.it x.d.items.length q5.d.itc, .slice q5.d.bo x.d.boxes.length q5.d.boc, .int .i64 x.d.room, .int .i64 x.d.player, .int .i64 x.d.box, .slice q5.at_ x.at_.length q5.atc, .slice q5.co x.coins.length q5.coc, .slice q5.wh x.wher.length q5.whc] 29))
  have H_6 := Lib.hid (H_5.out.alloc (.cells #[.slice q5.d.ex x.d.exits.length q5.d.exc, .slice q5.d.pl x.d.players.length q5.d.plc, .slice q5.d.co x.d.coins.length q5.d.coc, .slice q5.d.it x.d.items.length q5.d.itc, .slice q5.d.bo x.d.boxes.length q5.d.boc, .int .i64 x.d.room, .int .i64 x.d.player, .int .i64 x.d.box, .slice q5.at_ x.at_.length q5.atc, .slice q5.co x.coins.length q5.coc, .slice q5.wh x.wher.length q5.whc] 29))
  have A_6 := Lib.hid (A_5.out.alloc (.cells #[.slice q5.d.ex x.d.exits.length q5.d.exc, .slice q5.d.pl x.d.players.length q5.d.plc, .slice q5.d.co x.d.coins.length q5.d.coc, .slice q5.d.it x.d.items.length q5.d.itc, .slice q5.d.bo x.d.boxes.length q5.d.boc, .int .i64 x.d.room, .int .i64 x.d.player, .int .i64 x.d.box, .slice q5.at_ x.at_.length q5.atc, .slice q5.co x.coins.length q5.coc, .slice q5.wh x.wher.length q5.whc] 29))
  have YA_6 := Lib.hid (YA_5.out.call ((Below.refl _ _).alloc (Nat.le_refl _) (.cells #[.slice q5.d.ex x.d.exits.length q5.d.exc, .slice q5.d.pl x.d.players.length q5.d.plc, .slice q5.d.co x.d.coins.length q5.d.coc, .slice q5.d.it x.d.items.length q5.d.itc, .slice q5.d.bo x.d.boxes.length q5.d.boc, .int .i64 x.d.room, .int .i64 x.d.player, .int .i64 x.d.box, .slice q5.at_ x.at_.length q5.atc, .slice q5.co x.coins.length q5.coc, .slice q5.wh x.wher.length q5.whc] 29)))
  have YB_6 := Lib.hid (YB_5.out.call ((Below.refl _ _).alloc (Nat.le_refl _) (.cells #[.slice q5.d.ex x.d.exits.length q5.d.exc, .slice q5.d.pl x.d.players.length q5.d.plc, .slice q5.d.co x.d.coins.length q5.d.coc, .slice q5.d.it x.d.items.length q5.d.itc, .slice q5.d.bo x.d.boxes.length q5.d.boc, .int .i64 x.d.room, .int .i64 x.d.player, .int .i64 x.d.box, .slice q5.at_ x.at_.length q5.atc, .slice q5.co x.coins.length q5.coc, .slice q5.wh x.wher.length q5.whc] 29)))
  have D_6 := Lib.hid (Holds.newb (w := w) (A := #[.slice q5.d.ex x.d.exits.length q5.d.exc, .slice q5.d.pl x.d.players.length q5.d.plc, .slice q5.d.co x.d.coins.length q5.d.coc, .slice q5.d.it x.d.items.length q5.d.itc, .slice q5.d.bo x.d.boxes.length q5.d.boc, .int .i64 x.d.room, .int .i64 x.d.player, .int .i64 x.d.box, .slice q5.at_ x.at_.length q5.atc, .slice q5.co x.coins.length q5.coc, .slice q5.wh x.wher.length q5.whc]) (t := 29) (n := u5.heap.size) B_5.out rfl)
  clear B_5 H_5 A_5 YA_5 YB_5
  generalize u5.alloc (.cells #[.slice q5.d.ex x.d.exits.length q5.d.exc, .slice q5.d.pl x.d.players.length q5.d.plc, .slice q5.d.co x.d.coins.length q5.d.coc, .slice q5.d.it x.d.items.length q5.d.itc, .slice q5.d.bo x.d.boxes.length q5.d.boc, .int .i64 x.d.room, .int .i64 x.d.player, .int .i64 x.d.box, .slice q5.at_ x.at_.length q5.atc, .slice q5.co x.coins.length q5.coc, .slice q5.wh x.wher.length q5.whc] 29) = V6 at *
  have hcH := H_6.out.2.2
  have hlH := H_6.out.2.1
  have hcA := A_6.out.2.2
  have hlA := A_6.out.2.1
  have hcD := D_6.out.2.2
  have hlD := D_6.out.2.1
  refine (push_as (Shape.refl x) ⟨⟨some ⟨xe, xf, none⟩, xc, pp, ppc, pc, pcc, pi, pic, pb, pbc⟩, some ⟨b, o, none⟩, pac, pk, pkc, pw, pwc⟩ i d hd4 _ FT.out.right (HWA.out.below B_6.out (Nat.le_refl _)) hil z s f q HP.out).mono ?_
  rintro e u7 ⟨q7, rfl, g7, b7⟩
  clear hcH hlH hcA hlA hcD hlD
  have B_7 := Lib.hid (bl B_6.out b7)
  have H_7 := Lib.hid (H_6.out.call b7)
  have A_7 := Lib.hid (A_6.out.call b7)
  have D_7 := Lib.hid (D_6.out.call b7)
  have YA_7 := Lib.hid (YA_6.out.call b7)
  have YB_7 := Lib.hid (YB_6.out.call b7)
  have ZA_7 := Lib.hid g7
  clear b7 B_6 H_6 A_6 D_6 YA_6 YB_6 g7
  have hcH := H_7.out.2.2
  have hlH := H_7.out.2.1
  have hcA := A_7.out.2.2
  have hlA := A_7.out.2.1
  have hcD := D_7.out.2.2
  have hlD := D_7.out.2.1
  go_wp2_with fail
  clear hcH hlH hcA hlA hcD hlD
  have s8 : (u7.alloc (.cells #[.slice q7.d.ex x.d.exits.length q7.d.exc, .slice q7.d.pl x.d.players.length q7.d.plc, .slice q7.d.co x.d.coins.length q7.d.coc, .slice q7.d.it x.d.items.length q7.d.itc, .slice q7.d.bo x.d.boxes.length q7.d.boc, .int .i64 x.d.room, .int .i64 x.d.player, .int .i64 x.d.box, .slice q7.at_ x.at_.length q7.atc, .slice q7.co x.coins.length q7.coc, .slice q7.wh x.wher.length q7.whc] 29)).heap.size = u7.heap.size + 1 := by simp
  have B_8 := Lib.hid (B_7.out.alloc B_7.out.size (.cells #[.slice q7.d.ex x.d.exits.length q7.d.exc, .slice q7.d.pl x.d.players.length q7.d.plc, .slice q7.d.co x.d.coins.length q7.d.coc, .slice q7.d.it x.d.items.length q7.d.itc, .slice q7.d.bo x.d.boxes.length q7.d.boc, .int .i64 x.d.room, .int .i64 x.d.player, .int .i64 x.d.box, .slice q7.at_ x.at_.length q7.atc, .slice q7.co x.coins.length q7.coc, .slice q7.wh x.wher.length q7.whc] 29))
  have H_8 := Lib.hid (H_7.out.alloc (.cells #[.slice q7.d.ex x.d.exits.length q7.d.exc, .slice q7.d.pl x.d.players.length q7.d.plc, .slice q7.d.co x.d.coins.length q7.d.coc, .slice q7.d.it x.d.items.length q7.d.itc, .slice q7.d.bo x.d.boxes.length q7.d.boc, .int .i64 x.d.room, .int .i64 x.d.player, .int .i64 x.d.box, .slice q7.at_ x.at_.length q7.atc, .slice q7.co x.coins.length q7.coc, .slice q7.wh x.wher.length q7.whc] 29))
  have A_8 := Lib.hid (A_7.out.alloc (.cells #[.slice q7.d.ex x.d.exits.length q7.d.exc, .slice q7.d.pl x.d.players.length q7.d.plc, .slice q7.d.co x.d.coins.length q7.d.coc, .slice q7.d.it x.d.items.length q7.d.itc, .slice q7.d.bo x.d.boxes.length q7.d.boc, .int .i64 x.d.room, .int .i64 x.d.player, .int .i64 x.d.box, .slice q7.at_ x.at_.length q7.atc, .slice q7.co x.coins.length q7.coc, .slice q7.wh x.wher.length q7.whc] 29))
  have D_8 := Lib.hid (D_7.out.alloc (.cells #[.slice q7.d.ex x.d.exits.length q7.d.exc, .slice q7.d.pl x.d.players.length q7.d.plc, .slice q7.d.co x.d.coins.length q7.d.coc, .slice q7.d.it x.d.items.length q7.d.itc, .slice q7.d.bo x.d.boxes.length q7.d.boc, .int .i64 x.d.room, .int .i64 x.d.player, .int .i64 x.d.box, .slice q7.at_ x.at_.length q7.atc, .slice q7.co x.coins.length q7.coc, .slice q7.wh x.wher.length q7.whc] 29))
  have YA_8 := Lib.hid (YA_7.out.call ((Below.refl _ _).alloc (Nat.le_refl _) (.cells #[.slice q7.d.ex x.d.exits.length q7.d.exc, .slice q7.d.pl x.d.players.length q7.d.plc, .slice q7.d.co x.d.coins.length q7.d.coc, .slice q7.d.it x.d.items.length q7.d.itc, .slice q7.d.bo x.d.boxes.length q7.d.boc, .int .i64 x.d.room, .int .i64 x.d.player, .int .i64 x.d.box, .slice q7.at_ x.at_.length q7.atc, .slice q7.co x.coins.length q7.coc, .slice q7.wh x.wher.length q7.whc] 29)))
  have YB_8 := Lib.hid (YB_7.out.call ((Below.refl _ _).alloc (Nat.le_refl _) (.cells #[.slice q7.d.ex x.d.exits.length q7.d.exc, .slice q7.d.pl x.d.players.length q7.d.plc, .slice q7.d.co x.d.coins.length q7.d.coc, .slice q7.d.it x.d.items.length q7.d.itc, .slice q7.d.bo x.d.boxes.length q7.d.boc, .int .i64 x.d.room, .int .i64 x.d.player, .int .i64 x.d.box, .slice q7.at_ x.at_.length q7.atc, .slice q7.co x.coins.length q7.coc, .slice q7.wh x.wher.length q7.whc] 29)))
  have ZA_8 := Lib.hid (ZA_7.out.call ((Below.refl _ _).alloc (Nat.le_refl _) (.cells #[.slice q7.d.ex x.d.exits.length q7.d.exc, .slice q7.d.pl x.d.players.length q7.d.plc, .slice q7.d.co x.d.coins.length q7.d.coc, .slice q7.d.it x.d.items.length q7.d.itc, .slice q7.d.bo x.d.boxes.length q7.d.boc, .int .i64 x.d.room, .int .i64 x.d.player, .int .i64 x.d.box, .slice q7.at_ x.at_.length q7.atc, .slice q7.co x.coins.length q7.coc, .slice q7.wh x.wher.length q7.whc] 29)))
  have E_8 := Lib.hid (Holds.newb (w := w) (A := #[.slice q7.d.ex x.d.exits.length q7.d.exc, .slice q7.d.pl x.d.players.length q7.d.plc, .slice q7.d.co x.d.coins.length q7.d.coc, .slice q7.d.it x.d.items.length q7.d.itc, .slice q7.d.bo x.d.boxes.length q7.d.boc, .int .i64 x.d.room, .int .i64 x.d.player, .int .i64 x.d.box, .slice q7.at_ x.at_.length q7.atc, .slice q7.co x.coins.length q7.coc, .slice q7.wh x.wher.length q7.whc]) (t := 29) (n := u7.heap.size) B_7.out rfl)
  clear B_7 H_7 A_7 D_7 YA_7 YB_7 ZA_7
  generalize u7.alloc (.cells #[.slice q7.d.ex x.d.exits.length q7.d.exc, .slice q7.d.pl x.d.players.length q7.d.plc, .slice q7.d.co x.d.coins.length q7.d.coc, .slice q7.d.it x.d.items.length q7.d.itc, .slice q7.d.bo x.d.boxes.length q7.d.boc, .int .i64 x.d.room, .int .i64 x.d.player, .int .i64 x.d.box, .slice q7.at_ x.at_.length q7.atc, .slice q7.co x.coins.length q7.coc, .slice q7.wh x.wher.length q7.whc] 29) = V8 at *
  have hcH := H_8.out.2.2
  have hlH := H_8.out.2.1
  have hcA := A_8.out.2.2
  have hlA := A_8.out.2.1
  have hcD := D_8.out.2.2
  have hlD := D_8.out.2.1
  have hcE := E_8.out.2.2
  have hlE := E_8.out.2.1
  refine (refpush_as (Shape.refl x) ⟨⟨some ⟨xe, xf, none⟩, xc, pp, ppc, pc, pcc, pi, pic, pb, pbc⟩, some ⟨b, o, none⟩, pac, pk, pkc, pw, pwc⟩ i d hd4 _ FT.out.right (HWA.out.below B_8.out (Nat.le_refl _)) hil z s f q HP.out).mono ?_
  rintro e u9 ⟨q9, rfl, g9, b9⟩
  clear hcH hlH hcA hlA hcD hlD hcE hlE
  have B_9 := Lib.hid (bl B_8.out b9)
  have H_9 := Lib.hid (H_8.out.call b9)
  have A_9 := Lib.hid (A_8.out.call b9)
  have D_9 := Lib.hid (D_8.out.call b9)
  have E_9 := Lib.hid (E_8.out.call b9)
  have YA_9 := Lib.hid (YA_8.out.call b9)
  have YB_9 := Lib.hid (YB_8.out.call b9)
  have ZA_9 := Lib.hid (ZA_8.out.call b9)
  have ZB_9 := Lib.hid g9
  clear b9 B_8 H_8 A_8 D_8 E_8 YA_8 YB_8 ZA_8 g9
  have hcH := H_9.out.2.2
  have hlH := H_9.out.2.1
  have hcA := A_9.out.2.2
  have hlA := A_9.out.2.1
  have hcD := D_9.out.2.2
  have hlD := D_9.out.2.1
  have hcE := E_9.out.2.2
  have hlE := E_9.out.2.1
  go_wp2_with fail
  clear hcH hlH hcA hlA hcD hlD hcE hlE
  have s10 : (u9.alloc (.cells #[.slice q9.d.ex x.d.exits.length q9.d.exc, .slice q9.d.pl x.d.players.length q9.d.plc, .slice q9.d.co x.d.coins.length q9.d.coc, .slice q9.d.it x.d.items.length q9.d.itc, .slice q9.d.bo x.d.boxes.length q9.d.boc, .int .i64 x.d.room, .int .i64 x.d.player, .int .i64 x.d.box, .slice q9.at_ x.at_.length q9.atc, .slice q9.co x.coins.length q9.coc, .slice q9.wh x.wher.length q9.whc] 29)).heap.size = u9.heap.size + 1 := by simp
  have B_10 := Lib.hid (B_9.out.alloc B_9.out.size (.cells #[.slice q9.d.ex x.d.exits.length q9.d.exc, .slice q9.d.pl x.d.players.length q9.d.plc, .slice q9.d.co x.d.coins.length q9.d.coc, .slice q9.d.it x.d.items.length q9.d.itc, .slice q9.d.bo x.d.boxes.length q9.d.boc, .int .i64 x.d.room, .int .i64 x.d.player, .int .i64 x.d.box, .slice q9.at_ x.at_.length q9.atc, .slice q9.co x.coins.length q9.coc, .slice q9.wh x.wher.length q9.whc] 29))
  have H_10 := Lib.hid (H_9.out.alloc (.cells #[.slice q9.d.ex x.d.exits.length q9.d.exc, .slice q9.d.pl x.d.players.length q9.d.plc, .slice q9.d.co x.d.coins.length q9.d.coc, .slice q9.d.it x.d.items.length q9.d.itc, .slice q9.d.bo x.d.boxes.length q9.d.boc, .int .i64 x.d.room, .int .i64 x.d.player, .int .i64 x.d.box, .slice q9.at_ x.at_.length q9.atc, .slice q9.co x.coins.length q9.coc, .slice q9.wh x.wher.length q9.whc] 29))
  have A_10 := Lib.hid (A_9.out.alloc (.cells #[.slice q9.d.ex x.d.exits.length q9.d.exc, .slice q9.d.pl x.d.players.length q9.d.plc, .slice q9.d.co x.d.coins.length q9.d.coc, .slice q9.d.it x.d.items.length q9.d.itc, .slice q9.d.bo x.d.boxes.length q9.d.boc, .int .i64 x.d.room, .int .i64 x.d.player, .int .i64 x.d.box, .slice q9.at_ x.at_.length q9.atc, .slice q9.co x.coins.length q9.coc, .slice q9.wh x.wher.length q9.whc] 29))
  have D_10 := Lib.hid (D_9.out.alloc (.cells #[.slice q9.d.ex x.d.exits.length q9.d.exc, .slice q9.d.pl x.d.players.length q9.d.plc, .slice q9.d.co x.d.coins.length q9.d.coc, .slice q9.d.it x.d.items.length q9.d.itc, .slice q9.d.bo x.d.boxes.length q9.d.boc, .int .i64 x.d.room, .int .i64 x.d.player, .int .i64 x.d.box, .slice q9.at_ x.at_.length q9.atc, .slice q9.co x.coins.length q9.coc, .slice q9.wh x.wher.length q9.whc] 29))
  have E_10 := Lib.hid (E_9.out.alloc (.cells #[.slice q9.d.ex x.d.exits.length q9.d.exc, .slice q9.d.pl x.d.players.length q9.d.plc, .slice q9.d.co x.d.coins.length q9.d.coc, .slice q9.d.it x.d.items.length q9.d.itc, .slice q9.d.bo x.d.boxes.length q9.d.boc, .int .i64 x.d.room, .int .i64 x.d.player, .int .i64 x.d.box, .slice q9.at_ x.at_.length q9.atc, .slice q9.co x.coins.length q9.coc, .slice q9.wh x.wher.length q9.whc] 29))
  have YA_10 := Lib.hid (YA_9.out.call ((Below.refl _ _).alloc (Nat.le_refl _) (.cells #[.slice q9.d.ex x.d.exits.length q9.d.exc, .slice q9.d.pl x.d.players.length q9.d.plc, .slice q9.d.co x.d.coins.length q9.d.coc, .slice q9.d.it x.d.items.length q9.d.itc, .slice q9.d.bo x.d.boxes.length q9.d.boc, .int .i64 x.d.room, .int .i64 x.d.player, .int .i64 x.d.box, .slice q9.at_ x.at_.length q9.atc, .slice q9.co x.coins.length q9.coc, .slice q9.wh x.wher.length q9.whc] 29)))
  have YB_10 := Lib.hid (YB_9.out.call ((Below.refl _ _).alloc (Nat.le_refl _) (.cells #[.slice q9.d.ex x.d.exits.length q9.d.exc, .slice q9.d.pl x.d.players.length q9.d.plc, .slice q9.d.co x.d.coins.length q9.d.coc, .slice q9.d.it x.d.items.length q9.d.itc, .slice q9.d.bo x.d.boxes.length q9.d.boc, .int .i64 x.d.room, .int .i64 x.d.player, .int .i64 x.d.box, .slice q9.at_ x.at_.length q9.atc, .slice q9.co x.coins.length q9.coc, .slice q9.wh x.wher.length q9.whc] 29)))
  have ZA_10 := Lib.hid (ZA_9.out.call ((Below.refl _ _).alloc (Nat.le_refl _) (.cells #[.slice q9.d.ex x.d.exits.length q9.d.exc, .slice q9.d.pl x.d.players.length q9.d.plc, .slice q9.d.co x.d.coins.length q9.d.coc, .slice q9.d.it x.d.items.length q9.d.itc, .slice q9.d.bo x.d.boxes.length q9.d.boc, .int .i64 x.d.room, .int .i64 x.d.player, .int .i64 x.d.box, .slice q9.at_ x.at_.length q9.atc, .slice q9.co x.coins.length q9.coc, .slice q9.wh x.wher.length q9.whc] 29)))
  have ZB_10 := Lib.hid (ZB_9.out.call ((Below.refl _ _).alloc (Nat.le_refl _) (.cells #[.slice q9.d.ex x.d.exits.length q9.d.exc, .slice q9.d.pl x.d.players.length q9.d.plc, .slice q9.d.co x.d.coins.length q9.d.coc, .slice q9.d.it x.d.items.length q9.d.itc, .slice q9.d.bo x.d.boxes.length q9.d.boc, .int .i64 x.d.room, .int .i64 x.d.player, .int .i64 x.d.box, .slice q9.at_ x.at_.length q9.atc, .slice q9.co x.coins.length q9.coc, .slice q9.wh x.wher.length q9.whc] 29)))
  have G_10 := Lib.hid (Holds.newb (w := w) (A := #[.slice q9.d.ex x.d.exits.length q9.d.exc, .slice q9.d.pl x.d.players.length q9.d.plc, .slice q9.d.co x.d.coins.length q9.d.coc, .slice q9.d.it x.d.items.length q9.d.itc, .slice q9.d.bo x.d.boxes.length q9.d.boc, .int .i64 x.d.room, .int .i64 x.d.player, .int .i64 x.d.box, .slice q9.at_ x.at_.length q9.atc, .slice q9.co x.coins.length q9.coc, .slice q9.wh x.wher.length q9.whc]) (t := 29) (n := u9.heap.size) B_9.out rfl)
  clear B_9 H_9 A_9 D_9 E_9 YA_9 YB_9 ZA_9 ZB_9
  generalize u9.alloc (.cells #[.slice q9.d.ex x.d.exits.length q9.d.exc, .slice q9.d.pl x.d.players.length q9.d.plc, .slice q9.d.co x.d.coins.length q9.d.coc, .slice q9.d.it x.d.items.length q9.d.itc, .slice q9.d.bo x.d.boxes.length q9.d.boc, .int .i64 x.d.room, .int .i64 x.d.player, .int .i64 x.d.box, .slice q9.at_ x.at_.length q9.atc, .slice q9.co x.coins.length q9.coc, .slice q9.wh x.wher.length q9.whc] 29) = V10 at *
  have hcH := H_10.out.2.2
  have hlH := H_10.out.2.1
  have hcA := A_10.out.2.2
  have hlA := A_10.out.2.1
  have hcD := D_10.out.2.2
  have hlD := D_10.out.2.1
  have hcE := E_10.out.2.2
  have hlE := E_10.out.2.1
  have hcG := G_10.out.2.2
  have hlG := G_10.out.2.1
  have KS : Hid (∀ w', Below V10.heap.size V10 w' → Below V10.heap.size V10 w' ∧ (∀ i, w'.cell? ⟨w.heap.size, i, none⟩ = (#[.slice (some ⟨xe, xf, none⟩) x.d.exits.length xc, .slice pp x.d.players.length ppc, .slice pc x.d.coins.length pcc, .slice pi x.d.items.length pic, .slice pb x.d.boxes.length pbc, .int .i64 x.d.room, .int .i64 x.d.player, .int .i64 x.d.box, .slice (some ⟨b, o, none⟩) x.at_.length pac, .slice pk x.coins.length pkc, .slice pw x.wher.length pwc][i]? : Option Value)) ∧ w'.cell? ⟨b, o + i, none⟩ = some (.int .i64 (roomOf x i : Int)) ∧ w'.cell? ⟨xe, xf + roomOf x i * 4 + d, none⟩ = some (.int .i64 t)) := Lib.hid (fun w' hb => ⟨hb, fun i => (hb.cell (p := ⟨w.heap.size, i, none⟩) H_10.out.2.1).trans (H_10.out.2.2 i), cell_call (cell_call C0.out B_10.out) hb, cell_call (cell_call C1.out B_10.out) hb⟩)
  clear hcH hlH hcA hlA hcD hlD hcE hlE hcG hlG
  refine wp_region_noPanic ?_
  refine wp_region_held_drew (S := (fun w' => Below V10.heap.size V10 w' ∧ (∀ i, w'.cell? ⟨w.heap.size, i, none⟩ = (#[.slice (some ⟨xe, xf, none⟩) x.d.exits.length xc, .slice pp x.d.players.length ppc, .slice pc x.d.coins.length pcc, .slice pi x.d.items.length pic, .slice pb x.d.boxes.length pbc, .int .i64 x.d.room, .int .i64 x.d.player, .int .i64 x.d.box, .slice (some ⟨b, o, none⟩) x.at_.length pac, .slice pk x.coins.length pkc, .slice pw x.wher.length pwc][i]? : Option Value)) ∧ w'.cell? ⟨b, o + i, none⟩ = some (.int .i64 (roomOf x i : Int)) ∧ w'.cell? ⟨xe, xf + roomOf x i * 4 + d, none⟩ = some (.int .i64 t))) (by kernel_rfl) (by (first | (with_reducible exact KS.out _ (bdrew1 (Below.refl _ _))) | (with_reducible exact KS.out _ (below_call hHeld.1 hHeld.1.size hb9)) | (with_reducible exact hHeld))) (fun hHeld => ?_)
  first
    | (refine wpAnyH_take (i := 0) (v := undef) (by simp only [List.getElem?_toArray, List.getElem?_cons_zero]; rfl) (by kernel_rfl) (by kernel_rfl) (by kernel_rfl) (fun _ _ _ h => h) (Or.inr ⟨by rfl, rfl⟩) (by assumption) ?_; try simp only [Act.put, List.setIfInBounds_toArray, List.set_cons_zero, List.set_cons_succ])
    | (refine wpAnyH_take (i := 0) (v := ?_) (by simp only [List.getElem?_toArray, List.getElem?_cons_zero]; rfl) (by kernel_rfl) (by kernel_rfl) (by kernel_rfl) (fun _ _ _ h => h) (Or.inl ⟨by rfl, ?_⟩) (by assumption) ?_
       rotate_left
       · (intro ww hSw; (try dsimp only at hSw); go_simp; (try with_reducible rfl))
       try simp only [Act.put, List.setIfInBounds_toArray, List.set_cons_zero, List.set_cons_succ])
    | (refine wpAnyH_ready (rs := [0]) (by kernel_rfl) (by simp) (AllReadyH.cons (by simp only [List.getElem?_toArray, List.getElem?_cons_succ, List.getElem?_cons_zero]; rfl) (fun K hK => ?_) AllReadyH.nil)
       go_simp
       first
         | (fail)
       try go_wp2_with fail
       refine hK.out _ _ (by (first | (with_reducible exact KS.out _ (bdrew1 (Below.refl _ _))) | (with_reducible exact KS.out _ (below_call hHeld.1 hHeld.1.size hb9)) | (with_reducible exact hHeld))) (fun hHeld => ?_)
       clear hK K
       try simp only [Act.put, List.setIfInBounds_toArray, List.set_cons_zero, List.set_cons_succ])
  first
    | (refine wpAnyH_take (i := 1) (v := undef) (by simp only [List.getElem?_toArray, List.getElem?_cons_succ, List.getElem?_cons_zero]; rfl) (by kernel_rfl) (by kernel_rfl) (by kernel_rfl) (fun _ _ _ h => h) (Or.inr ⟨by rfl, rfl⟩) (by assumption) ?_; try simp only [Act.put, List.setIfInBounds_toArray, List.set_cons_zero, List.set_cons_succ])
    | (refine wpAnyH_take (i := 1) (v := ?_) (by simp only [List.getElem?_toArray, List.getElem?_cons_succ, List.getElem?_cons_zero]; rfl) (by kernel_rfl) (by kernel_rfl) (by kernel_rfl) (fun _ _ _ h => h) (Or.inl ⟨by rfl, ?_⟩) (by assumption) ?_
       rotate_left
       · (intro ww hSw; (try dsimp only at hSw); go_simp; (try with_reducible rfl))
       try simp only [Act.put, List.setIfInBounds_toArray, List.set_cons_zero, List.set_cons_succ])
    | (refine wpAnyH_ready (rs := [1]) (by kernel_rfl) (by simp) (AllReadyH.cons (by simp only [List.getElem?_toArray, List.getElem?_cons_succ, List.getElem?_cons_zero]; rfl) (fun K hK => ?_) AllReadyH.nil)
       go_simp
       first
         | (fail)
       try go_wp2_with fail
       refine hK.out _ _ (by (first | (with_reducible exact KS.out _ (bdrew1 (Below.refl _ _))) | (with_reducible exact KS.out _ (below_call hHeld.1 hHeld.1.size hb9)) | (with_reducible exact hHeld))) (fun hHeld => ?_)
       clear hK K
       try simp only [Act.put, List.setIfInBounds_toArray, List.set_cons_zero, List.set_cons_succ])
  first
    | (refine wpAnyH_take (i := 2) (v := undef) (by simp only [List.getElem?_toArray, List.getElem?_cons_succ, List.getElem?_cons_zero]; rfl) (by kernel_rfl) (by kernel_rfl) (by kernel_rfl) (fun _ _ _ h => h) (Or.inr ⟨by rfl, rfl⟩) (by assumption) ?_; try simp only [Act.put, List.setIfInBounds_toArray, List.set_cons_zero, List.set_cons_succ])
    | (refine wpAnyH_take (i := 2) (v := ?_) (by simp only [List.getElem?_toArray, List.getElem?_cons_succ, List.getElem?_cons_zero]; rfl) (by kernel_rfl) (by kernel_rfl) (by kernel_rfl) (fun _ _ _ h => h) (Or.inl ⟨by rfl, ?_⟩) (by assumption) ?_
       rotate_left
       · (intro ww hSw; (try dsimp only at hSw); go_simp; (try with_reducible rfl))
       try simp only [Act.put, List.setIfInBounds_toArray, List.set_cons_zero, List.set_cons_succ])
    | (refine wpAnyH_ready (rs := [2]) (by kernel_rfl) (by simp) (AllReadyH.cons (by simp only [List.getElem?_toArray, List.getElem?_cons_succ, List.getElem?_cons_zero]; rfl) (fun K hK => ?_) AllReadyH.nil)
       go_simp
       first
         | (fail)
       try go_wp2_with fail
       refine hK.out _ _ (by (first | (with_reducible exact KS.out _ (bdrew1 (Below.refl _ _))) | (with_reducible exact KS.out _ (below_call hHeld.1 hHeld.1.size hb9)) | (with_reducible exact hHeld))) (fun hHeld => ?_)
       clear hK K
       try simp only [Act.put, List.setIfInBounds_toArray, List.set_cons_zero, List.set_cons_succ])
  first
    | (refine wpAnyH_take (i := 3) (v := undef) (by simp only [List.getElem?_toArray, List.getElem?_cons_succ, List.getElem?_cons_zero]; rfl) (by kernel_rfl) (by kernel_rfl) (by kernel_rfl) (fun _ _ _ h => h) (Or.inr ⟨by rfl, rfl⟩) (by assumption) ?_; try simp only [Act.put, List.setIfInBounds_toArray, List.set_cons_zero, List.set_cons_succ])
    | (refine wpAnyH_take (i := 3) (v := ?_) (by simp only [List.getElem?_toArray, List.getElem?_cons_succ, List.getElem?_cons_zero]; rfl) (by kernel_rfl) (by kernel_rfl) (by kernel_rfl) (fun _ _ _ h => h) (Or.inl ⟨by rfl, ?_⟩) (by assumption) ?_
       rotate_left
       · (intro ww hSw; (try dsimp only at hSw); go_simp; (try with_reducible rfl))
       try simp only [Act.put, List.setIfInBounds_toArray, List.set_cons_zero, List.set_cons_succ])
    | (refine wpAnyH_ready (rs := [3]) (by kernel_rfl) (by simp) (AllReadyH.cons (by simp only [List.getElem?_toArray, List.getElem?_cons_succ, List.getElem?_cons_zero]; rfl) (fun K hK => ?_) AllReadyH.nil)
       go_simp
       first
         | (fail)
       try go_wp2_with fail
       refine hK.out _ _ (by (first | (with_reducible exact KS.out _ (bdrew1 (Below.refl _ _))) | (with_reducible exact KS.out _ (below_call hHeld.1 hHeld.1.size hb9)) | (with_reducible exact hHeld))) (fun hHeld => ?_)
       clear hK K
       try simp only [Act.put, List.setIfInBounds_toArray, List.set_cons_zero, List.set_cons_succ])
  first
    | (refine wpAnyH_take (i := 4) (v := undef) (by simp only [List.getElem?_toArray, List.getElem?_cons_succ, List.getElem?_cons_zero]; rfl) (by kernel_rfl) (by kernel_rfl) (by kernel_rfl) (fun _ _ _ h => h) (Or.inr ⟨by rfl, rfl⟩) (by assumption) ?_; try simp only [Act.put, List.setIfInBounds_toArray, List.set_cons_zero, List.set_cons_succ])
    | (refine wpAnyH_take (i := 4) (v := ?_) (by simp only [List.getElem?_toArray, List.getElem?_cons_succ, List.getElem?_cons_zero]; rfl) (by kernel_rfl) (by kernel_rfl) (by kernel_rfl) (fun _ _ _ h => h) (Or.inl ⟨by rfl, ?_⟩) (by assumption) ?_
       rotate_left
       · (intro ww hSw; (try dsimp only at hSw); go_simp; (try with_reducible rfl))
       try simp only [Act.put, List.setIfInBounds_toArray, List.set_cons_zero, List.set_cons_succ])
    | (refine wpAnyH_ready (rs := [4]) (by kernel_rfl) (by simp) (AllReadyH.cons (by simp only [List.getElem?_toArray, List.getElem?_cons_succ, List.getElem?_cons_zero]; rfl) (fun K hK => ?_) AllReadyH.nil)
       go_simp
       first
         | (fail)
       try go_wp2_with fail
       refine hK.out _ _ (by (first | (with_reducible exact KS.out _ (bdrew1 (Below.refl _ _))) | (with_reducible exact KS.out _ (below_call hHeld.1 hHeld.1.size hb9)) | (with_reducible exact hHeld))) (fun hHeld => ?_)
       clear hK K
       try simp only [Act.put, List.setIfInBounds_toArray, List.set_cons_zero, List.set_cons_succ])
  first
    | (refine wpAnyH_take (i := 5) (v := undef) (by simp only [List.getElem?_toArray, List.getElem?_cons_succ, List.getElem?_cons_zero]; rfl) (by kernel_rfl) (by kernel_rfl) (by kernel_rfl) (fun _ _ _ h => h) (Or.inr ⟨by rfl, rfl⟩) (by assumption) ?_; try simp only [Act.put, List.setIfInBounds_toArray, List.set_cons_zero, List.set_cons_succ])
    | (refine wpAnyH_take (i := 5) (v := ?_) (by simp only [List.getElem?_toArray, List.getElem?_cons_succ, List.getElem?_cons_zero]; rfl) (by kernel_rfl) (by kernel_rfl) (by kernel_rfl) (fun _ _ _ h => h) (Or.inl ⟨by rfl, ?_⟩) (by assumption) ?_
       rotate_left
       · (intro ww hSw; (try dsimp only at hSw); go_simp; (try with_reducible rfl))
       try simp only [Act.put, List.setIfInBounds_toArray, List.set_cons_zero, List.set_cons_succ])
    | (refine wpAnyH_ready (rs := [5]) (by kernel_rfl) (by simp) (AllReadyH.cons (by simp only [List.getElem?_toArray, List.getElem?_cons_succ, List.getElem?_cons_zero]; rfl) (fun K hK => ?_) AllReadyH.nil)
       go_simp
       first
         | (fail)
       try go_wp2_with fail
       refine hK.out _ _ (by (first | (with_reducible exact KS.out _ (bdrew1 (Below.refl _ _))) | (with_reducible exact KS.out _ (below_call hHeld.1 hHeld.1.size hb9)) | (with_reducible exact hHeld))) (fun hHeld => ?_)
       clear hK K
       try simp only [Act.put, List.setIfInBounds_toArray, List.set_cons_zero, List.set_cons_succ])
  first
    | (refine wpAnyH_take (i := 6) (v := undef) (by simp only [List.getElem?_toArray, List.getElem?_cons_succ, List.getElem?_cons_zero]; rfl) (by kernel_rfl) (by kernel_rfl) (by kernel_rfl) (fun _ _ _ h => h) (Or.inr ⟨by rfl, rfl⟩) (by assumption) ?_; try simp only [Act.put, List.setIfInBounds_toArray, List.set_cons_zero, List.set_cons_succ])
    | (refine wpAnyH_take (i := 6) (v := ?_) (by simp only [List.getElem?_toArray, List.getElem?_cons_succ, List.getElem?_cons_zero]; rfl) (by kernel_rfl) (by kernel_rfl) (by kernel_rfl) (fun _ _ _ h => h) (Or.inl ⟨by rfl, ?_⟩) (by assumption) ?_
       rotate_left
       · (intro ww hSw; (try dsimp only at hSw); go_simp; (try with_reducible rfl))
       try simp only [Act.put, List.setIfInBounds_toArray, List.set_cons_zero, List.set_cons_succ])
    | (refine wpAnyH_ready (rs := [6]) (by kernel_rfl) (by simp) (AllReadyH.cons (by simp only [List.getElem?_toArray, List.getElem?_cons_succ, List.getElem?_cons_zero]; rfl) (fun K hK => ?_) AllReadyH.nil)
       go_simp
       first
         | (fail)
       try go_wp2_with fail
       refine hK.out _ _ (by (first | (with_reducible exact KS.out _ (bdrew1 (Below.refl _ _))) | (with_reducible exact KS.out _ (below_call hHeld.1 hHeld.1.size hb9)) | (with_reducible exact hHeld))) (fun hHeld => ?_)
       clear hK K
       try simp only [Act.put, List.setIfInBounds_toArray, List.set_cons_zero, List.set_cons_succ])
  refine wpAnyH_ready (rs := [7]) (by kernel_rfl) (by simp) (AllReadyH.cons (by simp only [List.getElem?_toArray, List.getElem?_cons_succ, List.getElem?_cons_zero]; rfl) (fun K hK => ?_) AllReadyH.nil)
  go_simp; refine (exit_any x ⟨⟨some ⟨xe, xf, none⟩, xc, pp, ppc, pc, pcc, pi, pic, pb, pbc⟩, some ⟨b, o, none⟩, pac, pk, pkc, pw, pwc⟩ (roomOf x i) d hre hd4 _ (HWA.out.d.ex.below (below_call B_10.out B_10.out.size hHeld.1) (Nat.le_refl _))).mono ?_; rintro e w9 ⟨rfl, hb9⟩; rw [HT.out.1, HT.out.2]; try go_wp2_with fail
  refine hK.out _ _ (by (first | (with_reducible exact KS.out _ (bdrew1 (Below.refl _ _))) | (with_reducible exact KS.out _ (below_call hHeld.1 hHeld.1.size hb9)) | (with_reducible exact hHeld))) (fun hHeld => ?_)
  clear hK K
  try simp only [Act.put, List.setIfInBounds_toArray, List.set_cons_zero, List.set_cons_succ]
  first
    | (refine wpAnyH_take (i := 8) (v := undef) (by simp only [List.getElem?_toArray, List.getElem?_cons_succ, List.getElem?_cons_zero]; rfl) (by kernel_rfl) (by kernel_rfl) (by kernel_rfl) (fun _ _ _ h => h) (Or.inr ⟨by rfl, rfl⟩) (by assumption) ?_; try simp only [Act.put, List.setIfInBounds_toArray, List.set_cons_zero, List.set_cons_succ])
    | (refine wpAnyH_take (i := 8) (v := ?_) (by simp only [List.getElem?_toArray, List.getElem?_cons_succ, List.getElem?_cons_zero]; rfl) (by kernel_rfl) (by kernel_rfl) (by kernel_rfl) (fun _ _ _ h => h) (Or.inl ⟨by rfl, ?_⟩) (by assumption) ?_
       rotate_left
       · (intro ww hSw; (try dsimp only at hSw); go_simp; (try with_reducible rfl))
       try simp only [Act.put, List.setIfInBounds_toArray, List.set_cons_zero, List.set_cons_succ])
    | (refine wpAnyH_ready (rs := [8]) (by kernel_rfl) (by simp) (AllReadyH.cons (by simp only [List.getElem?_toArray, List.getElem?_cons_succ, List.getElem?_cons_zero]; rfl) (fun K hK => ?_) AllReadyH.nil)
       go_simp
       first
         | (fail)
       try go_wp2_with fail
       refine hK.out _ _ (by (first | (with_reducible exact KS.out _ (bdrew1 (Below.refl _ _))) | (with_reducible exact KS.out _ (below_call hHeld.1 hHeld.1.size hb9)) | (with_reducible exact hHeld))) (fun hHeld => ?_)
       clear hK K
       try simp only [Act.put, List.setIfInBounds_toArray, List.set_cons_zero, List.set_cons_succ])
  first
    | (refine wpAnyH_take (i := 9) (v := undef) (by simp only [List.getElem?_toArray, List.getElem?_cons_succ, List.getElem?_cons_zero]; rfl) (by kernel_rfl) (by kernel_rfl) (by kernel_rfl) (fun _ _ _ h => h) (Or.inr ⟨by rfl, rfl⟩) (by assumption) ?_; try simp only [Act.put, List.setIfInBounds_toArray, List.set_cons_zero, List.set_cons_succ])
    | (refine wpAnyH_take (i := 9) (v := ?_) (by simp only [List.getElem?_toArray, List.getElem?_cons_succ, List.getElem?_cons_zero]; rfl) (by kernel_rfl) (by kernel_rfl) (by kernel_rfl) (fun _ _ _ h => h) (Or.inl ⟨by rfl, ?_⟩) (by assumption) ?_
       rotate_left
       · (intro ww hSw; (try dsimp only at hSw); go_simp; (try with_reducible rfl))
       try simp only [Act.put, List.setIfInBounds_toArray, List.set_cons_zero, List.set_cons_succ])
    | (refine wpAnyH_ready (rs := [9]) (by kernel_rfl) (by simp) (AllReadyH.cons (by simp only [List.getElem?_toArray, List.getElem?_cons_succ, List.getElem?_cons_zero]; rfl) (fun K hK => ?_) AllReadyH.nil)
       go_simp
       first
         | (fail)
       try go_wp2_with fail
       refine hK.out _ _ (by (first | (with_reducible exact KS.out _ (bdrew1 (Below.refl _ _))) | (with_reducible exact KS.out _ (below_call hHeld.1 hHeld.1.size hb9)) | (with_reducible exact hHeld))) (fun hHeld => ?_)
       clear hK K
       try simp only [Act.put, List.setIfInBounds_toArray, List.set_cons_zero, List.set_cons_succ])
  first
    | (refine wpAnyH_take (i := 10) (v := undef) (by simp only [List.getElem?_toArray, List.getElem?_cons_succ, List.getElem?_cons_zero]; rfl) (by kernel_rfl) (by kernel_rfl) (by kernel_rfl) (fun _ _ _ h => h) (Or.inr ⟨by rfl, rfl⟩) (by assumption) ?_; try simp only [Act.put, List.setIfInBounds_toArray, List.set_cons_zero, List.set_cons_succ])
    | (refine wpAnyH_take (i := 10) (v := ?_) (by simp only [List.getElem?_toArray, List.getElem?_cons_succ, List.getElem?_cons_zero]; rfl) (by kernel_rfl) (by kernel_rfl) (by kernel_rfl) (fun _ _ _ h => h) (Or.inl ⟨by rfl, ?_⟩) (by assumption) ?_
       rotate_left
       · (intro ww hSw; (try dsimp only at hSw); go_simp; (try with_reducible rfl))
       try simp only [Act.put, List.setIfInBounds_toArray, List.set_cons_zero, List.set_cons_succ])
    | (refine wpAnyH_ready (rs := [10]) (by kernel_rfl) (by simp) (AllReadyH.cons (by simp only [List.getElem?_toArray, List.getElem?_cons_succ, List.getElem?_cons_zero]; rfl) (fun K hK => ?_) AllReadyH.nil)
       go_simp
       first
         | (fail)
       try go_wp2_with fail
       refine hK.out _ _ (by (first | (with_reducible exact KS.out _ (bdrew1 (Below.refl _ _))) | (with_reducible exact KS.out _ (below_call hHeld.1 hHeld.1.size hb9)) | (with_reducible exact hHeld))) (fun hHeld => ?_)
       clear hK K
       try simp only [Act.put, List.setIfInBounds_toArray, List.set_cons_zero, List.set_cons_succ])
  first
    | (refine wpAnyH_take (i := 11) (v := undef) (by simp only [List.getElem?_toArray, List.getElem?_cons_succ, List.getElem?_cons_zero]; rfl) (by kernel_rfl) (by kernel_rfl) (by kernel_rfl) (fun _ _ _ h => h) (Or.inr ⟨by rfl, rfl⟩) (by assumption) ?_; try simp only [Act.put, List.setIfInBounds_toArray, List.set_cons_zero, List.set_cons_succ])
    | (refine wpAnyH_take (i := 11) (v := ?_) (by simp only [List.getElem?_toArray, List.getElem?_cons_succ, List.getElem?_cons_zero]; rfl) (by kernel_rfl) (by kernel_rfl) (by kernel_rfl) (fun _ _ _ h => h) (Or.inl ⟨by rfl, ?_⟩) (by assumption) ?_
       rotate_left
       · (intro ww hSw; (try dsimp only at hSw); go_simp; (try with_reducible rfl))
       try simp only [Act.put, List.setIfInBounds_toArray, List.set_cons_zero, List.set_cons_succ])
    | (refine wpAnyH_ready (rs := [11]) (by kernel_rfl) (by simp) (AllReadyH.cons (by simp only [List.getElem?_toArray, List.getElem?_cons_succ, List.getElem?_cons_zero]; rfl) (fun K hK => ?_) AllReadyH.nil)
       go_simp
       first
         | (fail)
       try go_wp2_with fail
       refine hK.out _ _ (by (first | (with_reducible exact KS.out _ (bdrew1 (Below.refl _ _))) | (with_reducible exact KS.out _ (below_call hHeld.1 hHeld.1.size hb9)) | (with_reducible exact hHeld))) (fun hHeld => ?_)
       clear hK K
       try simp only [Act.put, List.setIfInBounds_toArray, List.set_cons_zero, List.set_cons_succ])
  first
    | (refine wpAnyH_take (i := 12) (v := undef) (by simp only [List.getElem?_toArray, List.getElem?_cons_succ, List.getElem?_cons_zero]; rfl) (by kernel_rfl) (by kernel_rfl) (by kernel_rfl) (fun _ _ _ h => h) (Or.inr ⟨by rfl, rfl⟩) (by assumption) ?_; try simp only [Act.put, List.setIfInBounds_toArray, List.set_cons_zero, List.set_cons_succ])
    | (refine wpAnyH_take (i := 12) (v := ?_) (by simp only [List.getElem?_toArray, List.getElem?_cons_succ, List.getElem?_cons_zero]; rfl) (by kernel_rfl) (by kernel_rfl) (by kernel_rfl) (fun _ _ _ h => h) (Or.inl ⟨by rfl, ?_⟩) (by assumption) ?_
       rotate_left
       · (intro ww hSw; (try dsimp only at hSw); go_simp; (try with_reducible rfl))
       try simp only [Act.put, List.setIfInBounds_toArray, List.set_cons_zero, List.set_cons_succ])
    | (refine wpAnyH_ready (rs := [12]) (by kernel_rfl) (by simp) (AllReadyH.cons (by simp only [List.getElem?_toArray, List.getElem?_cons_succ, List.getElem?_cons_zero]; rfl) (fun K hK => ?_) AllReadyH.nil)
       go_simp
       first
         | (fail)
       try go_wp2_with fail
       refine hK.out _ _ (by (first | (with_reducible exact KS.out _ (bdrew1 (Below.refl _ _))) | (with_reducible exact KS.out _ (below_call hHeld.1 hHeld.1.size hb9)) | (with_reducible exact hHeld))) (fun hHeld => ?_)
       clear hK K
       try simp only [Act.put, List.setIfInBounds_toArray, List.set_cons_zero, List.set_cons_succ])
  refine wpAnyH_done (by kernel_rfl) ?_ _
  refine NoPanic.normal ?_
  have hB9 := Lib.hid hHeld.1
  clear hHeld
  have B_11 := Lib.hid (below_call B_10.out B_10.out.size hB9.out)
  have H_11 := Lib.hid (H_10.out.call hB9.out)
  have A_11 := Lib.hid (A_10.out.call hB9.out)
  have D_11 := Lib.hid (D_10.out.call hB9.out)
  have E_11 := Lib.hid (E_10.out.call hB9.out)
  have G_11 := Lib.hid (G_10.out.call hB9.out)
  have YA_11 := Lib.hid (YA_10.out.call hB9.out)
  have YB_11 := Lib.hid (YB_10.out.call hB9.out)
  have ZA_11 := Lib.hid (ZA_10.out.call hB9.out)
  have ZB_11 := Lib.hid (ZB_10.out.call hB9.out)
  clear hB9 KS B_10 H_10 A_10 D_10 E_10 G_10 YA_10 YB_10 ZA_10 ZB_10
  go_wp2_with fail
  have KS : Hid (∀ w', Below w9.heap.size w9 w' → Below w9.heap.size w9 w' ∧ (∀ i, w'.cell? ⟨w.heap.size, i, none⟩ = (#[.slice (some ⟨xe, xf, none⟩) x.d.exits.length xc, .slice pp x.d.players.length ppc, .slice pc x.d.coins.length pcc, .slice pi x.d.items.length pic, .slice pb x.d.boxes.length pbc, .int .i64 x.d.room, .int .i64 x.d.player, .int .i64 x.d.box, .slice (some ⟨b, o, none⟩) x.at_.length pac, .slice pk x.coins.length pkc, .slice pw x.wher.length pwc][i]? : Option Value)) ∧ w'.cell? ⟨b, o + i, none⟩ = some (.int .i64 (roomOf x i : Int)) ∧ w'.cell? ⟨xe, xf + roomOf x i * 4 + d, none⟩ = some (.int .i64 t)) := Lib.hid (fun w' hb => ⟨hb, fun i => (hb.cell (p := ⟨w.heap.size, i, none⟩) H_11.out.2.1).trans (H_11.out.2.2 i), cell_call (cell_call C0.out B_11.out) hb, cell_call (cell_call C1.out B_11.out) hb⟩)
  refine wp_region_noPanic ?_
  refine wp_region_held_drew (S := (fun w' => Below w9.heap.size w9 w' ∧ (∀ i, w'.cell? ⟨w.heap.size, i, none⟩ = (#[.slice (some ⟨xe, xf, none⟩) x.d.exits.length xc, .slice pp x.d.players.length ppc, .slice pc x.d.coins.length pcc, .slice pi x.d.items.length pic, .slice pb x.d.boxes.length pbc, .int .i64 x.d.room, .int .i64 x.d.player, .int .i64 x.d.box, .slice (some ⟨b, o, none⟩) x.at_.length pac, .slice pk x.coins.length pkc, .slice pw x.wher.length pwc][i]? : Option Value)) ∧ w'.cell? ⟨b, o + i, none⟩ = some (.int .i64 (roomOf x i : Int)) ∧ w'.cell? ⟨xe, xf + roomOf x i * 4 + d, none⟩ = some (.int .i64 t))) (by kernel_rfl) (by (first | (with_reducible exact KS.out _ (bdrew1 (Below.refl _ _))) | (with_reducible exact KS.out _ (below_call hHeld.1 hHeld.1.size hb9)) | (with_reducible exact hHeld))) (fun hHeld => ?_)
  first
    | (refine wpAnyH_take (i := 0) (v := undef) (by simp only [List.getElem?_toArray, List.getElem?_cons_zero]; rfl) (by kernel_rfl) (by kernel_rfl) (by kernel_rfl) (fun _ _ _ h => h) (Or.inr ⟨by rfl, rfl⟩) (by assumption) ?_; try simp only [Act.put, List.setIfInBounds_toArray, List.set_cons_zero, List.set_cons_succ])
    | (refine wpAnyH_take (i := 0) (v := ?_) (by simp only [List.getElem?_toArray, List.getElem?_cons_zero]; rfl) (by kernel_rfl) (by kernel_rfl) (by kernel_rfl) (fun _ _ _ h => h) (Or.inl ⟨by rfl, ?_⟩) (by assumption) ?_
       rotate_left
       · (intro ww hSw; (try dsimp only at hSw); go_simp; (try with_reducible rfl))
       try simp only [Act.put, List.setIfInBounds_toArray, List.set_cons_zero, List.set_cons_succ])
    | (refine wpAnyH_ready (rs := [0]) (by kernel_rfl) (by simp) (AllReadyH.cons (by simp only [List.getElem?_toArray, List.getElem?_cons_succ, List.getElem?_cons_zero]; rfl) (fun K hK => ?_) AllReadyH.nil)
       go_simp
       first
         | (fail)
       try go_wp2_with fail
       refine hK.out _ _ (by (first | (with_reducible exact KS.out _ (bdrew1 (Below.refl _ _))) | (with_reducible exact KS.out _ (below_call hHeld.1 hHeld.1.size hb9)) | (with_reducible exact hHeld))) (fun hHeld => ?_)
       clear hK K
       try simp only [Act.put, List.setIfInBounds_toArray, List.set_cons_zero, List.set_cons_succ])
  first
    | (refine wpAnyH_take (i := 1) (v := undef) (by simp only [List.getElem?_toArray, List.getElem?_cons_succ, List.getElem?_cons_zero]; rfl) (by kernel_rfl) (by kernel_rfl) (by kernel_rfl) (fun _ _ _ h => h) (Or.inr ⟨by rfl, rfl⟩) (by assumption) ?_; try simp only [Act.put, List.setIfInBounds_toArray, List.set_cons_zero, List.set_cons_succ])
    | (refine wpAnyH_take (i := 1) (v := ?_) (by simp only [List.getElem?_toArray, List.getElem?_cons_succ, List.getElem?_cons_zero]; rfl) (by kernel_rfl) (by kernel_rfl) (by kernel_rfl) (fun _ _ _ h => h) (Or.inl ⟨by rfl, ?_⟩) (by assumption) ?_
       rotate_left
       · (intro ww hSw; (try dsimp only at hSw); go_simp; (try with_reducible rfl))
       try simp only [Act.put, List.setIfInBounds_toArray, List.set_cons_zero, List.set_cons_succ])
    | (refine wpAnyH_ready (rs := [1]) (by kernel_rfl) (by simp) (AllReadyH.cons (by simp only [List.getElem?_toArray, List.getElem?_cons_succ, List.getElem?_cons_zero]; rfl) (fun K hK => ?_) AllReadyH.nil)
       go_simp
       first
         | (fail)
       try go_wp2_with fail
       refine hK.out _ _ (by (first | (with_reducible exact KS.out _ (bdrew1 (Below.refl _ _))) | (with_reducible exact KS.out _ (below_call hHeld.1 hHeld.1.size hb9)) | (with_reducible exact hHeld))) (fun hHeld => ?_)
       clear hK K
       try simp only [Act.put, List.setIfInBounds_toArray, List.set_cons_zero, List.set_cons_succ])
  first
    | (refine wpAnyH_take (i := 2) (v := undef) (by simp only [List.getElem?_toArray, List.getElem?_cons_succ, List.getElem?_cons_zero]; rfl) (by kernel_rfl) (by kernel_rfl) (by kernel_rfl) (fun _ _ _ h => h) (Or.inr ⟨by rfl, rfl⟩) (by assumption) ?_; try simp only [Act.put, List.setIfInBounds_toArray, List.set_cons_zero, List.set_cons_succ])
    | (refine wpAnyH_take (i := 2) (v := ?_) (by simp only [List.getElem?_toArray, List.getElem?_cons_succ, List.getElem?_cons_zero]; rfl) (by kernel_rfl) (by kernel_rfl) (by kernel_rfl) (fun _ _ _ h => h) (Or.inl ⟨by rfl, ?_⟩) (by assumption) ?_
       rotate_left
       · (intro ww hSw; (try dsimp only at hSw); go_simp; (try with_reducible rfl))
       try simp only [Act.put, List.setIfInBounds_toArray, List.set_cons_zero, List.set_cons_succ])
    | (refine wpAnyH_ready (rs := [2]) (by kernel_rfl) (by simp) (AllReadyH.cons (by simp only [List.getElem?_toArray, List.getElem?_cons_succ, List.getElem?_cons_zero]; rfl) (fun K hK => ?_) AllReadyH.nil)
       go_simp
       first
         | (fail)
       try go_wp2_with fail
       refine hK.out _ _ (by (first | (with_reducible exact KS.out _ (bdrew1 (Below.refl _ _))) | (with_reducible exact KS.out _ (below_call hHeld.1 hHeld.1.size hb9)) | (with_reducible exact hHeld))) (fun hHeld => ?_)
       clear hK K
       try simp only [Act.put, List.setIfInBounds_toArray, List.set_cons_zero, List.set_cons_succ])
  first
    | (refine wpAnyH_take (i := 3) (v := undef) (by simp only [List.getElem?_toArray, List.getElem?_cons_succ, List.getElem?_cons_zero]; rfl) (by kernel_rfl) (by kernel_rfl) (by kernel_rfl) (fun _ _ _ h => h) (Or.inr ⟨by rfl, rfl⟩) (by assumption) ?_; try simp only [Act.put, List.setIfInBounds_toArray, List.set_cons_zero, List.set_cons_succ])
    | (refine wpAnyH_take (i := 3) (v := ?_) (by simp only [List.getElem?_toArray, List.getElem?_cons_succ, List.getElem?_cons_zero]; rfl) (by kernel_rfl) (by kernel_rfl) (by kernel_rfl) (fun _ _ _ h => h) (Or.inl ⟨by rfl, ?_⟩) (by assumption) ?_
       rotate_left
       · (intro ww hSw; (try dsimp only at hSw); go_simp; (try with_reducible rfl))
       try simp only [Act.put, List.setIfInBounds_toArray, List.set_cons_zero, List.set_cons_succ])
    | (refine wpAnyH_ready (rs := [3]) (by kernel_rfl) (by simp) (AllReadyH.cons (by simp only [List.getElem?_toArray, List.getElem?_cons_succ, List.getElem?_cons_zero]; rfl) (fun K hK => ?_) AllReadyH.nil)
       go_simp
       first
         | (fail)
       try go_wp2_with fail
       refine hK.out _ _ (by (first | (with_reducible exact KS.out _ (bdrew1 (Below.refl _ _))) | (with_reducible exact KS.out _ (below_call hHeld.1 hHeld.1.size hb9)) | (with_reducible exact hHeld))) (fun hHeld => ?_)
       clear hK K
       try simp only [Act.put, List.setIfInBounds_toArray, List.set_cons_zero, List.set_cons_succ])
  first
    | (refine wpAnyH_take (i := 4) (v := undef) (by simp only [List.getElem?_toArray, List.getElem?_cons_succ, List.getElem?_cons_zero]; rfl) (by kernel_rfl) (by kernel_rfl) (by kernel_rfl) (fun _ _ _ h => h) (Or.inr ⟨by rfl, rfl⟩) (by assumption) ?_; try simp only [Act.put, List.setIfInBounds_toArray, List.set_cons_zero, List.set_cons_succ])
    | (refine wpAnyH_take (i := 4) (v := ?_) (by simp only [List.getElem?_toArray, List.getElem?_cons_succ, List.getElem?_cons_zero]; rfl) (by kernel_rfl) (by kernel_rfl) (by kernel_rfl) (fun _ _ _ h => h) (Or.inl ⟨by rfl, ?_⟩) (by assumption) ?_
       rotate_left
       · (intro ww hSw; (try dsimp only at hSw); go_simp; (try with_reducible rfl))
       try simp only [Act.put, List.setIfInBounds_toArray, List.set_cons_zero, List.set_cons_succ])
    | (refine wpAnyH_ready (rs := [4]) (by kernel_rfl) (by simp) (AllReadyH.cons (by simp only [List.getElem?_toArray, List.getElem?_cons_succ, List.getElem?_cons_zero]; rfl) (fun K hK => ?_) AllReadyH.nil)
       go_simp
       first
         | (fail)
       try go_wp2_with fail
       refine hK.out _ _ (by (first | (with_reducible exact KS.out _ (bdrew1 (Below.refl _ _))) | (with_reducible exact KS.out _ (below_call hHeld.1 hHeld.1.size hb9)) | (with_reducible exact hHeld))) (fun hHeld => ?_)
       clear hK K
       try simp only [Act.put, List.setIfInBounds_toArray, List.set_cons_zero, List.set_cons_succ])
  first
    | (refine wpAnyH_take (i := 5) (v := undef) (by simp only [List.getElem?_toArray, List.getElem?_cons_succ, List.getElem?_cons_zero]; rfl) (by kernel_rfl) (by kernel_rfl) (by kernel_rfl) (fun _ _ _ h => h) (Or.inr ⟨by rfl, rfl⟩) (by assumption) ?_; try simp only [Act.put, List.setIfInBounds_toArray, List.set_cons_zero, List.set_cons_succ])
    | (refine wpAnyH_take (i := 5) (v := ?_) (by simp only [List.getElem?_toArray, List.getElem?_cons_succ, List.getElem?_cons_zero]; rfl) (by kernel_rfl) (by kernel_rfl) (by kernel_rfl) (fun _ _ _ h => h) (Or.inl ⟨by rfl, ?_⟩) (by assumption) ?_
       rotate_left
       · (intro ww hSw; (try dsimp only at hSw); go_simp; (try with_reducible rfl))
       try simp only [Act.put, List.setIfInBounds_toArray, List.set_cons_zero, List.set_cons_succ])
    | (refine wpAnyH_ready (rs := [5]) (by kernel_rfl) (by simp) (AllReadyH.cons (by simp only [List.getElem?_toArray, List.getElem?_cons_succ, List.getElem?_cons_zero]; rfl) (fun K hK => ?_) AllReadyH.nil)
       go_simp
       first
         | (fail)
       try go_wp2_with fail
       refine hK.out _ _ (by (first | (with_reducible exact KS.out _ (bdrew1 (Below.refl _ _))) | (with_reducible exact KS.out _ (below_call hHeld.1 hHeld.1.size hb9)) | (with_reducible exact hHeld))) (fun hHeld => ?_)
       clear hK K
       try simp only [Act.put, List.setIfInBounds_toArray, List.set_cons_zero, List.set_cons_succ])
  first
    | (refine wpAnyH_take (i := 6) (v := undef) (by simp only [List.getElem?_toArray, List.getElem?_cons_succ, List.getElem?_cons_zero]; rfl) (by kernel_rfl) (by kernel_rfl) (by kernel_rfl) (fun _ _ _ h => h) (Or.inr ⟨by rfl, rfl⟩) (by assumption) ?_; try simp only [Act.put, List.setIfInBounds_toArray, List.set_cons_zero, List.set_cons_succ])
    | (refine wpAnyH_take (i := 6) (v := ?_) (by simp only [List.getElem?_toArray, List.getElem?_cons_succ, List.getElem?_cons_zero]; rfl) (by kernel_rfl) (by kernel_rfl) (by kernel_rfl) (fun _ _ _ h => h) (Or.inl ⟨by rfl, ?_⟩) (by assumption) ?_
       rotate_left
       · (intro ww hSw; (try dsimp only at hSw); go_simp; (try with_reducible rfl))
       try simp only [Act.put, List.setIfInBounds_toArray, List.set_cons_zero, List.set_cons_succ])
    | (refine wpAnyH_ready (rs := [6]) (by kernel_rfl) (by simp) (AllReadyH.cons (by simp only [List.getElem?_toArray, List.getElem?_cons_succ, List.getElem?_cons_zero]; rfl) (fun K hK => ?_) AllReadyH.nil)
       go_simp
       first
         | (fail)
       try go_wp2_with fail
       refine hK.out _ _ (by (first | (with_reducible exact KS.out _ (bdrew1 (Below.refl _ _))) | (with_reducible exact KS.out _ (below_call hHeld.1 hHeld.1.size hb9)) | (with_reducible exact hHeld))) (fun hHeld => ?_)
       clear hK K
       try simp only [Act.put, List.setIfInBounds_toArray, List.set_cons_zero, List.set_cons_succ])
  first
    | (refine wpAnyH_take (i := 7) (v := undef) (by simp only [List.getElem?_toArray, List.getElem?_cons_succ, List.getElem?_cons_zero]; rfl) (by kernel_rfl) (by kernel_rfl) (by kernel_rfl) (fun _ _ _ h => h) (Or.inr ⟨by rfl, rfl⟩) (by assumption) ?_; try simp only [Act.put, List.setIfInBounds_toArray, List.set_cons_zero, List.set_cons_succ])
    | (refine wpAnyH_take (i := 7) (v := ?_) (by simp only [List.getElem?_toArray, List.getElem?_cons_succ, List.getElem?_cons_zero]; rfl) (by kernel_rfl) (by kernel_rfl) (by kernel_rfl) (fun _ _ _ h => h) (Or.inl ⟨by rfl, ?_⟩) (by assumption) ?_
       rotate_left
       · (intro ww hSw; (try dsimp only at hSw); go_simp; (try with_reducible rfl))
       try simp only [Act.put, List.setIfInBounds_toArray, List.set_cons_zero, List.set_cons_succ])
    | (refine wpAnyH_ready (rs := [7]) (by kernel_rfl) (by simp) (AllReadyH.cons (by simp only [List.getElem?_toArray, List.getElem?_cons_succ, List.getElem?_cons_zero]; rfl) (fun K hK => ?_) AllReadyH.nil)
       go_simp
       first
         | (fail)
       try go_wp2_with fail
       refine hK.out _ _ (by (first | (with_reducible exact KS.out _ (bdrew1 (Below.refl _ _))) | (with_reducible exact KS.out _ (below_call hHeld.1 hHeld.1.size hb9)) | (with_reducible exact hHeld))) (fun hHeld => ?_)
       clear hK K
       try simp only [Act.put, List.setIfInBounds_toArray, List.set_cons_zero, List.set_cons_succ])
  first
    | (refine wpAnyH_take (i := 8) (v := undef) (by simp only [List.getElem?_toArray, List.getElem?_cons_succ, List.getElem?_cons_zero]; rfl) (by kernel_rfl) (by kernel_rfl) (by kernel_rfl) (fun _ _ _ h => h) (Or.inr ⟨by rfl, rfl⟩) (by assumption) ?_; try simp only [Act.put, List.setIfInBounds_toArray, List.set_cons_zero, List.set_cons_succ])
    | (refine wpAnyH_take (i := 8) (v := ?_) (by simp only [List.getElem?_toArray, List.getElem?_cons_succ, List.getElem?_cons_zero]; rfl) (by kernel_rfl) (by kernel_rfl) (by kernel_rfl) (fun _ _ _ h => h) (Or.inl ⟨by rfl, ?_⟩) (by assumption) ?_
       rotate_left
       · (intro ww hSw; (try dsimp only at hSw); go_simp; (try with_reducible rfl))
       try simp only [Act.put, List.setIfInBounds_toArray, List.set_cons_zero, List.set_cons_succ])
    | (refine wpAnyH_ready (rs := [8]) (by kernel_rfl) (by simp) (AllReadyH.cons (by simp only [List.getElem?_toArray, List.getElem?_cons_succ, List.getElem?_cons_zero]; rfl) (fun K hK => ?_) AllReadyH.nil)
       go_simp
       first
         | (fail)
       try go_wp2_with fail
       refine hK.out _ _ (by (first | (with_reducible exact KS.out _ (bdrew1 (Below.refl _ _))) | (with_reducible exact KS.out _ (below_call hHeld.1 hHeld.1.size hb9)) | (with_reducible exact hHeld))) (fun hHeld => ?_)
       clear hK K
       try simp only [Act.put, List.setIfInBounds_toArray, List.set_cons_zero, List.set_cons_succ])
  first
    | (refine wpAnyH_take (i := 9) (v := undef) (by simp only [List.getElem?_toArray, List.getElem?_cons_succ, List.getElem?_cons_zero]; rfl) (by kernel_rfl) (by kernel_rfl) (by kernel_rfl) (fun _ _ _ h => h) (Or.inr ⟨by rfl, rfl⟩) (by assumption) ?_; try simp only [Act.put, List.setIfInBounds_toArray, List.set_cons_zero, List.set_cons_succ])
    | (refine wpAnyH_take (i := 9) (v := ?_) (by simp only [List.getElem?_toArray, List.getElem?_cons_succ, List.getElem?_cons_zero]; rfl) (by kernel_rfl) (by kernel_rfl) (by kernel_rfl) (fun _ _ _ h => h) (Or.inl ⟨by rfl, ?_⟩) (by assumption) ?_
       rotate_left
       · (intro ww hSw; (try dsimp only at hSw); go_simp; (try with_reducible rfl))
       try simp only [Act.put, List.setIfInBounds_toArray, List.set_cons_zero, List.set_cons_succ])
    | (refine wpAnyH_ready (rs := [9]) (by kernel_rfl) (by simp) (AllReadyH.cons (by simp only [List.getElem?_toArray, List.getElem?_cons_succ, List.getElem?_cons_zero]; rfl) (fun K hK => ?_) AllReadyH.nil)
       go_simp
       first
         | (fail)
       try go_wp2_with fail
       refine hK.out _ _ (by (first | (with_reducible exact KS.out _ (bdrew1 (Below.refl _ _))) | (with_reducible exact KS.out _ (below_call hHeld.1 hHeld.1.size hb9)) | (with_reducible exact hHeld))) (fun hHeld => ?_)
       clear hK K
       try simp only [Act.put, List.setIfInBounds_toArray, List.set_cons_zero, List.set_cons_succ])
  first
    | (refine wpAnyH_take (i := 10) (v := undef) (by simp only [List.getElem?_toArray, List.getElem?_cons_succ, List.getElem?_cons_zero]; rfl) (by kernel_rfl) (by kernel_rfl) (by kernel_rfl) (fun _ _ _ h => h) (Or.inr ⟨by rfl, rfl⟩) (by assumption) ?_; try simp only [Act.put, List.setIfInBounds_toArray, List.set_cons_zero, List.set_cons_succ])
    | (refine wpAnyH_take (i := 10) (v := ?_) (by simp only [List.getElem?_toArray, List.getElem?_cons_succ, List.getElem?_cons_zero]; rfl) (by kernel_rfl) (by kernel_rfl) (by kernel_rfl) (fun _ _ _ h => h) (Or.inl ⟨by rfl, ?_⟩) (by assumption) ?_
       rotate_left
       · (intro ww hSw; (try dsimp only at hSw); go_simp; (try with_reducible rfl))
       try simp only [Act.put, List.setIfInBounds_toArray, List.set_cons_zero, List.set_cons_succ])
    | (refine wpAnyH_ready (rs := [10]) (by kernel_rfl) (by simp) (AllReadyH.cons (by simp only [List.getElem?_toArray, List.getElem?_cons_succ, List.getElem?_cons_zero]; rfl) (fun K hK => ?_) AllReadyH.nil)
       go_simp
       first
         | (fail)
       try go_wp2_with fail
       refine hK.out _ _ (by (first | (with_reducible exact KS.out _ (bdrew1 (Below.refl _ _))) | (with_reducible exact KS.out _ (below_call hHeld.1 hHeld.1.size hb9)) | (with_reducible exact hHeld))) (fun hHeld => ?_)
       clear hK K
       try simp only [Act.put, List.setIfInBounds_toArray, List.set_cons_zero, List.set_cons_succ])
  first
    | (refine wpAnyH_take (i := 11) (v := undef) (by simp only [List.getElem?_toArray, List.getElem?_cons_succ, List.getElem?_cons_zero]; rfl) (by kernel_rfl) (by kernel_rfl) (by kernel_rfl) (fun _ _ _ h => h) (Or.inr ⟨by rfl, rfl⟩) (by assumption) ?_; try simp only [Act.put, List.setIfInBounds_toArray, List.set_cons_zero, List.set_cons_succ])
    | (refine wpAnyH_take (i := 11) (v := ?_) (by simp only [List.getElem?_toArray, List.getElem?_cons_succ, List.getElem?_cons_zero]; rfl) (by kernel_rfl) (by kernel_rfl) (by kernel_rfl) (fun _ _ _ h => h) (Or.inl ⟨by rfl, ?_⟩) (by assumption) ?_
       rotate_left
       · (intro ww hSw; (try dsimp only at hSw); go_simp; (try with_reducible rfl))
       try simp only [Act.put, List.setIfInBounds_toArray, List.set_cons_zero, List.set_cons_succ])
    | (refine wpAnyH_ready (rs := [11]) (by kernel_rfl) (by simp) (AllReadyH.cons (by simp only [List.getElem?_toArray, List.getElem?_cons_succ, List.getElem?_cons_zero]; rfl) (fun K hK => ?_) AllReadyH.nil)
       go_simp
       first
         | (fail)
       try go_wp2_with fail
       refine hK.out _ _ (by (first | (with_reducible exact KS.out _ (bdrew1 (Below.refl _ _))) | (with_reducible exact KS.out _ (below_call hHeld.1 hHeld.1.size hb9)) | (with_reducible exact hHeld))) (fun hHeld => ?_)
       clear hK K
       try simp only [Act.put, List.setIfInBounds_toArray, List.set_cons_zero, List.set_cons_succ])
  first
    | (refine wpAnyH_take (i := 12) (v := undef) (by simp only [List.getElem?_toArray, List.getElem?_cons_succ, List.getElem?_cons_zero]; rfl) (by kernel_rfl) (by kernel_rfl) (by kernel_rfl) (fun _ _ _ h => h) (Or.inr ⟨by rfl, rfl⟩) (by assumption) ?_; try simp only [Act.put, List.setIfInBounds_toArray, List.set_cons_zero, List.set_cons_succ])
    | (refine wpAnyH_take (i := 12) (v := ?_) (by simp only [List.getElem?_toArray, List.getElem?_cons_succ, List.getElem?_cons_zero]; rfl) (by kernel_rfl) (by kernel_rfl) (by kernel_rfl) (fun _ _ _ h => h) (Or.inl ⟨by rfl, ?_⟩) (by assumption) ?_
       rotate_left
       · (intro ww hSw; (try dsimp only at hSw); go_simp; (try with_reducible rfl))
       try simp only [Act.put, List.setIfInBounds_toArray, List.set_cons_zero, List.set_cons_succ])
    | (refine wpAnyH_ready (rs := [12]) (by kernel_rfl) (by simp) (AllReadyH.cons (by simp only [List.getElem?_toArray, List.getElem?_cons_succ, List.getElem?_cons_zero]; rfl) (fun K hK => ?_) AllReadyH.nil)
       go_simp
       first
         | (fail)
       try go_wp2_with fail
       refine hK.out _ _ (by (first | (with_reducible exact KS.out _ (bdrew1 (Below.refl _ _))) | (with_reducible exact KS.out _ (below_call hHeld.1 hHeld.1.size hb9)) | (with_reducible exact hHeld))) (fun hHeld => ?_)
       clear hK K
       try simp only [Act.put, List.setIfInBounds_toArray, List.set_cons_zero, List.set_cons_succ])
  refine wpAnyH_done (by kernel_rfl) ?_ _
  refine NoPanic.normal ?_
  have hB10 := Lib.hid hHeld.1
  clear hHeld
  have B_12 := Lib.hid (below_call B_11.out B_11.out.size hB10.out)
  have H_12 := Lib.hid (H_11.out.call hB10.out)
  have A_12 := Lib.hid (A_11.out.call hB10.out)
  have D_12 := Lib.hid (D_11.out.call hB10.out)
  have E_12 := Lib.hid (E_11.out.call hB10.out)
  have G_12 := Lib.hid (G_11.out.call hB10.out)
  have YA_12 := Lib.hid (YA_11.out.call hB10.out)
  have YB_12 := Lib.hid (YB_11.out.call hB10.out)
  have ZA_12 := Lib.hid (ZA_11.out.call hB10.out)
  have ZB_12 := Lib.hid (ZB_11.out.call hB10.out)
  clear hB10 KS B_11 H_11 A_11 D_11 E_11 G_11 YA_11 YB_11 ZA_11 ZB_11
  have hcA := A_12.out.2.2
  have hlA := A_12.out.2.1
  have hcD := D_12.out.2.2
  have hlD := D_12.out.2.1
  have hcE := E_12.out.2.2
  have hlE := E_12.out.2.1
  have hcG := G_12.out.2.2
  have hlG := G_12.out.2.1
  go_wp2_with fail
  refine (rsame_yes SY.out SY.out rfl _ _ _ YA_12.out YB_12.out).mono ?_
  rintro e u11 ⟨rfl, b11⟩
  clear hcA hlA hcD hlD hcE hlE hcG hlG
  have B_13 := Lib.hid (bl B_12.out b11)
  have H_13 := Lib.hid (H_12.out.call b11)
  have A_13 := Lib.hid (A_12.out.call b11)
  have D_13 := Lib.hid (D_12.out.call b11)
  have E_13 := Lib.hid (E_12.out.call b11)
  have G_13 := Lib.hid (G_12.out.call b11)
  have YA_13 := Lib.hid (YA_12.out.call b11)
  have YB_13 := Lib.hid (YB_12.out.call b11)
  have ZA_13 := Lib.hid (ZA_12.out.call b11)
  have ZB_13 := Lib.hid (ZB_12.out.call b11)
  clear b11 B_12 H_12 A_12 D_12 E_12 G_12 YA_12 YB_12 ZA_12 ZB_12
  have hcE := E_13.out.2.2
  have hlE := E_13.out.2.1
  have hcG := G_13.out.2.2
  have hlG := G_13.out.2.1
  go_wp2_with fail
  refine (rsame_yes SZ.out SZ.out rfl _ _ _ ZA_13.out ZB_13.out).mono ?_
  rintro e u12 ⟨rfl, b12⟩
  clear hcE hlE hcG hlG
  have B_14 := Lib.hid (bl B_13.out b12)
  have H_14 := Lib.hid (H_13.out.call b12)
  have A_14 := Lib.hid (A_13.out.call b12)
  have D_14 := Lib.hid (D_13.out.call b12)
  have E_14 := Lib.hid (E_13.out.call b12)
  have G_14 := Lib.hid (G_13.out.call b12)
  have YA_14 := Lib.hid (YA_13.out.call b12)
  have YB_14 := Lib.hid (YB_13.out.call b12)
  have ZA_14 := Lib.hid (ZA_13.out.call b12)
  have ZB_14 := Lib.hid (ZB_13.out.call b12)
  clear b12 B_13 H_13 A_13 D_13 E_13 G_13 YA_13 YB_13 ZA_13 ZB_13
  go_wp2_with fail
  all_goals (go_ret; exact ⟨ret_bool (by simp; omega), B_14.out⟩)
theorem walk_waysMove (x : Wd) (p : Wp) (a q c : Int) (w : World) (ha : (Lit.int .u8 a).wf = true) (hq : (Lit.int .i64 q).wf = true) (hb : (Lit.int .u8 c).wf = true) (h : WorldAt w p x) : Calls Try.prog 3 #[.agg #[.slice p.d.ex x.d.exits.length p.d.exc, .slice p.d.pl x.d.players.length p.d.plc, .slice p.d.co x.d.coins.length p.d.coc, .slice p.d.it x.d.items.length p.d.itc, .slice p.d.bo x.d.boxes.length p.d.boc, .int .i64 x.d.room, .int .i64 x.d.player, .int .i64 x.d.box, .slice p.at_ x.at_.length p.atc, .slice p.co x.coins.length p.coc, .slice p.wh x.wher.length p.whc], .int .u8 a, .int .i64 q, .int .u8 c] w fun e w' => e = .returned (.bool true) ∧ Below w.heap.size w w' := by
  cases hf : fitsB x
  · exact waysMove_no x p a q c w h hf
  have h1 := wf_u8 ha
  have h2 := wf_u8 hb
  obtain ⟨m1, rfl⟩ : ∃ m : Nat, a = m := ⟨a.toNat, by omega⟩
  obtain ⟨m2, rfl⟩ : ∃ m : Nat, c = m := ⟨c.toNat, by omega⟩
  have hx := (fits_fit hf).right
  have hil : m1 % x.at_.length < x.at_.length := Nat.mod_lt _ (right_lens hx).1
  have hd : m2 % 4 < 4 := Nat.mod_lt _ (by decide)
  have hr := room_at hx hil
  obtain ⟨b, o, ea, hb, hc⟩ := h.at_.at_ hil
  have c0 := hc _ hil
  rw [hr.1] at c0
  obtain ⟨e, f, ee, hb2, hc2⟩ := h.d.ex.at_ hr.2
  have c1 := hc2 _ hr.2 _ hd
  rw [exC_at _ hd, exits_to hr.2] at c1
  obtain ⟨⟨px, xc, pp, ppc, pc, pcc, pi, pic, pb, pbc⟩, pa, pac, pk, pkc, pw, pwc⟩ := p
  simp only at ea ee
  subst ea ee
  exact waysMove_go x e f xc pp pc pi pb ppc pcc pic pbc b o pac pk pw pkc pwc m1 m2 _ _ q (by omega) (by omega) rfl rfl w h hf c0 c1
set_option maxRecDepth 100000 in
theorem lifted_waysMove (os : Os) (started : os.Started) (H : Type) (enc : TypeId × Value → H) :
    ReturnsInHanded {} Try.checked os 3 .any (Rows.waysMoveSpec.pre6 enc Try.prog Try.f3 Rows.waysMoveRow.domain false) (Rows.waysMoveSpec.post enc Try.prog Try.f3 false true false false) := by
  refine returnsInHanded_of_change (C := Try.checked) (by kernel_rfl) started (by kernel_rfl) Try.func3
    (ChangeSpec.witness6 (enc := enc) (C := Try.checked) false ⟨#[], #[.agg #[.slice none 0 0, .slice none 0 0, .slice none 0 0, .slice none 0 0, .slice none 0 0, .int .i64 0, .int .i64 0, .int .i64 0, .slice none 0 0, .slice none 0 0, .slice none 0 0], .int .u8 0, .int .i64 0, .int .u8 0], []⟩ 8 (by kernel_rfl) (by kernel_rfl) (by kernel_rfl) (by kernel_rfl)) ?_
  intro W base args ds gs before hval0 hW hcnd _
  have hval : ∀ (j : Nat) t v, Try.f3.params[j]? = some t → args[j]? = some v → Value.okWide Try.prog W .any base t v := hval0
  have hW' := hW
  obtain ⟨p, q, hA0, hV, rfl, hfz, hnd⟩ := hW
  have hA : DataW.TrodAll enc Try.prog W 0 (fun _ => true) true Try.f3.params.toList args.toList ds p := hA0
  rw [Try.params3] at hA hval
  obtain ⟨v0, vs0, d0, ds0, p0, q0, hargs, rfl, rfl, h0, r0⟩ := trodAll_cons hA
  obtain ⟨v1, vs1, d1, ds1, p1, q1, rfl, rfl, rfl, h1, r1⟩ := trodAll_cons r0
  obtain ⟨v2, vs2, d2, ds2, p2, q2, rfl, rfl, rfl, h2, r2⟩ := trodAll_cons r1
  obtain ⟨v3, vs3, d3, ds3, p3, q3, rfl, rfl, rfl, h3, r3⟩ := trodAll_cons r2
  obtain ⟨rfl, rfl, rfl⟩ := trodAll_nil r3
  obtain rfl : args = #[v0, v1, v2, v3] := by cases args; simp_all
  obtain ⟨rfl, rfl⟩ := trodVars_none hV
  obtain ⟨wx0, wp0, rfl, m0⟩ := read_world (hval 0 29 v0 rfl rfl) h0
  obtain ⟨a1, rfl, rfl, rfl, w1⟩ := open_int Try.underlying5 (hval 1 5 v1 rfl rfl) h1
  obtain ⟨a2, rfl, rfl, rfl, w2⟩ := open_int Try.underlying3 (hval 2 3 v2 rfl rfl) h2
  obtain ⟨a3, rfl, rfl, rfl, w3⟩ := open_int Try.underlying5 (hval 3 5 v3 rfl rfl) h3
  clear hA0 hval0
  simp only [List.append_nil] at hW'
  refine (walk_waysMove wx0 wp0 a1 a2 a3 W w1 w2 w3 m0).mono fun e W' ⟨he, hg⟩ => ?_
  subst he
  exact ⟨_, rfl, law_post (by kernel_rfl) rfl (by rw [Try.params3]; decide +kernel) rfl rfl Try.underlying4 hW' hg⟩

/-- ████ THE STATEMENT ████ -/
theorem proved_waysMove : Rows.WaysMoveSaid :=
  OpenClaim.holds_of_wide 3 Try.f3 rfl rfl rfl rfl rfl rfl rfl ⟨rfl, rfl, rfl, rfl, rfl⟩ rfl rfl rfl rfl rfl (by kernel_rfl) Try.func3 (by kernel_rfl)
    (of_decide_eq_true (by kernel_rfl)) (by unfold Func.isWrapper; first | (rw [if_pos (by decide +kernel)]; kernel_rfl) | (rw [if_neg (by decide +kernel)]; exact ⟨rfl, rfl⟩))
    (fun os started H enc _ => lifted_waysMove os started H enc)
#print axioms proved_waysMove
end Go.Proofs.Ytkhjmgedamndhaa
