/- BoxesNear: what is near is just what hangs from the room of a player, or from the player: whatever is put in or taken out is near. -/
import Derived.Test.YtdmfbbcidcfcjaaRows
import Derived.Test.YtdmfbbcidcfcjaaKit
import Derived.Test.YtdmfbbcidcfcjaaGMem
import Derived.Test.YtdmfbbcidcfcjaaCoin
import Derived.Test.YtdmfbbcidcfcjaaGWorld
import Derived.Test.YtdmfbbcidcfcjaaDescMay
import Derived.Test.YtdmfbbcidcfcjaaGDescN
import Derived.Test.YtdmfbbcidcfcjaaGRight
import Derived.Test.YtdmfbbcidcfcjaaGCopy
import Derived.Test.YtdmfbbcidcfcjaaGRefD
import Derived.Test.YtdmfbbcidcfcjaaGAs
import Derived.Test.YtdmfbbcidcfcjaaGEq
import Derived.Test.YtdmfbbcidcfcjaaGNew
import Derived.Test.YtdmfbbcidcfcjaaRefRight
import Derived.Test.YtdmfbbcidcfcjaaGTreeL
import Derived.Test.YtdmfbbcidcfcjaaTreeRefA
import Derived.Test.YtdmfbbcidcfcjaaGHoldA
import Derived.Test.YtdmfbbcidcfcjaaHoldD
import Derived.Test.YtdmfbbcidcfcjaaHoldE
import Derived.Test.YtdmfbbcidcfcjaaGBoxM
import Derived.Test.YtdmfbbcidcfcjaaBoxA
import Derived.Test.YtdmfbbcidcfcjaaBoxD
import Derived.Test.YtdmfbbcidcfcjaaBoxAwake
import Derived.Deep.QuietTactic
import Derived.BigQuiet
import Derived.Deep.RegionHeld3
import Derived.WalkKit
import Derived.ProofKit
import Derived.OpenShut
import Derived.IntWalk
namespace Go.Proofs.Ytdmfbbcidcfcjaa
open Go.ChangeShapes Go.WideShapes Go.ChangeAt Go.RowKit
set_option linter.unusedVariables false
open Go.RowKit
set_option maxRecDepth 100000 in
theorem boxesNear_no (x : Wd) (p : Wp) (a c d : Int) (w : World) (h : WorldAt w p x) (hf : fitsB x = false) : Calls Try.prog 6 #[.agg #[.slice p.d.ex x.d.exits.length p.d.exc, .slice p.d.pl x.d.players.length p.d.plc, .slice p.d.co x.d.coins.length p.d.coc, .slice p.d.it x.d.items.length p.d.itc, .slice p.d.bo x.d.boxes.length p.d.boc, .int .i64 x.d.room, .int .i64 x.d.player, .int .i64 x.d.box, .slice p.at_ x.at_.length p.atc, .slice p.co x.coins.length p.coc, .slice p.wh x.wher.length p.whc], .int .u8 a, .int .u8 c, .int .u8 d] w fun e w' => e = .returned (.bool true) ∧ Below w.heap.size w w' := by
  have H_0 := Lib.hid (Holds.new w #[.slice p.d.ex x.d.exits.length p.d.exc, .slice p.d.pl x.d.players.length p.d.plc, .slice p.d.co x.d.coins.length p.d.coc, .slice p.d.it x.d.items.length p.d.itc, .slice p.d.bo x.d.boxes.length p.d.boc, .int .i64 x.d.room, .int .i64 x.d.player, .int .i64 x.d.box, .slice p.at_ x.at_.length p.atc, .slice p.co x.coins.length p.coc, .slice p.wh x.wher.length p.whc] 29)
  have HF := Lib.hid hf
  have HWA := Lib.hid h
  clear hf h
  go_enter Try.func6, Try.ntmps6
  go_wp2_with fail
  generalize w.alloc (.cells #[.slice p.d.ex x.d.exits.length p.d.exc, .slice p.d.pl x.d.players.length p.d.plc, .slice p.d.co x.d.coins.length p.d.coc, .slice p.d.it x.d.items.length p.d.itc, .slice p.d.bo x.d.boxes.length p.d.boc, .int .i64 x.d.room, .int .i64 x.d.player, .int .i64 x.d.box, .slice p.at_ x.at_.length p.atc, .slice p.co x.coins.length p.coc, .slice p.wh x.wher.length p.whc] 29) = V0 at *
  have B_0 := Lib.hid H_0.out.1
  refine (awake10_any _).mono ?_
  rintro e u1 ⟨rfl, b1⟩
  have B_1 := Lib.hid (bl B_0.out b1)
  have H_1 := Lib.hid (H_0.out.call b1)
  clear b1 B_0 H_0
  have hcH := H_1.out.2.2
  have hlH := H_1.out.2.1
  go_wp2_with fail
  refine (fits10_any x p _ (HWA.out.below H_1.out.1 (Nat.le_refl _))).mono ?_
  rintro e u2 ⟨rfl, b2⟩
  rw [HF.out]
  clear hcH hlH
  have B_2 := Lib.hid (bl B_1.out b2)
  have H_2 := Lib.hid (H_1.out.call b2)
  clear b2 B_1 H_1
  have hcH := H_2.out.2.2
  have hlH := H_2.out.2.1
  go_wp2_with fail
  refine (awake10_any _).mono ?_
  rintro e u3 ⟨rfl, b3⟩
  clear hcH hlH
  have B_3 := Lib.hid (bl B_2.out b3)
  have H_3 := Lib.hid (H_2.out.call b3)
  clear b3 B_2 H_2
  have hcH := H_3.out.2.2
  have hlH := H_3.out.2.1
  go_wp2_with fail
  go_ret
  exact ⟨rfl, B_3.out⟩
set_option maxRecDepth 100000 in
theorem boxesNear_none (x : Wd) (p : Wp) (a c d : Int) (w : World) (h : WorldAt w p x) (hf : fitsB x = true) (h0 : ((x.wher.length : Int) == 0) = true) : Calls Try.prog 6 #[.agg #[.slice p.d.ex x.d.exits.length p.d.exc, .slice p.d.pl x.d.players.length p.d.plc, .slice p.d.co x.d.coins.length p.d.coc, .slice p.d.it x.d.items.length p.d.itc, .slice p.d.bo x.d.boxes.length p.d.boc, .int .i64 x.d.room, .int .i64 x.d.player, .int .i64 x.d.box, .slice p.at_ x.at_.length p.atc, .slice p.co x.coins.length p.coc, .slice p.wh x.wher.length p.whc], .int .u8 a, .int .u8 c, .int .u8 d] w fun e w' => e = .returned (.bool true) ∧ Below w.heap.size w w' := by
  have H_0 := Lib.hid (Holds.new w #[.slice p.d.ex x.d.exits.length p.d.exc, .slice p.d.pl x.d.players.length p.d.plc, .slice p.d.co x.d.coins.length p.d.coc, .slice p.d.it x.d.items.length p.d.itc, .slice p.d.bo x.d.boxes.length p.d.boc, .int .i64 x.d.room, .int .i64 x.d.player, .int .i64 x.d.box, .slice p.at_ x.at_.length p.atc, .slice p.co x.coins.length p.coc, .slice p.wh x.wher.length p.whc] 29)
  have HF := Lib.hid hf
  have HWA := Lib.hid h
  clear hf h
  go_enter Try.func6, Try.ntmps6
  go_wp2_with fail
  generalize w.alloc (.cells #[.slice p.d.ex x.d.exits.length p.d.exc, .slice p.d.pl x.d.players.length p.d.plc, .slice p.d.co x.d.coins.length p.d.coc, .slice p.d.it x.d.items.length p.d.itc, .slice p.d.bo x.d.boxes.length p.d.boc, .int .i64 x.d.room, .int .i64 x.d.player, .int .i64 x.d.box, .slice p.at_ x.at_.length p.atc, .slice p.co x.coins.length p.coc, .slice p.wh x.wher.length p.whc] 29) = V0 at *
  have B_0 := Lib.hid H_0.out.1
  refine (awake10_any _).mono ?_
  rintro e u1 ⟨rfl, b1⟩
  have B_1 := Lib.hid (bl B_0.out b1)
  have H_1 := Lib.hid (H_0.out.call b1)
  clear b1 B_0 H_0
  have hcH := H_1.out.2.2
  have hlH := H_1.out.2.1
  go_wp2_with fail
  refine (fits10_any x p _ (HWA.out.below H_1.out.1 (Nat.le_refl _))).mono ?_
  rintro e u2 ⟨rfl, b2⟩
  rw [HF.out]
  clear hcH hlH
  have B_2 := Lib.hid (bl B_1.out b2)
  have H_2 := Lib.hid (H_1.out.call b2)
  clear b2 B_1 H_1
  have hcH := H_2.out.2.2
  have hlH := H_2.out.2.1
  go_wp2_with fail
  refine (awake10_any _).mono ?_
  rintro e u3 ⟨rfl, b3⟩
  clear hcH hlH
  have B_3 := Lib.hid (bl B_2.out b3)
  have H_3 := Lib.hid (H_2.out.call b3)
  clear b3 B_2 H_2
  have hcH := H_3.out.2.2
  have hlH := H_3.out.2.1
  go_wp2_with fail
  go_ret
  exact ⟨rfl, B_3.out⟩
set_option maxRecDepth 100000 in
set_option maxHeartbeats 2000000 in
theorem boxesNear_e (x : Wd) (pd : Dp) (b o pac : Nat) (pk : Option Addr) (pkc wb wo pwc : Nat) (a c d i k bx : Nat)  (haa : a ≤ 255) (hcc : c ≤ 255) (hdd : d ≤ 255) (hlw : 0 < x.wher.length) (hi : a % x.at_.length = i) (hk : c % x.wher.length = k) (hb : d % x.wher.length = bx) (f : Int) (y z : Wd) (hR : boxW x i k bx = (y, 0)) (hP : outW x i k bx = (z, f)) (hv : nearB x i k = true) (hu : nearB x i bx = true) (hf0 : (f == 0) = false)  (w : World) (h : WorldAt w ⟨pd, some ⟨b, o, none⟩, pac, pk, pkc, some ⟨wb, wo, none⟩, pwc⟩ x) (hf : fitsB x = true) (c0 : w.cell? ⟨wb, wo + k * 2, none⟩ = some (.int .i64 1)) (c1 : w.cell? ⟨wb, wo + k * 2 + 1, none⟩ = some (.int .i64 (i : Int))) (c2 : w.cell? ⟨b, o + i, none⟩ = some (.int .i64 (roomOf x i : Int))) (hwb : wb < w.heap.size) : Calls Try.prog 6 #[.agg #[.slice pd.ex x.d.exits.length pd.exc, .slice pd.pl x.d.players.length pd.plc, .slice pd.co x.d.coins.length pd.coc, .slice pd.it x.d.items.length pd.itc, .slice pd.bo x.d.boxes.length pd.boc, .int .i64 x.d.room, .int .i64 x.d.player, .int .i64 x.d.box, .slice (some ⟨b, o, none⟩) x.at_.length pac, .slice pk x.coins.length pkc, .slice (some ⟨wb, wo, none⟩) x.wher.length pwc], .int .u8 (a : Int), .int .u8 (c : Int), .int .u8 (d : Int)] w fun e w' => e = .returned (.bool true) ∧ Below w.heap.size w w' := by
  have r1 := run_tmod7 a x.at_.length
  have m1 := run_mod7 a x.at_.length
  rw [hi] at r1 m1
  have FT := Lib.hid (fits_fit hf)
  have hlp : 0 < x.at_.length := (right_lens FT.out.right).1
  have hne : ¬ x.at_ = [] := List.length_pos_iff.1 hlp
  have hil : i < x.at_.length := by rw [← hi]; exact Nat.mod_lt _ hlp
  have hlen6 := (right_lens FT.out.right).2.1
  have r2 := run_tmod7 c x.wher.length
  have m2 := run_mod7 c x.wher.length
  rw [hk] at r2 m2
  have r3 := run_tmod7 d x.wher.length
  have m3 := run_mod7 d x.wher.length
  rw [hb] at r3 m3
  have hnw : ¬ x.wher = [] := List.length_pos_iff.1 hlw
  have h0 : ((x.wher.length : Int) == 0) = false := by simp; omega
  have hkl : k < x.wher.length := by rw [← hk]; exact Nat.mod_lt _ hlw
  have hbl : bx < x.wher.length := by rw [← hb]; exact Nat.mod_lt _ hlw
  have hlen16 := (right_lens FT.out.right).2.2.2.1
  have HR := Lib.hid hR
  have HP := Lib.hid hP
  have HV := Lib.hid hv
  have HU := Lib.hid hu
  have C0 := Lib.hid c0
  have C1 := Lib.hid c1
  have C2 := Lib.hid c2
  have HWB := Lib.hid hwb
  have hlen := h.wh.len
  have hlenA := h.at_.len
  have g1 := run_pleq 1 i 0 (roomOf x i)
  have g2 := run_pleq 1 i 1 i
  simp only [decide_true] at g2
  rw [show decide ((⟨1, (i : Int)⟩ : Pl) = ⟨0, (roomOf x i : Int)⟩) = false by simp] at g1
  clear hi hk hb hlp hlw hR hP hv hu c0 c1 c2 hwb
  have H_0 := Lib.hid (Holds.new w #[.slice pd.ex x.d.exits.length pd.exc, .slice pd.pl x.d.players.length pd.plc, .slice pd.co x.d.coins.length pd.coc, .slice pd.it x.d.items.length pd.itc, .slice pd.bo x.d.boxes.length pd.boc, .int .i64 x.d.room, .int .i64 x.d.player, .int .i64 x.d.box, .slice (some ⟨b, o, none⟩) x.at_.length pac, .slice pk x.coins.length pkc, .slice (some ⟨wb, wo, none⟩) x.wher.length pwc] 29)
  have HF := Lib.hid hf
  have HWA := Lib.hid h
  clear hf h
  go_enter Try.func6, Try.ntmps6
  go_wp2_with fail
  generalize w.alloc (.cells #[.slice pd.ex x.d.exits.length pd.exc, .slice pd.pl x.d.players.length pd.plc, .slice pd.co x.d.coins.length pd.coc, .slice pd.it x.d.items.length pd.itc, .slice pd.bo x.d.boxes.length pd.boc, .int .i64 x.d.room, .int .i64 x.d.player, .int .i64 x.d.box, .slice (some ⟨b, o, none⟩) x.at_.length pac, .slice pk x.coins.length pkc, .slice (some ⟨wb, wo, none⟩) x.wher.length pwc] 29) = V0 at *
  have B_0 := Lib.hid H_0.out.1
  refine (awake10_any _).mono ?_
  rintro e u1 ⟨rfl, b1⟩
  have B_1 := Lib.hid (bl B_0.out b1)
  have H_1 := Lib.hid (H_0.out.call b1)
  clear b1 B_0 H_0
  have hcH := H_1.out.2.2
  have hlH := H_1.out.2.1
  go_wp2_with fail
  refine (fits10_any x ⟨pd, some ⟨b, o, none⟩, pac, pk, pkc, some ⟨wb, wo, none⟩, pwc⟩ _ (HWA.out.below H_1.out.1 (Nat.le_refl _))).mono ?_
  rintro e u2 ⟨rfl, b2⟩
  rw [HF.out]
  clear hcH hlH
  have B_2 := Lib.hid (bl B_1.out b2)
  have H_2 := Lib.hid (H_1.out.call b2)
  clear b2 B_1 H_1
  have hcH := H_2.out.2.2
  have hlH := H_2.out.2.1
  go_wp2_with fail
  refine (bput_as (Shape.refl x) ⟨pd, some ⟨b, o, none⟩, pac, pk, pkc, some ⟨wb, wo, none⟩, pwc⟩ i k bx _ FT.out.right (HWA.out.below B_2.out (Nat.le_refl _)) hil HR.out).mono ?_
  rintro e u3 ⟨q3, rfl, g3, b3⟩
  clear hcH hlH
  have B_3 := Lib.hid (bl B_2.out b3)
  have H_3 := Lib.hid (H_2.out.call b3)
  clear b3 B_2 H_2 g3
  have hcH := H_3.out.2.2
  have hlH := H_3.out.2.1
  go_wp2_with fail
  clear hcH hlH
  have s4 : (u3.alloc (.cells #[.slice q3.d.ex x.d.exits.length q3.d.exc, .slice q3.d.pl x.d.players.length q3.d.plc, .slice q3.d.co x.d.coins.length q3.d.coc, .slice q3.d.it x.d.items.length q3.d.itc, .slice q3.d.bo x.d.boxes.length q3.d.boc, .int .i64 x.d.room, .int .i64 x.d.player, .int .i64 x.d.box, .slice q3.at_ x.at_.length q3.atc, .slice q3.co x.coins.length q3.coc, .slice q3.wh x.wher.length q3.whc] 29)).heap.size = u3.heap.size + 1 := by simp
  have B_4 := Lib.hid (B_3.out.alloc B_3.out.size (.cells #[.slice q3.d.ex x.d.exits.length q3.d.exc, .slice q3.d.pl x.d.players.length q3.d.plc, .slice q3.d.co x.d.coins.length q3.d.coc, .slice q3.d.it x.d.items.length q3.d.itc, .slice q3.d.bo x.d.boxes.length q3.d.boc, .int .i64 x.d.room, .int .i64 x.d.player, .int .i64 x.d.box, .slice q3.at_ x.at_.length q3.atc, .slice q3.co x.coins.length q3.coc, .slice q3.wh x.wher.length q3.whc] 29))
  have H_4 := Lib.hid (H_3.out.alloc (.cells #[.slice q3.d.ex x.d.exits.length q3.d.exc, .slice q3.d.pl x.d.players.length q3.d.plc, .slice q3.d.co x.d.coins.length q3.d.coc, .slice q3.d.it x.d.items.length q3.d.itc, .slice q3.d.bo x.d.boxes.length q3.d.boc, .int .i64 x.d.room, .int .i64 x.d.player, .int .i64 x.d.box, .slice q3.at_ x.at_.length q3.atc, .slice q3.co x.coins.length q3.coc, .slice q3.wh x.wher.length q3.whc] 29))
  have A_4 := Lib.hid (Holds.newb (w := w) (A := #[.slice q3.d.ex x.d.exits.length q3.d.exc, .slice q3.d.pl x.d.players.length q3.d.plc, .slice q3.d.co x.d.coins.length q3.d.coc, .slice q3.d.it x.d.items.length q3.d.itc, .slice q3.d.bo x.d.boxes.length q3.d.boc, .int .i64 x.d.room, .int .i64 x.d.player, .int .i64 x.d.box, .slice q3.at_ x.at_.length q3.atc, .slice q3.co x.coins.length q3.coc, .slice q3.wh x.wher.length q3.whc]) (t := 29) (n := u3.heap.size) B_3.out rfl)
  clear B_3 H_3
  generalize u3.alloc (.cells #[.slice q3.d.ex x.d.exits.length q3.d.exc, .slice q3.d.pl x.d.players.length q3.d.plc, .slice q3.d.co x.d.coins.length q3.d.coc, .slice q3.d.it x.d.items.length q3.d.itc, .slice q3.d.bo x.d.boxes.length q3.d.boc, .int .i64 x.d.room, .int .i64 x.d.player, .int .i64 x.d.box, .slice q3.at_ x.at_.length q3.atc, .slice q3.co x.coins.length q3.coc, .slice q3.wh x.wher.length q3.whc] 29) = V4 at *
  have hcH := H_4.out.2.2
  have hlH := H_4.out.2.1
  have hcA := A_4.out.2.2
  have hlA := A_4.out.2.1
  refine (btake_as (Shape.refl x) ⟨pd, some ⟨b, o, none⟩, pac, pk, pkc, some ⟨wb, wo, none⟩, pwc⟩ i k bx _ FT.out.right (HWA.out.below B_4.out (Nat.le_refl _)) hil HP.out).mono ?_
  rintro e u5 ⟨q5, rfl, g5, b5⟩
  clear hcH hlH hcA hlA
  have B_5 := Lib.hid (bl B_4.out b5)
  have H_5 := Lib.hid (H_4.out.call b5)
  have A_5 := Lib.hid (A_4.out.call b5)
  clear b5 B_4 H_4 A_4 g5
  have hcH := H_5.out.2.2
  have hlH := H_5.out.2.1
  have hcA := A_5.out.2.2
  have hlA := A_5.out.2.1
  go_wp2_with fail
  clear hcH hlH hcA hlA
  have s6 : (u5.alloc (.cells #[.slice q5.d.ex x.d.exits.length q5.d.exc, .slice q5.d.pl x.d.players.length q5.d.plc, .slice q5.d.co x.d.coins.length q5.d.coc, .slice q5.d.it x.d.items.length q5.d.itc, .slice q5.d.bo x.d.boxes.length q5.d.boc, .int .i64 x.d.room, .int .i64 x.d.player, .int .i64 x.d.box, .slice q5.at_ x.at_.length q5.atc, .slice q5.co x.coins.length q5.coc, .slice q5.wh x.wher.length q5.whc] 29)).heap.size = u5.heap.size + 1 := by simp
  have B_6 := Lib.hid (B_5.out.alloc B_5.out.size (.cells #[.slice q5.d.ex x.d.exits.length q5.d.exc, .slice q5.d.pl x.d.players.length q5.d.plc, .slice q5.d.co x.d.coins.length q5.d.coc, .slice q5.d.it x.d.items.length q5.d.itc, .slice q5.d.bo x.d.boxes.length q5.d.boc, .int .i64 x.d.room, .int .i64 x.d.player, .int .i64 x.d.box, .slice q5.at_ x.at_.length q5.atc, .slice q5.co x.coins.length q5.coc, .slice q5.wh x.wher.length q5.whc] 29))
  have H_6 := Lib.hid (H_5.out.alloc (.cells #[.slice q5.d.ex x.d.exits.length q5.d.exc, .slice q5.d.pl x.d.players.length q5.d.plc, .slice q5.d.co x.d.coins.length q5.d.coc, .slice q5.d.it x.d.items.length q5.d.itc, .slice q5.d.bo x.d.boxes.length q5.d.boc, .int .i64 x.d.room, .int .i64 x.d.player, .int .i64 x.d.box, .slice q5.at_ x.at_.length q5.atc, .slice q5.co x.coins.length q5.coc, .slice q5.wh x.wher.length q5.whc] 29))
  have A_6 := Lib.hid (A_5.out.alloc (.cells #[.slice q5.d.ex x.d.exits.length q5.d.exc, .slice q5.d.pl x.d.players.length q5.d.plc, .slice q5.d.co x.d.coins.length q5.d.coc, .slice q5.d.it x.d.items.length q5.d.itc, .slice q5.d.bo x.d.boxes.length q5.d.boc, .int .i64 x.d.room, .int .i64 x.d.player, .int .i64 x.d.box, .slice q5.at_ x.at_.length q5.atc, .slice q5.co x.coins.length q5.coc, .slice q5.wh x.wher.length q5.whc] 29))
  have D_6 := Lib.hid (Holds.newb (w := w) (A := #[.slice q5.d.ex x.d.exits.length q5.d.exc, .slice q5.d.pl x.d.players.length q5.d.plc, .slice q5.d.co x.d.coins.length q5.d.coc, .slice q5.d.it x.d.items.length q5.d.itc, .slice q5.d.bo x.d.boxes.length q5.d.boc, .int .i64 x.d.room, .int .i64 x.d.player, .int .i64 x.d.box, .slice q5.at_ x.at_.length q5.atc, .slice q5.co x.coins.length q5.coc, .slice q5.wh x.wher.length q5.whc]) (t := 29) (n := u5.heap.size) B_5.out rfl)
  clear B_5 H_5 A_5
  generalize u5.alloc (.cells #[.slice q5.d.ex x.d.exits.length q5.d.exc, .slice q5.d.pl x.d.players.length q5.d.plc, .slice q5.d.co x.d.coins.length q5.d.coc, .slice q5.d.it x.d.items.length q5.d.itc, .slice q5.d.bo x.d.boxes.length q5.d.boc, .int .i64 x.d.room, .int .i64 x.d.player, .int .i64 x.d.box, .slice q5.at_ x.at_.length q5.atc, .slice q5.co x.coins.length q5.coc, .slice q5.wh x.wher.length q5.whc] 29) = V6 at *
  have hcH := H_6.out.2.2
  have hlH := H_6.out.2.1
  have hcA := A_6.out.2.2
  have hlA := A_6.out.2.1
  have hcD := D_6.out.2.2
  have hlD := D_6.out.2.1
  refine (near_as (Shape.refl x) ⟨pd, some ⟨b, o, none⟩, pac, pk, pkc, some ⟨wb, wo, none⟩, pwc⟩ i _ FT.out.right (HWA.out.below B_6.out (Nat.le_refl _)) hil k hkl HV.out).mono ?_
  rintro e u7 ⟨rfl, b7⟩
  clear hcH hlH hcA hlA hcD hlD
  have B_7 := Lib.hid (bl B_6.out b7)
  have H_7 := Lib.hid (H_6.out.call b7)
  have A_7 := Lib.hid (A_6.out.call b7)
  have D_7 := Lib.hid (D_6.out.call b7)
  clear b7 B_6 H_6 A_6 D_6
  have hcH := H_7.out.2.2
  have hlH := H_7.out.2.1
  have hcA := A_7.out.2.2
  have hlA := A_7.out.2.1
  have hcD := D_7.out.2.2
  have hlD := D_7.out.2.1
  go_wp2_with fail
  refine (near_as (Shape.refl x) ⟨pd, some ⟨b, o, none⟩, pac, pk, pkc, some ⟨wb, wo, none⟩, pwc⟩ i _ FT.out.right (HWA.out.below B_7.out (Nat.le_refl _)) hil bx hbl HU.out).mono ?_
  rintro e u8 ⟨rfl, b8⟩
  clear hcH hlH hcA hlA hcD hlD
  have B_8 := Lib.hid (bl B_7.out b8)
  have H_8 := Lib.hid (H_7.out.call b8)
  have A_8 := Lib.hid (A_7.out.call b8)
  have D_8 := Lib.hid (D_7.out.call b8)
  clear b8 B_7 H_7 A_7 D_7
  have hcH := H_8.out.2.2
  have hlH := H_8.out.2.1
  have hcA := A_8.out.2.2
  have hlA := A_8.out.2.1
  have hcD := D_8.out.2.2
  have hlD := D_8.out.2.1
  have cw0 := cell_call C0.out B_8.out
  have cw1 := cell_call C1.out B_8.out
  have lwb : wb < u8.heap.size := Nat.lt_of_lt_of_le HWB.out B_8.out.size
  go_wp2_with fail
  clear hcH hlH hcA hlA hcD hlD cw0 cw1 lwb
  have s9 : (u8.alloc (.cells #[.int .i64 1, .int .i64 (i : Int)] 42)).heap.size = u8.heap.size + 1 := by simp
  have B_9 := Lib.hid (B_8.out.alloc B_8.out.size (.cells #[.int .i64 1, .int .i64 (i : Int)] 42))
  have H_9 := Lib.hid (H_8.out.alloc (.cells #[.int .i64 1, .int .i64 (i : Int)] 42))
  have A_9 := Lib.hid (A_8.out.alloc (.cells #[.int .i64 1, .int .i64 (i : Int)] 42))
  have D_9 := Lib.hid (D_8.out.alloc (.cells #[.int .i64 1, .int .i64 (i : Int)] 42))
  have T_9 := Lib.hid (Holds.newb (w := w) (A := #[.int .i64 1, .int .i64 (i : Int)]) (t := 42) (n := u8.heap.size) B_8.out rfl)
  clear B_8 H_8 A_8 D_8
  generalize u8.alloc (.cells #[.int .i64 1, .int .i64 (i : Int)] 42) = V9 at *
  have hcH := H_9.out.2.2
  have hlH := H_9.out.2.1
  have hcA := A_9.out.2.2
  have hlA := A_9.out.2.1
  have hcD := D_9.out.2.2
  have hlD := D_9.out.2.1
  have hcT := T_9.out.2.2
  have hlT := T_9.out.2.1
  clear hcH hlH hcA hlA hcD hlD hcT hlT
  generalize ((roomOf x i : Nat) : Int) = rm at *
  have KS : Hid (∀ w', Below V9.heap.size V9 w' → Below V9.heap.size V9 w' ∧ (∀ ii, w'.cell? ⟨w.heap.size, ii, none⟩ = (#[.slice pd.ex x.d.exits.length pd.exc, .slice pd.pl x.d.players.length pd.plc, .slice pd.co x.d.coins.length pd.coc, .slice pd.it x.d.items.length pd.itc, .slice pd.bo x.d.boxes.length pd.boc, .int .i64 x.d.room, .int .i64 x.d.player, .int .i64 x.d.box, .slice (some ⟨b, o, none⟩) x.at_.length pac, .slice pk x.coins.length pkc, .slice (some ⟨wb, wo, none⟩) x.wher.length pwc][ii]? : Option Value)) ∧ (∀ ii, w'.cell? ⟨u8.heap.size, ii, none⟩ = (#[.int .i64 1, .int .i64 (i : Int)][ii]? : Option Value)) ∧ w'.cell? ⟨b, o + i, none⟩ = some (.int .i64 rm)) := Lib.hid (fun w' hb => ⟨hb, fun ii => (hb.cell (p := ⟨w.heap.size, ii, none⟩) H_9.out.2.1).trans (H_9.out.2.2 ii), fun ii => (hb.cell (p := ⟨u8.heap.size, ii, none⟩) T_9.out.2.1).trans (T_9.out.2.2 ii), cell_call (cell_call C2.out B_9.out) hb⟩)
  refine wp_region_noPanic ?_
  refine wp_region_held_drew (S := (fun w' => Below V9.heap.size V9 w' ∧ (∀ ii, w'.cell? ⟨w.heap.size, ii, none⟩ = (#[.slice pd.ex x.d.exits.length pd.exc, .slice pd.pl x.d.players.length pd.plc, .slice pd.co x.d.coins.length pd.coc, .slice pd.it x.d.items.length pd.itc, .slice pd.bo x.d.boxes.length pd.boc, .int .i64 x.d.room, .int .i64 x.d.player, .int .i64 x.d.box, .slice (some ⟨b, o, none⟩) x.at_.length pac, .slice pk x.coins.length pkc, .slice (some ⟨wb, wo, none⟩) x.wher.length pwc][ii]? : Option Value)) ∧ (∀ ii, w'.cell? ⟨u8.heap.size, ii, none⟩ = (#[.int .i64 1, .int .i64 (i : Int)][ii]? : Option Value)) ∧ w'.cell? ⟨b, o + i, none⟩ = some (.int .i64 rm))) (by kernel_rfl) (by (first | (with_reducible exact KS.out _ (bdrew1 (Below.refl _ _))) | (with_reducible exact KS.out _ (below_call hHeld.1 hHeld.1.size hb9)) | (with_reducible exact hHeld))) (fun hHeld => ?_)
  first
    | (refine wpAnyH_take (i := 0) (v := undef) (by simp only [List.getElem?_toArray, List.getElem?_cons_zero]; rfl) (by kernel_rfl) (by kernel_rfl) (by kernel_rfl) (fun _ _ _ h => h) (Or.inr ⟨by rfl, rfl⟩) (by assumption) ?_; try simp only [Act.put, List.setIfInBounds_toArray, List.set_cons_zero, List.set_cons_succ])
    | (refine wpAnyH_take (i := 0) (v := ?_) (by simp only [List.getElem?_toArray, List.getElem?_cons_zero]; rfl) (by kernel_rfl) (by kernel_rfl) (by kernel_rfl) (fun _ _ _ h => h) (Or.inl ⟨by rfl, ?_⟩) (by assumption) ?_
       rotate_left
       · (intro ww hSw; (try dsimp only at hSw); go_simp; (try with_reducible rfl))
       try simp only [Act.put, List.setIfInBounds_toArray, List.set_cons_zero, List.set_cons_succ])
    | (refine wpAnyH_ready (rs := [0]) (by kernel_rfl) (by simp) (AllReadyH.cons (by simp only [List.getElem?_toArray, List.getElem?_cons_succ, List.getElem?_cons_zero]; rfl) (fun K hK => ?_) AllReadyH.nil)
       go_simp
       first
         | (fail)
       try go_wp2_with fail
       refine hK.out _ _ (by (first | (with_reducible exact KS.out _ (bdrew1 (Below.refl _ _))) | (with_reducible exact KS.out _ (below_call hHeld.1 hHeld.1.size hb9)) | (with_reducible exact hHeld))) (fun hHeld => ?_)
       clear hK K
       try simp only [Act.put, List.setIfInBounds_toArray, List.set_cons_zero, List.set_cons_succ])
  first
    | (refine wpAnyH_take (i := 1) (v := undef) (by simp only [List.getElem?_toArray, List.getElem?_cons_succ, List.getElem?_cons_zero]; rfl) (by kernel_rfl) (by kernel_rfl) (by kernel_rfl) (fun _ _ _ h => h) (Or.inr ⟨by rfl, rfl⟩) (by assumption) ?_; try simp only [Act.put, List.setIfInBounds_toArray, List.set_cons_zero, List.set_cons_succ])
    | (refine wpAnyH_take (i := 1) (v := ?_) (by simp only [List.getElem?_toArray, List.getElem?_cons_succ, List.getElem?_cons_zero]; rfl) (by kernel_rfl) (by kernel_rfl) (by kernel_rfl) (fun _ _ _ h => h) (Or.inl ⟨by rfl, ?_⟩) (by assumption) ?_
       rotate_left
       · (intro ww hSw; (try dsimp only at hSw); go_simp; (try with_reducible rfl))
       try simp only [Act.put, List.setIfInBounds_toArray, List.set_cons_zero, List.set_cons_succ])
    | (refine wpAnyH_ready (rs := [1]) (by kernel_rfl) (by simp) (AllReadyH.cons (by simp only [List.getElem?_toArray, List.getElem?_cons_succ, List.getElem?_cons_zero]; rfl) (fun K hK => ?_) AllReadyH.nil)
       go_simp
       first
         | (fail)
       try go_wp2_with fail
       refine hK.out _ _ (by (first | (with_reducible exact KS.out _ (bdrew1 (Below.refl _ _))) | (with_reducible exact KS.out _ (below_call hHeld.1 hHeld.1.size hb9)) | (with_reducible exact hHeld))) (fun hHeld => ?_)
       clear hK K
       try simp only [Act.put, List.setIfInBounds_toArray, List.set_cons_zero, List.set_cons_succ])
  first
    | (refine wpAnyH_take (i := 2) (v := undef) (by simp only [List.getElem?_toArray, List.getElem?_cons_succ, List.getElem?_cons_zero]; rfl) (by kernel_rfl) (by kernel_rfl) (by kernel_rfl) (fun _ _ _ h => h) (Or.inr ⟨by rfl, rfl⟩) (by assumption) ?_; try simp only [Act.put, List.setIfInBounds_toArray, List.set_cons_zero, List.set_cons_succ])
    | (refine wpAnyH_take (i := 2) (v := ?_) (by simp only [List.getElem?_toArray, List.getElem?_cons_succ, List.getElem?_cons_zero]; rfl) (by kernel_rfl) (by kernel_rfl) (by kernel_rfl) (fun _ _ _ h => h) (Or.inl ⟨by rfl, ?_⟩) (by assumption) ?_
       rotate_left
       · (intro ww hSw; (try dsimp only at hSw); go_simp; (try with_reducible rfl))
       try simp only [Act.put, List.setIfInBounds_toArray, List.set_cons_zero, List.set_cons_succ])
    | (refine wpAnyH_ready (rs := [2]) (by kernel_rfl) (by simp) (AllReadyH.cons (by simp only [List.getElem?_toArray, List.getElem?_cons_succ, List.getElem?_cons_zero]; rfl) (fun K hK => ?_) AllReadyH.nil)
       go_simp
       first
         | (fail)
       try go_wp2_with fail
       refine hK.out _ _ (by (first | (with_reducible exact KS.out _ (bdrew1 (Below.refl _ _))) | (with_reducible exact KS.out _ (below_call hHeld.1 hHeld.1.size hb9)) | (with_reducible exact hHeld))) (fun hHeld => ?_)
       clear hK K
       try simp only [Act.put, List.setIfInBounds_toArray, List.set_cons_zero, List.set_cons_succ])
  first
    | (refine wpAnyH_take (i := 3) (v := undef) (by simp only [List.getElem?_toArray, List.getElem?_cons_succ, List.getElem?_cons_zero]; rfl) (by kernel_rfl) (by kernel_rfl) (by kernel_rfl) (fun _ _ _ h => h) (Or.inr ⟨by rfl, rfl⟩) (by assumption) ?_; try simp only [Act.put, List.setIfInBounds_toArray, List.set_cons_zero, List.set_cons_succ])
    | (refine wpAnyH_take (i := 3) (v := ?_) (by simp only [List.getElem?_toArray, List.getElem?_cons_succ, List.getElem?_cons_zero]; rfl) (by kernel_rfl) (by kernel_rfl) (by kernel_rfl) (fun _ _ _ h => h) (Or.inl ⟨by rfl, ?_⟩) (by assumption) ?_
       rotate_left
       · (intro ww hSw; (try dsimp only at hSw); go_simp; (try with_reducible rfl))
       try simp only [Act.put, List.setIfInBounds_toArray, List.set_cons_zero, List.set_cons_succ])
    | (refine wpAnyH_ready (rs := [3]) (by kernel_rfl) (by simp) (AllReadyH.cons (by simp only [List.getElem?_toArray, List.getElem?_cons_succ, List.getElem?_cons_zero]; rfl) (fun K hK => ?_) AllReadyH.nil)
       go_simp
       first
         | (fail)
       try go_wp2_with fail
       refine hK.out _ _ (by (first | (with_reducible exact KS.out _ (bdrew1 (Below.refl _ _))) | (with_reducible exact KS.out _ (below_call hHeld.1 hHeld.1.size hb9)) | (with_reducible exact hHeld))) (fun hHeld => ?_)
       clear hK K
       try simp only [Act.put, List.setIfInBounds_toArray, List.set_cons_zero, List.set_cons_succ])
  first
    | (refine wpAnyH_take (i := 4) (v := undef) (by simp only [List.getElem?_toArray, List.getElem?_cons_succ, List.getElem?_cons_zero]; rfl) (by kernel_rfl) (by kernel_rfl) (by kernel_rfl) (fun _ _ _ h => h) (Or.inr ⟨by rfl, rfl⟩) (by assumption) ?_; try simp only [Act.put, List.setIfInBounds_toArray, List.set_cons_zero, List.set_cons_succ])
    | (refine wpAnyH_take (i := 4) (v := ?_) (by simp only [List.getElem?_toArray, List.getElem?_cons_succ, List.getElem?_cons_zero]; rfl) (by kernel_rfl) (by kernel_rfl) (by kernel_rfl) (fun _ _ _ h => h) (Or.inl ⟨by rfl, ?_⟩) (by assumption) ?_
       rotate_left
       · (intro ww hSw; (try dsimp only at hSw); go_simp; (try with_reducible rfl))
       try simp only [Act.put, List.setIfInBounds_toArray, List.set_cons_zero, List.set_cons_succ])
    | (refine wpAnyH_ready (rs := [4]) (by kernel_rfl) (by simp) (AllReadyH.cons (by simp only [List.getElem?_toArray, List.getElem?_cons_succ, List.getElem?_cons_zero]; rfl) (fun K hK => ?_) AllReadyH.nil)
       go_simp
       first
         | (fail)
       try go_wp2_with fail
       refine hK.out _ _ (by (first | (with_reducible exact KS.out _ (bdrew1 (Below.refl _ _))) | (with_reducible exact KS.out _ (below_call hHeld.1 hHeld.1.size hb9)) | (with_reducible exact hHeld))) (fun hHeld => ?_)
       clear hK K
       try simp only [Act.put, List.setIfInBounds_toArray, List.set_cons_zero, List.set_cons_succ])
  first
    | (refine wpAnyH_take (i := 5) (v := undef) (by simp only [List.getElem?_toArray, List.getElem?_cons_succ, List.getElem?_cons_zero]; rfl) (by kernel_rfl) (by kernel_rfl) (by kernel_rfl) (fun _ _ _ h => h) (Or.inr ⟨by rfl, rfl⟩) (by assumption) ?_; try simp only [Act.put, List.setIfInBounds_toArray, List.set_cons_zero, List.set_cons_succ])
    | (refine wpAnyH_take (i := 5) (v := ?_) (by simp only [List.getElem?_toArray, List.getElem?_cons_succ, List.getElem?_cons_zero]; rfl) (by kernel_rfl) (by kernel_rfl) (by kernel_rfl) (fun _ _ _ h => h) (Or.inl ⟨by rfl, ?_⟩) (by assumption) ?_
       rotate_left
       · (intro ww hSw; (try dsimp only at hSw); go_simp; (try with_reducible rfl))
       try simp only [Act.put, List.setIfInBounds_toArray, List.set_cons_zero, List.set_cons_succ])
    | (refine wpAnyH_ready (rs := [5]) (by kernel_rfl) (by simp) (AllReadyH.cons (by simp only [List.getElem?_toArray, List.getElem?_cons_succ, List.getElem?_cons_zero]; rfl) (fun K hK => ?_) AllReadyH.nil)
       go_simp
       first
         | (fail)
       try go_wp2_with fail
       refine hK.out _ _ (by (first | (with_reducible exact KS.out _ (bdrew1 (Below.refl _ _))) | (with_reducible exact KS.out _ (below_call hHeld.1 hHeld.1.size hb9)) | (with_reducible exact hHeld))) (fun hHeld => ?_)
       clear hK K
       try simp only [Act.put, List.setIfInBounds_toArray, List.set_cons_zero, List.set_cons_succ])
  first
    | (refine wpAnyH_take (i := 6) (v := undef) (by simp only [List.getElem?_toArray, List.getElem?_cons_succ, List.getElem?_cons_zero]; rfl) (by kernel_rfl) (by kernel_rfl) (by kernel_rfl) (fun _ _ _ h => h) (Or.inr ⟨by rfl, rfl⟩) (by assumption) ?_; try simp only [Act.put, List.setIfInBounds_toArray, List.set_cons_zero, List.set_cons_succ])
    | (refine wpAnyH_take (i := 6) (v := ?_) (by simp only [List.getElem?_toArray, List.getElem?_cons_succ, List.getElem?_cons_zero]; rfl) (by kernel_rfl) (by kernel_rfl) (by kernel_rfl) (fun _ _ _ h => h) (Or.inl ⟨by rfl, ?_⟩) (by assumption) ?_
       rotate_left
       · (intro ww hSw; (try dsimp only at hSw); go_simp; (try with_reducible rfl))
       try simp only [Act.put, List.setIfInBounds_toArray, List.set_cons_zero, List.set_cons_succ])
    | (refine wpAnyH_ready (rs := [6]) (by kernel_rfl) (by simp) (AllReadyH.cons (by simp only [List.getElem?_toArray, List.getElem?_cons_succ, List.getElem?_cons_zero]; rfl) (fun K hK => ?_) AllReadyH.nil)
       go_simp
       first
         | (fail)
       try go_wp2_with fail
       refine hK.out _ _ (by (first | (with_reducible exact KS.out _ (bdrew1 (Below.refl _ _))) | (with_reducible exact KS.out _ (below_call hHeld.1 hHeld.1.size hb9)) | (with_reducible exact hHeld))) (fun hHeld => ?_)
       clear hK K
       try simp only [Act.put, List.setIfInBounds_toArray, List.set_cons_zero, List.set_cons_succ])
  first
    | (refine wpAnyH_take (i := 7) (v := undef) (by simp only [List.getElem?_toArray, List.getElem?_cons_succ, List.getElem?_cons_zero]; rfl) (by kernel_rfl) (by kernel_rfl) (by kernel_rfl) (fun _ _ _ h => h) (Or.inr ⟨by rfl, rfl⟩) (by assumption) ?_; try simp only [Act.put, List.setIfInBounds_toArray, List.set_cons_zero, List.set_cons_succ])
    | (refine wpAnyH_take (i := 7) (v := ?_) (by simp only [List.getElem?_toArray, List.getElem?_cons_succ, List.getElem?_cons_zero]; rfl) (by kernel_rfl) (by kernel_rfl) (by kernel_rfl) (fun _ _ _ h => h) (Or.inl ⟨by rfl, ?_⟩) (by assumption) ?_
       rotate_left
       · (intro ww hSw; (try dsimp only at hSw); go_simp; (try with_reducible rfl))
       try simp only [Act.put, List.setIfInBounds_toArray, List.set_cons_zero, List.set_cons_succ])
    | (refine wpAnyH_ready (rs := [7]) (by kernel_rfl) (by simp) (AllReadyH.cons (by simp only [List.getElem?_toArray, List.getElem?_cons_succ, List.getElem?_cons_zero]; rfl) (fun K hK => ?_) AllReadyH.nil)
       go_simp
       first
         | (fail)
       try go_wp2_with fail
       refine hK.out _ _ (by (first | (with_reducible exact KS.out _ (bdrew1 (Below.refl _ _))) | (with_reducible exact KS.out _ (below_call hHeld.1 hHeld.1.size hb9)) | (with_reducible exact hHeld))) (fun hHeld => ?_)
       clear hK K
       try simp only [Act.put, List.setIfInBounds_toArray, List.set_cons_zero, List.set_cons_succ])
  first
    | (refine wpAnyH_take (i := 8) (v := undef) (by simp only [List.getElem?_toArray, List.getElem?_cons_succ, List.getElem?_cons_zero]; rfl) (by kernel_rfl) (by kernel_rfl) (by kernel_rfl) (fun _ _ _ h => h) (Or.inr ⟨by rfl, rfl⟩) (by assumption) ?_; try simp only [Act.put, List.setIfInBounds_toArray, List.set_cons_zero, List.set_cons_succ])
    | (refine wpAnyH_take (i := 8) (v := ?_) (by simp only [List.getElem?_toArray, List.getElem?_cons_succ, List.getElem?_cons_zero]; rfl) (by kernel_rfl) (by kernel_rfl) (by kernel_rfl) (fun _ _ _ h => h) (Or.inl ⟨by rfl, ?_⟩) (by assumption) ?_
       rotate_left
       · (intro ww hSw; (try dsimp only at hSw); go_simp; (try with_reducible rfl))
       try simp only [Act.put, List.setIfInBounds_toArray, List.set_cons_zero, List.set_cons_succ])
    | (refine wpAnyH_ready (rs := [8]) (by kernel_rfl) (by simp) (AllReadyH.cons (by simp only [List.getElem?_toArray, List.getElem?_cons_succ, List.getElem?_cons_zero]; rfl) (fun K hK => ?_) AllReadyH.nil)
       go_simp
       first
         | (fail)
       try go_wp2_with fail
       refine hK.out _ _ (by (first | (with_reducible exact KS.out _ (bdrew1 (Below.refl _ _))) | (with_reducible exact KS.out _ (below_call hHeld.1 hHeld.1.size hb9)) | (with_reducible exact hHeld))) (fun hHeld => ?_)
       clear hK K
       try simp only [Act.put, List.setIfInBounds_toArray, List.set_cons_zero, List.set_cons_succ])
  first
    | (refine wpAnyH_take (i := 9) (v := undef) (by simp only [List.getElem?_toArray, List.getElem?_cons_succ, List.getElem?_cons_zero]; rfl) (by kernel_rfl) (by kernel_rfl) (by kernel_rfl) (fun _ _ _ h => h) (Or.inr ⟨by rfl, rfl⟩) (by assumption) ?_; try simp only [Act.put, List.setIfInBounds_toArray, List.set_cons_zero, List.set_cons_succ])
    | (refine wpAnyH_take (i := 9) (v := ?_) (by simp only [List.getElem?_toArray, List.getElem?_cons_succ, List.getElem?_cons_zero]; rfl) (by kernel_rfl) (by kernel_rfl) (by kernel_rfl) (fun _ _ _ h => h) (Or.inl ⟨by rfl, ?_⟩) (by assumption) ?_
       rotate_left
       · (intro ww hSw; (try dsimp only at hSw); go_simp; (try with_reducible rfl))
       try simp only [Act.put, List.setIfInBounds_toArray, List.set_cons_zero, List.set_cons_succ])
    | (refine wpAnyH_ready (rs := [9]) (by kernel_rfl) (by simp) (AllReadyH.cons (by simp only [List.getElem?_toArray, List.getElem?_cons_succ, List.getElem?_cons_zero]; rfl) (fun K hK => ?_) AllReadyH.nil)
       go_simp
       first
         | (fail)
       try go_wp2_with fail
       refine hK.out _ _ (by (first | (with_reducible exact KS.out _ (bdrew1 (Below.refl _ _))) | (with_reducible exact KS.out _ (below_call hHeld.1 hHeld.1.size hb9)) | (with_reducible exact hHeld))) (fun hHeld => ?_)
       clear hK K
       try simp only [Act.put, List.setIfInBounds_toArray, List.set_cons_zero, List.set_cons_succ])
  first
    | (refine wpAnyH_take (i := 10) (v := undef) (by simp only [List.getElem?_toArray, List.getElem?_cons_succ, List.getElem?_cons_zero]; rfl) (by kernel_rfl) (by kernel_rfl) (by kernel_rfl) (fun _ _ _ h => h) (Or.inr ⟨by rfl, rfl⟩) (by assumption) ?_; try simp only [Act.put, List.setIfInBounds_toArray, List.set_cons_zero, List.set_cons_succ])
    | (refine wpAnyH_take (i := 10) (v := ?_) (by simp only [List.getElem?_toArray, List.getElem?_cons_succ, List.getElem?_cons_zero]; rfl) (by kernel_rfl) (by kernel_rfl) (by kernel_rfl) (fun _ _ _ h => h) (Or.inl ⟨by rfl, ?_⟩) (by assumption) ?_
       rotate_left
       · (intro ww hSw; (try dsimp only at hSw); go_simp; (try with_reducible rfl))
       try simp only [Act.put, List.setIfInBounds_toArray, List.set_cons_zero, List.set_cons_succ])
    | (refine wpAnyH_ready (rs := [10]) (by kernel_rfl) (by simp) (AllReadyH.cons (by simp only [List.getElem?_toArray, List.getElem?_cons_succ, List.getElem?_cons_zero]; rfl) (fun K hK => ?_) AllReadyH.nil)
       go_simp
       first
         | (fail)
       try go_wp2_with fail
       refine hK.out _ _ (by (first | (with_reducible exact KS.out _ (bdrew1 (Below.refl _ _))) | (with_reducible exact KS.out _ (below_call hHeld.1 hHeld.1.size hb9)) | (with_reducible exact hHeld))) (fun hHeld => ?_)
       clear hK K
       try simp only [Act.put, List.setIfInBounds_toArray, List.set_cons_zero, List.set_cons_succ])
  first
    | (refine wpAnyH_take (i := 11) (v := undef) (by simp only [List.getElem?_toArray, List.getElem?_cons_succ, List.getElem?_cons_zero]; rfl) (by kernel_rfl) (by kernel_rfl) (by kernel_rfl) (fun _ _ _ h => h) (Or.inr ⟨by rfl, rfl⟩) (by assumption) ?_; try simp only [Act.put, List.setIfInBounds_toArray, List.set_cons_zero, List.set_cons_succ])
    | (refine wpAnyH_take (i := 11) (v := ?_) (by simp only [List.getElem?_toArray, List.getElem?_cons_succ, List.getElem?_cons_zero]; rfl) (by kernel_rfl) (by kernel_rfl) (by kernel_rfl) (fun _ _ _ h => h) (Or.inl ⟨by rfl, ?_⟩) (by assumption) ?_
       rotate_left
       · (intro ww hSw; (try dsimp only at hSw); go_simp; (try with_reducible rfl))
       try simp only [Act.put, List.setIfInBounds_toArray, List.set_cons_zero, List.set_cons_succ])
    | (refine wpAnyH_ready (rs := [11]) (by kernel_rfl) (by simp) (AllReadyH.cons (by simp only [List.getElem?_toArray, List.getElem?_cons_succ, List.getElem?_cons_zero]; rfl) (fun K hK => ?_) AllReadyH.nil)
       go_simp
       first
         | (fail)
       try go_wp2_with fail
       refine hK.out _ _ (by (first | (with_reducible exact KS.out _ (bdrew1 (Below.refl _ _))) | (with_reducible exact KS.out _ (below_call hHeld.1 hHeld.1.size hb9)) | (with_reducible exact hHeld))) (fun hHeld => ?_)
       clear hK K
       try simp only [Act.put, List.setIfInBounds_toArray, List.set_cons_zero, List.set_cons_succ])
  first
    | (refine wpAnyH_take (i := 12) (v := undef) (by simp only [List.getElem?_toArray, List.getElem?_cons_succ, List.getElem?_cons_zero]; rfl) (by kernel_rfl) (by kernel_rfl) (by kernel_rfl) (fun _ _ _ h => h) (Or.inr ⟨by rfl, rfl⟩) (by assumption) ?_; try simp only [Act.put, List.setIfInBounds_toArray, List.set_cons_zero, List.set_cons_succ])
    | (refine wpAnyH_take (i := 12) (v := ?_) (by simp only [List.getElem?_toArray, List.getElem?_cons_succ, List.getElem?_cons_zero]; rfl) (by kernel_rfl) (by kernel_rfl) (by kernel_rfl) (fun _ _ _ h => h) (Or.inl ⟨by rfl, ?_⟩) (by assumption) ?_
       rotate_left
       · (intro ww hSw; (try dsimp only at hSw); go_simp; (try with_reducible rfl))
       try simp only [Act.put, List.setIfInBounds_toArray, List.set_cons_zero, List.set_cons_succ])
    | (refine wpAnyH_ready (rs := [12]) (by kernel_rfl) (by simp) (AllReadyH.cons (by simp only [List.getElem?_toArray, List.getElem?_cons_succ, List.getElem?_cons_zero]; rfl) (fun K hK => ?_) AllReadyH.nil)
       go_simp
       first
         | (fail)
       try go_wp2_with fail
       refine hK.out _ _ (by (first | (with_reducible exact KS.out _ (bdrew1 (Below.refl _ _))) | (with_reducible exact KS.out _ (below_call hHeld.1 hHeld.1.size hb9)) | (with_reducible exact hHeld))) (fun hHeld => ?_)
       clear hK K
       try simp only [Act.put, List.setIfInBounds_toArray, List.set_cons_zero, List.set_cons_succ])
  first
    | (refine wpAnyH_take (i := 13) (v := undef) (by simp only [List.getElem?_toArray, List.getElem?_cons_succ, List.getElem?_cons_zero]; rfl) (by kernel_rfl) (by kernel_rfl) (by kernel_rfl) (fun _ _ _ h => h) (Or.inr ⟨by rfl, rfl⟩) (by assumption) ?_; try simp only [Act.put, List.setIfInBounds_toArray, List.set_cons_zero, List.set_cons_succ])
    | (refine wpAnyH_take (i := 13) (v := ?_) (by simp only [List.getElem?_toArray, List.getElem?_cons_succ, List.getElem?_cons_zero]; rfl) (by kernel_rfl) (by kernel_rfl) (by kernel_rfl) (fun _ _ _ h => h) (Or.inl ⟨by rfl, ?_⟩) (by assumption) ?_
       rotate_left
       · (intro ww hSw; (try dsimp only at hSw); go_simp; (try with_reducible rfl))
       try simp only [Act.put, List.setIfInBounds_toArray, List.set_cons_zero, List.set_cons_succ])
    | (refine wpAnyH_ready (rs := [13]) (by kernel_rfl) (by simp) (AllReadyH.cons (by simp only [List.getElem?_toArray, List.getElem?_cons_succ, List.getElem?_cons_zero]; rfl) (fun K hK => ?_) AllReadyH.nil)
       go_simp
       first
         | (fail)
       try go_wp2_with fail
       refine hK.out _ _ (by (first | (with_reducible exact KS.out _ (bdrew1 (Below.refl _ _))) | (with_reducible exact KS.out _ (below_call hHeld.1 hHeld.1.size hb9)) | (with_reducible exact hHeld))) (fun hHeld => ?_)
       clear hK K
       try simp only [Act.put, List.setIfInBounds_toArray, List.set_cons_zero, List.set_cons_succ])
  first
    | (refine wpAnyH_take (i := 14) (v := undef) (by simp only [List.getElem?_toArray, List.getElem?_cons_succ, List.getElem?_cons_zero]; rfl) (by kernel_rfl) (by kernel_rfl) (by kernel_rfl) (fun _ _ _ h => h) (Or.inr ⟨by rfl, rfl⟩) (by assumption) ?_; try simp only [Act.put, List.setIfInBounds_toArray, List.set_cons_zero, List.set_cons_succ])
    | (refine wpAnyH_take (i := 14) (v := ?_) (by simp only [List.getElem?_toArray, List.getElem?_cons_succ, List.getElem?_cons_zero]; rfl) (by kernel_rfl) (by kernel_rfl) (by kernel_rfl) (fun _ _ _ h => h) (Or.inl ⟨by rfl, ?_⟩) (by assumption) ?_
       rotate_left
       · (intro ww hSw; (try dsimp only at hSw); go_simp; (try with_reducible rfl))
       try simp only [Act.put, List.setIfInBounds_toArray, List.set_cons_zero, List.set_cons_succ])
    | (refine wpAnyH_ready (rs := [14]) (by kernel_rfl) (by simp) (AllReadyH.cons (by simp only [List.getElem?_toArray, List.getElem?_cons_succ, List.getElem?_cons_zero]; rfl) (fun K hK => ?_) AllReadyH.nil)
       go_simp
       first
         | (fail)
       try go_wp2_with fail
       refine hK.out _ _ (by (first | (with_reducible exact KS.out _ (bdrew1 (Below.refl _ _))) | (with_reducible exact KS.out _ (below_call hHeld.1 hHeld.1.size hb9)) | (with_reducible exact hHeld))) (fun hHeld => ?_)
       clear hK K
       try simp only [Act.put, List.setIfInBounds_toArray, List.set_cons_zero, List.set_cons_succ])
  first
    | (refine wpAnyH_take (i := 15) (v := undef) (by simp only [List.getElem?_toArray, List.getElem?_cons_succ, List.getElem?_cons_zero]; rfl) (by kernel_rfl) (by kernel_rfl) (by kernel_rfl) (fun _ _ _ h => h) (Or.inr ⟨by rfl, rfl⟩) (by assumption) ?_; try simp only [Act.put, List.setIfInBounds_toArray, List.set_cons_zero, List.set_cons_succ])
    | (refine wpAnyH_take (i := 15) (v := ?_) (by simp only [List.getElem?_toArray, List.getElem?_cons_succ, List.getElem?_cons_zero]; rfl) (by kernel_rfl) (by kernel_rfl) (by kernel_rfl) (fun _ _ _ h => h) (Or.inl ⟨by rfl, ?_⟩) (by assumption) ?_
       rotate_left
       · (intro ww hSw; (try dsimp only at hSw); go_simp; (try with_reducible rfl))
       try simp only [Act.put, List.setIfInBounds_toArray, List.set_cons_zero, List.set_cons_succ])
    | (refine wpAnyH_ready (rs := [15]) (by kernel_rfl) (by simp) (AllReadyH.cons (by simp only [List.getElem?_toArray, List.getElem?_cons_succ, List.getElem?_cons_zero]; rfl) (fun K hK => ?_) AllReadyH.nil)
       go_simp
       first
         | (fail)
       try go_wp2_with fail
       refine hK.out _ _ (by (first | (with_reducible exact KS.out _ (bdrew1 (Below.refl _ _))) | (with_reducible exact KS.out _ (below_call hHeld.1 hHeld.1.size hb9)) | (with_reducible exact hHeld))) (fun hHeld => ?_)
       clear hK K
       try simp only [Act.put, List.setIfInBounds_toArray, List.set_cons_zero, List.set_cons_succ])
  first
    | (refine wpAnyH_take (i := 16) (v := undef) (by simp only [List.getElem?_toArray, List.getElem?_cons_succ, List.getElem?_cons_zero]; rfl) (by kernel_rfl) (by kernel_rfl) (by kernel_rfl) (fun _ _ _ h => h) (Or.inr ⟨by rfl, rfl⟩) (by assumption) ?_; try simp only [Act.put, List.setIfInBounds_toArray, List.set_cons_zero, List.set_cons_succ])
    | (refine wpAnyH_take (i := 16) (v := ?_) (by simp only [List.getElem?_toArray, List.getElem?_cons_succ, List.getElem?_cons_zero]; rfl) (by kernel_rfl) (by kernel_rfl) (by kernel_rfl) (fun _ _ _ h => h) (Or.inl ⟨by rfl, ?_⟩) (by assumption) ?_
       rotate_left
       · (intro ww hSw; (try dsimp only at hSw); go_simp; (try with_reducible rfl))
       try simp only [Act.put, List.setIfInBounds_toArray, List.set_cons_zero, List.set_cons_succ])
    | (refine wpAnyH_ready (rs := [16]) (by kernel_rfl) (by simp) (AllReadyH.cons (by simp only [List.getElem?_toArray, List.getElem?_cons_succ, List.getElem?_cons_zero]; rfl) (fun K hK => ?_) AllReadyH.nil)
       go_simp
       first
         | (fail)
       try go_wp2_with fail
       refine hK.out _ _ (by (first | (with_reducible exact KS.out _ (bdrew1 (Below.refl _ _))) | (with_reducible exact KS.out _ (below_call hHeld.1 hHeld.1.size hb9)) | (with_reducible exact hHeld))) (fun hHeld => ?_)
       clear hK K
       try simp only [Act.put, List.setIfInBounds_toArray, List.set_cons_zero, List.set_cons_succ])
  refine wpAnyH_done (by kernel_rfl) ?_ _
  refine NoPanic.normal ?_
  have hB9 := Lib.hid hHeld.1
  clear hHeld
  have BE := Lib.hid (below_call B_9.out B_9.out.size hB9.out)
  go_wp2_with fail
  go_ret
  exact ⟨rfl, BE.out⟩
set_option maxRecDepth 100000 in
set_option maxHeartbeats 2000000 in
theorem boxesNear_f (x : Wd) (pd : Dp) (b o pac : Nat) (pk : Option Addr) (pkc wb wo pwc : Nat) (a c d i k bx : Nat) (j : Nat) (haa : a ≤ 255) (hcc : c ≤ 255) (hdd : d ≤ 255) (hlw : 0 < x.wher.length) (hi : a % x.at_.length = i) (hk : c % x.wher.length = k) (hb : d % x.wher.length = bx) (e : Int) (y z : Wd) (hR : boxW x i k bx = (y, e)) (hP : outW x i k bx = (z, 0)) (hv : nearB x i k = true) (hu : nearB x i bx = true) (he0 : (e == 0) = false) (hjl : j < x.wher.length) (hj : nearB x i j = true) (w : World) (h : WorldAt w ⟨pd, some ⟨b, o, none⟩, pac, pk, pkc, some ⟨wb, wo, none⟩, pwc⟩ x) (hf : fitsB x = true) (c0 : w.cell? ⟨wb, wo + k * 2, none⟩ = some (.int .i64 2)) (c1 : w.cell? ⟨wb, wo + k * 2 + 1, none⟩ = some (.int .i64 (j : Int))) (c2 : w.cell? ⟨b, o + i, none⟩ = some (.int .i64 (roomOf x i : Int))) (hwb : wb < w.heap.size) : Calls Try.prog 6 #[.agg #[.slice pd.ex x.d.exits.length pd.exc, .slice pd.pl x.d.players.length pd.plc, .slice pd.co x.d.coins.length pd.coc, .slice pd.it x.d.items.length pd.itc, .slice pd.bo x.d.boxes.length pd.boc, .int .i64 x.d.room, .int .i64 x.d.player, .int .i64 x.d.box, .slice (some ⟨b, o, none⟩) x.at_.length pac, .slice pk x.coins.length pkc, .slice (some ⟨wb, wo, none⟩) x.wher.length pwc], .int .u8 (a : Int), .int .u8 (c : Int), .int .u8 (d : Int)] w fun e w' => e = .returned (.bool true) ∧ Below w.heap.size w w' := by
  have r1 := run_tmod7 a x.at_.length
  have m1 := run_mod7 a x.at_.length
  rw [hi] at r1 m1
  have FT := Lib.hid (fits_fit hf)
  have hlp : 0 < x.at_.length := (right_lens FT.out.right).1
  have hne : ¬ x.at_ = [] := List.length_pos_iff.1 hlp
  have hil : i < x.at_.length := by rw [← hi]; exact Nat.mod_lt _ hlp
  have hlen6 := (right_lens FT.out.right).2.1
  have r2 := run_tmod7 c x.wher.length
  have m2 := run_mod7 c x.wher.length
  rw [hk] at r2 m2
  have r3 := run_tmod7 d x.wher.length
  have m3 := run_mod7 d x.wher.length
  rw [hb] at r3 m3
  have hnw : ¬ x.wher = [] := List.length_pos_iff.1 hlw
  have h0 : ((x.wher.length : Int) == 0) = false := by simp; omega
  have hkl : k < x.wher.length := by rw [← hk]; exact Nat.mod_lt _ hlw
  have hbl : bx < x.wher.length := by rw [← hb]; exact Nat.mod_lt _ hlw
  have hlen16 := (right_lens FT.out.right).2.2.2.1
  have HR := Lib.hid hR
  have HP := Lib.hid hP
  have HV := Lib.hid hv
  have HU := Lib.hid hu
  have C0 := Lib.hid c0
  have C1 := Lib.hid c1
  have C2 := Lib.hid c2
  have HWB := Lib.hid hwb
  have hlen := h.wh.len
  have hlenA := h.at_.len
  have HJ := Lib.hid hj
  clear hj
  clear hi hk hb hlp hlw hR hP hv hu c0 c1 c2 hwb
  have H_0 := Lib.hid (Holds.new w #[.slice pd.ex x.d.exits.length pd.exc, .slice pd.pl x.d.players.length pd.plc, .slice pd.co x.d.coins.length pd.coc, .slice pd.it x.d.items.length pd.itc, .slice pd.bo x.d.boxes.length pd.boc, .int .i64 x.d.room, .int .i64 x.d.player, .int .i64 x.d.box, .slice (some ⟨b, o, none⟩) x.at_.length pac, .slice pk x.coins.length pkc, .slice (some ⟨wb, wo, none⟩) x.wher.length pwc] 29)
  have HF := Lib.hid hf
  have HWA := Lib.hid h
  clear hf h
  go_enter Try.func6, Try.ntmps6
  go_wp2_with fail
  generalize w.alloc (.cells #[.slice pd.ex x.d.exits.length pd.exc, .slice pd.pl x.d.players.length pd.plc, .slice pd.co x.d.coins.length pd.coc, .slice pd.it x.d.items.length pd.itc, .slice pd.bo x.d.boxes.length pd.boc, .int .i64 x.d.room, .int .i64 x.d.player, .int .i64 x.d.box, .slice (some ⟨b, o, none⟩) x.at_.length pac, .slice pk x.coins.length pkc, .slice (some ⟨wb, wo, none⟩) x.wher.length pwc] 29) = V0 at *
  have B_0 := Lib.hid H_0.out.1
  refine (awake10_any _).mono ?_
  rintro e u1 ⟨rfl, b1⟩
  have B_1 := Lib.hid (bl B_0.out b1)
  have H_1 := Lib.hid (H_0.out.call b1)
  clear b1 B_0 H_0
  have hcH := H_1.out.2.2
  have hlH := H_1.out.2.1
  go_wp2_with fail
  refine (fits10_any x ⟨pd, some ⟨b, o, none⟩, pac, pk, pkc, some ⟨wb, wo, none⟩, pwc⟩ _ (HWA.out.below H_1.out.1 (Nat.le_refl _))).mono ?_
  rintro e u2 ⟨rfl, b2⟩
  rw [HF.out]
  clear hcH hlH
  have B_2 := Lib.hid (bl B_1.out b2)
  have H_2 := Lib.hid (H_1.out.call b2)
  clear b2 B_1 H_1
  have hcH := H_2.out.2.2
  have hlH := H_2.out.2.1
  go_wp2_with fail
  refine (bput_as (Shape.refl x) ⟨pd, some ⟨b, o, none⟩, pac, pk, pkc, some ⟨wb, wo, none⟩, pwc⟩ i k bx _ FT.out.right (HWA.out.below B_2.out (Nat.le_refl _)) hil HR.out).mono ?_
  rintro e u3 ⟨q3, rfl, g3, b3⟩
  clear hcH hlH
  have B_3 := Lib.hid (bl B_2.out b3)
  have H_3 := Lib.hid (H_2.out.call b3)
  clear b3 B_2 H_2 g3
  have hcH := H_3.out.2.2
  have hlH := H_3.out.2.1
  go_wp2_with fail
  clear hcH hlH
  have s4 : (u3.alloc (.cells #[.slice q3.d.ex x.d.exits.length q3.d.exc, .slice q3.d.pl x.d.players.length q3.d.plc, .slice q3.d.co x.d.coins.length q3.d.coc, .slice q3.d.it x.d.items.length q3.d.itc, .slice q3.d.bo x.d.boxes.length q3.d.boc, .int .i64 x.d.room, .int .i64 x.d.player, .int .i64 x.d.box, .slice q3.at_ x.at_.length q3.atc, .slice q3.co x.coins.length q3.coc, .slice q3.wh x.wher.length q3.whc] 29)).heap.size = u3.heap.size + 1 := by simp
  have B_4 := Lib.hid (B_3.out.alloc B_3.out.size (.cells #[.slice q3.d.ex x.d.exits.length q3.d.exc, .slice q3.d.pl x.d.players.length q3.d.plc, .slice q3.d.co x.d.coins.length q3.d.coc, .slice q3.d.it x.d.items.length q3.d.itc, .slice q3.d.bo x.d.boxes.length q3.d.boc, .int .i64 x.d.room, .int .i64 x.d.player, .int .i64 x.d.box, .slice q3.at_ x.at_.length q3.atc, .slice q3.co x.coins.length q3.coc, .slice q3.wh x.wher.length q3.whc] 29))
  have H_4 := Lib.hid (H_3.out.alloc (.cells #[.slice q3.d.ex x.d.exits.length q3.d.exc, .slice q3.d.pl x.d.players.length q3.d.plc, .slice q3.d.co x.d.coins.length q3.d.coc, .slice q3.d.it x.d.items.length q3.d.itc, .slice q3.d.bo x.d.boxes.length q3.d.boc, .int .i64 x.d.room, .int .i64 x.d.player, .int .i64 x.d.box, .slice q3.at_ x.at_.length q3.atc, .slice q3.co x.coins.length q3.coc, .slice q3.wh x.wher.length q3.whc] 29))
  have A_4 := Lib.hid (Holds.newb (w := w) (A := #[.slice q3.d.ex x.d.exits.length q3.d.exc, .slice q3.d.pl x.d.players.length q3.d.plc, .slice q3.d.co x.d.coins.length q3.d.coc, .slice q3.d.it x.d.items.length q3.d.itc, .slice q3.d.bo x.d.boxes.length q3.d.boc, .int .i64 x.d.room, .int .i64 x.d.player, .int .i64 x.d.box, .slice q3.at_ x.at_.length q3.atc, .slice q3.co x.coins.length q3.coc, .slice q3.wh x.wher.length q3.whc]) (t := 29) (n := u3.heap.size) B_3.out rfl)
  clear B_3 H_3
  generalize u3.alloc (.cells #[.slice q3.d.ex x.d.exits.length q3.d.exc, .slice q3.d.pl x.d.players.length q3.d.plc, .slice q3.d.co x.d.coins.length q3.d.coc, .slice q3.d.it x.d.items.length q3.d.itc, .slice q3.d.bo x.d.boxes.length q3.d.boc, .int .i64 x.d.room, .int .i64 x.d.player, .int .i64 x.d.box, .slice q3.at_ x.at_.length q3.atc, .slice q3.co x.coins.length q3.coc, .slice q3.wh x.wher.length q3.whc] 29) = V4 at *
  have hcH := H_4.out.2.2
  have hlH := H_4.out.2.1
  have hcA := A_4.out.2.2
  have hlA := A_4.out.2.1
  refine (btake_as (Shape.refl x) ⟨pd, some ⟨b, o, none⟩, pac, pk, pkc, some ⟨wb, wo, none⟩, pwc⟩ i k bx _ FT.out.right (HWA.out.below B_4.out (Nat.le_refl _)) hil HP.out).mono ?_
  rintro e u5 ⟨q5, rfl, g5, b5⟩
  clear hcH hlH hcA hlA
  have B_5 := Lib.hid (bl B_4.out b5)
  have H_5 := Lib.hid (H_4.out.call b5)
  have A_5 := Lib.hid (A_4.out.call b5)
  clear b5 B_4 H_4 A_4 g5
  have hcH := H_5.out.2.2
  have hlH := H_5.out.2.1
  have hcA := A_5.out.2.2
  have hlA := A_5.out.2.1
  go_wp2_with fail
  clear hcH hlH hcA hlA
  have s6 : (u5.alloc (.cells #[.slice q5.d.ex x.d.exits.length q5.d.exc, .slice q5.d.pl x.d.players.length q5.d.plc, .slice q5.d.co x.d.coins.length q5.d.coc, .slice q5.d.it x.d.items.length q5.d.itc, .slice q5.d.bo x.d.boxes.length q5.d.boc, .int .i64 x.d.room, .int .i64 x.d.player, .int .i64 x.d.box, .slice q5.at_ x.at_.length q5.atc, .slice q5.co x.coins.length q5.coc, .slice q5.wh x.wher.length q5.whc] 29)).heap.size = u5.heap.size + 1 := by simp
  have B_6 := Lib.hid (B_5.out.alloc B_5.out.size (.cells #[.slice q5.d.ex x.d.exits.length q5.d.exc, .slice q5.d.pl x.d.players.length q5.d.plc, .slice q5.d.co x.d.coins.length q5.d.coc, .slice q5.d.it x.d.items.length q5.d.itc, .slice q5.d.bo x.d.boxes.length q5.d.boc, .int .i64 x.d.room, .int .i64 x.d.player, .int .i64 x.d.box, .slice q5.at_ x.at_.length q5.atc, .slice q5.co x.coins.length q5.coc, .slice q5.wh x.wher.length q5.whc] 29))
  have H_6 := Lib.hid (H_5.out.alloc (.cells #[.slice q5.d.ex x.d.exits.length q5.d.exc, .slice q5.d.pl x.d.players.length q5.d.plc, .slice q5.d.co x.d.coins.length q5.d.coc, .slice q5.d.it x.d.items.length q5.d.itc, .slice q5.d.bo x.d.boxes.length q5.d.boc, .int .i64 x.d.room, .int .i64 x.d.player, .int .i64 x.d.box, .slice q5.at_ x.at_.length q5.atc, .slice q5.co x.coins.length q5.coc, .slice q5.wh x.wher.length q5.whc] 29))
  have A_6 := Lib.hid (A_5.out.alloc (.cells #[.slice q5.d.ex x.d.exits.length q5.d.exc, .slice q5.d.pl x.d.players.length q5.d.plc, .slice q5.d.co x.d.coins.length q5.d.coc, .slice q5.d.it x.d.items.length q5.d.itc, .slice q5.d.bo x.d.boxes.length q5.d.boc, .int .i64 x.d.room, .int .i64 x.d.player, .int .i64 x.d.box, .slice q5.at_ x.at_.length q5.atc, .slice q5.co x.coins.length q5.coc, .slice q5.wh x.wher.length q5.whc] 29))
  have D_6 := Lib.hid (Holds.newb (w := w) (A := #[.slice q5.d.ex x.d.exits.length q5.d.exc, .slice q5.d.pl x.d.players.length q5.d.plc, .slice q5.d.co x.d.coins.length q5.d.coc, .slice q5.d.it x.d.items.length q5.d.itc, .slice q5.d.bo x.d.boxes.length q5.d.boc, .int .i64 x.d.room, .int .i64 x.d.player, .int .i64 x.d.box, .slice q5.at_ x.at_.length q5.atc, .slice q5.co x.coins.length q5.coc, .slice q5.wh x.wher.length q5.whc]) (t := 29) (n := u5.heap.size) B_5.out rfl)
  clear B_5 H_5 A_5
  generalize u5.alloc (.cells #[.slice q5.d.ex x.d.exits.length q5.d.exc, .slice q5.d.pl x.d.players.length q5.d.plc, .slice q5.d.co x.d.coins.length q5.d.coc, .slice q5.d.it x.d.items.length q5.d.itc, .slice q5.d.bo x.d.boxes.length q5.d.boc, .int .i64 x.d.room, .int .i64 x.d.player, .int .i64 x.d.box, .slice q5.at_ x.at_.length q5.atc, .slice q5.co x.coins.length q5.coc, .slice q5.wh x.wher.length q5.whc] 29) = V6 at *
  have hcH := H_6.out.2.2
  have hlH := H_6.out.2.1
  have hcA := A_6.out.2.2
  have hlA := A_6.out.2.1
  have hcD := D_6.out.2.2
  have hlD := D_6.out.2.1
  refine (near_as (Shape.refl x) ⟨pd, some ⟨b, o, none⟩, pac, pk, pkc, some ⟨wb, wo, none⟩, pwc⟩ i _ FT.out.right (HWA.out.below B_6.out (Nat.le_refl _)) hil k hkl HV.out).mono ?_
  rintro e u7 ⟨rfl, b7⟩
  clear hcH hlH hcA hlA hcD hlD
  have B_7 := Lib.hid (bl B_6.out b7)
  have H_7 := Lib.hid (H_6.out.call b7)
  have A_7 := Lib.hid (A_6.out.call b7)
  have D_7 := Lib.hid (D_6.out.call b7)
  clear b7 B_6 H_6 A_6 D_6
  have hcH := H_7.out.2.2
  have hlH := H_7.out.2.1
  have hcA := A_7.out.2.2
  have hlA := A_7.out.2.1
  have hcD := D_7.out.2.2
  have hlD := D_7.out.2.1
  go_wp2_with fail
  refine (near_as (Shape.refl x) ⟨pd, some ⟨b, o, none⟩, pac, pk, pkc, some ⟨wb, wo, none⟩, pwc⟩ i _ FT.out.right (HWA.out.below B_7.out (Nat.le_refl _)) hil bx hbl HU.out).mono ?_
  rintro e u8 ⟨rfl, b8⟩
  clear hcH hlH hcA hlA hcD hlD
  have B_8 := Lib.hid (bl B_7.out b8)
  have H_8 := Lib.hid (H_7.out.call b8)
  have A_8 := Lib.hid (A_7.out.call b8)
  have D_8 := Lib.hid (D_7.out.call b8)
  clear b8 B_7 H_7 A_7 D_7
  have hcH := H_8.out.2.2
  have hlH := H_8.out.2.1
  have hcA := A_8.out.2.2
  have hlA := A_8.out.2.1
  have hcD := D_8.out.2.2
  have hlD := D_8.out.2.1
  have cw0 := cell_call C0.out B_8.out
  have cw1 := cell_call C1.out B_8.out
  have lwb : wb < u8.heap.size := Nat.lt_of_lt_of_le HWB.out B_8.out.size
  go_wp2_with fail
  clear hcH hlH hcA hlA hcD hlD cw0 cw1 lwb
  have s9 : (u8.alloc (.cells #[.int .i64 2, .int .i64 (j : Int)] 42)).heap.size = u8.heap.size + 1 := by simp
  have B_9 := Lib.hid (B_8.out.alloc B_8.out.size (.cells #[.int .i64 2, .int .i64 (j : Int)] 42))
  have H_9 := Lib.hid (H_8.out.alloc (.cells #[.int .i64 2, .int .i64 (j : Int)] 42))
  have A_9 := Lib.hid (A_8.out.alloc (.cells #[.int .i64 2, .int .i64 (j : Int)] 42))
  have D_9 := Lib.hid (D_8.out.alloc (.cells #[.int .i64 2, .int .i64 (j : Int)] 42))
  have T_9 := Lib.hid (Holds.newb (w := w) (A := #[.int .i64 2, .int .i64 (j : Int)]) (t := 42) (n := u8.heap.size) B_8.out rfl)
  clear B_8 H_8 A_8 D_8
  generalize u8.alloc (.cells #[.int .i64 2, .int .i64 (j : Int)] 42) = V9 at *
  have hcH := H_9.out.2.2
  have hlH := H_9.out.2.1
  have hcA := A_9.out.2.2
  have hlA := A_9.out.2.1
  have hcD := D_9.out.2.2
  have hlD := D_9.out.2.1
  have hcT := T_9.out.2.2
  have hlT := T_9.out.2.1
  refine (near_as (Shape.refl x) ⟨pd, some ⟨b, o, none⟩, pac, pk, pkc, some ⟨wb, wo, none⟩, pwc⟩ i _ FT.out.right (HWA.out.below B_9.out (Nat.le_refl _)) hil j hjl HJ.out).mono ?_
  rintro e u10 ⟨rfl, b10⟩
  clear hcH hlH hcA hlA hcD hlD hcT hlT
  have B_10 := Lib.hid (bl B_9.out b10)
  have H_10 := Lib.hid (H_9.out.call b10)
  have A_10 := Lib.hid (A_9.out.call b10)
  have D_10 := Lib.hid (D_9.out.call b10)
  have T_10 := Lib.hid (T_9.out.call b10)
  clear b10 B_9 H_9 A_9 D_9 T_9
  go_wp2_with fail
  go_ret
  exact ⟨rfl, B_10.out⟩
set_option maxRecDepth 100000 in
set_option maxHeartbeats 2000000 in
theorem boxesNear_bt (x : Wd) (pd : Dp) (b o pac : Nat) (pk : Option Addr) (pkc wb wo pwc : Nat) (a c d i k bx : Nat) (j : Nat) (haa : a ≤ 255) (hcc : c ≤ 255) (hdd : d ≤ 255) (hlw : 0 < x.wher.length) (hi : a % x.at_.length = i) (hk : c % x.wher.length = k) (hb : d % x.wher.length = bx) (e : Int) (f : Int) (y z : Wd) (hR : boxW x i k bx = (y, e)) (hP : outW x i k bx = (z, f)) (hv : nearB x i k = true) (he0 : (e == 0) = false) (hf0 : (f == 0) = false) (hjl : j < x.wher.length) (hj : nearB x i j = true) (w : World) (h : WorldAt w ⟨pd, some ⟨b, o, none⟩, pac, pk, pkc, some ⟨wb, wo, none⟩, pwc⟩ x) (hf : fitsB x = true) (c0 : w.cell? ⟨wb, wo + k * 2, none⟩ = some (.int .i64 2)) (c1 : w.cell? ⟨wb, wo + k * 2 + 1, none⟩ = some (.int .i64 (j : Int))) (c2 : w.cell? ⟨b, o + i, none⟩ = some (.int .i64 (roomOf x i : Int))) (hwb : wb < w.heap.size) : Calls Try.prog 6 #[.agg #[.slice pd.ex x.d.exits.length pd.exc, .slice pd.pl x.d.players.length pd.plc, .slice pd.co x.d.coins.length pd.coc, .slice pd.it x.d.items.length pd.itc, .slice pd.bo x.d.boxes.length pd.boc, .int .i64 x.d.room, .int .i64 x.d.player, .int .i64 x.d.box, .slice (some ⟨b, o, none⟩) x.at_.length pac, .slice pk x.coins.length pkc, .slice (some ⟨wb, wo, none⟩) x.wher.length pwc], .int .u8 (a : Int), .int .u8 (c : Int), .int .u8 (d : Int)] w fun e w' => e = .returned (.bool true) ∧ Below w.heap.size w w' := by
  have r1 := run_tmod7 a x.at_.length
  have m1 := run_mod7 a x.at_.length
  rw [hi] at r1 m1
  have FT := Lib.hid (fits_fit hf)
  have hlp : 0 < x.at_.length := (right_lens FT.out.right).1
  have hne : ¬ x.at_ = [] := List.length_pos_iff.1 hlp
  have hil : i < x.at_.length := by rw [← hi]; exact Nat.mod_lt _ hlp
  have hlen6 := (right_lens FT.out.right).2.1
  have r2 := run_tmod7 c x.wher.length
  have m2 := run_mod7 c x.wher.length
  rw [hk] at r2 m2
  have r3 := run_tmod7 d x.wher.length
  have m3 := run_mod7 d x.wher.length
  rw [hb] at r3 m3
  have hnw : ¬ x.wher = [] := List.length_pos_iff.1 hlw
  have h0 : ((x.wher.length : Int) == 0) = false := by simp; omega
  have hkl : k < x.wher.length := by rw [← hk]; exact Nat.mod_lt _ hlw
  have hbl : bx < x.wher.length := by rw [← hb]; exact Nat.mod_lt _ hlw
  have hlen16 := (right_lens FT.out.right).2.2.2.1
  have HR := Lib.hid hR
  have HP := Lib.hid hP
  have HV := Lib.hid hv
  have C0 := Lib.hid c0
  have C1 := Lib.hid c1
  have C2 := Lib.hid c2
  have HWB := Lib.hid hwb
  have hlen := h.wh.len
  have hlenA := h.at_.len
  have HJ := Lib.hid hj
  clear hj
  clear hi hk hb hlp hlw hR hP hv  c0 c1 c2 hwb
  have H_0 := Lib.hid (Holds.new w #[.slice pd.ex x.d.exits.length pd.exc, .slice pd.pl x.d.players.length pd.plc, .slice pd.co x.d.coins.length pd.coc, .slice pd.it x.d.items.length pd.itc, .slice pd.bo x.d.boxes.length pd.boc, .int .i64 x.d.room, .int .i64 x.d.player, .int .i64 x.d.box, .slice (some ⟨b, o, none⟩) x.at_.length pac, .slice pk x.coins.length pkc, .slice (some ⟨wb, wo, none⟩) x.wher.length pwc] 29)
  have HF := Lib.hid hf
  have HWA := Lib.hid h
  clear hf h
  go_enter Try.func6, Try.ntmps6
  go_wp2_with fail
  generalize w.alloc (.cells #[.slice pd.ex x.d.exits.length pd.exc, .slice pd.pl x.d.players.length pd.plc, .slice pd.co x.d.coins.length pd.coc, .slice pd.it x.d.items.length pd.itc, .slice pd.bo x.d.boxes.length pd.boc, .int .i64 x.d.room, .int .i64 x.d.player, .int .i64 x.d.box, .slice (some ⟨b, o, none⟩) x.at_.length pac, .slice pk x.coins.length pkc, .slice (some ⟨wb, wo, none⟩) x.wher.length pwc] 29) = V0 at *
  have B_0 := Lib.hid H_0.out.1
  refine (awake10_any _).mono ?_
  rintro e u1 ⟨rfl, b1⟩
  have B_1 := Lib.hid (bl B_0.out b1)
  have H_1 := Lib.hid (H_0.out.call b1)
  clear b1 B_0 H_0
  have hcH := H_1.out.2.2
  have hlH := H_1.out.2.1
  go_wp2_with fail
  refine (fits10_any x ⟨pd, some ⟨b, o, none⟩, pac, pk, pkc, some ⟨wb, wo, none⟩, pwc⟩ _ (HWA.out.below H_1.out.1 (Nat.le_refl _))).mono ?_
  rintro e u2 ⟨rfl, b2⟩
  rw [HF.out]
  clear hcH hlH
  have B_2 := Lib.hid (bl B_1.out b2)
  have H_2 := Lib.hid (H_1.out.call b2)
  clear b2 B_1 H_1
  have hcH := H_2.out.2.2
  have hlH := H_2.out.2.1
  go_wp2_with fail
  refine (bput_as (Shape.refl x) ⟨pd, some ⟨b, o, none⟩, pac, pk, pkc, some ⟨wb, wo, none⟩, pwc⟩ i k bx _ FT.out.right (HWA.out.below B_2.out (Nat.le_refl _)) hil HR.out).mono ?_
  rintro e u3 ⟨q3, rfl, g3, b3⟩
  clear hcH hlH
  have B_3 := Lib.hid (bl B_2.out b3)
  have H_3 := Lib.hid (H_2.out.call b3)
  clear b3 B_2 H_2 g3
  have hcH := H_3.out.2.2
  have hlH := H_3.out.2.1
  go_wp2_with fail
  clear hcH hlH
  have s4 : (u3.alloc (.cells #[.slice q3.d.ex x.d.exits.length q3.d.exc, .slice q3.d.pl x.d.players.length q3.d.plc, .slice q3.d.co x.d.coins.length q3.d.coc, .slice q3.d.it x.d.items.length q3.d.itc, .slice q3.d.bo x.d.boxes.length q3.d.boc, .int .i64 x.d.room, .int .i64 x.d.player, .int .i64 x.d.box, .slice q3.at_ x.at_.length q3.atc, .slice q3.co x.coins.length q3.coc, .slice q3.wh x.wher.length q3.whc] 29)).heap.size = u3.heap.size + 1 := by simp
  have B_4 := Lib.hid (B_3.out.alloc B_3.out.size (.cells #[.slice q3.d.ex x.d.exits.length q3.d.exc, .slice q3.d.pl x.d.players.length q3.d.plc, .slice q3.d.co x.d.coins.length q3.d.coc, .slice q3.d.it x.d.items.length q3.d.itc, .slice q3.d.bo x.d.boxes.length q3.d.boc, .int .i64 x.d.room, .int .i64 x.d.player, .int .i64 x.d.box, .slice q3.at_ x.at_.length q3.atc, .slice q3.co x.coins.length q3.coc, .slice q3.wh x.wher.length q3.whc] 29))
  have H_4 := Lib.hid (H_3.out.alloc (.cells #[.slice q3.d.ex x.d.exits.length q3.d.exc, .slice q3.d.pl x.d.players.length q3.d.plc, .slice q3.d.co x.d.coins.length q3.d.coc, .slice q3.d.it x.d.items.length q3.d.itc, .slice q3.d.bo x.d.boxes.length q3.d.boc, .int .i64 x.d.room, .int .i64 x.d.player, .int .i64 x.d.box, .slice q3.at_ x.at_.length q3.atc, .slice q3.co x.coins.length q3.coc, .slice q3.wh x.wher.length q3.whc] 29))
  have A_4 := Lib.hid (Holds.newb (w := w) (A := #[.slice q3.d.ex x.d.exits.length q3.d.exc, .slice q3.d.pl x.d.players.length q3.d.plc, .slice q3.d.co x.d.coins.length q3.d.coc, .slice q3.d.it x.d.items.length q3.d.itc, .slice q3.d.bo x.d.boxes.length q3.d.boc, .int .i64 x.d.room, .int .i64 x.d.player, .int .i64 x.d.box, .slice q3.at_ x.at_.length q3.atc, .slice q3.co x.coins.length q3.coc, .slice q3.wh x.wher.length q3.whc]) (t := 29) (n := u3.heap.size) B_3.out rfl)
  clear B_3 H_3
  generalize u3.alloc (.cells #[.slice q3.d.ex x.d.exits.length q3.d.exc, .slice q3.d.pl x.d.players.length q3.d.plc, .slice q3.d.co x.d.coins.length q3.d.coc, .slice q3.d.it x.d.items.length q3.d.itc, .slice q3.d.bo x.d.boxes.length q3.d.boc, .int .i64 x.d.room, .int .i64 x.d.player, .int .i64 x.d.box, .slice q3.at_ x.at_.length q3.atc, .slice q3.co x.coins.length q3.coc, .slice q3.wh x.wher.length q3.whc] 29) = V4 at *
  have hcH := H_4.out.2.2
  have hlH := H_4.out.2.1
  have hcA := A_4.out.2.2
  have hlA := A_4.out.2.1
  refine (btake_as (Shape.refl x) ⟨pd, some ⟨b, o, none⟩, pac, pk, pkc, some ⟨wb, wo, none⟩, pwc⟩ i k bx _ FT.out.right (HWA.out.below B_4.out (Nat.le_refl _)) hil HP.out).mono ?_
  rintro e u5 ⟨q5, rfl, g5, b5⟩
  clear hcH hlH hcA hlA
  have B_5 := Lib.hid (bl B_4.out b5)
  have H_5 := Lib.hid (H_4.out.call b5)
  have A_5 := Lib.hid (A_4.out.call b5)
  clear b5 B_4 H_4 A_4 g5
  have hcH := H_5.out.2.2
  have hlH := H_5.out.2.1
  have hcA := A_5.out.2.2
  have hlA := A_5.out.2.1
  go_wp2_with fail
  clear hcH hlH hcA hlA
  have s6 : (u5.alloc (.cells #[.slice q5.d.ex x.d.exits.length q5.d.exc, .slice q5.d.pl x.d.players.length q5.d.plc, .slice q5.d.co x.d.coins.length q5.d.coc, .slice q5.d.it x.d.items.length q5.d.itc, .slice q5.d.bo x.d.boxes.length q5.d.boc, .int .i64 x.d.room, .int .i64 x.d.player, .int .i64 x.d.box, .slice q5.at_ x.at_.length q5.atc, .slice q5.co x.coins.length q5.coc, .slice q5.wh x.wher.length q5.whc] 29)).heap.size = u5.heap.size + 1 := by simp
  have B_6 := Lib.hid (B_5.out.alloc B_5.out.size (.cells #[.slice q5.d.ex x.d.exits.length q5.d.exc, .slice q5.d.pl x.d.players.length q5.d.plc, .slice q5.d.co x.d.coins.length q5.d.coc, .slice q5.d.it x.d.items.length q5.d.itc, .slice q5.d.bo x.d.boxes.length q5.d.boc, .int .i64 x.d.room, .int .i64 x.d.player, .int .i64 x.d.box, .slice q5.at_ x.at_.length q5.atc, .slice q5.co x.coins.length q5.coc, .slice q5.wh x.wher.length q5.whc] 29))
  have H_6 := Lib.hid (H_5.out.alloc (.cells #[.slice q5.d.ex x.d.exits.length q5.d.exc, .slice q5.d.pl x.d.players.length q5.d.plc, .slice q5.d.co x.d.coins.length q5.d.coc, .slice q5.d.it x.d.items.length q5.d.itc, .slice q5.d.bo x.d.boxes.length q5.d.boc, .int .i64 x.d.room, .int .i64 x.d.player, .int .i64 x.d.box, .slice q5.at_ x.at_.length q5.atc, .slice q5.co x.coins.length q5.coc, .slice q5.wh x.wher.length q5.whc] 29))
  have A_6 := Lib.hid (A_5.out.alloc (.cells #[.slice q5.d.ex x.d.exits.length q5.d.exc, .slice q5.d.pl x.d.players.length q5.d.plc, .slice q5.d.co x.d.coins.length q5.d.coc, .slice q5.d.it x.d.items.length q5.d.itc, .slice q5.d.bo x.d.boxes.length q5.d.boc, .int .i64 x.d.room, .int .i64 x.d.player, .int .i64 x.d.box, .slice q5.at_ x.at_.length q5.atc, .slice q5.co x.coins.length q5.coc, .slice q5.wh x.wher.length q5.whc] 29))
  have D_6 := Lib.hid (Holds.newb (w := w) (A := #[.slice q5.d.ex x.d.exits.length q5.d.exc, .slice q5.d.pl x.d.players.length q5.d.plc, .slice q5.d.co x.d.coins.length q5.d.coc, .slice q5.d.it x.d.items.length q5.d.itc, .slice q5.d.bo x.d.boxes.length q5.d.boc, .int .i64 x.d.room, .int .i64 x.d.player, .int .i64 x.d.box, .slice q5.at_ x.at_.length q5.atc, .slice q5.co x.coins.length q5.coc, .slice q5.wh x.wher.length q5.whc]) (t := 29) (n := u5.heap.size) B_5.out rfl)
  clear B_5 H_5 A_5
  generalize u5.alloc (.cells #[.slice q5.d.ex x.d.exits.length q5.d.exc, .slice q5.d.pl x.d.players.length q5.d.plc, .slice q5.d.co x.d.coins.length q5.d.coc, .slice q5.d.it x.d.items.length q5.d.itc, .slice q5.d.bo x.d.boxes.length q5.d.boc, .int .i64 x.d.room, .int .i64 x.d.player, .int .i64 x.d.box, .slice q5.at_ x.at_.length q5.atc, .slice q5.co x.coins.length q5.coc, .slice q5.wh x.wher.length q5.whc] 29) = V6 at *
  have hcH := H_6.out.2.2
  have hlH := H_6.out.2.1
  have hcA := A_6.out.2.2
  have hlA := A_6.out.2.1
  have hcD := D_6.out.2.2
  have hlD := D_6.out.2.1
  refine (near_as (Shape.refl x) ⟨pd, some ⟨b, o, none⟩, pac, pk, pkc, some ⟨wb, wo, none⟩, pwc⟩ i _ FT.out.right (HWA.out.below B_6.out (Nat.le_refl _)) hil k hkl HV.out).mono ?_
  rintro e u7 ⟨rfl, b7⟩
  clear hcH hlH hcA hlA hcD hlD
  have B_7 := Lib.hid (bl B_6.out b7)
  have H_7 := Lib.hid (H_6.out.call b7)
  have A_7 := Lib.hid (A_6.out.call b7)
  have D_7 := Lib.hid (D_6.out.call b7)
  clear b7 B_6 H_6 A_6 D_6
  have hcH := H_7.out.2.2
  have hlH := H_7.out.2.1
  have hcA := A_7.out.2.2
  have hlA := A_7.out.2.1
  have hcD := D_7.out.2.2
  have hlD := D_7.out.2.1
  have cw0 := cell_call C0.out B_7.out
  have cw1 := cell_call C1.out B_7.out
  have lwb : wb < u7.heap.size := Nat.lt_of_lt_of_le HWB.out B_7.out.size
  go_wp2_with fail
  clear hcH hlH hcA hlA hcD hlD cw0 cw1 lwb
  have s8 : (u7.alloc (.cells #[.int .i64 2, .int .i64 (j : Int)] 42)).heap.size = u7.heap.size + 1 := by simp
  have B_8 := Lib.hid (B_7.out.alloc B_7.out.size (.cells #[.int .i64 2, .int .i64 (j : Int)] 42))
  have H_8 := Lib.hid (H_7.out.alloc (.cells #[.int .i64 2, .int .i64 (j : Int)] 42))
  have A_8 := Lib.hid (A_7.out.alloc (.cells #[.int .i64 2, .int .i64 (j : Int)] 42))
  have D_8 := Lib.hid (D_7.out.alloc (.cells #[.int .i64 2, .int .i64 (j : Int)] 42))
  have T_8 := Lib.hid (Holds.newb (w := w) (A := #[.int .i64 2, .int .i64 (j : Int)]) (t := 42) (n := u7.heap.size) B_7.out rfl)
  clear B_7 H_7 A_7 D_7
  generalize u7.alloc (.cells #[.int .i64 2, .int .i64 (j : Int)] 42) = V8 at *
  have hcH := H_8.out.2.2
  have hlH := H_8.out.2.1
  have hcA := A_8.out.2.2
  have hlA := A_8.out.2.1
  have hcD := D_8.out.2.2
  have hlD := D_8.out.2.1
  have hcT := T_8.out.2.2
  have hlT := T_8.out.2.1
  refine (near_as (Shape.refl x) ⟨pd, some ⟨b, o, none⟩, pac, pk, pkc, some ⟨wb, wo, none⟩, pwc⟩ i _ FT.out.right (HWA.out.below B_8.out (Nat.le_refl _)) hil j hjl HJ.out).mono ?_
  rintro e u9 ⟨rfl, b9⟩
  clear hcH hlH hcA hlA hcD hlD hcT hlT
  have B_9 := Lib.hid (bl B_8.out b9)
  have H_9 := Lib.hid (H_8.out.call b9)
  have A_9 := Lib.hid (A_8.out.call b9)
  have D_9 := Lib.hid (D_8.out.call b9)
  have T_9 := Lib.hid (T_8.out.call b9)
  clear b9 B_8 H_8 A_8 D_8 T_8
  go_wp2_with fail
  go_ret
  exact ⟨rfl, B_9.out⟩
set_option maxRecDepth 100000 in
set_option maxHeartbeats 2000000 in
theorem boxesNear_bf (x : Wd) (pd : Dp) (b o pac : Nat) (pk : Option Addr) (pkc wb wo pwc : Nat) (a c d i k bx : Nat) (j : Nat) (haa : a ≤ 255) (hcc : c ≤ 255) (hdd : d ≤ 255) (hlw : 0 < x.wher.length) (hi : a % x.at_.length = i) (hk : c % x.wher.length = k) (hb : d % x.wher.length = bx) (e : Int) (f : Int) (y z : Wd) (hR : boxW x i k bx = (y, e)) (hP : outW x i k bx = (z, f)) (hv : nearB x i k = false) (he0 : (e == 0) = false) (hf0 : (f == 0) = false) (hjl : j < x.wher.length) (hj : nearB x i j = false) (w : World) (h : WorldAt w ⟨pd, some ⟨b, o, none⟩, pac, pk, pkc, some ⟨wb, wo, none⟩, pwc⟩ x) (hf : fitsB x = true) (c0 : w.cell? ⟨wb, wo + k * 2, none⟩ = some (.int .i64 2)) (c1 : w.cell? ⟨wb, wo + k * 2 + 1, none⟩ = some (.int .i64 (j : Int))) (c2 : w.cell? ⟨b, o + i, none⟩ = some (.int .i64 (roomOf x i : Int))) (hwb : wb < w.heap.size) : Calls Try.prog 6 #[.agg #[.slice pd.ex x.d.exits.length pd.exc, .slice pd.pl x.d.players.length pd.plc, .slice pd.co x.d.coins.length pd.coc, .slice pd.it x.d.items.length pd.itc, .slice pd.bo x.d.boxes.length pd.boc, .int .i64 x.d.room, .int .i64 x.d.player, .int .i64 x.d.box, .slice (some ⟨b, o, none⟩) x.at_.length pac, .slice pk x.coins.length pkc, .slice (some ⟨wb, wo, none⟩) x.wher.length pwc], .int .u8 (a : Int), .int .u8 (c : Int), .int .u8 (d : Int)] w fun e w' => e = .returned (.bool true) ∧ Below w.heap.size w w' := by
  have r1 := run_tmod7 a x.at_.length
  have m1 := run_mod7 a x.at_.length
  rw [hi] at r1 m1
  have FT := Lib.hid (fits_fit hf)
  have hlp : 0 < x.at_.length := (right_lens FT.out.right).1
  have hne : ¬ x.at_ = [] := List.length_pos_iff.1 hlp
  have hil : i < x.at_.length := by rw [← hi]; exact Nat.mod_lt _ hlp
  have hlen6 := (right_lens FT.out.right).2.1
  have r2 := run_tmod7 c x.wher.length
  have m2 := run_mod7 c x.wher.length
  rw [hk] at r2 m2
  have r3 := run_tmod7 d x.wher.length
  have m3 := run_mod7 d x.wher.length
  rw [hb] at r3 m3
  have hnw : ¬ x.wher = [] := List.length_pos_iff.1 hlw
  have h0 : ((x.wher.length : Int) == 0) = false := by simp; omega
  have hkl : k < x.wher.length := by rw [← hk]; exact Nat.mod_lt _ hlw
  have hbl : bx < x.wher.length := by rw [← hb]; exact Nat.mod_lt _ hlw
  have hlen16 := (right_lens FT.out.right).2.2.2.1
  have HR := Lib.hid hR
  have HP := Lib.hid hP
  have HV := Lib.hid hv
  have C0 := Lib.hid c0
  have C1 := Lib.hid c1
  have C2 := Lib.hid c2
  have HWB := Lib.hid hwb
  have hlen := h.wh.len
  have hlenA := h.at_.len
  have HJ := Lib.hid hj
  clear hj
  clear hi hk hb hlp hlw hR hP hv  c0 c1 c2 hwb
  have H_0 := Lib.hid (Holds.new w #[.slice pd.ex x.d.exits.length pd.exc, .slice pd.pl x.d.players.length pd.plc, .slice pd.co x.d.coins.length pd.coc, .slice pd.it x.d.items.length pd.itc, .slice pd.bo x.d.boxes.length pd.boc, .int .i64 x.d.room, .int .i64 x.d.player, .int .i64 x.d.box, .slice (some ⟨b, o, none⟩) x.at_.length pac, .slice pk x.coins.length pkc, .slice (some ⟨wb, wo, none⟩) x.wher.length pwc] 29)
  have HF := Lib.hid hf
  have HWA := Lib.hid h
  clear hf h
  go_enter Try.func6, Try.ntmps6
  go_wp2_with fail
  generalize w.alloc (.cells #[.slice pd.ex x.d.exits.length pd.exc, .slice pd.pl x.d.players.length pd.plc, .slice pd.co x.d.coins.length pd.coc, .slice pd.it x.d.items.length pd.itc, .slice pd.bo x.d.boxes.length pd.boc, .int .i64 x.d.room, .int .i64 x.d.player, .int .i64 x.d.box, .slice (some ⟨b, o, none⟩) x.at_.length pac, .slice pk x.coins.length pkc, .slice (some ⟨wb, wo, none⟩) x.wher.length pwc] 29) = V0 at *
  have B_0 := Lib.hid H_0.out.1
  refine (awake10_any _).mono ?_
  rintro e u1 ⟨rfl, b1⟩
  have B_1 := Lib.hid (bl B_0.out b1)
  have H_1 := Lib.hid (H_0.out.call b1)
  clear b1 B_0 H_0
  have hcH := H_1.out.2.2
  have hlH := H_1.out.2.1
  go_wp2_with fail
  refine (fits10_any x ⟨pd, some ⟨b, o, none⟩, pac, pk, pkc, some ⟨wb, wo, none⟩, pwc⟩ _ (HWA.out.below H_1.out.1 (Nat.le_refl _))).mono ?_
  rintro e u2 ⟨rfl, b2⟩
  rw [HF.out]
  clear hcH hlH
  have B_2 := Lib.hid (bl B_1.out b2)
  have H_2 := Lib.hid (H_1.out.call b2)
  clear b2 B_1 H_1
  have hcH := H_2.out.2.2
  have hlH := H_2.out.2.1
  go_wp2_with fail
  refine (bput_as (Shape.refl x) ⟨pd, some ⟨b, o, none⟩, pac, pk, pkc, some ⟨wb, wo, none⟩, pwc⟩ i k bx _ FT.out.right (HWA.out.below B_2.out (Nat.le_refl _)) hil HR.out).mono ?_
  rintro e u3 ⟨q3, rfl, g3, b3⟩
  clear hcH hlH
  have B_3 := Lib.hid (bl B_2.out b3)
  have H_3 := Lib.hid (H_2.out.call b3)
  clear b3 B_2 H_2 g3
  have hcH := H_3.out.2.2
  have hlH := H_3.out.2.1
  go_wp2_with fail
  clear hcH hlH
  have s4 : (u3.alloc (.cells #[.slice q3.d.ex x.d.exits.length q3.d.exc, .slice q3.d.pl x.d.players.length q3.d.plc, .slice q3.d.co x.d.coins.length q3.d.coc, .slice q3.d.it x.d.items.length q3.d.itc, .slice q3.d.bo x.d.boxes.length q3.d.boc, .int .i64 x.d.room, .int .i64 x.d.player, .int .i64 x.d.box, .slice q3.at_ x.at_.length q3.atc, .slice q3.co x.coins.length q3.coc, .slice q3.wh x.wher.length q3.whc] 29)).heap.size = u3.heap.size + 1 := by simp
  have B_4 := Lib.hid (B_3.out.alloc B_3.out.size (.cells #[.slice q3.d.ex x.d.exits.length q3.d.exc, .slice q3.d.pl x.d.players.length q3.d.plc, .slice q3.d.co x.d.coins.length q3.d.coc, .slice q3.d.it x.d.items.length q3.d.itc, .slice q3.d.bo x.d.boxes.length q3.d.boc, .int .i64 x.d.room, .int .i64 x.d.player, .int .i64 x.d.box, .slice q3.at_ x.at_.length q3.atc, .slice q3.co x.coins.length q3.coc, .slice q3.wh x.wher.length q3.whc] 29))
  have H_4 := Lib.hid (H_3.out.alloc (.cells #[.slice q3.d.ex x.d.exits.length q3.d.exc, .slice q3.d.pl x.d.players.length q3.d.plc, .slice q3.d.co x.d.coins.length q3.d.coc, .slice q3.d.it x.d.items.length q3.d.itc, .slice q3.d.bo x.d.boxes.length q3.d.boc, .int .i64 x.d.room, .int .i64 x.d.player, .int .i64 x.d.box, .slice q3.at_ x.at_.length q3.atc, .slice q3.co x.coins.length q3.coc, .slice q3.wh x.wher.length q3.whc] 29))
  have A_4 := Lib.hid (Holds.newb (w := w) (A := #[.slice q3.d.ex x.d.exits.length q3.d.exc, .slice q3.d.pl x.d.players.length q3.d.plc, .slice q3.d.co x.d.coins.length q3.d.coc, .slice q3.d.it x.d.items.length q3.d.itc, .slice q3.d.bo x.d.boxes.length q3.d.boc, .int .i64 x.d.room, .int .i64 x.d.player, .int .i64 x.d.box, .slice q3.at_ x.at_.length q3.atc, .slice q3.co x.coins.length q3.coc, .slice q3.wh x.wher.length q3.whc]) (t := 29) (n := u3.heap.size) B_3.out rfl)
  clear B_3 H_3
  generalize u3.alloc (.cells #[.slice q3.d.ex x.d.exits.length q3.d.exc, .slice q3.d.pl x.d.players.length q3.d.plc, .slice q3.d.co x.d.coins.length q3.d.coc, .slice q3.d.it x.d.items.length q3.d.itc, .slice q3.d.bo x.d.boxes.length q3.d.boc, .int .i64 x.d.room, .int .i64 x.d.player, .int .i64 x.d.box, .slice q3.at_ x.at_.length q3.atc, .slice q3.co x.coins.length q3.coc, .slice q3.wh x.wher.length q3.whc] 29) = V4 at *
  have hcH := H_4.out.2.2
  have hlH := H_4.out.2.1
  have hcA := A_4.out.2.2
  have hlA := A_4.out.2.1
  refine (btake_as (Shape.refl x) ⟨pd, some ⟨b, o, none⟩, pac, pk, pkc, some ⟨wb, wo, none⟩, pwc⟩ i k bx _ FT.out.right (HWA.out.below B_4.out (Nat.le_refl _)) hil HP.out).mono ?_
  rintro e u5 ⟨q5, rfl, g5, b5⟩
  clear hcH hlH hcA hlA
  have B_5 := Lib.hid (bl B_4.out b5)
  have H_5 := Lib.hid (H_4.out.call b5)
  have A_5 := Lib.hid (A_4.out.call b5)
  clear b5 B_4 H_4 A_4 g5
  have hcH := H_5.out.2.2
  have hlH := H_5.out.2.1
  have hcA := A_5.out.2.2
  have hlA := A_5.out.2.1
  go_wp2_with fail
  clear hcH hlH hcA hlA
  have s6 : (u5.alloc (.cells #[.slice q5.d.ex x.d.exits.length q5.d.exc, .slice q5.d.pl x.d.players.length q5.d.plc, .slice q5.d.co x.d.coins.length q5.d.coc, .slice q5.d.it x.d.items.length q5.d.itc, .slice q5.d.bo x.d.boxes.length q5.d.boc, .int .i64 x.d.room, .int .i64 x.d.player, .int .i64 x.d.box, .slice q5.at_ x.at_.length q5.atc, .slice q5.co x.coins.length q5.coc, .slice q5.wh x.wher.length q5.whc] 29)).heap.size = u5.heap.size + 1 := by simp
  have B_6 := Lib.hid (B_5.out.alloc B_5.out.size (.cells #[.slice q5.d.ex x.d.exits.length q5.d.exc, .slice q5.d.pl x.d.players.length q5.d.plc, .slice q5.d.co x.d.coins.length q5.d.coc, .slice q5.d.it x.d.items.length q5.d.itc, .slice q5.d.bo x.d.boxes.length q5.d.boc, .int .i64 x.d.room, .int .i64 x.d.player, .int .i64 x.d.box, .slice q5.at_ x.at_.length q5.atc, .slice q5.co x.coins.length q5.coc, .slice q5.wh x.wher.length q5.whc] 29))
  have H_6 := Lib.hid (H_5.out.alloc (.cells #[.slice q5.d.ex x.d.exits.length q5.d.exc, .slice q5.d.pl x.d.players.length q5.d.plc, .slice q5.d.co x.d.coins.length q5.d.coc, .slice q5.d.it x.d.items.length q5.d.itc, .slice q5.d.bo x.d.boxes.length q5.d.boc, .int .i64 x.d.room, .int .i64 x.d.player, .int .i64 x.d.box, .slice q5.at_ x.at_.length q5.atc, .slice q5.co x.coins.length q5.coc, .slice q5.wh x.wher.length q5.whc] 29))
  have A_6 := Lib.hid (A_5.out.alloc (.cells #[.slice q5.d.ex x.d.exits.length q5.d.exc, .slice q5.d.pl x.d.players.length q5.d.plc, .slice q5.d.co x.d.coins.length q5.d.coc, .slice q5.d.it x.d.items.length q5.d.itc, .slice q5.d.bo x.d.boxes.length q5.d.boc, .int .i64 x.d.room, .int .i64 x.d.player, .int .i64 x.d.box, .slice q5.at_ x.at_.length q5.atc, .slice q5.co x.coins.length q5.coc, .slice q5.wh x.wher.length q5.whc] 29))
  have D_6 := Lib.hid (Holds.newb (w := w) (A := #[.slice q5.d.ex x.d.exits.length q5.d.exc, .slice q5.d.pl x.d.players.length q5.d.plc, .slice q5.d.co x.d.coins.length q5.d.coc, .slice q5.d.it x.d.items.length q5.d.itc, .slice q5.d.bo x.d.boxes.length q5.d.boc, .int .i64 x.d.room, .int .i64 x.d.player, .int .i64 x.d.box, .slice q5.at_ x.at_.length q5.atc, .slice q5.co x.coins.length q5.coc, .slice q5.wh x.wher.length q5.whc]) (t := 29) (n := u5.heap.size) B_5.out rfl)
  clear B_5 H_5 A_5
  generalize u5.alloc (.cells #[.slice q5.d.ex x.d.exits.length q5.d.exc, .slice q5.d.pl x.d.players.length q5.d.plc, .slice q5.d.co x.d.coins.length q5.d.coc, .slice q5.d.it x.d.items.length q5.d.itc, .slice q5.d.bo x.d.boxes.length q5.d.boc, .int .i64 x.d.room, .int .i64 x.d.player, .int .i64 x.d.box, .slice q5.at_ x.at_.length q5.atc, .slice q5.co x.coins.length q5.coc, .slice q5.wh x.wher.length q5.whc] 29) = V6 at *
  have hcH := H_6.out.2.2
  have hlH := H_6.out.2.1
  have hcA := A_6.out.2.2
  have hlA := A_6.out.2.1
  have hcD := D_6.out.2.2
  have hlD := D_6.out.2.1
  refine (near_as (Shape.refl x) ⟨pd, some ⟨b, o, none⟩, pac, pk, pkc, some ⟨wb, wo, none⟩, pwc⟩ i _ FT.out.right (HWA.out.below B_6.out (Nat.le_refl _)) hil k hkl HV.out).mono ?_
  rintro e u7 ⟨rfl, b7⟩
  clear hcH hlH hcA hlA hcD hlD
  have B_7 := Lib.hid (bl B_6.out b7)
  have H_7 := Lib.hid (H_6.out.call b7)
  have A_7 := Lib.hid (A_6.out.call b7)
  have D_7 := Lib.hid (D_6.out.call b7)
  clear b7 B_6 H_6 A_6 D_6
  have hcH := H_7.out.2.2
  have hlH := H_7.out.2.1
  have hcA := A_7.out.2.2
  have hlA := A_7.out.2.1
  have hcD := D_7.out.2.2
  have hlD := D_7.out.2.1
  have cw0 := cell_call C0.out B_7.out
  have cw1 := cell_call C1.out B_7.out
  have lwb : wb < u7.heap.size := Nat.lt_of_lt_of_le HWB.out B_7.out.size
  go_wp2_with fail
  clear hcH hlH hcA hlA hcD hlD cw0 cw1 lwb
  have s8 : (u7.alloc (.cells #[.int .i64 2, .int .i64 (j : Int)] 42)).heap.size = u7.heap.size + 1 := by simp
  have B_8 := Lib.hid (B_7.out.alloc B_7.out.size (.cells #[.int .i64 2, .int .i64 (j : Int)] 42))
  have H_8 := Lib.hid (H_7.out.alloc (.cells #[.int .i64 2, .int .i64 (j : Int)] 42))
  have A_8 := Lib.hid (A_7.out.alloc (.cells #[.int .i64 2, .int .i64 (j : Int)] 42))
  have D_8 := Lib.hid (D_7.out.alloc (.cells #[.int .i64 2, .int .i64 (j : Int)] 42))
  have T_8 := Lib.hid (Holds.newb (w := w) (A := #[.int .i64 2, .int .i64 (j : Int)]) (t := 42) (n := u7.heap.size) B_7.out rfl)
  clear B_7 H_7 A_7 D_7
  generalize u7.alloc (.cells #[.int .i64 2, .int .i64 (j : Int)] 42) = V8 at *
  have hcH := H_8.out.2.2
  have hlH := H_8.out.2.1
  have hcA := A_8.out.2.2
  have hlA := A_8.out.2.1
  have hcD := D_8.out.2.2
  have hlD := D_8.out.2.1
  have hcT := T_8.out.2.2
  have hlT := T_8.out.2.1
  refine (near_as (Shape.refl x) ⟨pd, some ⟨b, o, none⟩, pac, pk, pkc, some ⟨wb, wo, none⟩, pwc⟩ i _ FT.out.right (HWA.out.below B_8.out (Nat.le_refl _)) hil j hjl HJ.out).mono ?_
  rintro e u9 ⟨rfl, b9⟩
  clear hcH hlH hcA hlA hcD hlD hcT hlT
  have B_9 := Lib.hid (bl B_8.out b9)
  have H_9 := Lib.hid (H_8.out.call b9)
  have A_9 := Lib.hid (A_8.out.call b9)
  have D_9 := Lib.hid (D_8.out.call b9)
  have T_9 := Lib.hid (T_8.out.call b9)
  clear b9 B_8 H_8 A_8 D_8 T_8
  go_wp2_with fail
  go_ret
  exact ⟨rfl, B_9.out⟩
set_option maxRecDepth 100000 in
set_option maxHeartbeats 2000000 in
theorem boxesNear_l0 (x : Wd) (pd : Dp) (b o pac : Nat) (pk : Option Addr) (pkc wb wo pwc : Nat) (a c d i k bx : Nat)  (haa : a ≤ 255) (hcc : c ≤ 255) (hdd : d ≤ 255) (hlw : 0 < x.wher.length) (hi : a % x.at_.length = i) (hk : c % x.wher.length = k) (hb : d % x.wher.length = bx) (e : Int) (f : Int) (y z : Wd) (hR : boxW x i k bx = (y, e)) (hP : outW x i k bx = (z, f)) (hv : nearB x i k = true) (he0 : (e == 0) = false) (hf0 : (f == 0) = false)  (w : World) (h : WorldAt w ⟨pd, some ⟨b, o, none⟩, pac, pk, pkc, some ⟨wb, wo, none⟩, pwc⟩ x) (hf : fitsB x = true) (c0 : w.cell? ⟨wb, wo + k * 2, none⟩ = some (.int .i64 0)) (c1 : w.cell? ⟨wb, wo + k * 2 + 1, none⟩ = some (.int .i64 (roomOf x i : Int))) (c2 : w.cell? ⟨b, o + i, none⟩ = some (.int .i64 (roomOf x i : Int))) (hwb : wb < w.heap.size) : Calls Try.prog 6 #[.agg #[.slice pd.ex x.d.exits.length pd.exc, .slice pd.pl x.d.players.length pd.plc, .slice pd.co x.d.coins.length pd.coc, .slice pd.it x.d.items.length pd.itc, .slice pd.bo x.d.boxes.length pd.boc, .int .i64 x.d.room, .int .i64 x.d.player, .int .i64 x.d.box, .slice (some ⟨b, o, none⟩) x.at_.length pac, .slice pk x.coins.length pkc, .slice (some ⟨wb, wo, none⟩) x.wher.length pwc], .int .u8 (a : Int), .int .u8 (c : Int), .int .u8 (d : Int)] w fun e w' => e = .returned (.bool true) ∧ Below w.heap.size w w' := by
  have r1 := run_tmod7 a x.at_.length
  have m1 := run_mod7 a x.at_.length
  rw [hi] at r1 m1
  have FT := Lib.hid (fits_fit hf)
  have hlp : 0 < x.at_.length := (right_lens FT.out.right).1
  have hne : ¬ x.at_ = [] := List.length_pos_iff.1 hlp
  have hil : i < x.at_.length := by rw [← hi]; exact Nat.mod_lt _ hlp
  have hlen6 := (right_lens FT.out.right).2.1
  have r2 := run_tmod7 c x.wher.length
  have m2 := run_mod7 c x.wher.length
  rw [hk] at r2 m2
  have r3 := run_tmod7 d x.wher.length
  have m3 := run_mod7 d x.wher.length
  rw [hb] at r3 m3
  have hnw : ¬ x.wher = [] := List.length_pos_iff.1 hlw
  have h0 : ((x.wher.length : Int) == 0) = false := by simp; omega
  have hkl : k < x.wher.length := by rw [← hk]; exact Nat.mod_lt _ hlw
  have hbl : bx < x.wher.length := by rw [← hb]; exact Nat.mod_lt _ hlw
  have hlen16 := (right_lens FT.out.right).2.2.2.1
  have HR := Lib.hid hR
  have HP := Lib.hid hP
  have HV := Lib.hid hv
  have C0 := Lib.hid c0
  have C1 := Lib.hid c1
  have C2 := Lib.hid c2
  have HWB := Lib.hid hwb
  have hlen := h.wh.len
  have hlenA := h.at_.len
  have g1 := run_pleq 0 (roomOf x i) 0 (roomOf x i)
  have g2 := run_pleq 0 (roomOf x i) 1 i
  simp only [decide_true] at g1
  rw [show decide ((⟨0, (roomOf x i : Int)⟩ : Pl) = ⟨1, (i : Int)⟩) = false by simp] at g2
  clear hi hk hb hlp hlw hR hP hv  c0 c1 c2 hwb
  have H_0 := Lib.hid (Holds.new w #[.slice pd.ex x.d.exits.length pd.exc, .slice pd.pl x.d.players.length pd.plc, .slice pd.co x.d.coins.length pd.coc, .slice pd.it x.d.items.length pd.itc, .slice pd.bo x.d.boxes.length pd.boc, .int .i64 x.d.room, .int .i64 x.d.player, .int .i64 x.d.box, .slice (some ⟨b, o, none⟩) x.at_.length pac, .slice pk x.coins.length pkc, .slice (some ⟨wb, wo, none⟩) x.wher.length pwc] 29)
  have HF := Lib.hid hf
  have HWA := Lib.hid h
  clear hf h
  go_enter Try.func6, Try.ntmps6
  go_wp2_with fail
  generalize w.alloc (.cells #[.slice pd.ex x.d.exits.length pd.exc, .slice pd.pl x.d.players.length pd.plc, .slice pd.co x.d.coins.length pd.coc, .slice pd.it x.d.items.length pd.itc, .slice pd.bo x.d.boxes.length pd.boc, .int .i64 x.d.room, .int .i64 x.d.player, .int .i64 x.d.box, .slice (some ⟨b, o, none⟩) x.at_.length pac, .slice pk x.coins.length pkc, .slice (some ⟨wb, wo, none⟩) x.wher.length pwc] 29) = V0 at *
  have B_0 := Lib.hid H_0.out.1
  refine (awake10_any _).mono ?_
  rintro e u1 ⟨rfl, b1⟩
  have B_1 := Lib.hid (bl B_0.out b1)
  have H_1 := Lib.hid (H_0.out.call b1)
  clear b1 B_0 H_0
  have hcH := H_1.out.2.2
  have hlH := H_1.out.2.1
  go_wp2_with fail
  refine (fits10_any x ⟨pd, some ⟨b, o, none⟩, pac, pk, pkc, some ⟨wb, wo, none⟩, pwc⟩ _ (HWA.out.below H_1.out.1 (Nat.le_refl _))).mono ?_
  rintro e u2 ⟨rfl, b2⟩
  rw [HF.out]
  clear hcH hlH
  have B_2 := Lib.hid (bl B_1.out b2)
  have H_2 := Lib.hid (H_1.out.call b2)
  clear b2 B_1 H_1
  have hcH := H_2.out.2.2
  have hlH := H_2.out.2.1
  go_wp2_with fail
  refine (bput_as (Shape.refl x) ⟨pd, some ⟨b, o, none⟩, pac, pk, pkc, some ⟨wb, wo, none⟩, pwc⟩ i k bx _ FT.out.right (HWA.out.below B_2.out (Nat.le_refl _)) hil HR.out).mono ?_
  rintro e u3 ⟨q3, rfl, g3, b3⟩
  clear hcH hlH
  have B_3 := Lib.hid (bl B_2.out b3)
  have H_3 := Lib.hid (H_2.out.call b3)
  clear b3 B_2 H_2 g3
  have hcH := H_3.out.2.2
  have hlH := H_3.out.2.1
  go_wp2_with fail
  clear hcH hlH
  have s4 : (u3.alloc (.cells #[.slice q3.d.ex x.d.exits.length q3.d.exc, .slice q3.d.pl x.d.players.length q3.d.plc, .slice q3.d.co x.d.coins.length q3.d.coc, .slice q3.d.it x.d.items.length q3.d.itc, .slice q3.d.bo x.d.boxes.length q3.d.boc, .int .i64 x.d.room, .int .i64 x.d.player, .int .i64 x.d.box, .slice q3.at_ x.at_.length q3.atc, .slice q3.co x.coins.length q3.coc, .slice q3.wh x.wher.length q3.whc] 29)).heap.size = u3.heap.size + 1 := by simp
  have B_4 := Lib.hid (B_3.out.alloc B_3.out.size (.cells #[.slice q3.d.ex x.d.exits.length q3.d.exc, .slice q3.d.pl x.d.players.length q3.d.plc, .slice q3.d.co x.d.coins.length q3.d.coc, .slice q3.d.it x.d.items.length q3.d.itc, .slice q3.d.bo x.d.boxes.length q3.d.boc, .int .i64 x.d.room, .int .i64 x.d.player, .int .i64 x.d.box, .slice q3.at_ x.at_.length q3.atc, .slice q3.co x.coins.length q3.coc, .slice q3.wh x.wher.length q3.whc] 29))
  have H_4 := Lib.hid (H_3.out.alloc (.cells #[.slice q3.d.ex x.d.exits.length q3.d.exc, .slice q3.d.pl x.d.players.length q3.d.plc, .slice q3.d.co x.d.coins.length q3.d.coc, .slice q3.d.it x.d.items.length q3.d.itc, .slice q3.d.bo x.d.boxes.length q3.d.boc, .int .i64 x.d.room, .int .i64 x.d.player, .int .i64 x.d.box, .slice q3.at_ x.at_.length q3.atc, .slice q3.co x.coins.length q3.coc, .slice q3.wh x.wher.length q3.whc] 29))
  have A_4 := Lib.hid (Holds.newb (w := w) (A := #[.slice q3.d.ex x.d.exits.length q3.d.exc, .slice q3.d.pl x.d.players.length q3.d.plc, .slice q3.d.co x.d.coins.length q3.d.coc, .slice q3.d.it x.d.items.length q3.d.itc, .slice q3.d.bo x.d.boxes.length q3.d.boc, .int .i64 x.d.room, .int .i64 x.d.player, .int .i64 x.d.box, .slice q3.at_ x.at_.length q3.atc, .slice q3.co x.coins.length q3.coc, .slice q3.wh x.wher.length q3.whc]) (t := 29) (n := u3.heap.size) B_3.out rfl)
  clear B_3 H_3
  generalize u3.alloc (.cells #[.slice q3.d.ex x.d.exits.length q3.d.exc, .slice q3.d.pl x.d.players.length q3.d.plc, .slice q3.d.co x.d.coins.length q3.d.coc, .slice q3.d.it x.d.items.length q3.d.itc, .slice q3.d.bo x.d.boxes.length q3.d.boc, .int .i64 x.d.room, .int .i64 x.d.player, .int .i64 x.d.box, .slice q3.at_ x.at_.length q3.atc, .slice q3.co x.coins.length q3.coc, .slice q3.wh x.wher.length q3.whc] 29) = V4 at *
  have hcH := H_4.out.2.2
  have hlH := H_4.out.2.1
  have hcA := A_4.out.2.2
  have hlA := A_4.out.2.1
  refine (btake_as (Shape.refl x) ⟨pd, some ⟨b, o, none⟩, pac, pk, pkc, some ⟨wb, wo, none⟩, pwc⟩ i k bx _ FT.out.right (HWA.out.below B_4.out (Nat.le_refl _)) hil HP.out).mono ?_
  rintro e u5 ⟨q5, rfl, g5, b5⟩
  clear hcH hlH hcA hlA
  have B_5 := Lib.hid (bl B_4.out b5)
  have H_5 := Lib.hid (H_4.out.call b5)
  have A_5 := Lib.hid (A_4.out.call b5)
  clear b5 B_4 H_4 A_4 g5
  have hcH := H_5.out.2.2
  have hlH := H_5.out.2.1
  have hcA := A_5.out.2.2
  have hlA := A_5.out.2.1
  go_wp2_with fail
  clear hcH hlH hcA hlA
  have s6 : (u5.alloc (.cells #[.slice q5.d.ex x.d.exits.length q5.d.exc, .slice q5.d.pl x.d.players.length q5.d.plc, .slice q5.d.co x.d.coins.length q5.d.coc, .slice q5.d.it x.d.items.length q5.d.itc, .slice q5.d.bo x.d.boxes.length q5.d.boc, .int .i64 x.d.room, .int .i64 x.d.player, .int .i64 x.d.box, .slice q5.at_ x.at_.length q5.atc, .slice q5.co x.coins.length q5.coc, .slice q5.wh x.wher.length q5.whc] 29)).heap.size = u5.heap.size + 1 := by simp
  have B_6 := Lib.hid (B_5.out.alloc B_5.out.size (.cells #[.slice q5.d.ex x.d.exits.length q5.d.exc, .slice q5.d.pl x.d.players.length q5.d.plc, .slice q5.d.co x.d.coins.length q5.d.coc, .slice q5.d.it x.d.items.length q5.d.itc, .slice q5.d.bo x.d.boxes.length q5.d.boc, .int .i64 x.d.room, .int .i64 x.d.player, .int .i64 x.d.box, .slice q5.at_ x.at_.length q5.atc, .slice q5.co x.coins.length q5.coc, .slice q5.wh x.wher.length q5.whc] 29))
  have H_6 := Lib.hid (H_5.out.alloc (.cells #[.slice q5.d.ex x.d.exits.length q5.d.exc, .slice q5.d.pl x.d.players.length q5.d.plc, .slice q5.d.co x.d.coins.length q5.d.coc, .slice q5.d.it x.d.items.length q5.d.itc, .slice q5.d.bo x.d.boxes.length q5.d.boc, .int .i64 x.d.room, .int .i64 x.d.player, .int .i64 x.d.box, .slice q5.at_ x.at_.length q5.atc, .slice q5.co x.coins.length q5.coc, .slice q5.wh x.wher.length q5.whc] 29))
  have A_6 := Lib.hid (A_5.out.alloc (.cells #[.slice q5.d.ex x.d.exits.length q5.d.exc, .slice q5.d.pl x.d.players.length q5.d.plc, .slice q5.d.co x.d.coins.length q5.d.coc, .slice q5.d.it x.d.items.length q5.d.itc, .slice q5.d.bo x.d.boxes.length q5.d.boc, .int .i64 x.d.room, .int .i64 x.d.player, .int .i64 x.d.box, .slice q5.at_ x.at_.length q5.atc, .slice q5.co x.coins.length q5.coc, .slice q5.wh x.wher.length q5.whc] 29))
  have D_6 := Lib.hid (Holds.newb (w := w) (A := #[.slice q5.d.ex x.d.exits.length q5.d.exc, .slice q5.d.pl x.d.players.length q5.d.plc, .slice q5.d.co x.d.coins.length q5.d.coc, .slice q5.d.it x.d.items.length q5.d.itc, .slice q5.d.bo x.d.boxes.length q5.d.boc, .int .i64 x.d.room, .int .i64 x.d.player, .int .i64 x.d.box, .slice q5.at_ x.at_.length q5.atc, .slice q5.co x.coins.length q5.coc, .slice q5.wh x.wher.length q5.whc]) (t := 29) (n := u5.heap.size) B_5.out rfl)
  clear B_5 H_5 A_5
  generalize u5.alloc (.cells #[.slice q5.d.ex x.d.exits.length q5.d.exc, .slice q5.d.pl x.d.players.length q5.d.plc, .slice q5.d.co x.d.coins.length q5.d.coc, .slice q5.d.it x.d.items.length q5.d.itc, .slice q5.d.bo x.d.boxes.length q5.d.boc, .int .i64 x.d.room, .int .i64 x.d.player, .int .i64 x.d.box, .slice q5.at_ x.at_.length q5.atc, .slice q5.co x.coins.length q5.coc, .slice q5.wh x.wher.length q5.whc] 29) = V6 at *
  have hcH := H_6.out.2.2
  have hlH := H_6.out.2.1
  have hcA := A_6.out.2.2
  have hlA := A_6.out.2.1
  have hcD := D_6.out.2.2
  have hlD := D_6.out.2.1
  refine (near_as (Shape.refl x) ⟨pd, some ⟨b, o, none⟩, pac, pk, pkc, some ⟨wb, wo, none⟩, pwc⟩ i _ FT.out.right (HWA.out.below B_6.out (Nat.le_refl _)) hil k hkl HV.out).mono ?_
  rintro e u7 ⟨rfl, b7⟩
  clear hcH hlH hcA hlA hcD hlD
  have B_7 := Lib.hid (bl B_6.out b7)
  have H_7 := Lib.hid (H_6.out.call b7)
  have A_7 := Lib.hid (A_6.out.call b7)
  have D_7 := Lib.hid (D_6.out.call b7)
  clear b7 B_6 H_6 A_6 D_6
  have hcH := H_7.out.2.2
  have hlH := H_7.out.2.1
  have hcA := A_7.out.2.2
  have hlA := A_7.out.2.1
  have hcD := D_7.out.2.2
  have hlD := D_7.out.2.1
  have cw0 := cell_call C0.out B_7.out
  have cw1 := cell_call C1.out B_7.out
  have lwb : wb < u7.heap.size := Nat.lt_of_lt_of_le HWB.out B_7.out.size
  go_wp2_with fail
  clear hcH hlH hcA hlA hcD hlD cw0 cw1 lwb
  have s8 : (u7.alloc (.cells #[.int .i64 0, .int .i64 (roomOf x i : Int)] 42)).heap.size = u7.heap.size + 1 := by simp
  have B_8 := Lib.hid (B_7.out.alloc B_7.out.size (.cells #[.int .i64 0, .int .i64 (roomOf x i : Int)] 42))
  have H_8 := Lib.hid (H_7.out.alloc (.cells #[.int .i64 0, .int .i64 (roomOf x i : Int)] 42))
  have A_8 := Lib.hid (A_7.out.alloc (.cells #[.int .i64 0, .int .i64 (roomOf x i : Int)] 42))
  have D_8 := Lib.hid (D_7.out.alloc (.cells #[.int .i64 0, .int .i64 (roomOf x i : Int)] 42))
  have T_8 := Lib.hid (Holds.newb (w := w) (A := #[.int .i64 0, .int .i64 (roomOf x i : Int)]) (t := 42) (n := u7.heap.size) B_7.out rfl)
  clear B_7 H_7 A_7 D_7
  generalize u7.alloc (.cells #[.int .i64 0, .int .i64 (roomOf x i : Int)] 42) = V8 at *
  have hcH := H_8.out.2.2
  have hlH := H_8.out.2.1
  have hcA := A_8.out.2.2
  have hlA := A_8.out.2.1
  have hcD := D_8.out.2.2
  have hlD := D_8.out.2.1
  have hcT := T_8.out.2.2
  have hlT := T_8.out.2.1
  clear hcH hlH hcA hlA hcD hlD hcT hlT
  have KS : Hid (∀ w', Below V8.heap.size V8 w' → Below V8.heap.size V8 w' ∧ (∀ ii, w'.cell? ⟨w.heap.size, ii, none⟩ = (#[.slice pd.ex x.d.exits.length pd.exc, .slice pd.pl x.d.players.length pd.plc, .slice pd.co x.d.coins.length pd.coc, .slice pd.it x.d.items.length pd.itc, .slice pd.bo x.d.boxes.length pd.boc, .int .i64 x.d.room, .int .i64 x.d.player, .int .i64 x.d.box, .slice (some ⟨b, o, none⟩) x.at_.length pac, .slice pk x.coins.length pkc, .slice (some ⟨wb, wo, none⟩) x.wher.length pwc][ii]? : Option Value)) ∧ (∀ ii, w'.cell? ⟨u7.heap.size, ii, none⟩ = (#[.int .i64 0, .int .i64 (roomOf x i : Int)][ii]? : Option Value)) ∧ w'.cell? ⟨b, o + i, none⟩ = some (.int .i64 (roomOf x i : Int))) := Lib.hid (fun w' hb => ⟨hb, fun ii => (hb.cell (p := ⟨w.heap.size, ii, none⟩) H_8.out.2.1).trans (H_8.out.2.2 ii), fun ii => (hb.cell (p := ⟨u7.heap.size, ii, none⟩) T_8.out.2.1).trans (T_8.out.2.2 ii), cell_call (cell_call C2.out B_8.out) hb⟩)
  refine wp_region_noPanic ?_
  refine wp_region_held_drew (S := (fun w' => Below V8.heap.size V8 w' ∧ (∀ ii, w'.cell? ⟨w.heap.size, ii, none⟩ = (#[.slice pd.ex x.d.exits.length pd.exc, .slice pd.pl x.d.players.length pd.plc, .slice pd.co x.d.coins.length pd.coc, .slice pd.it x.d.items.length pd.itc, .slice pd.bo x.d.boxes.length pd.boc, .int .i64 x.d.room, .int .i64 x.d.player, .int .i64 x.d.box, .slice (some ⟨b, o, none⟩) x.at_.length pac, .slice pk x.coins.length pkc, .slice (some ⟨wb, wo, none⟩) x.wher.length pwc][ii]? : Option Value)) ∧ (∀ ii, w'.cell? ⟨u7.heap.size, ii, none⟩ = (#[.int .i64 0, .int .i64 (roomOf x i : Int)][ii]? : Option Value)) ∧ w'.cell? ⟨b, o + i, none⟩ = some (.int .i64 (roomOf x i : Int)))) (by kernel_rfl) (by (first | (with_reducible exact KS.out _ (bdrew1 (Below.refl _ _))) | (with_reducible exact KS.out _ (below_call hHeld.1 hHeld.1.size hb9)) | (with_reducible exact hHeld))) (fun hHeld => ?_)
  first
    | (refine wpAnyH_take (i := 0) (v := undef) (by simp only [List.getElem?_toArray, List.getElem?_cons_zero]; rfl) (by kernel_rfl) (by kernel_rfl) (by kernel_rfl) (fun _ _ _ h => h) (Or.inr ⟨by rfl, rfl⟩) (by assumption) ?_; try simp only [Act.put, List.setIfInBounds_toArray, List.set_cons_zero, List.set_cons_succ])
    | (refine wpAnyH_take (i := 0) (v := ?_) (by simp only [List.getElem?_toArray, List.getElem?_cons_zero]; rfl) (by kernel_rfl) (by kernel_rfl) (by kernel_rfl) (fun _ _ _ h => h) (Or.inl ⟨by rfl, ?_⟩) (by assumption) ?_
       rotate_left
       · (intro ww hSw; (try dsimp only at hSw); go_simp; (try with_reducible rfl))
       try simp only [Act.put, List.setIfInBounds_toArray, List.set_cons_zero, List.set_cons_succ])
    | (refine wpAnyH_ready (rs := [0]) (by kernel_rfl) (by simp) (AllReadyH.cons (by simp only [List.getElem?_toArray, List.getElem?_cons_succ, List.getElem?_cons_zero]; rfl) (fun K hK => ?_) AllReadyH.nil)
       go_simp
       first
         | (fail)
       try go_wp2_with fail
       refine hK.out _ _ (by (first | (with_reducible exact KS.out _ (bdrew1 (Below.refl _ _))) | (with_reducible exact KS.out _ (below_call hHeld.1 hHeld.1.size hb9)) | (with_reducible exact hHeld))) (fun hHeld => ?_)
       clear hK K
       try simp only [Act.put, List.setIfInBounds_toArray, List.set_cons_zero, List.set_cons_succ])
  first
    | (refine wpAnyH_take (i := 1) (v := undef) (by simp only [List.getElem?_toArray, List.getElem?_cons_succ, List.getElem?_cons_zero]; rfl) (by kernel_rfl) (by kernel_rfl) (by kernel_rfl) (fun _ _ _ h => h) (Or.inr ⟨by rfl, rfl⟩) (by assumption) ?_; try simp only [Act.put, List.setIfInBounds_toArray, List.set_cons_zero, List.set_cons_succ])
    | (refine wpAnyH_take (i := 1) (v := ?_) (by simp only [List.getElem?_toArray, List.getElem?_cons_succ, List.getElem?_cons_zero]; rfl) (by kernel_rfl) (by kernel_rfl) (by kernel_rfl) (fun _ _ _ h => h) (Or.inl ⟨by rfl, ?_⟩) (by assumption) ?_
       rotate_left
       · (intro ww hSw; (try dsimp only at hSw); go_simp; (try with_reducible rfl))
       try simp only [Act.put, List.setIfInBounds_toArray, List.set_cons_zero, List.set_cons_succ])
    | (refine wpAnyH_ready (rs := [1]) (by kernel_rfl) (by simp) (AllReadyH.cons (by simp only [List.getElem?_toArray, List.getElem?_cons_succ, List.getElem?_cons_zero]; rfl) (fun K hK => ?_) AllReadyH.nil)
       go_simp
       first
         | (fail)
       try go_wp2_with fail
       refine hK.out _ _ (by (first | (with_reducible exact KS.out _ (bdrew1 (Below.refl _ _))) | (with_reducible exact KS.out _ (below_call hHeld.1 hHeld.1.size hb9)) | (with_reducible exact hHeld))) (fun hHeld => ?_)
       clear hK K
       try simp only [Act.put, List.setIfInBounds_toArray, List.set_cons_zero, List.set_cons_succ])
  first
    | (refine wpAnyH_take (i := 2) (v := undef) (by simp only [List.getElem?_toArray, List.getElem?_cons_succ, List.getElem?_cons_zero]; rfl) (by kernel_rfl) (by kernel_rfl) (by kernel_rfl) (fun _ _ _ h => h) (Or.inr ⟨by rfl, rfl⟩) (by assumption) ?_; try simp only [Act.put, List.setIfInBounds_toArray, List.set_cons_zero, List.set_cons_succ])
    | (refine wpAnyH_take (i := 2) (v := ?_) (by simp only [List.getElem?_toArray, List.getElem?_cons_succ, List.getElem?_cons_zero]; rfl) (by kernel_rfl) (by kernel_rfl) (by kernel_rfl) (fun _ _ _ h => h) (Or.inl ⟨by rfl, ?_⟩) (by assumption) ?_
       rotate_left
       · (intro ww hSw; (try dsimp only at hSw); go_simp; (try with_reducible rfl))
       try simp only [Act.put, List.setIfInBounds_toArray, List.set_cons_zero, List.set_cons_succ])
    | (refine wpAnyH_ready (rs := [2]) (by kernel_rfl) (by simp) (AllReadyH.cons (by simp only [List.getElem?_toArray, List.getElem?_cons_succ, List.getElem?_cons_zero]; rfl) (fun K hK => ?_) AllReadyH.nil)
       go_simp
       first
         | (fail)
       try go_wp2_with fail
       refine hK.out _ _ (by (first | (with_reducible exact KS.out _ (bdrew1 (Below.refl _ _))) | (with_reducible exact KS.out _ (below_call hHeld.1 hHeld.1.size hb9)) | (with_reducible exact hHeld))) (fun hHeld => ?_)
       clear hK K
       try simp only [Act.put, List.setIfInBounds_toArray, List.set_cons_zero, List.set_cons_succ])
  first
    | (refine wpAnyH_take (i := 3) (v := undef) (by simp only [List.getElem?_toArray, List.getElem?_cons_succ, List.getElem?_cons_zero]; rfl) (by kernel_rfl) (by kernel_rfl) (by kernel_rfl) (fun _ _ _ h => h) (Or.inr ⟨by rfl, rfl⟩) (by assumption) ?_; try simp only [Act.put, List.setIfInBounds_toArray, List.set_cons_zero, List.set_cons_succ])
    | (refine wpAnyH_take (i := 3) (v := ?_) (by simp only [List.getElem?_toArray, List.getElem?_cons_succ, List.getElem?_cons_zero]; rfl) (by kernel_rfl) (by kernel_rfl) (by kernel_rfl) (fun _ _ _ h => h) (Or.inl ⟨by rfl, ?_⟩) (by assumption) ?_
       rotate_left
       · (intro ww hSw; (try dsimp only at hSw); go_simp; (try with_reducible rfl))
       try simp only [Act.put, List.setIfInBounds_toArray, List.set_cons_zero, List.set_cons_succ])
    | (refine wpAnyH_ready (rs := [3]) (by kernel_rfl) (by simp) (AllReadyH.cons (by simp only [List.getElem?_toArray, List.getElem?_cons_succ, List.getElem?_cons_zero]; rfl) (fun K hK => ?_) AllReadyH.nil)
       go_simp
       first
         | (fail)
       try go_wp2_with fail
       refine hK.out _ _ (by (first | (with_reducible exact KS.out _ (bdrew1 (Below.refl _ _))) | (with_reducible exact KS.out _ (below_call hHeld.1 hHeld.1.size hb9)) | (with_reducible exact hHeld))) (fun hHeld => ?_)
       clear hK K
       try simp only [Act.put, List.setIfInBounds_toArray, List.set_cons_zero, List.set_cons_succ])
  first
    | (refine wpAnyH_take (i := 4) (v := undef) (by simp only [List.getElem?_toArray, List.getElem?_cons_succ, List.getElem?_cons_zero]; rfl) (by kernel_rfl) (by kernel_rfl) (by kernel_rfl) (fun _ _ _ h => h) (Or.inr ⟨by rfl, rfl⟩) (by assumption) ?_; try simp only [Act.put, List.setIfInBounds_toArray, List.set_cons_zero, List.set_cons_succ])
    | (refine wpAnyH_take (i := 4) (v := ?_) (by simp only [List.getElem?_toArray, List.getElem?_cons_succ, List.getElem?_cons_zero]; rfl) (by kernel_rfl) (by kernel_rfl) (by kernel_rfl) (fun _ _ _ h => h) (Or.inl ⟨by rfl, ?_⟩) (by assumption) ?_
       rotate_left
       · (intro ww hSw; (try dsimp only at hSw); go_simp; (try with_reducible rfl))
       try simp only [Act.put, List.setIfInBounds_toArray, List.set_cons_zero, List.set_cons_succ])
    | (refine wpAnyH_ready (rs := [4]) (by kernel_rfl) (by simp) (AllReadyH.cons (by simp only [List.getElem?_toArray, List.getElem?_cons_succ, List.getElem?_cons_zero]; rfl) (fun K hK => ?_) AllReadyH.nil)
       go_simp
       first
         | (fail)
       try go_wp2_with fail
       refine hK.out _ _ (by (first | (with_reducible exact KS.out _ (bdrew1 (Below.refl _ _))) | (with_reducible exact KS.out _ (below_call hHeld.1 hHeld.1.size hb9)) | (with_reducible exact hHeld))) (fun hHeld => ?_)
       clear hK K
       try simp only [Act.put, List.setIfInBounds_toArray, List.set_cons_zero, List.set_cons_succ])
  first
    | (refine wpAnyH_take (i := 5) (v := undef) (by simp only [List.getElem?_toArray, List.getElem?_cons_succ, List.getElem?_cons_zero]; rfl) (by kernel_rfl) (by kernel_rfl) (by kernel_rfl) (fun _ _ _ h => h) (Or.inr ⟨by rfl, rfl⟩) (by assumption) ?_; try simp only [Act.put, List.setIfInBounds_toArray, List.set_cons_zero, List.set_cons_succ])
    | (refine wpAnyH_take (i := 5) (v := ?_) (by simp only [List.getElem?_toArray, List.getElem?_cons_succ, List.getElem?_cons_zero]; rfl) (by kernel_rfl) (by kernel_rfl) (by kernel_rfl) (fun _ _ _ h => h) (Or.inl ⟨by rfl, ?_⟩) (by assumption) ?_
       rotate_left
       · (intro ww hSw; (try dsimp only at hSw); go_simp; (try with_reducible rfl))
       try simp only [Act.put, List.setIfInBounds_toArray, List.set_cons_zero, List.set_cons_succ])
    | (refine wpAnyH_ready (rs := [5]) (by kernel_rfl) (by simp) (AllReadyH.cons (by simp only [List.getElem?_toArray, List.getElem?_cons_succ, List.getElem?_cons_zero]; rfl) (fun K hK => ?_) AllReadyH.nil)
       go_simp
       first
         | (fail)
       try go_wp2_with fail
       refine hK.out _ _ (by (first | (with_reducible exact KS.out _ (bdrew1 (Below.refl _ _))) | (with_reducible exact KS.out _ (below_call hHeld.1 hHeld.1.size hb9)) | (with_reducible exact hHeld))) (fun hHeld => ?_)
       clear hK K
       try simp only [Act.put, List.setIfInBounds_toArray, List.set_cons_zero, List.set_cons_succ])
  first
    | (refine wpAnyH_take (i := 6) (v := undef) (by simp only [List.getElem?_toArray, List.getElem?_cons_succ, List.getElem?_cons_zero]; rfl) (by kernel_rfl) (by kernel_rfl) (by kernel_rfl) (fun _ _ _ h => h) (Or.inr ⟨by rfl, rfl⟩) (by assumption) ?_; try simp only [Act.put, List.setIfInBounds_toArray, List.set_cons_zero, List.set_cons_succ])
    | (refine wpAnyH_take (i := 6) (v := ?_) (by simp only [List.getElem?_toArray, List.getElem?_cons_succ, List.getElem?_cons_zero]; rfl) (by kernel_rfl) (by kernel_rfl) (by kernel_rfl) (fun _ _ _ h => h) (Or.inl ⟨by rfl, ?_⟩) (by assumption) ?_
       rotate_left
       · (intro ww hSw; (try dsimp only at hSw); go_simp; (try with_reducible rfl))
       try simp only [Act.put, List.setIfInBounds_toArray, List.set_cons_zero, List.set_cons_succ])
    | (refine wpAnyH_ready (rs := [6]) (by kernel_rfl) (by simp) (AllReadyH.cons (by simp only [List.getElem?_toArray, List.getElem?_cons_succ, List.getElem?_cons_zero]; rfl) (fun K hK => ?_) AllReadyH.nil)
       go_simp
       first
         | (fail)
       try go_wp2_with fail
       refine hK.out _ _ (by (first | (with_reducible exact KS.out _ (bdrew1 (Below.refl _ _))) | (with_reducible exact KS.out _ (below_call hHeld.1 hHeld.1.size hb9)) | (with_reducible exact hHeld))) (fun hHeld => ?_)
       clear hK K
       try simp only [Act.put, List.setIfInBounds_toArray, List.set_cons_zero, List.set_cons_succ])
  first
    | (refine wpAnyH_take (i := 7) (v := undef) (by simp only [List.getElem?_toArray, List.getElem?_cons_succ, List.getElem?_cons_zero]; rfl) (by kernel_rfl) (by kernel_rfl) (by kernel_rfl) (fun _ _ _ h => h) (Or.inr ⟨by rfl, rfl⟩) (by assumption) ?_; try simp only [Act.put, List.setIfInBounds_toArray, List.set_cons_zero, List.set_cons_succ])
    | (refine wpAnyH_take (i := 7) (v := ?_) (by simp only [List.getElem?_toArray, List.getElem?_cons_succ, List.getElem?_cons_zero]; rfl) (by kernel_rfl) (by kernel_rfl) (by kernel_rfl) (fun _ _ _ h => h) (Or.inl ⟨by rfl, ?_⟩) (by assumption) ?_
       rotate_left
       · (intro ww hSw; (try dsimp only at hSw); go_simp; (try with_reducible rfl))
       try simp only [Act.put, List.setIfInBounds_toArray, List.set_cons_zero, List.set_cons_succ])
    | (refine wpAnyH_ready (rs := [7]) (by kernel_rfl) (by simp) (AllReadyH.cons (by simp only [List.getElem?_toArray, List.getElem?_cons_succ, List.getElem?_cons_zero]; rfl) (fun K hK => ?_) AllReadyH.nil)
       go_simp
       first
         | (fail)
       try go_wp2_with fail
       refine hK.out _ _ (by (first | (with_reducible exact KS.out _ (bdrew1 (Below.refl _ _))) | (with_reducible exact KS.out _ (below_call hHeld.1 hHeld.1.size hb9)) | (with_reducible exact hHeld))) (fun hHeld => ?_)
       clear hK K
       try simp only [Act.put, List.setIfInBounds_toArray, List.set_cons_zero, List.set_cons_succ])
  first
    | (refine wpAnyH_take (i := 8) (v := undef) (by simp only [List.getElem?_toArray, List.getElem?_cons_succ, List.getElem?_cons_zero]; rfl) (by kernel_rfl) (by kernel_rfl) (by kernel_rfl) (fun _ _ _ h => h) (Or.inr ⟨by rfl, rfl⟩) (by assumption) ?_; try simp only [Act.put, List.setIfInBounds_toArray, List.set_cons_zero, List.set_cons_succ])
    | (refine wpAnyH_take (i := 8) (v := ?_) (by simp only [List.getElem?_toArray, List.getElem?_cons_succ, List.getElem?_cons_zero]; rfl) (by kernel_rfl) (by kernel_rfl) (by kernel_rfl) (fun _ _ _ h => h) (Or.inl ⟨by rfl, ?_⟩) (by assumption) ?_
       rotate_left
       · (intro ww hSw; (try dsimp only at hSw); go_simp; (try with_reducible rfl))
       try simp only [Act.put, List.setIfInBounds_toArray, List.set_cons_zero, List.set_cons_succ])
    | (refine wpAnyH_ready (rs := [8]) (by kernel_rfl) (by simp) (AllReadyH.cons (by simp only [List.getElem?_toArray, List.getElem?_cons_succ, List.getElem?_cons_zero]; rfl) (fun K hK => ?_) AllReadyH.nil)
       go_simp
       first
         | (fail)
       try go_wp2_with fail
       refine hK.out _ _ (by (first | (with_reducible exact KS.out _ (bdrew1 (Below.refl _ _))) | (with_reducible exact KS.out _ (below_call hHeld.1 hHeld.1.size hb9)) | (with_reducible exact hHeld))) (fun hHeld => ?_)
       clear hK K
       try simp only [Act.put, List.setIfInBounds_toArray, List.set_cons_zero, List.set_cons_succ])
  first
    | (refine wpAnyH_take (i := 9) (v := undef) (by simp only [List.getElem?_toArray, List.getElem?_cons_succ, List.getElem?_cons_zero]; rfl) (by kernel_rfl) (by kernel_rfl) (by kernel_rfl) (fun _ _ _ h => h) (Or.inr ⟨by rfl, rfl⟩) (by assumption) ?_; try simp only [Act.put, List.setIfInBounds_toArray, List.set_cons_zero, List.set_cons_succ])
    | (refine wpAnyH_take (i := 9) (v := ?_) (by simp only [List.getElem?_toArray, List.getElem?_cons_succ, List.getElem?_cons_zero]; rfl) (by kernel_rfl) (by kernel_rfl) (by kernel_rfl) (fun _ _ _ h => h) (Or.inl ⟨by rfl, ?_⟩) (by assumption) ?_
       rotate_left
       · (intro ww hSw; (try dsimp only at hSw); go_simp; (try with_reducible rfl))
       try simp only [Act.put, List.setIfInBounds_toArray, List.set_cons_zero, List.set_cons_succ])
    | (refine wpAnyH_ready (rs := [9]) (by kernel_rfl) (by simp) (AllReadyH.cons (by simp only [List.getElem?_toArray, List.getElem?_cons_succ, List.getElem?_cons_zero]; rfl) (fun K hK => ?_) AllReadyH.nil)
       go_simp
       first
         | (fail)
       try go_wp2_with fail
       refine hK.out _ _ (by (first | (with_reducible exact KS.out _ (bdrew1 (Below.refl _ _))) | (with_reducible exact KS.out _ (below_call hHeld.1 hHeld.1.size hb9)) | (with_reducible exact hHeld))) (fun hHeld => ?_)
       clear hK K
       try simp only [Act.put, List.setIfInBounds_toArray, List.set_cons_zero, List.set_cons_succ])
  first
    | (refine wpAnyH_take (i := 10) (v := undef) (by simp only [List.getElem?_toArray, List.getElem?_cons_succ, List.getElem?_cons_zero]; rfl) (by kernel_rfl) (by kernel_rfl) (by kernel_rfl) (fun _ _ _ h => h) (Or.inr ⟨by rfl, rfl⟩) (by assumption) ?_; try simp only [Act.put, List.setIfInBounds_toArray, List.set_cons_zero, List.set_cons_succ])
    | (refine wpAnyH_take (i := 10) (v := ?_) (by simp only [List.getElem?_toArray, List.getElem?_cons_succ, List.getElem?_cons_zero]; rfl) (by kernel_rfl) (by kernel_rfl) (by kernel_rfl) (fun _ _ _ h => h) (Or.inl ⟨by rfl, ?_⟩) (by assumption) ?_
       rotate_left
       · (intro ww hSw; (try dsimp only at hSw); go_simp; (try with_reducible rfl))
       try simp only [Act.put, List.setIfInBounds_toArray, List.set_cons_zero, List.set_cons_succ])
    | (refine wpAnyH_ready (rs := [10]) (by kernel_rfl) (by simp) (AllReadyH.cons (by simp only [List.getElem?_toArray, List.getElem?_cons_succ, List.getElem?_cons_zero]; rfl) (fun K hK => ?_) AllReadyH.nil)
       go_simp
       first
         | (fail)
       try go_wp2_with fail
       refine hK.out _ _ (by (first | (with_reducible exact KS.out _ (bdrew1 (Below.refl _ _))) | (with_reducible exact KS.out _ (below_call hHeld.1 hHeld.1.size hb9)) | (with_reducible exact hHeld))) (fun hHeld => ?_)
       clear hK K
       try simp only [Act.put, List.setIfInBounds_toArray, List.set_cons_zero, List.set_cons_succ])
  first
    | (refine wpAnyH_take (i := 11) (v := undef) (by simp only [List.getElem?_toArray, List.getElem?_cons_succ, List.getElem?_cons_zero]; rfl) (by kernel_rfl) (by kernel_rfl) (by kernel_rfl) (fun _ _ _ h => h) (Or.inr ⟨by rfl, rfl⟩) (by assumption) ?_; try simp only [Act.put, List.setIfInBounds_toArray, List.set_cons_zero, List.set_cons_succ])
    | (refine wpAnyH_take (i := 11) (v := ?_) (by simp only [List.getElem?_toArray, List.getElem?_cons_succ, List.getElem?_cons_zero]; rfl) (by kernel_rfl) (by kernel_rfl) (by kernel_rfl) (fun _ _ _ h => h) (Or.inl ⟨by rfl, ?_⟩) (by assumption) ?_
       rotate_left
       · (intro ww hSw; (try dsimp only at hSw); go_simp; (try with_reducible rfl))
       try simp only [Act.put, List.setIfInBounds_toArray, List.set_cons_zero, List.set_cons_succ])
    | (refine wpAnyH_ready (rs := [11]) (by kernel_rfl) (by simp) (AllReadyH.cons (by simp only [List.getElem?_toArray, List.getElem?_cons_succ, List.getElem?_cons_zero]; rfl) (fun K hK => ?_) AllReadyH.nil)
       go_simp
       first
         | (fail)
       try go_wp2_with fail
       refine hK.out _ _ (by (first | (with_reducible exact KS.out _ (bdrew1 (Below.refl _ _))) | (with_reducible exact KS.out _ (below_call hHeld.1 hHeld.1.size hb9)) | (with_reducible exact hHeld))) (fun hHeld => ?_)
       clear hK K
       try simp only [Act.put, List.setIfInBounds_toArray, List.set_cons_zero, List.set_cons_succ])
  first
    | (refine wpAnyH_take (i := 12) (v := undef) (by simp only [List.getElem?_toArray, List.getElem?_cons_succ, List.getElem?_cons_zero]; rfl) (by kernel_rfl) (by kernel_rfl) (by kernel_rfl) (fun _ _ _ h => h) (Or.inr ⟨by rfl, rfl⟩) (by assumption) ?_; try simp only [Act.put, List.setIfInBounds_toArray, List.set_cons_zero, List.set_cons_succ])
    | (refine wpAnyH_take (i := 12) (v := ?_) (by simp only [List.getElem?_toArray, List.getElem?_cons_succ, List.getElem?_cons_zero]; rfl) (by kernel_rfl) (by kernel_rfl) (by kernel_rfl) (fun _ _ _ h => h) (Or.inl ⟨by rfl, ?_⟩) (by assumption) ?_
       rotate_left
       · (intro ww hSw; (try dsimp only at hSw); go_simp; (try with_reducible rfl))
       try simp only [Act.put, List.setIfInBounds_toArray, List.set_cons_zero, List.set_cons_succ])
    | (refine wpAnyH_ready (rs := [12]) (by kernel_rfl) (by simp) (AllReadyH.cons (by simp only [List.getElem?_toArray, List.getElem?_cons_succ, List.getElem?_cons_zero]; rfl) (fun K hK => ?_) AllReadyH.nil)
       go_simp
       first
         | (fail)
       try go_wp2_with fail
       refine hK.out _ _ (by (first | (with_reducible exact KS.out _ (bdrew1 (Below.refl _ _))) | (with_reducible exact KS.out _ (below_call hHeld.1 hHeld.1.size hb9)) | (with_reducible exact hHeld))) (fun hHeld => ?_)
       clear hK K
       try simp only [Act.put, List.setIfInBounds_toArray, List.set_cons_zero, List.set_cons_succ])
  first
    | (refine wpAnyH_take (i := 13) (v := undef) (by simp only [List.getElem?_toArray, List.getElem?_cons_succ, List.getElem?_cons_zero]; rfl) (by kernel_rfl) (by kernel_rfl) (by kernel_rfl) (fun _ _ _ h => h) (Or.inr ⟨by rfl, rfl⟩) (by assumption) ?_; try simp only [Act.put, List.setIfInBounds_toArray, List.set_cons_zero, List.set_cons_succ])
    | (refine wpAnyH_take (i := 13) (v := ?_) (by simp only [List.getElem?_toArray, List.getElem?_cons_succ, List.getElem?_cons_zero]; rfl) (by kernel_rfl) (by kernel_rfl) (by kernel_rfl) (fun _ _ _ h => h) (Or.inl ⟨by rfl, ?_⟩) (by assumption) ?_
       rotate_left
       · (intro ww hSw; (try dsimp only at hSw); go_simp; (try with_reducible rfl))
       try simp only [Act.put, List.setIfInBounds_toArray, List.set_cons_zero, List.set_cons_succ])
    | (refine wpAnyH_ready (rs := [13]) (by kernel_rfl) (by simp) (AllReadyH.cons (by simp only [List.getElem?_toArray, List.getElem?_cons_succ, List.getElem?_cons_zero]; rfl) (fun K hK => ?_) AllReadyH.nil)
       go_simp
       first
         | (fail)
       try go_wp2_with fail
       refine hK.out _ _ (by (first | (with_reducible exact KS.out _ (bdrew1 (Below.refl _ _))) | (with_reducible exact KS.out _ (below_call hHeld.1 hHeld.1.size hb9)) | (with_reducible exact hHeld))) (fun hHeld => ?_)
       clear hK K
       try simp only [Act.put, List.setIfInBounds_toArray, List.set_cons_zero, List.set_cons_succ])
  first
    | (refine wpAnyH_take (i := 14) (v := undef) (by simp only [List.getElem?_toArray, List.getElem?_cons_succ, List.getElem?_cons_zero]; rfl) (by kernel_rfl) (by kernel_rfl) (by kernel_rfl) (fun _ _ _ h => h) (Or.inr ⟨by rfl, rfl⟩) (by assumption) ?_; try simp only [Act.put, List.setIfInBounds_toArray, List.set_cons_zero, List.set_cons_succ])
    | (refine wpAnyH_take (i := 14) (v := ?_) (by simp only [List.getElem?_toArray, List.getElem?_cons_succ, List.getElem?_cons_zero]; rfl) (by kernel_rfl) (by kernel_rfl) (by kernel_rfl) (fun _ _ _ h => h) (Or.inl ⟨by rfl, ?_⟩) (by assumption) ?_
       rotate_left
       · (intro ww hSw; (try dsimp only at hSw); go_simp; (try with_reducible rfl))
       try simp only [Act.put, List.setIfInBounds_toArray, List.set_cons_zero, List.set_cons_succ])
    | (refine wpAnyH_ready (rs := [14]) (by kernel_rfl) (by simp) (AllReadyH.cons (by simp only [List.getElem?_toArray, List.getElem?_cons_succ, List.getElem?_cons_zero]; rfl) (fun K hK => ?_) AllReadyH.nil)
       go_simp
       first
         | (fail)
       try go_wp2_with fail
       refine hK.out _ _ (by (first | (with_reducible exact KS.out _ (bdrew1 (Below.refl _ _))) | (with_reducible exact KS.out _ (below_call hHeld.1 hHeld.1.size hb9)) | (with_reducible exact hHeld))) (fun hHeld => ?_)
       clear hK K
       try simp only [Act.put, List.setIfInBounds_toArray, List.set_cons_zero, List.set_cons_succ])
  first
    | (refine wpAnyH_take (i := 15) (v := undef) (by simp only [List.getElem?_toArray, List.getElem?_cons_succ, List.getElem?_cons_zero]; rfl) (by kernel_rfl) (by kernel_rfl) (by kernel_rfl) (fun _ _ _ h => h) (Or.inr ⟨by rfl, rfl⟩) (by assumption) ?_; try simp only [Act.put, List.setIfInBounds_toArray, List.set_cons_zero, List.set_cons_succ])
    | (refine wpAnyH_take (i := 15) (v := ?_) (by simp only [List.getElem?_toArray, List.getElem?_cons_succ, List.getElem?_cons_zero]; rfl) (by kernel_rfl) (by kernel_rfl) (by kernel_rfl) (fun _ _ _ h => h) (Or.inl ⟨by rfl, ?_⟩) (by assumption) ?_
       rotate_left
       · (intro ww hSw; (try dsimp only at hSw); go_simp; (try with_reducible rfl))
       try simp only [Act.put, List.setIfInBounds_toArray, List.set_cons_zero, List.set_cons_succ])
    | (refine wpAnyH_ready (rs := [15]) (by kernel_rfl) (by simp) (AllReadyH.cons (by simp only [List.getElem?_toArray, List.getElem?_cons_succ, List.getElem?_cons_zero]; rfl) (fun K hK => ?_) AllReadyH.nil)
       go_simp
       first
         | (fail)
       try go_wp2_with fail
       refine hK.out _ _ (by (first | (with_reducible exact KS.out _ (bdrew1 (Below.refl _ _))) | (with_reducible exact KS.out _ (below_call hHeld.1 hHeld.1.size hb9)) | (with_reducible exact hHeld))) (fun hHeld => ?_)
       clear hK K
       try simp only [Act.put, List.setIfInBounds_toArray, List.set_cons_zero, List.set_cons_succ])
  first
    | (refine wpAnyH_take (i := 16) (v := undef) (by simp only [List.getElem?_toArray, List.getElem?_cons_succ, List.getElem?_cons_zero]; rfl) (by kernel_rfl) (by kernel_rfl) (by kernel_rfl) (fun _ _ _ h => h) (Or.inr ⟨by rfl, rfl⟩) (by assumption) ?_; try simp only [Act.put, List.setIfInBounds_toArray, List.set_cons_zero, List.set_cons_succ])
    | (refine wpAnyH_take (i := 16) (v := ?_) (by simp only [List.getElem?_toArray, List.getElem?_cons_succ, List.getElem?_cons_zero]; rfl) (by kernel_rfl) (by kernel_rfl) (by kernel_rfl) (fun _ _ _ h => h) (Or.inl ⟨by rfl, ?_⟩) (by assumption) ?_
       rotate_left
       · (intro ww hSw; (try dsimp only at hSw); go_simp; (try with_reducible rfl))
       try simp only [Act.put, List.setIfInBounds_toArray, List.set_cons_zero, List.set_cons_succ])
    | (refine wpAnyH_ready (rs := [16]) (by kernel_rfl) (by simp) (AllReadyH.cons (by simp only [List.getElem?_toArray, List.getElem?_cons_succ, List.getElem?_cons_zero]; rfl) (fun K hK => ?_) AllReadyH.nil)
       go_simp
       first
         | (fail)
       try go_wp2_with fail
       refine hK.out _ _ (by (first | (with_reducible exact KS.out _ (bdrew1 (Below.refl _ _))) | (with_reducible exact KS.out _ (below_call hHeld.1 hHeld.1.size hb9)) | (with_reducible exact hHeld))) (fun hHeld => ?_)
       clear hK K
       try simp only [Act.put, List.setIfInBounds_toArray, List.set_cons_zero, List.set_cons_succ])
  refine wpAnyH_done (by kernel_rfl) ?_ _
  refine NoPanic.normal ?_
  have hB9 := Lib.hid hHeld.1
  clear hHeld
  have BE := Lib.hid (below_call B_8.out B_8.out.size hB9.out)
  go_wp2_with fail
  go_ret
  exact ⟨rfl, BE.out⟩
set_option maxRecDepth 100000 in
set_option maxHeartbeats 2000000 in
theorem boxesNear_l1 (x : Wd) (pd : Dp) (b o pac : Nat) (pk : Option Addr) (pkc wb wo pwc : Nat) (a c d i k bx : Nat)  (haa : a ≤ 255) (hcc : c ≤ 255) (hdd : d ≤ 255) (hlw : 0 < x.wher.length) (hi : a % x.at_.length = i) (hk : c % x.wher.length = k) (hb : d % x.wher.length = bx) (e : Int) (f : Int) (y z : Wd) (hR : boxW x i k bx = (y, e)) (hP : outW x i k bx = (z, f)) (hv : nearB x i k = true) (he0 : (e == 0) = false) (hf0 : (f == 0) = false)  (w : World) (h : WorldAt w ⟨pd, some ⟨b, o, none⟩, pac, pk, pkc, some ⟨wb, wo, none⟩, pwc⟩ x) (hf : fitsB x = true) (c0 : w.cell? ⟨wb, wo + k * 2, none⟩ = some (.int .i64 1)) (c1 : w.cell? ⟨wb, wo + k * 2 + 1, none⟩ = some (.int .i64 (i : Int))) (c2 : w.cell? ⟨b, o + i, none⟩ = some (.int .i64 (roomOf x i : Int))) (hwb : wb < w.heap.size) : Calls Try.prog 6 #[.agg #[.slice pd.ex x.d.exits.length pd.exc, .slice pd.pl x.d.players.length pd.plc, .slice pd.co x.d.coins.length pd.coc, .slice pd.it x.d.items.length pd.itc, .slice pd.bo x.d.boxes.length pd.boc, .int .i64 x.d.room, .int .i64 x.d.player, .int .i64 x.d.box, .slice (some ⟨b, o, none⟩) x.at_.length pac, .slice pk x.coins.length pkc, .slice (some ⟨wb, wo, none⟩) x.wher.length pwc], .int .u8 (a : Int), .int .u8 (c : Int), .int .u8 (d : Int)] w fun e w' => e = .returned (.bool true) ∧ Below w.heap.size w w' := by
  have r1 := run_tmod7 a x.at_.length
  have m1 := run_mod7 a x.at_.length
  rw [hi] at r1 m1
  have FT := Lib.hid (fits_fit hf)
  have hlp : 0 < x.at_.length := (right_lens FT.out.right).1
  have hne : ¬ x.at_ = [] := List.length_pos_iff.1 hlp
  have hil : i < x.at_.length := by rw [← hi]; exact Nat.mod_lt _ hlp
  have hlen6 := (right_lens FT.out.right).2.1
  have r2 := run_tmod7 c x.wher.length
  have m2 := run_mod7 c x.wher.length
  rw [hk] at r2 m2
  have r3 := run_tmod7 d x.wher.length
  have m3 := run_mod7 d x.wher.length
  rw [hb] at r3 m3
  have hnw : ¬ x.wher = [] := List.length_pos_iff.1 hlw
  have h0 : ((x.wher.length : Int) == 0) = false := by simp; omega
  have hkl : k < x.wher.length := by rw [← hk]; exact Nat.mod_lt _ hlw
  have hbl : bx < x.wher.length := by rw [← hb]; exact Nat.mod_lt _ hlw
  have hlen16 := (right_lens FT.out.right).2.2.2.1
  have HR := Lib.hid hR
  have HP := Lib.hid hP
  have HV := Lib.hid hv
  have C0 := Lib.hid c0
  have C1 := Lib.hid c1
  have C2 := Lib.hid c2
  have HWB := Lib.hid hwb
  have hlen := h.wh.len
  have hlenA := h.at_.len
  have g1 := run_pleq 1 i 0 (roomOf x i)
  have g2 := run_pleq 1 i 1 i
  simp only [decide_true] at g2
  rw [show decide ((⟨1, (i : Int)⟩ : Pl) = ⟨0, (roomOf x i : Int)⟩) = false by simp] at g1
  clear hi hk hb hlp hlw hR hP hv  c0 c1 c2 hwb
  have H_0 := Lib.hid (Holds.new w #[.slice pd.ex x.d.exits.length pd.exc, .slice pd.pl x.d.players.length pd.plc, .slice pd.co x.d.coins.length pd.coc, .slice pd.it x.d.items.length pd.itc, .slice pd.bo x.d.boxes.length pd.boc, .int .i64 x.d.room, .int .i64 x.d.player, .int .i64 x.d.box, .slice (some ⟨b, o, none⟩) x.at_.length pac, .slice pk x.coins.length pkc, .slice (some ⟨wb, wo, none⟩) x.wher.length pwc] 29)
  have HF := Lib.hid hf
  have HWA := Lib.hid h
  clear hf h
  go_enter Try.func6, Try.ntmps6
  go_wp2_with fail
  generalize w.alloc (.cells #[.slice pd.ex x.d.exits.length pd.exc, .slice pd.pl x.d.players.length pd.plc, .slice pd.co x.d.coins.length pd.coc, .slice pd.it x.d.items.length pd.itc, .slice pd.bo x.d.boxes.length pd.boc, .int .i64 x.d.room, .int .i64 x.d.player, .int .i64 x.d.box, .slice (some ⟨b, o, none⟩) x.at_.length pac, .slice pk x.coins.length pkc, .slice (some ⟨wb, wo, none⟩) x.wher.length pwc] 29) = V0 at *
  have B_0 := Lib.hid H_0.out.1
  refine (awake10_any _).mono ?_
  rintro e u1 ⟨rfl, b1⟩
  have B_1 := Lib.hid (bl B_0.out b1)
  have H_1 := Lib.hid (H_0.out.call b1)
  clear b1 B_0 H_0
  have hcH := H_1.out.2.2
  have hlH := H_1.out.2.1
  go_wp2_with fail
  refine (fits10_any x ⟨pd, some ⟨b, o, none⟩, pac, pk, pkc, some ⟨wb, wo, none⟩, pwc⟩ _ (HWA.out.below H_1.out.1 (Nat.le_refl _))).mono ?_
  rintro e u2 ⟨rfl, b2⟩
  rw [HF.out]
  clear hcH hlH
  have B_2 := Lib.hid (bl B_1.out b2)
  have H_2 := Lib.hid (H_1.out.call b2)
  clear b2 B_1 H_1
  have hcH := H_2.out.2.2
  have hlH := H_2.out.2.1
  go_wp2_with fail
  refine (bput_as (Shape.refl x) ⟨pd, some ⟨b, o, none⟩, pac, pk, pkc, some ⟨wb, wo, none⟩, pwc⟩ i k bx _ FT.out.right (HWA.out.below B_2.out (Nat.le_refl _)) hil HR.out).mono ?_
  rintro e u3 ⟨q3, rfl, g3, b3⟩
  clear hcH hlH
  have B_3 := Lib.hid (bl B_2.out b3)
  have H_3 := Lib.hid (H_2.out.call b3)
  clear b3 B_2 H_2 g3
  have hcH := H_3.out.2.2
  have hlH := H_3.out.2.1
  go_wp2_with fail
  clear hcH hlH
  have s4 : (u3.alloc (.cells #[.slice q3.d.ex x.d.exits.length q3.d.exc, .slice q3.d.pl x.d.players.length q3.d.plc, .slice q3.d.co x.d.coins.length q3.d.coc, .slice q3.d.it x.d.items.length q3.d.itc, .slice q3.d.bo x.d.boxes.length q3.d.boc, .int .i64 x.d.room, .int .i64 x.d.player, .int .i64 x.d.box, .slice q3.at_ x.at_.length q3.atc, .slice q3.co x.coins.length q3.coc, .slice q3.wh x.wher.length q3.whc] 29)).heap.size = u3.heap.size + 1 := by simp
  have B_4 := Lib.hid (B_3.out.alloc B_3.out.size (.cells #[.slice q3.d.ex x.d.exits.length q3.d.exc, .slice q3.d.pl x.d.players.length q3.d.plc, .slice q3.d.co x.d.coins.length q3.d.coc, .slice q3.d.it x.d.items.length q3.d.itc, .slice q3.d.bo x.d.boxes.length q3.d.boc, .int .i64 x.d.room, .int .i64 x.d.player, .int .i64 x.d.box, .slice q3.at_ x.at_.length q3.atc, .slice q3.co x.coins.length q3.coc, .slice q3.wh x.wher.length q3.whc] 29))
  have H_4 := Lib.hid (H_3.out.alloc (.cells #[.slice q3.d.ex x.d.exits.length q3.d.exc, .slice q3.d.pl x.d.players.length q3.d.plc, .slice q3.d.co x.d.coins.length q3.d.coc, .slice q3.d.it x.d.items.length q3.d.itc, .slice q3.d.bo x.d.boxes.length q3.d.boc, .int .i64 x.d.room, .int .i64 x.d.player, .int .i64 x.d.box, .slice q3.at_ x.at_.length q3.atc, .slice q3.co x.coins.length q3.coc, .slice q3.wh x.wher.length q3.whc] 29))
  have A_4 := Lib.hid (Holds.newb (w := w) (A := #[.slice q3.d.ex x.d.exits.length q3.d.exc, .slice q3.d.pl x.d.players.length q3.d.plc, .slice q3.d.co x.d.coins.length q3.d.coc, .slice q3.d.it x.d.items.length q3.d.itc, .slice q3.d.bo x.d.boxes.length q3.d.boc, .int .i64 x.d.room, .int .i64 x.d.player, .int .i64 x.d.box, .slice q3.at_ x.at_.length q3.atc, .slice q3.co x.coins.length q3.coc, .slice q3.wh x.wher.length q3.whc]) (t := 29) (n := u3.heap.size) B_3.out rfl)
  clear B_3 H_3
  generalize u3.alloc (.cells #[.slice q3.d.ex x.d.exits.length q3.d.exc, .slice q3.d.pl x.d.players.length q3.d.plc, .slice q3.d.co x.d.coins.length q3.d.coc, .slice q3.d.it x.d.items.length q3.d.itc, .slice q3.d.bo x.d.boxes.length q3.d.boc, .int .i64 x.d.room, .int .i64 x.d.player, .int .i64 x.d.box, .slice q3.at_ x.at_.length q3.atc, .slice q3.co x.coins.length q3.coc, .slice q3.wh x.wher.length q3.whc] 29) = V4 at *
  have hcH := H_4.out.2.2
  have hlH := H_4.out.2.1
  have hcA := A_4.out.2.2
  have hlA := A_4.out.2.1
  refine (btake_as (Shape.refl x) ⟨pd, some ⟨b, o, none⟩, pac, pk, pkc, some ⟨wb, wo, none⟩, pwc⟩ i k bx _ FT.out.right (HWA.out.below B_4.out (Nat.le_refl _)) hil HP.out).mono ?_
  rintro e u5 ⟨q5, rfl, g5, b5⟩
  clear hcH hlH hcA hlA
  have B_5 := Lib.hid (bl B_4.out b5)
  have H_5 := Lib.hid (H_4.out.call b5)
  have A_5 := Lib.hid (A_4.out.call b5)
  clear b5 B_4 H_4 A_4 g5
  have hcH := H_5.out.2.2
  have hlH := H_5.out.2.1
  have hcA := A_5.out.2.2
  have hlA := A_5.out.2.1
  go_wp2_with fail
  clear hcH hlH hcA hlA
  have s6 : (u5.alloc (.cells #[.slice q5.d.ex x.d.exits.length q5.d.exc, .slice q5.d.pl x.d.players.length q5.d.plc, .slice q5.d.co x.d.coins.length q5.d.coc, .slice q5.d.it x.d.items.length q5.d.itc, .slice q5.d.bo x.d.boxes.length q5.d.boc, .int .i64 x.d.room, .int .i64 x.d.player, .int .i64 x.d.box, .slice q5.at_ x.at_.length q5.atc, .slice q5.co x.coins.length q5.coc, .slice q5.wh x.wher.length q5.whc] 29)).heap.size = u5.heap.size + 1 := by simp
  have B_6 := Lib.hid (B_5.out.alloc B_5.out.size (.cells #[.slice q5.d.ex x.d.exits.length q5.d.exc, .slice q5.d.pl x.d.players.length q5.d.plc, .slice q5.d.co x.d.coins.length q5.d.coc, .slice q5.d.it x.d.items.length q5.d.itc, .slice q5.d.bo x.d.boxes.length q5.d.boc, .int .i64 x.d.room, .int .i64 x.d.player, .int .i64 x.d.box, .slice q5.at_ x.at_.length q5.atc, .slice q5.co x.coins.length q5.coc, .slice q5.wh x.wher.length q5.whc] 29))
  have H_6 := Lib.hid (H_5.out.alloc (.cells #[.slice q5.d.ex x.d.exits.length q5.d.exc, .slice q5.d.pl x.d.players.length q5.d.plc, .slice q5.d.co x.d.coins.length q5.d.coc, .slice q5.d.it x.d.items.length q5.d.itc, .slice q5.d.bo x.d.boxes.length q5.d.boc, .int .i64 x.d.room, .int .i64 x.d.player, .int .i64 x.d.box, .slice q5.at_ x.at_.length q5.atc, .slice q5.co x.coins.length q5.coc, .slice q5.wh x.wher.length q5.whc] 29))
  have A_6 := Lib.hid (A_5.out.alloc (.cells #[.slice q5.d.ex x.d.exits.length q5.d.exc, .slice q5.d.pl x.d.players.length q5.d.plc, .slice q5.d.co x.d.coins.length q5.d.coc, .slice q5.d.it x.d.items.length q5.d.itc, .slice q5.d.bo x.d.boxes.length q5.d.boc, .int .i64 x.d.room, .int .i64 x.d.player, .int .i64 x.d.box, .slice q5.at_ x.at_.length q5.atc, .slice q5.co x.coins.length q5.coc, .slice q5.wh x.wher.length q5.whc] 29))
  have D_6 := Lib.hid (Holds.newb (w := w) (A := #[.slice q5.d.ex x.d.exits.length q5.d.exc, .slice q5.d.pl x.d.players.length q5.d.plc, .slice q5.d.co x.d.coins.length q5.d.coc, .slice q5.d.it x.d.items.length q5.d.itc, .slice q5.d.bo x.d.boxes.length q5.d.boc, .int .i64 x.d.room, .int .i64 x.d.player, .int .i64 x.d.box, .slice q5.at_ x.at_.length q5.atc, .slice q5.co x.coins.length q5.coc, .slice q5.wh x.wher.length q5.whc]) (t := 29) (n := u5.heap.size) B_5.out rfl)
  clear B_5 H_5 A_5
  generalize u5.alloc (.cells #[.slice q5.d.ex x.d.exits.length q5.d.exc, .slice q5.d.pl x.d.players.length q5.d.plc, .slice q5.d.co x.d.coins.length q5.d.coc, .slice q5.d.it x.d.items.length q5.d.itc, .slice q5.d.bo x.d.boxes.length q5.d.boc, .int .i64 x.d.room, .int .i64 x.d.player, .int .i64 x.d.box, .slice q5.at_ x.at_.length q5.atc, .slice q5.co x.coins.length q5.coc, .slice q5.wh x.wher.length q5.whc] 29) = V6 at *
  have hcH := H_6.out.2.2
  have hlH := H_6.out.2.1
  have hcA := A_6.out.2.2
  have hlA := A_6.out.2.1
  have hcD := D_6.out.2.2
  have hlD := D_6.out.2.1
  refine (near_as (Shape.refl x) ⟨pd, some ⟨b, o, none⟩, pac, pk, pkc, some ⟨wb, wo, none⟩, pwc⟩ i _ FT.out.right (HWA.out.below B_6.out (Nat.le_refl _)) hil k hkl HV.out).mono ?_
  rintro e u7 ⟨rfl, b7⟩
  clear hcH hlH hcA hlA hcD hlD
  have B_7 := Lib.hid (bl B_6.out b7)
  have H_7 := Lib.hid (H_6.out.call b7)
  have A_7 := Lib.hid (A_6.out.call b7)
  have D_7 := Lib.hid (D_6.out.call b7)
  clear b7 B_6 H_6 A_6 D_6
  have hcH := H_7.out.2.2
  have hlH := H_7.out.2.1
  have hcA := A_7.out.2.2
  have hlA := A_7.out.2.1
  have hcD := D_7.out.2.2
  have hlD := D_7.out.2.1
  have cw0 := cell_call C0.out B_7.out
  have cw1 := cell_call C1.out B_7.out
  have lwb : wb < u7.heap.size := Nat.lt_of_lt_of_le HWB.out B_7.out.size
  go_wp2_with fail
  clear hcH hlH hcA hlA hcD hlD cw0 cw1 lwb
  have s8 : (u7.alloc (.cells #[.int .i64 1, .int .i64 (i : Int)] 42)).heap.size = u7.heap.size + 1 := by simp
  have B_8 := Lib.hid (B_7.out.alloc B_7.out.size (.cells #[.int .i64 1, .int .i64 (i : Int)] 42))
  have H_8 := Lib.hid (H_7.out.alloc (.cells #[.int .i64 1, .int .i64 (i : Int)] 42))
  have A_8 := Lib.hid (A_7.out.alloc (.cells #[.int .i64 1, .int .i64 (i : Int)] 42))
  have D_8 := Lib.hid (D_7.out.alloc (.cells #[.int .i64 1, .int .i64 (i : Int)] 42))
  have T_8 := Lib.hid (Holds.newb (w := w) (A := #[.int .i64 1, .int .i64 (i : Int)]) (t := 42) (n := u7.heap.size) B_7.out rfl)
  clear B_7 H_7 A_7 D_7
  generalize u7.alloc (.cells #[.int .i64 1, .int .i64 (i : Int)] 42) = V8 at *
  have hcH := H_8.out.2.2
  have hlH := H_8.out.2.1
  have hcA := A_8.out.2.2
  have hlA := A_8.out.2.1
  have hcD := D_8.out.2.2
  have hlD := D_8.out.2.1
  have hcT := T_8.out.2.2
  have hlT := T_8.out.2.1
  clear hcH hlH hcA hlA hcD hlD hcT hlT
  generalize ((roomOf x i : Nat) : Int) = rm at *
  have KS : Hid (∀ w', Below V8.heap.size V8 w' → Below V8.heap.size V8 w' ∧ (∀ ii, w'.cell? ⟨w.heap.size, ii, none⟩ = (#[.slice pd.ex x.d.exits.length pd.exc, .slice pd.pl x.d.players.length pd.plc, .slice pd.co x.d.coins.length pd.coc, .slice pd.it x.d.items.length pd.itc, .slice pd.bo x.d.boxes.length pd.boc, .int .i64 x.d.room, .int .i64 x.d.player, .int .i64 x.d.box, .slice (some ⟨b, o, none⟩) x.at_.length pac, .slice pk x.coins.length pkc, .slice (some ⟨wb, wo, none⟩) x.wher.length pwc][ii]? : Option Value)) ∧ (∀ ii, w'.cell? ⟨u7.heap.size, ii, none⟩ = (#[.int .i64 1, .int .i64 (i : Int)][ii]? : Option Value)) ∧ w'.cell? ⟨b, o + i, none⟩ = some (.int .i64 rm)) := Lib.hid (fun w' hb => ⟨hb, fun ii => (hb.cell (p := ⟨w.heap.size, ii, none⟩) H_8.out.2.1).trans (H_8.out.2.2 ii), fun ii => (hb.cell (p := ⟨u7.heap.size, ii, none⟩) T_8.out.2.1).trans (T_8.out.2.2 ii), cell_call (cell_call C2.out B_8.out) hb⟩)
  refine wp_region_noPanic ?_
  refine wp_region_held_drew (S := (fun w' => Below V8.heap.size V8 w' ∧ (∀ ii, w'.cell? ⟨w.heap.size, ii, none⟩ = (#[.slice pd.ex x.d.exits.length pd.exc, .slice pd.pl x.d.players.length pd.plc, .slice pd.co x.d.coins.length pd.coc, .slice pd.it x.d.items.length pd.itc, .slice pd.bo x.d.boxes.length pd.boc, .int .i64 x.d.room, .int .i64 x.d.player, .int .i64 x.d.box, .slice (some ⟨b, o, none⟩) x.at_.length pac, .slice pk x.coins.length pkc, .slice (some ⟨wb, wo, none⟩) x.wher.length pwc][ii]? : Option Value)) ∧ (∀ ii, w'.cell? ⟨u7.heap.size, ii, none⟩ = (#[.int .i64 1, .int .i64 (i : Int)][ii]? : Option Value)) ∧ w'.cell? ⟨b, o + i, none⟩ = some (.int .i64 rm))) (by kernel_rfl) (by (first | (with_reducible exact KS.out _ (bdrew1 (Below.refl _ _))) | (with_reducible exact KS.out _ (below_call hHeld.1 hHeld.1.size hb9)) | (with_reducible exact hHeld))) (fun hHeld => ?_)
  first
    | (refine wpAnyH_take (i := 0) (v := undef) (by simp only [List.getElem?_toArray, List.getElem?_cons_zero]; rfl) (by kernel_rfl) (by kernel_rfl) (by kernel_rfl) (fun _ _ _ h => h) (Or.inr ⟨by rfl, rfl⟩) (by assumption) ?_; try simp only [Act.put, List.setIfInBounds_toArray, List.set_cons_zero, List.set_cons_succ])
    | (refine wpAnyH_take (i := 0) (v := ?_) (by simp only [List.getElem?_toArray, List.getElem?_cons_zero]; rfl) (by kernel_rfl) (by kernel_rfl) (by kernel_rfl) (fun _ _ _ h => h) (Or.inl ⟨by rfl, ?_⟩) (by assumption) ?_
       rotate_left
       · (intro ww hSw; (try dsimp only at hSw); go_simp; (try with_reducible rfl))
       try simp only [Act.put, List.setIfInBounds_toArray, List.set_cons_zero, List.set_cons_succ])
    | (refine wpAnyH_ready (rs := [0]) (by kernel_rfl) (by simp) (AllReadyH.cons (by simp only [List.getElem?_toArray, List.getElem?_cons_succ, List.getElem?_cons_zero]; rfl) (fun K hK => ?_) AllReadyH.nil)
       go_simp
       first
         | (fail)
       try go_wp2_with fail
       refine hK.out _ _ (by (first | (with_reducible exact KS.out _ (bdrew1 (Below.refl _ _))) | (with_reducible exact KS.out _ (below_call hHeld.1 hHeld.1.size hb9)) | (with_reducible exact hHeld))) (fun hHeld => ?_)
       clear hK K
       try simp only [Act.put, List.setIfInBounds_toArray, List.set_cons_zero, List.set_cons_succ])
  first
    | (refine wpAnyH_take (i := 1) (v := undef) (by simp only [List.getElem?_toArray, List.getElem?_cons_succ, List.getElem?_cons_zero]; rfl) (by kernel_rfl) (by kernel_rfl) (by kernel_rfl) (fun _ _ _ h => h) (Or.inr ⟨by rfl, rfl⟩) (by assumption) ?_; try simp only [Act.put, List.setIfInBounds_toArray, List.set_cons_zero, List.set_cons_succ])
    | (refine wpAnyH_take (i := 1) (v := ?_) (by simp only [List.getElem?_toArray, List.getElem?_cons_succ, List.getElem?_cons_zero]; rfl) (by kernel_rfl) (by kernel_rfl) (by kernel_rfl) (fun _ _ _ h => h) (Or.inl ⟨by rfl, ?_⟩) (by assumption) ?_
       rotate_left
       · (intro ww hSw; (try dsimp only at hSw); go_simp; (try with_reducible rfl))
       try simp only [Act.put, List.setIfInBounds_toArray, List.set_cons_zero, List.set_cons_succ])
    | (refine wpAnyH_ready (rs := [1]) (by kernel_rfl) (by simp) (AllReadyH.cons (by simp only [List.getElem?_toArray, List.getElem?_cons_succ, List.getElem?_cons_zero]; rfl) (fun K hK => ?_) AllReadyH.nil)
       go_simp
       first
         | (fail)
       try go_wp2_with fail
       refine hK.out _ _ (by (first | (with_reducible exact KS.out _ (bdrew1 (Below.refl _ _))) | (with_reducible exact KS.out _ (below_call hHeld.1 hHeld.1.size hb9)) | (with_reducible exact hHeld))) (fun hHeld => ?_)
       clear hK K
       try simp only [Act.put, List.setIfInBounds_toArray, List.set_cons_zero, List.set_cons_succ])
  first
    | (refine wpAnyH_take (i := 2) (v := undef) (by simp only [List.getElem?_toArray, List.getElem?_cons_succ, List.getElem?_cons_zero]; rfl) (by kernel_rfl) (by kernel_rfl) (by kernel_rfl) (fun _ _ _ h => h) (Or.inr ⟨by rfl, rfl⟩) (by assumption) ?_; try simp only [Act.put, List.setIfInBounds_toArray, List.set_cons_zero, List.set_cons_succ])
    | (refine wpAnyH_take (i := 2) (v := ?_) (by simp only [List.getElem?_toArray, List.getElem?_cons_succ, List.getElem?_cons_zero]; rfl) (by kernel_rfl) (by kernel_rfl) (by kernel_rfl) (fun _ _ _ h => h) (Or.inl ⟨by rfl, ?_⟩) (by assumption) ?_
       rotate_left
       · (intro ww hSw; (try dsimp only at hSw); go_simp; (try with_reducible rfl))
       try simp only [Act.put, List.setIfInBounds_toArray, List.set_cons_zero, List.set_cons_succ])
    | (refine wpAnyH_ready (rs := [2]) (by kernel_rfl) (by simp) (AllReadyH.cons (by simp only [List.getElem?_toArray, List.getElem?_cons_succ, List.getElem?_cons_zero]; rfl) (fun K hK => ?_) AllReadyH.nil)
       go_simp
       first
         | (fail)
       try go_wp2_with fail
       refine hK.out _ _ (by (first | (with_reducible exact KS.out _ (bdrew1 (Below.refl _ _))) | (with_reducible exact KS.out _ (below_call hHeld.1 hHeld.1.size hb9)) | (with_reducible exact hHeld))) (fun hHeld => ?_)
       clear hK K
       try simp only [Act.put, List.setIfInBounds_toArray, List.set_cons_zero, List.set_cons_succ])
  first
    | (refine wpAnyH_take (i := 3) (v := undef) (by simp only [List.getElem?_toArray, List.getElem?_cons_succ, List.getElem?_cons_zero]; rfl) (by kernel_rfl) (by kernel_rfl) (by kernel_rfl) (fun _ _ _ h => h) (Or.inr ⟨by rfl, rfl⟩) (by assumption) ?_; try simp only [Act.put, List.setIfInBounds_toArray, List.set_cons_zero, List.set_cons_succ])
    | (refine wpAnyH_take (i := 3) (v := ?_) (by simp only [List.getElem?_toArray, List.getElem?_cons_succ, List.getElem?_cons_zero]; rfl) (by kernel_rfl) (by kernel_rfl) (by kernel_rfl) (fun _ _ _ h => h) (Or.inl ⟨by rfl, ?_⟩) (by assumption) ?_
       rotate_left
       · (intro ww hSw; (try dsimp only at hSw); go_simp; (try with_reducible rfl))
       try simp only [Act.put, List.setIfInBounds_toArray, List.set_cons_zero, List.set_cons_succ])
    | (refine wpAnyH_ready (rs := [3]) (by kernel_rfl) (by simp) (AllReadyH.cons (by simp only [List.getElem?_toArray, List.getElem?_cons_succ, List.getElem?_cons_zero]; rfl) (fun K hK => ?_) AllReadyH.nil)
       go_simp
       first
         | (fail)
       try go_wp2_with fail
       refine hK.out _ _ (by (first | (with_reducible exact KS.out _ (bdrew1 (Below.refl _ _))) | (with_reducible exact KS.out _ (below_call hHeld.1 hHeld.1.size hb9)) | (with_reducible exact hHeld))) (fun hHeld => ?_)
       clear hK K
       try simp only [Act.put, List.setIfInBounds_toArray, List.set_cons_zero, List.set_cons_succ])
  first
    | (refine wpAnyH_take (i := 4) (v := undef) (by simp only [List.getElem?_toArray, List.getElem?_cons_succ, List.getElem?_cons_zero]; rfl) (by kernel_rfl) (by kernel_rfl) (by kernel_rfl) (fun _ _ _ h => h) (Or.inr ⟨by rfl, rfl⟩) (by assumption) ?_; try simp only [Act.put, List.setIfInBounds_toArray, List.set_cons_zero, List.set_cons_succ])
    | (refine wpAnyH_take (i := 4) (v := ?_) (by simp only [List.getElem?_toArray, List.getElem?_cons_succ, List.getElem?_cons_zero]; rfl) (by kernel_rfl) (by kernel_rfl) (by kernel_rfl) (fun _ _ _ h => h) (Or.inl ⟨by rfl, ?_⟩) (by assumption) ?_
       rotate_left
       · (intro ww hSw; (try dsimp only at hSw); go_simp; (try with_reducible rfl))
       try simp only [Act.put, List.setIfInBounds_toArray, List.set_cons_zero, List.set_cons_succ])
    | (refine wpAnyH_ready (rs := [4]) (by kernel_rfl) (by simp) (AllReadyH.cons (by simp only [List.getElem?_toArray, List.getElem?_cons_succ, List.getElem?_cons_zero]; rfl) (fun K hK => ?_) AllReadyH.nil)
       go_simp
       first
         | (fail)
       try go_wp2_with fail
       refine hK.out _ _ (by (first | (with_reducible exact KS.out _ (bdrew1 (Below.refl _ _))) | (with_reducible exact KS.out _ (below_call hHeld.1 hHeld.1.size hb9)) | (with_reducible exact hHeld))) (fun hHeld => ?_)
       clear hK K
       try simp only [Act.put, List.setIfInBounds_toArray, List.set_cons_zero, List.set_cons_succ])
  first
    | (refine wpAnyH_take (i := 5) (v := undef) (by simp only [List.getElem?_toArray, List.getElem?_cons_succ, List.getElem?_cons_zero]; rfl) (by kernel_rfl) (by kernel_rfl) (by kernel_rfl) (fun _ _ _ h => h) (Or.inr ⟨by rfl, rfl⟩) (by assumption) ?_; try simp only [Act.put, List.setIfInBounds_toArray, List.set_cons_zero, List.set_cons_succ])
    | (refine wpAnyH_take (i := 5) (v := ?_) (by simp only [List.getElem?_toArray, List.getElem?_cons_succ, List.getElem?_cons_zero]; rfl) (by kernel_rfl) (by kernel_rfl) (by kernel_rfl) (fun _ _ _ h => h) (Or.inl ⟨by rfl, ?_⟩) (by assumption) ?_
       rotate_left
       · (intro ww hSw; (try dsimp only at hSw); go_simp; (try with_reducible rfl))
       try simp only [Act.put, List.setIfInBounds_toArray, List.set_cons_zero, List.set_cons_succ])
    | (refine wpAnyH_ready (rs := [5]) (by kernel_rfl) (by simp) (AllReadyH.cons (by simp only [List.getElem?_toArray, List.getElem?_cons_succ, List.getElem?_cons_zero]; rfl) (fun K hK => ?_) AllReadyH.nil)
       go_simp
       first
         | (fail)
       try go_wp2_with fail
       refine hK.out _ _ (by (first | (with_reducible exact KS.out _ (bdrew1 (Below.refl _ _))) | (with_reducible exact KS.out _ (below_call hHeld.1 hHeld.1.size hb9)) | (with_reducible exact hHeld))) (fun hHeld => ?_)
       clear hK K
       try simp only [Act.put, List.setIfInBounds_toArray, List.set_cons_zero, List.set_cons_succ])
  first
    | (refine wpAnyH_take (i := 6) (v := undef) (by simp only [List.getElem?_toArray, List.getElem?_cons_succ, List.getElem?_cons_zero]; rfl) (by kernel_rfl) (by kernel_rfl) (by kernel_rfl) (fun _ _ _ h => h) (Or.inr ⟨by rfl, rfl⟩) (by assumption) ?_; try simp only [Act.put, List.setIfInBounds_toArray, List.set_cons_zero, List.set_cons_succ])
    | (refine wpAnyH_take (i := 6) (v := ?_) (by simp only [List.getElem?_toArray, List.getElem?_cons_succ, List.getElem?_cons_zero]; rfl) (by kernel_rfl) (by kernel_rfl) (by kernel_rfl) (fun _ _ _ h => h) (Or.inl ⟨by rfl, ?_⟩) (by assumption) ?_
       rotate_left
       · (intro ww hSw; (try dsimp only at hSw); go_simp; (try with_reducible rfl))
       try simp only [Act.put, List.setIfInBounds_toArray, List.set_cons_zero, List.set_cons_succ])
    | (refine wpAnyH_ready (rs := [6]) (by kernel_rfl) (by simp) (AllReadyH.cons (by simp only [List.getElem?_toArray, List.getElem?_cons_succ, List.getElem?_cons_zero]; rfl) (fun K hK => ?_) AllReadyH.nil)
       go_simp
       first
         | (fail)
       try go_wp2_with fail
       refine hK.out _ _ (by (first | (with_reducible exact KS.out _ (bdrew1 (Below.refl _ _))) | (with_reducible exact KS.out _ (below_call hHeld.1 hHeld.1.size hb9)) | (with_reducible exact hHeld))) (fun hHeld => ?_)
       clear hK K
       try simp only [Act.put, List.setIfInBounds_toArray, List.set_cons_zero, List.set_cons_succ])
  first
    | (refine wpAnyH_take (i := 7) (v := undef) (by simp only [List.getElem?_toArray, List.getElem?_cons_succ, List.getElem?_cons_zero]; rfl) (by kernel_rfl) (by kernel_rfl) (by kernel_rfl) (fun _ _ _ h => h) (Or.inr ⟨by rfl, rfl⟩) (by assumption) ?_; try simp only [Act.put, List.setIfInBounds_toArray, List.set_cons_zero, List.set_cons_succ])
    | (refine wpAnyH_take (i := 7) (v := ?_) (by simp only [List.getElem?_toArray, List.getElem?_cons_succ, List.getElem?_cons_zero]; rfl) (by kernel_rfl) (by kernel_rfl) (by kernel_rfl) (fun _ _ _ h => h) (Or.inl ⟨by rfl, ?_⟩) (by assumption) ?_
       rotate_left
       · (intro ww hSw; (try dsimp only at hSw); go_simp; (try with_reducible rfl))
       try simp only [Act.put, List.setIfInBounds_toArray, List.set_cons_zero, List.set_cons_succ])
    | (refine wpAnyH_ready (rs := [7]) (by kernel_rfl) (by simp) (AllReadyH.cons (by simp only [List.getElem?_toArray, List.getElem?_cons_succ, List.getElem?_cons_zero]; rfl) (fun K hK => ?_) AllReadyH.nil)
       go_simp
       first
         | (fail)
       try go_wp2_with fail
       refine hK.out _ _ (by (first | (with_reducible exact KS.out _ (bdrew1 (Below.refl _ _))) | (with_reducible exact KS.out _ (below_call hHeld.1 hHeld.1.size hb9)) | (with_reducible exact hHeld))) (fun hHeld => ?_)
       clear hK K
       try simp only [Act.put, List.setIfInBounds_toArray, List.set_cons_zero, List.set_cons_succ])
  first
    | (refine wpAnyH_take (i := 8) (v := undef) (by simp only [List.getElem?_toArray, List.getElem?_cons_succ, List.getElem?_cons_zero]; rfl) (by kernel_rfl) (by kernel_rfl) (by kernel_rfl) (fun _ _ _ h => h) (Or.inr ⟨by rfl, rfl⟩) (by assumption) ?_; try simp only [Act.put, List.setIfInBounds_toArray, List.set_cons_zero, List.set_cons_succ])
    | (refine wpAnyH_take (i := 8) (v := ?_) (by simp only [List.getElem?_toArray, List.getElem?_cons_succ, List.getElem?_cons_zero]; rfl) (by kernel_rfl) (by kernel_rfl) (by kernel_rfl) (fun _ _ _ h => h) (Or.inl ⟨by rfl, ?_⟩) (by assumption) ?_
       rotate_left
       · (intro ww hSw; (try dsimp only at hSw); go_simp; (try with_reducible rfl))
       try simp only [Act.put, List.setIfInBounds_toArray, List.set_cons_zero, List.set_cons_succ])
    | (refine wpAnyH_ready (rs := [8]) (by kernel_rfl) (by simp) (AllReadyH.cons (by simp only [List.getElem?_toArray, List.getElem?_cons_succ, List.getElem?_cons_zero]; rfl) (fun K hK => ?_) AllReadyH.nil)
       go_simp
       first
         | (fail)
       try go_wp2_with fail
       refine hK.out _ _ (by (first | (with_reducible exact KS.out _ (bdrew1 (Below.refl _ _))) | (with_reducible exact KS.out _ (below_call hHeld.1 hHeld.1.size hb9)) | (with_reducible exact hHeld))) (fun hHeld => ?_)
       clear hK K
       try simp only [Act.put, List.setIfInBounds_toArray, List.set_cons_zero, List.set_cons_succ])
  first
    | (refine wpAnyH_take (i := 9) (v := undef) (by simp only [List.getElem?_toArray, List.getElem?_cons_succ, List.getElem?_cons_zero]; rfl) (by kernel_rfl) (by kernel_rfl) (by kernel_rfl) (fun _ _ _ h => h) (Or.inr ⟨by rfl, rfl⟩) (by assumption) ?_; try simp only [Act.put, List.setIfInBounds_toArray, List.set_cons_zero, List.set_cons_succ])
    | (refine wpAnyH_take (i := 9) (v := ?_) (by simp only [List.getElem?_toArray, List.getElem?_cons_succ, List.getElem?_cons_zero]; rfl) (by kernel_rfl) (by kernel_rfl) (by kernel_rfl) (fun _ _ _ h => h) (Or.inl ⟨by rfl, ?_⟩) (by assumption) ?_
       rotate_left
       · (intro ww hSw; (try dsimp only at hSw); go_simp; (try with_reducible rfl))
       try simp only [Act.put, List.setIfInBounds_toArray, List.set_cons_zero, List.set_cons_succ])
    | (refine wpAnyH_ready (rs := [9]) (by kernel_rfl) (by simp) (AllReadyH.cons (by simp only [List.getElem?_toArray, List.getElem?_cons_succ, List.getElem?_cons_zero]; rfl) (fun K hK => ?_) AllReadyH.nil)
       go_simp
       first
         | (fail)
       try go_wp2_with fail
       refine hK.out _ _ (by (first | (with_reducible exact KS.out _ (bdrew1 (Below.refl _ _))) | (with_reducible exact KS.out _ (below_call hHeld.1 hHeld.1.size hb9)) | (with_reducible exact hHeld))) (fun hHeld => ?_)
       clear hK K
       try simp only [Act.put, List.setIfInBounds_toArray, List.set_cons_zero, List.set_cons_succ])
  first
    | (refine wpAnyH_take (i := 10) (v := undef) (by simp only [List.getElem?_toArray, List.getElem?_cons_succ, List.getElem?_cons_zero]; rfl) (by kernel_rfl) (by kernel_rfl) (by kernel_rfl) (fun _ _ _ h => h) (Or.inr ⟨by rfl, rfl⟩) (by assumption) ?_; try simp only [Act.put, List.setIfInBounds_toArray, List.set_cons_zero, List.set_cons_succ])
    | (refine wpAnyH_take (i := 10) (v := ?_) (by simp only [List.getElem?_toArray, List.getElem?_cons_succ, List.getElem?_cons_zero]; rfl) (by kernel_rfl) (by kernel_rfl) (by kernel_rfl) (fun _ _ _ h => h) (Or.inl ⟨by rfl, ?_⟩) (by assumption) ?_
       rotate_left
       · (intro ww hSw; (try dsimp only at hSw); go_simp; (try with_reducible rfl))
       try simp only [Act.put, List.setIfInBounds_toArray, List.set_cons_zero, List.set_cons_succ])
    | (refine wpAnyH_ready (rs := [10]) (by kernel_rfl) (by simp) (AllReadyH.cons (by simp only [List.getElem?_toArray, List.getElem?_cons_succ, List.getElem?_cons_zero]; rfl) (fun K hK => ?_) AllReadyH.nil)
       go_simp
       first
         | (fail)
       try go_wp2_with fail
       refine hK.out _ _ (by (first | (with_reducible exact KS.out _ (bdrew1 (Below.refl _ _))) | (with_reducible exact KS.out _ (below_call hHeld.1 hHeld.1.size hb9)) | (with_reducible exact hHeld))) (fun hHeld => ?_)
       clear hK K
       try simp only [Act.put, List.setIfInBounds_toArray, List.set_cons_zero, List.set_cons_succ])
  first
    | (refine wpAnyH_take (i := 11) (v := undef) (by simp only [List.getElem?_toArray, List.getElem?_cons_succ, List.getElem?_cons_zero]; rfl) (by kernel_rfl) (by kernel_rfl) (by kernel_rfl) (fun _ _ _ h => h) (Or.inr ⟨by rfl, rfl⟩) (by assumption) ?_; try simp only [Act.put, List.setIfInBounds_toArray, List.set_cons_zero, List.set_cons_succ])
    | (refine wpAnyH_take (i := 11) (v := ?_) (by simp only [List.getElem?_toArray, List.getElem?_cons_succ, List.getElem?_cons_zero]; rfl) (by kernel_rfl) (by kernel_rfl) (by kernel_rfl) (fun _ _ _ h => h) (Or.inl ⟨by rfl, ?_⟩) (by assumption) ?_
       rotate_left
       · (intro ww hSw; (try dsimp only at hSw); go_simp; (try with_reducible rfl))
       try simp only [Act.put, List.setIfInBounds_toArray, List.set_cons_zero, List.set_cons_succ])
    | (refine wpAnyH_ready (rs := [11]) (by kernel_rfl) (by simp) (AllReadyH.cons (by simp only [List.getElem?_toArray, List.getElem?_cons_succ, List.getElem?_cons_zero]; rfl) (fun K hK => ?_) AllReadyH.nil)
       go_simp
       first
         | (fail)
       try go_wp2_with fail
       refine hK.out _ _ (by (first | (with_reducible exact KS.out _ (bdrew1 (Below.refl _ _))) | (with_reducible exact KS.out _ (below_call hHeld.1 hHeld.1.size hb9)) | (with_reducible exact hHeld))) (fun hHeld => ?_)
       clear hK K
       try simp only [Act.put, List.setIfInBounds_toArray, List.set_cons_zero, List.set_cons_succ])
  first
    | (refine wpAnyH_take (i := 12) (v := undef) (by simp only [List.getElem?_toArray, List.getElem?_cons_succ, List.getElem?_cons_zero]; rfl) (by kernel_rfl) (by kernel_rfl) (by kernel_rfl) (fun _ _ _ h => h) (Or.inr ⟨by rfl, rfl⟩) (by assumption) ?_; try simp only [Act.put, List.setIfInBounds_toArray, List.set_cons_zero, List.set_cons_succ])
    | (refine wpAnyH_take (i := 12) (v := ?_) (by simp only [List.getElem?_toArray, List.getElem?_cons_succ, List.getElem?_cons_zero]; rfl) (by kernel_rfl) (by kernel_rfl) (by kernel_rfl) (fun _ _ _ h => h) (Or.inl ⟨by rfl, ?_⟩) (by assumption) ?_
       rotate_left
       · (intro ww hSw; (try dsimp only at hSw); go_simp; (try with_reducible rfl))
       try simp only [Act.put, List.setIfInBounds_toArray, List.set_cons_zero, List.set_cons_succ])
    | (refine wpAnyH_ready (rs := [12]) (by kernel_rfl) (by simp) (AllReadyH.cons (by simp only [List.getElem?_toArray, List.getElem?_cons_succ, List.getElem?_cons_zero]; rfl) (fun K hK => ?_) AllReadyH.nil)
       go_simp
       first
         | (fail)
       try go_wp2_with fail
       refine hK.out _ _ (by (first | (with_reducible exact KS.out _ (bdrew1 (Below.refl _ _))) | (with_reducible exact KS.out _ (below_call hHeld.1 hHeld.1.size hb9)) | (with_reducible exact hHeld))) (fun hHeld => ?_)
       clear hK K
       try simp only [Act.put, List.setIfInBounds_toArray, List.set_cons_zero, List.set_cons_succ])
  first
    | (refine wpAnyH_take (i := 13) (v := undef) (by simp only [List.getElem?_toArray, List.getElem?_cons_succ, List.getElem?_cons_zero]; rfl) (by kernel_rfl) (by kernel_rfl) (by kernel_rfl) (fun _ _ _ h => h) (Or.inr ⟨by rfl, rfl⟩) (by assumption) ?_; try simp only [Act.put, List.setIfInBounds_toArray, List.set_cons_zero, List.set_cons_succ])
    | (refine wpAnyH_take (i := 13) (v := ?_) (by simp only [List.getElem?_toArray, List.getElem?_cons_succ, List.getElem?_cons_zero]; rfl) (by kernel_rfl) (by kernel_rfl) (by kernel_rfl) (fun _ _ _ h => h) (Or.inl ⟨by rfl, ?_⟩) (by assumption) ?_
       rotate_left
       · (intro ww hSw; (try dsimp only at hSw); go_simp; (try with_reducible rfl))
       try simp only [Act.put, List.setIfInBounds_toArray, List.set_cons_zero, List.set_cons_succ])
    | (refine wpAnyH_ready (rs := [13]) (by kernel_rfl) (by simp) (AllReadyH.cons (by simp only [List.getElem?_toArray, List.getElem?_cons_succ, List.getElem?_cons_zero]; rfl) (fun K hK => ?_) AllReadyH.nil)
       go_simp
       first
         | (fail)
       try go_wp2_with fail
       refine hK.out _ _ (by (first | (with_reducible exact KS.out _ (bdrew1 (Below.refl _ _))) | (with_reducible exact KS.out _ (below_call hHeld.1 hHeld.1.size hb9)) | (with_reducible exact hHeld))) (fun hHeld => ?_)
       clear hK K
       try simp only [Act.put, List.setIfInBounds_toArray, List.set_cons_zero, List.set_cons_succ])
  first
    | (refine wpAnyH_take (i := 14) (v := undef) (by simp only [List.getElem?_toArray, List.getElem?_cons_succ, List.getElem?_cons_zero]; rfl) (by kernel_rfl) (by kernel_rfl) (by kernel_rfl) (fun _ _ _ h => h) (Or.inr ⟨by rfl, rfl⟩) (by assumption) ?_; try simp only [Act.put, List.setIfInBounds_toArray, List.set_cons_zero, List.set_cons_succ])
    | (refine wpAnyH_take (i := 14) (v := ?_) (by simp only [List.getElem?_toArray, List.getElem?_cons_succ, List.getElem?_cons_zero]; rfl) (by kernel_rfl) (by kernel_rfl) (by kernel_rfl) (fun _ _ _ h => h) (Or.inl ⟨by rfl, ?_⟩) (by assumption) ?_
       rotate_left
       · (intro ww hSw; (try dsimp only at hSw); go_simp; (try with_reducible rfl))
       try simp only [Act.put, List.setIfInBounds_toArray, List.set_cons_zero, List.set_cons_succ])
    | (refine wpAnyH_ready (rs := [14]) (by kernel_rfl) (by simp) (AllReadyH.cons (by simp only [List.getElem?_toArray, List.getElem?_cons_succ, List.getElem?_cons_zero]; rfl) (fun K hK => ?_) AllReadyH.nil)
       go_simp
       first
         | (fail)
       try go_wp2_with fail
       refine hK.out _ _ (by (first | (with_reducible exact KS.out _ (bdrew1 (Below.refl _ _))) | (with_reducible exact KS.out _ (below_call hHeld.1 hHeld.1.size hb9)) | (with_reducible exact hHeld))) (fun hHeld => ?_)
       clear hK K
       try simp only [Act.put, List.setIfInBounds_toArray, List.set_cons_zero, List.set_cons_succ])
  first
    | (refine wpAnyH_take (i := 15) (v := undef) (by simp only [List.getElem?_toArray, List.getElem?_cons_succ, List.getElem?_cons_zero]; rfl) (by kernel_rfl) (by kernel_rfl) (by kernel_rfl) (fun _ _ _ h => h) (Or.inr ⟨by rfl, rfl⟩) (by assumption) ?_; try simp only [Act.put, List.setIfInBounds_toArray, List.set_cons_zero, List.set_cons_succ])
    | (refine wpAnyH_take (i := 15) (v := ?_) (by simp only [List.getElem?_toArray, List.getElem?_cons_succ, List.getElem?_cons_zero]; rfl) (by kernel_rfl) (by kernel_rfl) (by kernel_rfl) (fun _ _ _ h => h) (Or.inl ⟨by rfl, ?_⟩) (by assumption) ?_
       rotate_left
       · (intro ww hSw; (try dsimp only at hSw); go_simp; (try with_reducible rfl))
       try simp only [Act.put, List.setIfInBounds_toArray, List.set_cons_zero, List.set_cons_succ])
    | (refine wpAnyH_ready (rs := [15]) (by kernel_rfl) (by simp) (AllReadyH.cons (by simp only [List.getElem?_toArray, List.getElem?_cons_succ, List.getElem?_cons_zero]; rfl) (fun K hK => ?_) AllReadyH.nil)
       go_simp
       first
         | (fail)
       try go_wp2_with fail
       refine hK.out _ _ (by (first | (with_reducible exact KS.out _ (bdrew1 (Below.refl _ _))) | (with_reducible exact KS.out _ (below_call hHeld.1 hHeld.1.size hb9)) | (with_reducible exact hHeld))) (fun hHeld => ?_)
       clear hK K
       try simp only [Act.put, List.setIfInBounds_toArray, List.set_cons_zero, List.set_cons_succ])
  first
    | (refine wpAnyH_take (i := 16) (v := undef) (by simp only [List.getElem?_toArray, List.getElem?_cons_succ, List.getElem?_cons_zero]; rfl) (by kernel_rfl) (by kernel_rfl) (by kernel_rfl) (fun _ _ _ h => h) (Or.inr ⟨by rfl, rfl⟩) (by assumption) ?_; try simp only [Act.put, List.setIfInBounds_toArray, List.set_cons_zero, List.set_cons_succ])
    | (refine wpAnyH_take (i := 16) (v := ?_) (by simp only [List.getElem?_toArray, List.getElem?_cons_succ, List.getElem?_cons_zero]; rfl) (by kernel_rfl) (by kernel_rfl) (by kernel_rfl) (fun _ _ _ h => h) (Or.inl ⟨by rfl, ?_⟩) (by assumption) ?_
       rotate_left
       · (intro ww hSw; (try dsimp only at hSw); go_simp; (try with_reducible rfl))
       try simp only [Act.put, List.setIfInBounds_toArray, List.set_cons_zero, List.set_cons_succ])
    | (refine wpAnyH_ready (rs := [16]) (by kernel_rfl) (by simp) (AllReadyH.cons (by simp only [List.getElem?_toArray, List.getElem?_cons_succ, List.getElem?_cons_zero]; rfl) (fun K hK => ?_) AllReadyH.nil)
       go_simp
       first
         | (fail)
       try go_wp2_with fail
       refine hK.out _ _ (by (first | (with_reducible exact KS.out _ (bdrew1 (Below.refl _ _))) | (with_reducible exact KS.out _ (below_call hHeld.1 hHeld.1.size hb9)) | (with_reducible exact hHeld))) (fun hHeld => ?_)
       clear hK K
       try simp only [Act.put, List.setIfInBounds_toArray, List.set_cons_zero, List.set_cons_succ])
  refine wpAnyH_done (by kernel_rfl) ?_ _
  refine NoPanic.normal ?_
  have hB9 := Lib.hid hHeld.1
  clear hHeld
  have BE := Lib.hid (below_call B_8.out B_8.out.size hB9.out)
  go_wp2_with fail
  go_ret
  exact ⟨rfl, BE.out⟩
set_option maxRecDepth 100000 in
set_option maxHeartbeats 2000000 in
theorem boxesNear_l2 (x : Wd) (pd : Dp) (b o pac : Nat) (pk : Option Addr) (pkc wb wo pwc : Nat) (a c d i k bx : Nat) (zk zi : Int) (haa : a ≤ 255) (hcc : c ≤ 255) (hdd : d ≤ 255) (hlw : 0 < x.wher.length) (hi : a % x.at_.length = i) (hk : c % x.wher.length = k) (hb : d % x.wher.length = bx) (e : Int) (f : Int) (y z : Wd) (hR : boxW x i k bx = (y, e)) (hP : outW x i k bx = (z, f)) (hv : nearB x i k = false) (he0 : (e == 0) = false) (hf0 : (f == 0) = false) (hz0 : ¬ (⟨zk, zi⟩ : Pl) = ⟨0, (roomOf x i : Int)⟩) (hz1 : ¬ (⟨zk, zi⟩ : Pl) = ⟨1, (i : Int)⟩) (hz2 : ¬ zk = 2) (w : World) (h : WorldAt w ⟨pd, some ⟨b, o, none⟩, pac, pk, pkc, some ⟨wb, wo, none⟩, pwc⟩ x) (hf : fitsB x = true) (c0 : w.cell? ⟨wb, wo + k * 2, none⟩ = some (.int .i64 zk)) (c1 : w.cell? ⟨wb, wo + k * 2 + 1, none⟩ = some (.int .i64 zi)) (c2 : w.cell? ⟨b, o + i, none⟩ = some (.int .i64 (roomOf x i : Int))) (hwb : wb < w.heap.size) : Calls Try.prog 6 #[.agg #[.slice pd.ex x.d.exits.length pd.exc, .slice pd.pl x.d.players.length pd.plc, .slice pd.co x.d.coins.length pd.coc, .slice pd.it x.d.items.length pd.itc, .slice pd.bo x.d.boxes.length pd.boc, .int .i64 x.d.room, .int .i64 x.d.player, .int .i64 x.d.box, .slice (some ⟨b, o, none⟩) x.at_.length pac, .slice pk x.coins.length pkc, .slice (some ⟨wb, wo, none⟩) x.wher.length pwc], .int .u8 (a : Int), .int .u8 (c : Int), .int .u8 (d : Int)] w fun e w' => e = .returned (.bool true) ∧ Below w.heap.size w w' := by
  have r1 := run_tmod7 a x.at_.length
  have m1 := run_mod7 a x.at_.length
  rw [hi] at r1 m1
  have FT := Lib.hid (fits_fit hf)
  have hlp : 0 < x.at_.length := (right_lens FT.out.right).1
  have hne : ¬ x.at_ = [] := List.length_pos_iff.1 hlp
  have hil : i < x.at_.length := by rw [← hi]; exact Nat.mod_lt _ hlp
  have hlen6 := (right_lens FT.out.right).2.1
  have r2 := run_tmod7 c x.wher.length
  have m2 := run_mod7 c x.wher.length
  rw [hk] at r2 m2
  have r3 := run_tmod7 d x.wher.length
  have m3 := run_mod7 d x.wher.length
  rw [hb] at r3 m3
  have hnw : ¬ x.wher = [] := List.length_pos_iff.1 hlw
  have h0 : ((x.wher.length : Int) == 0) = false := by simp; omega
  have hkl : k < x.wher.length := by rw [← hk]; exact Nat.mod_lt _ hlw
  have hbl : bx < x.wher.length := by rw [← hb]; exact Nat.mod_lt _ hlw
  have hlen16 := (right_lens FT.out.right).2.2.2.1
  have HR := Lib.hid hR
  have HP := Lib.hid hP
  have HV := Lib.hid hv
  have C0 := Lib.hid c0
  have C1 := Lib.hid c1
  have C2 := Lib.hid c2
  have HWB := Lib.hid hwb
  have hlen := h.wh.len
  have hlenA := h.at_.len
  have g1 := run_pleq zk zi 0 (roomOf x i)
  have g2 := run_pleq zk zi 1 i
  rw [decide_eq_false hz0] at g1
  rw [decide_eq_false hz1] at g2
  have hz3 : (zk == 2) = false := by simpa using hz2
  clear hz0 hz1 hz2
  clear hi hk hb hlp hlw hR hP hv  c0 c1 c2 hwb
  have H_0 := Lib.hid (Holds.new w #[.slice pd.ex x.d.exits.length pd.exc, .slice pd.pl x.d.players.length pd.plc, .slice pd.co x.d.coins.length pd.coc, .slice pd.it x.d.items.length pd.itc, .slice pd.bo x.d.boxes.length pd.boc, .int .i64 x.d.room, .int .i64 x.d.player, .int .i64 x.d.box, .slice (some ⟨b, o, none⟩) x.at_.length pac, .slice pk x.coins.length pkc, .slice (some ⟨wb, wo, none⟩) x.wher.length pwc] 29)
  have HF := Lib.hid hf
  have HWA := Lib.hid h
  clear hf h
  go_enter Try.func6, Try.ntmps6
  go_wp2_with fail
  generalize w.alloc (.cells #[.slice pd.ex x.d.exits.length pd.exc, .slice pd.pl x.d.players.length pd.plc, .slice pd.co x.d.coins.length pd.coc, .slice pd.it x.d.items.length pd.itc, .slice pd.bo x.d.boxes.length pd.boc, .int .i64 x.d.room, .int .i64 x.d.player, .int .i64 x.d.box, .slice (some ⟨b, o, none⟩) x.at_.length pac, .slice pk x.coins.length pkc, .slice (some ⟨wb, wo, none⟩) x.wher.length pwc] 29) = V0 at *
  have B_0 := Lib.hid H_0.out.1
  refine (awake10_any _).mono ?_
  rintro e u1 ⟨rfl, b1⟩
  have B_1 := Lib.hid (bl B_0.out b1)
  have H_1 := Lib.hid (H_0.out.call b1)
  clear b1 B_0 H_0
  have hcH := H_1.out.2.2
  have hlH := H_1.out.2.1
  go_wp2_with fail
  refine (fits10_any x ⟨pd, some ⟨b, o, none⟩, pac, pk, pkc, some ⟨wb, wo, none⟩, pwc⟩ _ (HWA.out.below H_1.out.1 (Nat.le_refl _))).mono ?_
  rintro e u2 ⟨rfl, b2⟩
  rw [HF.out]
  clear hcH hlH
  have B_2 := Lib.hid (bl B_1.out b2)
  have H_2 := Lib.hid (H_1.out.call b2)
  clear b2 B_1 H_1
  have hcH := H_2.out.2.2
  have hlH := H_2.out.2.1
  go_wp2_with fail
  refine (bput_as (Shape.refl x) ⟨pd, some ⟨b, o, none⟩, pac, pk, pkc, some ⟨wb, wo, none⟩, pwc⟩ i k bx _ FT.out.right (HWA.out.below B_2.out (Nat.le_refl _)) hil HR.out).mono ?_
  rintro e u3 ⟨q3, rfl, g3, b3⟩
  clear hcH hlH
  have B_3 := Lib.hid (bl B_2.out b3)
  have H_3 := Lib.hid (H_2.out.call b3)
  clear b3 B_2 H_2 g3
  have hcH := H_3.out.2.2
  have hlH := H_3.out.2.1
  go_wp2_with fail
  clear hcH hlH
  have s4 : (u3.alloc (.cells #[.slice q3.d.ex x.d.exits.length q3.d.exc, .slice q3.d.pl x.d.players.length q3.d.plc, .slice q3.d.co x.d.coins.length q3.d.coc, .slice q3.d.it x.d.items.length q3.d.itc, .slice q3.d.bo x.d.boxes.length q3.d.boc, .int .i64 x.d.room, .int .i64 x.d.player, .int .i64 x.d.box, .slice q3.at_ x.at_.length q3.atc, .slice q3.co x.coins.length q3.coc, .slice q3.wh x.wher.length q3.whc] 29)).heap.size = u3.heap.size + 1 := by simp
  have B_4 := Lib.hid (B_3.out.alloc B_3.out.size (.cells #[.slice q3.d.ex x.d.exits.length q3.d.exc, .slice q3.d.pl x.d.players.length q3.d.plc, .slice q3.d.co x.d.coins.length q3.d.coc, .slice q3.d.it x.d.items.length q3.d.itc, .slice q3.d.bo x.d.boxes.length q3.d.boc, .int .i64 x.d.room, .int .i64 x.d.player, .int .i64 x.d.box, .slice q3.at_ x.at_.length q3.atc, .slice q3.co x.coins.length q3.coc, .slice q3.wh x.wher.length q3.whc] 29))
  have H_4 := Lib.hid (H_3.out.alloc (.cells #[.slice q3.d.ex x.d.exits.length q3.d.exc, .slice q3.d.pl x.d.players.length q3.d.plc, .slice q3.d.co x.d.coins.length q3.d.coc, .slice q3.d.it x.d.items.length q3.d.itc, .slice q3.d.bo x.d.boxes.length q3.d.boc, .int .i64 x.d.room, .int .i64 x.d.player, .int .i64 x.d.box, .slice q3.at_ x.at_.length q3.atc, .slice q3.co x.coins.length q3.coc, .slice q3.wh x.wher.length q3.whc] 29))
  have A_4 := Lib.hid (Holds.newb (w := w) (A := #[.slice q3.d.ex x.d.exits.length q3.d.exc, .slice q3.d.pl x.d.players.length q3.d.plc, .slice q3.d.co x.d.coins.length q3.d.coc, .slice q3.d.it x.d.items.length q3.d.itc, .slice q3.d.bo x.d.boxes.length q3.d.boc, .int .i64 x.d.room, .int .i64 x.d.player, .int .i64 x.d.box, .slice q3.at_ x.at_.length q3.atc, .slice q3.co x.coins.length q3.coc, .slice q3.wh x.wher.length q3.whc]) (t := 29) (n := u3.heap.size) B_3.out rfl)
  clear B_3 H_3
  generalize u3.alloc (.cells #[.slice q3.d.ex x.d.exits.length q3.d.exc, .slice q3.d.pl x.d.players.length q3.d.plc, .slice q3.d.co x.d.coins.length q3.d.coc, .slice q3.d.it x.d.items.length q3.d.itc, .slice q3.d.bo x.d.boxes.length q3.d.boc, .int .i64 x.d.room, .int .i64 x.d.player, .int .i64 x.d.box, .slice q3.at_ x.at_.length q3.atc, .slice q3.co x.coins.length q3.coc, .slice q3.wh x.wher.length q3.whc] 29) = V4 at *
  have hcH := H_4.out.2.2
  have hlH := H_4.out.2.1
  have hcA := A_4.out.2.2
  have hlA := A_4.out.2.1
  refine (btake_as (Shape.refl x) ⟨pd, some ⟨b, o, none⟩, pac, pk, pkc, some ⟨wb, wo, none⟩, pwc⟩ i k bx _ FT.out.right (HWA.out.below B_4.out (Nat.le_refl _)) hil HP.out).mono ?_
  rintro e u5 ⟨q5, rfl, g5, b5⟩
  clear hcH hlH hcA hlA
  have B_5 := Lib.hid (bl B_4.out b5)
  have H_5 := Lib.hid (H_4.out.call b5)
  have A_5 := Lib.hid (A_4.out.call b5)
  clear b5 B_4 H_4 A_4 g5
  have hcH := H_5.out.2.2
  have hlH := H_5.out.2.1
  have hcA := A_5.out.2.2
  have hlA := A_5.out.2.1
  go_wp2_with fail
  clear hcH hlH hcA hlA
  have s6 : (u5.alloc (.cells #[.slice q5.d.ex x.d.exits.length q5.d.exc, .slice q5.d.pl x.d.players.length q5.d.plc, .slice q5.d.co x.d.coins.length q5.d.coc, .slice q5.d.it x.d.items.length q5.d.itc, .slice q5.d.bo x.d.boxes.length q5.d.boc, .int .i64 x.d.room, .int .i64 x.d.player, .int .i64 x.d.box, .slice q5.at_ x.at_.length q5.atc, .slice q5.co x.coins.length q5.coc, .slice q5.wh x.wher.length q5.whc] 29)).heap.size = u5.heap.size + 1 := by simp
  have B_6 := Lib.hid (B_5.out.alloc B_5.out.size (.cells #[.slice q5.d.ex x.d.exits.length q5.d.exc, .slice q5.d.pl x.d.players.length q5.d.plc, .slice q5.d.co x.d.coins.length q5.d.coc, .slice q5.d.it x.d.items.length q5.d.itc, .slice q5.d.bo x.d.boxes.length q5.d.boc, .int .i64 x.d.room, .int .i64 x.d.player, .int .i64 x.d.box, .slice q5.at_ x.at_.length q5.atc, .slice q5.co x.coins.length q5.coc, .slice q5.wh x.wher.length q5.whc] 29))
  have H_6 := Lib.hid (H_5.out.alloc (.cells #[.slice q5.d.ex x.d.exits.length q5.d.exc, .slice q5.d.pl x.d.players.length q5.d.plc, .slice q5.d.co x.d.coins.length q5.d.coc, .slice q5.d.it x.d.items.length q5.d.itc, .slice q5.d.bo x.d.boxes.length q5.d.boc, .int .i64 x.d.room, .int .i64 x.d.player, .int .i64 x.d.box, .slice q5.at_ x.at_.length q5.atc, .slice q5.co x.coins.length q5.coc, .slice q5.wh x.wher.length q5.whc] 29))
  have A_6 := Lib.hid (A_5.out.alloc (.cells #[.slice q5.d.ex x.d.exits.length q5.d.exc, .slice q5.d.pl x.d.players.length q5.d.plc, .slice q5.d.co x.d.coins.length q5.d.coc, .slice q5.d.it x.d.items.length q5.d.itc, .slice q5.d.bo x.d.boxes.length q5.d.boc, .int .i64 x.d.room, .int .i64 x.d.player, .int .i64 x.d.box, .slice q5.at_ x.at_.length q5.atc, .slice q5.co x.coins.length q5.coc, .slice q5.wh x.wher.length q5.whc] 29))
  have D_6 := Lib.hid (Holds.newb (w := w) (A := #[.slice q5.d.ex x.d.exits.length q5.d.exc, .slice q5.d.pl x.d.players.length q5.d.plc, .slice q5.d.co x.d.coins.length q5.d.coc, .slice q5.d.it x.d.items.length q5.d.itc, .slice q5.d.bo x.d.boxes.length q5.d.boc, .int .i64 x.d.room, .int .i64 x.d.player, .int .i64 x.d.box, .slice q5.at_ x.at_.length q5.atc, .slice q5.co x.coins.length q5.coc, .slice q5.wh x.wher.length q5.whc]) (t := 29) (n := u5.heap.size) B_5.out rfl)
  clear B_5 H_5 A_5
  generalize u5.alloc (.cells #[.slice q5.d.ex x.d.exits.length q5.d.exc, .slice q5.d.pl x.d.players.length q5.d.plc, .slice q5.d.co x.d.coins.length q5.d.coc, .slice q5.d.it x.d.items.length q5.d.itc, .slice q5.d.bo x.d.boxes.length q5.d.boc, .int .i64 x.d.room, .int .i64 x.d.player, .int .i64 x.d.box, .slice q5.at_ x.at_.length q5.atc, .slice q5.co x.coins.length q5.coc, .slice q5.wh x.wher.length q5.whc] 29) = V6 at *
  have hcH := H_6.out.2.2
  have hlH := H_6.out.2.1
  have hcA := A_6.out.2.2
  have hlA := A_6.out.2.1
  have hcD := D_6.out.2.2
  have hlD := D_6.out.2.1
  refine (near_as (Shape.refl x) ⟨pd, some ⟨b, o, none⟩, pac, pk, pkc, some ⟨wb, wo, none⟩, pwc⟩ i _ FT.out.right (HWA.out.below B_6.out (Nat.le_refl _)) hil k hkl HV.out).mono ?_
  rintro e u7 ⟨rfl, b7⟩
  clear hcH hlH hcA hlA hcD hlD
  have B_7 := Lib.hid (bl B_6.out b7)
  have H_7 := Lib.hid (H_6.out.call b7)
  have A_7 := Lib.hid (A_6.out.call b7)
  have D_7 := Lib.hid (D_6.out.call b7)
  clear b7 B_6 H_6 A_6 D_6
  have hcH := H_7.out.2.2
  have hlH := H_7.out.2.1
  have hcA := A_7.out.2.2
  have hlA := A_7.out.2.1
  have hcD := D_7.out.2.2
  have hlD := D_7.out.2.1
  have cw0 := cell_call C0.out B_7.out
  have cw1 := cell_call C1.out B_7.out
  have lwb : wb < u7.heap.size := Nat.lt_of_lt_of_le HWB.out B_7.out.size
  go_wp2_with fail
  clear hcH hlH hcA hlA hcD hlD cw0 cw1 lwb
  have s8 : (u7.alloc (.cells #[.int .i64 zk, .int .i64 zi] 42)).heap.size = u7.heap.size + 1 := by simp
  have B_8 := Lib.hid (B_7.out.alloc B_7.out.size (.cells #[.int .i64 zk, .int .i64 zi] 42))
  have H_8 := Lib.hid (H_7.out.alloc (.cells #[.int .i64 zk, .int .i64 zi] 42))
  have A_8 := Lib.hid (A_7.out.alloc (.cells #[.int .i64 zk, .int .i64 zi] 42))
  have D_8 := Lib.hid (D_7.out.alloc (.cells #[.int .i64 zk, .int .i64 zi] 42))
  have T_8 := Lib.hid (Holds.newb (w := w) (A := #[.int .i64 zk, .int .i64 zi]) (t := 42) (n := u7.heap.size) B_7.out rfl)
  clear B_7 H_7 A_7 D_7
  generalize u7.alloc (.cells #[.int .i64 zk, .int .i64 zi] 42) = V8 at *
  have hcH := H_8.out.2.2
  have hlH := H_8.out.2.1
  have hcA := A_8.out.2.2
  have hlA := A_8.out.2.1
  have hcD := D_8.out.2.2
  have hlD := D_8.out.2.1
  have hcT := T_8.out.2.2
  have hlT := T_8.out.2.1
  clear hcH hlH hcA hlA hcD hlD hcT hlT
  generalize ((roomOf x i : Nat) : Int) = rm at *
  have KS : Hid (∀ w', Below V8.heap.size V8 w' → Below V8.heap.size V8 w' ∧ (∀ ii, w'.cell? ⟨w.heap.size, ii, none⟩ = (#[.slice pd.ex x.d.exits.length pd.exc, .slice pd.pl x.d.players.length pd.plc, .slice pd.co x.d.coins.length pd.coc, .slice pd.it x.d.items.length pd.itc, .slice pd.bo x.d.boxes.length pd.boc, .int .i64 x.d.room, .int .i64 x.d.player, .int .i64 x.d.box, .slice (some ⟨b, o, none⟩) x.at_.length pac, .slice pk x.coins.length pkc, .slice (some ⟨wb, wo, none⟩) x.wher.length pwc][ii]? : Option Value)) ∧ (∀ ii, w'.cell? ⟨u7.heap.size, ii, none⟩ = (#[.int .i64 zk, .int .i64 zi][ii]? : Option Value)) ∧ w'.cell? ⟨b, o + i, none⟩ = some (.int .i64 rm)) := Lib.hid (fun w' hb => ⟨hb, fun ii => (hb.cell (p := ⟨w.heap.size, ii, none⟩) H_8.out.2.1).trans (H_8.out.2.2 ii), fun ii => (hb.cell (p := ⟨u7.heap.size, ii, none⟩) T_8.out.2.1).trans (T_8.out.2.2 ii), cell_call (cell_call C2.out B_8.out) hb⟩)
  refine wp_region_noPanic ?_
  refine wp_region_held_drew (S := (fun w' => Below V8.heap.size V8 w' ∧ (∀ ii, w'.cell? ⟨w.heap.size, ii, none⟩ = (#[.slice pd.ex x.d.exits.length pd.exc, .slice pd.pl x.d.players.length pd.plc, .slice pd.co x.d.coins.length pd.coc, .slice pd.it x.d.items.length pd.itc, .slice pd.bo x.d.boxes.length pd.boc, .int .i64 x.d.room, .int .i64 x.d.player, .int .i64 x.d.box, .slice (some ⟨b, o, none⟩) x.at_.length pac, .slice pk x.coins.length pkc, .slice (some ⟨wb, wo, none⟩) x.wher.length pwc][ii]? : Option Value)) ∧ (∀ ii, w'.cell? ⟨u7.heap.size, ii, none⟩ = (#[.int .i64 zk, .int .i64 zi][ii]? : Option Value)) ∧ w'.cell? ⟨b, o + i, none⟩ = some (.int .i64 rm))) (by kernel_rfl) (by (first | (with_reducible exact KS.out _ (bdrew1 (Below.refl _ _))) | (with_reducible exact KS.out _ (below_call hHeld.1 hHeld.1.size hb9)) | (with_reducible exact hHeld))) (fun hHeld => ?_)
  first
    | (refine wpAnyH_take (i := 0) (v := undef) (by simp only [List.getElem?_toArray, List.getElem?_cons_zero]; rfl) (by kernel_rfl) (by kernel_rfl) (by kernel_rfl) (fun _ _ _ h => h) (Or.inr ⟨by rfl, rfl⟩) (by assumption) ?_; try simp only [Act.put, List.setIfInBounds_toArray, List.set_cons_zero, List.set_cons_succ])
    | (refine wpAnyH_take (i := 0) (v := ?_) (by simp only [List.getElem?_toArray, List.getElem?_cons_zero]; rfl) (by kernel_rfl) (by kernel_rfl) (by kernel_rfl) (fun _ _ _ h => h) (Or.inl ⟨by rfl, ?_⟩) (by assumption) ?_
       rotate_left
       · (intro ww hSw; (try dsimp only at hSw); go_simp; (try with_reducible rfl))
       try simp only [Act.put, List.setIfInBounds_toArray, List.set_cons_zero, List.set_cons_succ])
    | (refine wpAnyH_ready (rs := [0]) (by kernel_rfl) (by simp) (AllReadyH.cons (by simp only [List.getElem?_toArray, List.getElem?_cons_succ, List.getElem?_cons_zero]; rfl) (fun K hK => ?_) AllReadyH.nil)
       go_simp
       first
         | (fail)
       try go_wp2_with fail
       refine hK.out _ _ (by (first | (with_reducible exact KS.out _ (bdrew1 (Below.refl _ _))) | (with_reducible exact KS.out _ (below_call hHeld.1 hHeld.1.size hb9)) | (with_reducible exact hHeld))) (fun hHeld => ?_)
       clear hK K
       try simp only [Act.put, List.setIfInBounds_toArray, List.set_cons_zero, List.set_cons_succ])
  first
    | (refine wpAnyH_take (i := 1) (v := undef) (by simp only [List.getElem?_toArray, List.getElem?_cons_succ, List.getElem?_cons_zero]; rfl) (by kernel_rfl) (by kernel_rfl) (by kernel_rfl) (fun _ _ _ h => h) (Or.inr ⟨by rfl, rfl⟩) (by assumption) ?_; try simp only [Act.put, List.setIfInBounds_toArray, List.set_cons_zero, List.set_cons_succ])
    | (refine wpAnyH_take (i := 1) (v := ?_) (by simp only [List.getElem?_toArray, List.getElem?_cons_succ, List.getElem?_cons_zero]; rfl) (by kernel_rfl) (by kernel_rfl) (by kernel_rfl) (fun _ _ _ h => h) (Or.inl ⟨by rfl, ?_⟩) (by assumption) ?_
       rotate_left
       · (intro ww hSw; (try dsimp only at hSw); go_simp; (try with_reducible rfl))
       try simp only [Act.put, List.setIfInBounds_toArray, List.set_cons_zero, List.set_cons_succ])
    | (refine wpAnyH_ready (rs := [1]) (by kernel_rfl) (by simp) (AllReadyH.cons (by simp only [List.getElem?_toArray, List.getElem?_cons_succ, List.getElem?_cons_zero]; rfl) (fun K hK => ?_) AllReadyH.nil)
       go_simp
       first
         | (fail)
       try go_wp2_with fail
       refine hK.out _ _ (by (first | (with_reducible exact KS.out _ (bdrew1 (Below.refl _ _))) | (with_reducible exact KS.out _ (below_call hHeld.1 hHeld.1.size hb9)) | (with_reducible exact hHeld))) (fun hHeld => ?_)
       clear hK K
       try simp only [Act.put, List.setIfInBounds_toArray, List.set_cons_zero, List.set_cons_succ])
  first
    | (refine wpAnyH_take (i := 2) (v := undef) (by simp only [List.getElem?_toArray, List.getElem?_cons_succ, List.getElem?_cons_zero]; rfl) (by kernel_rfl) (by kernel_rfl) (by kernel_rfl) (fun _ _ _ h => h) (Or.inr ⟨by rfl, rfl⟩) (by assumption) ?_; try simp only [Act.put, List.setIfInBounds_toArray, List.set_cons_zero, List.set_cons_succ])
    | (refine wpAnyH_take (i := 2) (v := ?_) (by simp only [List.getElem?_toArray, List.getElem?_cons_succ, List.getElem?_cons_zero]; rfl) (by kernel_rfl) (by kernel_rfl) (by kernel_rfl) (fun _ _ _ h => h) (Or.inl ⟨by rfl, ?_⟩) (by assumption) ?_
       rotate_left
       · (intro ww hSw; (try dsimp only at hSw); go_simp; (try with_reducible rfl))
       try simp only [Act.put, List.setIfInBounds_toArray, List.set_cons_zero, List.set_cons_succ])
    | (refine wpAnyH_ready (rs := [2]) (by kernel_rfl) (by simp) (AllReadyH.cons (by simp only [List.getElem?_toArray, List.getElem?_cons_succ, List.getElem?_cons_zero]; rfl) (fun K hK => ?_) AllReadyH.nil)
       go_simp
       first
         | (fail)
       try go_wp2_with fail
       refine hK.out _ _ (by (first | (with_reducible exact KS.out _ (bdrew1 (Below.refl _ _))) | (with_reducible exact KS.out _ (below_call hHeld.1 hHeld.1.size hb9)) | (with_reducible exact hHeld))) (fun hHeld => ?_)
       clear hK K
       try simp only [Act.put, List.setIfInBounds_toArray, List.set_cons_zero, List.set_cons_succ])
  first
    | (refine wpAnyH_take (i := 3) (v := undef) (by simp only [List.getElem?_toArray, List.getElem?_cons_succ, List.getElem?_cons_zero]; rfl) (by kernel_rfl) (by kernel_rfl) (by kernel_rfl) (fun _ _ _ h => h) (Or.inr ⟨by rfl, rfl⟩) (by assumption) ?_; try simp only [Act.put, List.setIfInBounds_toArray, List.set_cons_zero, List.set_cons_succ])
    | (refine wpAnyH_take (i := 3) (v := ?_) (by simp only [List.getElem?_toArray, List.getElem?_cons_succ, List.getElem?_cons_zero]; rfl) (by kernel_rfl) (by kernel_rfl) (by kernel_rfl) (fun _ _ _ h => h) (Or.inl ⟨by rfl, ?_⟩) (by assumption) ?_
       rotate_left
       · (intro ww hSw; (try dsimp only at hSw); go_simp; (try with_reducible rfl))
       try simp only [Act.put, List.setIfInBounds_toArray, List.set_cons_zero, List.set_cons_succ])
    | (refine wpAnyH_ready (rs := [3]) (by kernel_rfl) (by simp) (AllReadyH.cons (by simp only [List.getElem?_toArray, List.getElem?_cons_succ, List.getElem?_cons_zero]; rfl) (fun K hK => ?_) AllReadyH.nil)
       go_simp
       first
         | (fail)
       try go_wp2_with fail
       refine hK.out _ _ (by (first | (with_reducible exact KS.out _ (bdrew1 (Below.refl _ _))) | (with_reducible exact KS.out _ (below_call hHeld.1 hHeld.1.size hb9)) | (with_reducible exact hHeld))) (fun hHeld => ?_)
       clear hK K
       try simp only [Act.put, List.setIfInBounds_toArray, List.set_cons_zero, List.set_cons_succ])
  first
    | (refine wpAnyH_take (i := 4) (v := undef) (by simp only [List.getElem?_toArray, List.getElem?_cons_succ, List.getElem?_cons_zero]; rfl) (by kernel_rfl) (by kernel_rfl) (by kernel_rfl) (fun _ _ _ h => h) (Or.inr ⟨by rfl, rfl⟩) (by assumption) ?_; try simp only [Act.put, List.setIfInBounds_toArray, List.set_cons_zero, List.set_cons_succ])
    | (refine wpAnyH_take (i := 4) (v := ?_) (by simp only [List.getElem?_toArray, List.getElem?_cons_succ, List.getElem?_cons_zero]; rfl) (by kernel_rfl) (by kernel_rfl) (by kernel_rfl) (fun _ _ _ h => h) (Or.inl ⟨by rfl, ?_⟩) (by assumption) ?_
       rotate_left
       · (intro ww hSw; (try dsimp only at hSw); go_simp; (try with_reducible rfl))
       try simp only [Act.put, List.setIfInBounds_toArray, List.set_cons_zero, List.set_cons_succ])
    | (refine wpAnyH_ready (rs := [4]) (by kernel_rfl) (by simp) (AllReadyH.cons (by simp only [List.getElem?_toArray, List.getElem?_cons_succ, List.getElem?_cons_zero]; rfl) (fun K hK => ?_) AllReadyH.nil)
       go_simp
       first
         | (fail)
       try go_wp2_with fail
       refine hK.out _ _ (by (first | (with_reducible exact KS.out _ (bdrew1 (Below.refl _ _))) | (with_reducible exact KS.out _ (below_call hHeld.1 hHeld.1.size hb9)) | (with_reducible exact hHeld))) (fun hHeld => ?_)
       clear hK K
       try simp only [Act.put, List.setIfInBounds_toArray, List.set_cons_zero, List.set_cons_succ])
  first
    | (refine wpAnyH_take (i := 5) (v := undef) (by simp only [List.getElem?_toArray, List.getElem?_cons_succ, List.getElem?_cons_zero]; rfl) (by kernel_rfl) (by kernel_rfl) (by kernel_rfl) (fun _ _ _ h => h) (Or.inr ⟨by rfl, rfl⟩) (by assumption) ?_; try simp only [Act.put, List.setIfInBounds_toArray, List.set_cons_zero, List.set_cons_succ])
    | (refine wpAnyH_take (i := 5) (v := ?_) (by simp only [List.getElem?_toArray, List.getElem?_cons_succ, List.getElem?_cons_zero]; rfl) (by kernel_rfl) (by kernel_rfl) (by kernel_rfl) (fun _ _ _ h => h) (Or.inl ⟨by rfl, ?_⟩) (by assumption) ?_
       rotate_left
       · (intro ww hSw; (try dsimp only at hSw); go_simp; (try with_reducible rfl))
       try simp only [Act.put, List.setIfInBounds_toArray, List.set_cons_zero, List.set_cons_succ])
    | (refine wpAnyH_ready (rs := [5]) (by kernel_rfl) (by simp) (AllReadyH.cons (by simp only [List.getElem?_toArray, List.getElem?_cons_succ, List.getElem?_cons_zero]; rfl) (fun K hK => ?_) AllReadyH.nil)
       go_simp
       first
         | (fail)
       try go_wp2_with fail
       refine hK.out _ _ (by (first | (with_reducible exact KS.out _ (bdrew1 (Below.refl _ _))) | (with_reducible exact KS.out _ (below_call hHeld.1 hHeld.1.size hb9)) | (with_reducible exact hHeld))) (fun hHeld => ?_)
       clear hK K
       try simp only [Act.put, List.setIfInBounds_toArray, List.set_cons_zero, List.set_cons_succ])
  first
    | (refine wpAnyH_take (i := 6) (v := undef) (by simp only [List.getElem?_toArray, List.getElem?_cons_succ, List.getElem?_cons_zero]; rfl) (by kernel_rfl) (by kernel_rfl) (by kernel_rfl) (fun _ _ _ h => h) (Or.inr ⟨by rfl, rfl⟩) (by assumption) ?_; try simp only [Act.put, List.setIfInBounds_toArray, List.set_cons_zero, List.set_cons_succ])
    | (refine wpAnyH_take (i := 6) (v := ?_) (by simp only [List.getElem?_toArray, List.getElem?_cons_succ, List.getElem?_cons_zero]; rfl) (by kernel_rfl) (by kernel_rfl) (by kernel_rfl) (fun _ _ _ h => h) (Or.inl ⟨by rfl, ?_⟩) (by assumption) ?_
       rotate_left
       · (intro ww hSw; (try dsimp only at hSw); go_simp; (try with_reducible rfl))
       try simp only [Act.put, List.setIfInBounds_toArray, List.set_cons_zero, List.set_cons_succ])
    | (refine wpAnyH_ready (rs := [6]) (by kernel_rfl) (by simp) (AllReadyH.cons (by simp only [List.getElem?_toArray, List.getElem?_cons_succ, List.getElem?_cons_zero]; rfl) (fun K hK => ?_) AllReadyH.nil)
       go_simp
       first
         | (fail)
       try go_wp2_with fail
       refine hK.out _ _ (by (first | (with_reducible exact KS.out _ (bdrew1 (Below.refl _ _))) | (with_reducible exact KS.out _ (below_call hHeld.1 hHeld.1.size hb9)) | (with_reducible exact hHeld))) (fun hHeld => ?_)
       clear hK K
       try simp only [Act.put, List.setIfInBounds_toArray, List.set_cons_zero, List.set_cons_succ])
  first
    | (refine wpAnyH_take (i := 7) (v := undef) (by simp only [List.getElem?_toArray, List.getElem?_cons_succ, List.getElem?_cons_zero]; rfl) (by kernel_rfl) (by kernel_rfl) (by kernel_rfl) (fun _ _ _ h => h) (Or.inr ⟨by rfl, rfl⟩) (by assumption) ?_; try simp only [Act.put, List.setIfInBounds_toArray, List.set_cons_zero, List.set_cons_succ])
    | (refine wpAnyH_take (i := 7) (v := ?_) (by simp only [List.getElem?_toArray, List.getElem?_cons_succ, List.getElem?_cons_zero]; rfl) (by kernel_rfl) (by kernel_rfl) (by kernel_rfl) (fun _ _ _ h => h) (Or.inl ⟨by rfl, ?_⟩) (by assumption) ?_
       rotate_left
       · (intro ww hSw; (try dsimp only at hSw); go_simp; (try with_reducible rfl))
       try simp only [Act.put, List.setIfInBounds_toArray, List.set_cons_zero, List.set_cons_succ])
    | (refine wpAnyH_ready (rs := [7]) (by kernel_rfl) (by simp) (AllReadyH.cons (by simp only [List.getElem?_toArray, List.getElem?_cons_succ, List.getElem?_cons_zero]; rfl) (fun K hK => ?_) AllReadyH.nil)
       go_simp
       first
         | (fail)
       try go_wp2_with fail
       refine hK.out _ _ (by (first | (with_reducible exact KS.out _ (bdrew1 (Below.refl _ _))) | (with_reducible exact KS.out _ (below_call hHeld.1 hHeld.1.size hb9)) | (with_reducible exact hHeld))) (fun hHeld => ?_)
       clear hK K
       try simp only [Act.put, List.setIfInBounds_toArray, List.set_cons_zero, List.set_cons_succ])
  first
    | (refine wpAnyH_take (i := 8) (v := undef) (by simp only [List.getElem?_toArray, List.getElem?_cons_succ, List.getElem?_cons_zero]; rfl) (by kernel_rfl) (by kernel_rfl) (by kernel_rfl) (fun _ _ _ h => h) (Or.inr ⟨by rfl, rfl⟩) (by assumption) ?_; try simp only [Act.put, List.setIfInBounds_toArray, List.set_cons_zero, List.set_cons_succ])
    | (refine wpAnyH_take (i := 8) (v := ?_) (by simp only [List.getElem?_toArray, List.getElem?_cons_succ, List.getElem?_cons_zero]; rfl) (by kernel_rfl) (by kernel_rfl) (by kernel_rfl) (fun _ _ _ h => h) (Or.inl ⟨by rfl, ?_⟩) (by assumption) ?_
       rotate_left
       · (intro ww hSw; (try dsimp only at hSw); go_simp; (try with_reducible rfl))
       try simp only [Act.put, List.setIfInBounds_toArray, List.set_cons_zero, List.set_cons_succ])
    | (refine wpAnyH_ready (rs := [8]) (by kernel_rfl) (by simp) (AllReadyH.cons (by simp only [List.getElem?_toArray, List.getElem?_cons_succ, List.getElem?_cons_zero]; rfl) (fun K hK => ?_) AllReadyH.nil)
       go_simp
       first
         | (fail)
       try go_wp2_with fail
       refine hK.out _ _ (by (first | (with_reducible exact KS.out _ (bdrew1 (Below.refl _ _))) | (with_reducible exact KS.out _ (below_call hHeld.1 hHeld.1.size hb9)) | (with_reducible exact hHeld))) (fun hHeld => ?_)
       clear hK K
       try simp only [Act.put, List.setIfInBounds_toArray, List.set_cons_zero, List.set_cons_succ])
  first
    | (refine wpAnyH_take (i := 9) (v := undef) (by simp only [List.getElem?_toArray, List.getElem?_cons_succ, List.getElem?_cons_zero]; rfl) (by kernel_rfl) (by kernel_rfl) (by kernel_rfl) (fun _ _ _ h => h) (Or.inr ⟨by rfl, rfl⟩) (by assumption) ?_; try simp only [Act.put, List.setIfInBounds_toArray, List.set_cons_zero, List.set_cons_succ])
    | (refine wpAnyH_take (i := 9) (v := ?_) (by simp only [List.getElem?_toArray, List.getElem?_cons_succ, List.getElem?_cons_zero]; rfl) (by kernel_rfl) (by kernel_rfl) (by kernel_rfl) (fun _ _ _ h => h) (Or.inl ⟨by rfl, ?_⟩) (by assumption) ?_
       rotate_left
       · (intro ww hSw; (try dsimp only at hSw); go_simp; (try with_reducible rfl))
       try simp only [Act.put, List.setIfInBounds_toArray, List.set_cons_zero, List.set_cons_succ])
    | (refine wpAnyH_ready (rs := [9]) (by kernel_rfl) (by simp) (AllReadyH.cons (by simp only [List.getElem?_toArray, List.getElem?_cons_succ, List.getElem?_cons_zero]; rfl) (fun K hK => ?_) AllReadyH.nil)
       go_simp
       first
         | (fail)
       try go_wp2_with fail
       refine hK.out _ _ (by (first | (with_reducible exact KS.out _ (bdrew1 (Below.refl _ _))) | (with_reducible exact KS.out _ (below_call hHeld.1 hHeld.1.size hb9)) | (with_reducible exact hHeld))) (fun hHeld => ?_)
       clear hK K
       try simp only [Act.put, List.setIfInBounds_toArray, List.set_cons_zero, List.set_cons_succ])
  first
    | (refine wpAnyH_take (i := 10) (v := undef) (by simp only [List.getElem?_toArray, List.getElem?_cons_succ, List.getElem?_cons_zero]; rfl) (by kernel_rfl) (by kernel_rfl) (by kernel_rfl) (fun _ _ _ h => h) (Or.inr ⟨by rfl, rfl⟩) (by assumption) ?_; try simp only [Act.put, List.setIfInBounds_toArray, List.set_cons_zero, List.set_cons_succ])
    | (refine wpAnyH_take (i := 10) (v := ?_) (by simp only [List.getElem?_toArray, List.getElem?_cons_succ, List.getElem?_cons_zero]; rfl) (by kernel_rfl) (by kernel_rfl) (by kernel_rfl) (fun _ _ _ h => h) (Or.inl ⟨by rfl, ?_⟩) (by assumption) ?_
       rotate_left
       · (intro ww hSw; (try dsimp only at hSw); go_simp; (try with_reducible rfl))
       try simp only [Act.put, List.setIfInBounds_toArray, List.set_cons_zero, List.set_cons_succ])
    | (refine wpAnyH_ready (rs := [10]) (by kernel_rfl) (by simp) (AllReadyH.cons (by simp only [List.getElem?_toArray, List.getElem?_cons_succ, List.getElem?_cons_zero]; rfl) (fun K hK => ?_) AllReadyH.nil)
       go_simp
       first
         | (fail)
       try go_wp2_with fail
       refine hK.out _ _ (by (first | (with_reducible exact KS.out _ (bdrew1 (Below.refl _ _))) | (with_reducible exact KS.out _ (below_call hHeld.1 hHeld.1.size hb9)) | (with_reducible exact hHeld))) (fun hHeld => ?_)
       clear hK K
       try simp only [Act.put, List.setIfInBounds_toArray, List.set_cons_zero, List.set_cons_succ])
  first
    | (refine wpAnyH_take (i := 11) (v := undef) (by simp only [List.getElem?_toArray, List.getElem?_cons_succ, List.getElem?_cons_zero]; rfl) (by kernel_rfl) (by kernel_rfl) (by kernel_rfl) (fun _ _ _ h => h) (Or.inr ⟨by rfl, rfl⟩) (by assumption) ?_; try simp only [Act.put, List.setIfInBounds_toArray, List.set_cons_zero, List.set_cons_succ])
    | (refine wpAnyH_take (i := 11) (v := ?_) (by simp only [List.getElem?_toArray, List.getElem?_cons_succ, List.getElem?_cons_zero]; rfl) (by kernel_rfl) (by kernel_rfl) (by kernel_rfl) (fun _ _ _ h => h) (Or.inl ⟨by rfl, ?_⟩) (by assumption) ?_
       rotate_left
       · (intro ww hSw; (try dsimp only at hSw); go_simp; (try with_reducible rfl))
       try simp only [Act.put, List.setIfInBounds_toArray, List.set_cons_zero, List.set_cons_succ])
    | (refine wpAnyH_ready (rs := [11]) (by kernel_rfl) (by simp) (AllReadyH.cons (by simp only [List.getElem?_toArray, List.getElem?_cons_succ, List.getElem?_cons_zero]; rfl) (fun K hK => ?_) AllReadyH.nil)
       go_simp
       first
         | (fail)
       try go_wp2_with fail
       refine hK.out _ _ (by (first | (with_reducible exact KS.out _ (bdrew1 (Below.refl _ _))) | (with_reducible exact KS.out _ (below_call hHeld.1 hHeld.1.size hb9)) | (with_reducible exact hHeld))) (fun hHeld => ?_)
       clear hK K
       try simp only [Act.put, List.setIfInBounds_toArray, List.set_cons_zero, List.set_cons_succ])
  first
    | (refine wpAnyH_take (i := 12) (v := undef) (by simp only [List.getElem?_toArray, List.getElem?_cons_succ, List.getElem?_cons_zero]; rfl) (by kernel_rfl) (by kernel_rfl) (by kernel_rfl) (fun _ _ _ h => h) (Or.inr ⟨by rfl, rfl⟩) (by assumption) ?_; try simp only [Act.put, List.setIfInBounds_toArray, List.set_cons_zero, List.set_cons_succ])
    | (refine wpAnyH_take (i := 12) (v := ?_) (by simp only [List.getElem?_toArray, List.getElem?_cons_succ, List.getElem?_cons_zero]; rfl) (by kernel_rfl) (by kernel_rfl) (by kernel_rfl) (fun _ _ _ h => h) (Or.inl ⟨by rfl, ?_⟩) (by assumption) ?_
       rotate_left
       · (intro ww hSw; (try dsimp only at hSw); go_simp; (try with_reducible rfl))
       try simp only [Act.put, List.setIfInBounds_toArray, List.set_cons_zero, List.set_cons_succ])
    | (refine wpAnyH_ready (rs := [12]) (by kernel_rfl) (by simp) (AllReadyH.cons (by simp only [List.getElem?_toArray, List.getElem?_cons_succ, List.getElem?_cons_zero]; rfl) (fun K hK => ?_) AllReadyH.nil)
       go_simp
       first
         | (fail)
       try go_wp2_with fail
       refine hK.out _ _ (by (first | (with_reducible exact KS.out _ (bdrew1 (Below.refl _ _))) | (with_reducible exact KS.out _ (below_call hHeld.1 hHeld.1.size hb9)) | (with_reducible exact hHeld))) (fun hHeld => ?_)
       clear hK K
       try simp only [Act.put, List.setIfInBounds_toArray, List.set_cons_zero, List.set_cons_succ])
  first
    | (refine wpAnyH_take (i := 13) (v := undef) (by simp only [List.getElem?_toArray, List.getElem?_cons_succ, List.getElem?_cons_zero]; rfl) (by kernel_rfl) (by kernel_rfl) (by kernel_rfl) (fun _ _ _ h => h) (Or.inr ⟨by rfl, rfl⟩) (by assumption) ?_; try simp only [Act.put, List.setIfInBounds_toArray, List.set_cons_zero, List.set_cons_succ])
    | (refine wpAnyH_take (i := 13) (v := ?_) (by simp only [List.getElem?_toArray, List.getElem?_cons_succ, List.getElem?_cons_zero]; rfl) (by kernel_rfl) (by kernel_rfl) (by kernel_rfl) (fun _ _ _ h => h) (Or.inl ⟨by rfl, ?_⟩) (by assumption) ?_
       rotate_left
       · (intro ww hSw; (try dsimp only at hSw); go_simp; (try with_reducible rfl))
       try simp only [Act.put, List.setIfInBounds_toArray, List.set_cons_zero, List.set_cons_succ])
    | (refine wpAnyH_ready (rs := [13]) (by kernel_rfl) (by simp) (AllReadyH.cons (by simp only [List.getElem?_toArray, List.getElem?_cons_succ, List.getElem?_cons_zero]; rfl) (fun K hK => ?_) AllReadyH.nil)
       go_simp
       first
         | (fail)
       try go_wp2_with fail
       refine hK.out _ _ (by (first | (with_reducible exact KS.out _ (bdrew1 (Below.refl _ _))) | (with_reducible exact KS.out _ (below_call hHeld.1 hHeld.1.size hb9)) | (with_reducible exact hHeld))) (fun hHeld => ?_)
       clear hK K
       try simp only [Act.put, List.setIfInBounds_toArray, List.set_cons_zero, List.set_cons_succ])
  first
    | (refine wpAnyH_take (i := 14) (v := undef) (by simp only [List.getElem?_toArray, List.getElem?_cons_succ, List.getElem?_cons_zero]; rfl) (by kernel_rfl) (by kernel_rfl) (by kernel_rfl) (fun _ _ _ h => h) (Or.inr ⟨by rfl, rfl⟩) (by assumption) ?_; try simp only [Act.put, List.setIfInBounds_toArray, List.set_cons_zero, List.set_cons_succ])
    | (refine wpAnyH_take (i := 14) (v := ?_) (by simp only [List.getElem?_toArray, List.getElem?_cons_succ, List.getElem?_cons_zero]; rfl) (by kernel_rfl) (by kernel_rfl) (by kernel_rfl) (fun _ _ _ h => h) (Or.inl ⟨by rfl, ?_⟩) (by assumption) ?_
       rotate_left
       · (intro ww hSw; (try dsimp only at hSw); go_simp; (try with_reducible rfl))
       try simp only [Act.put, List.setIfInBounds_toArray, List.set_cons_zero, List.set_cons_succ])
    | (refine wpAnyH_ready (rs := [14]) (by kernel_rfl) (by simp) (AllReadyH.cons (by simp only [List.getElem?_toArray, List.getElem?_cons_succ, List.getElem?_cons_zero]; rfl) (fun K hK => ?_) AllReadyH.nil)
       go_simp
       first
         | (fail)
       try go_wp2_with fail
       refine hK.out _ _ (by (first | (with_reducible exact KS.out _ (bdrew1 (Below.refl _ _))) | (with_reducible exact KS.out _ (below_call hHeld.1 hHeld.1.size hb9)) | (with_reducible exact hHeld))) (fun hHeld => ?_)
       clear hK K
       try simp only [Act.put, List.setIfInBounds_toArray, List.set_cons_zero, List.set_cons_succ])
  first
    | (refine wpAnyH_take (i := 15) (v := undef) (by simp only [List.getElem?_toArray, List.getElem?_cons_succ, List.getElem?_cons_zero]; rfl) (by kernel_rfl) (by kernel_rfl) (by kernel_rfl) (fun _ _ _ h => h) (Or.inr ⟨by rfl, rfl⟩) (by assumption) ?_; try simp only [Act.put, List.setIfInBounds_toArray, List.set_cons_zero, List.set_cons_succ])
    | (refine wpAnyH_take (i := 15) (v := ?_) (by simp only [List.getElem?_toArray, List.getElem?_cons_succ, List.getElem?_cons_zero]; rfl) (by kernel_rfl) (by kernel_rfl) (by kernel_rfl) (fun _ _ _ h => h) (Or.inl ⟨by rfl, ?_⟩) (by assumption) ?_
       rotate_left
       · (intro ww hSw; (try dsimp only at hSw); go_simp; (try with_reducible rfl))
       try simp only [Act.put, List.setIfInBounds_toArray, List.set_cons_zero, List.set_cons_succ])
    | (refine wpAnyH_ready (rs := [15]) (by kernel_rfl) (by simp) (AllReadyH.cons (by simp only [List.getElem?_toArray, List.getElem?_cons_succ, List.getElem?_cons_zero]; rfl) (fun K hK => ?_) AllReadyH.nil)
       go_simp
       first
         | (fail)
       try go_wp2_with fail
       refine hK.out _ _ (by (first | (with_reducible exact KS.out _ (bdrew1 (Below.refl _ _))) | (with_reducible exact KS.out _ (below_call hHeld.1 hHeld.1.size hb9)) | (with_reducible exact hHeld))) (fun hHeld => ?_)
       clear hK K
       try simp only [Act.put, List.setIfInBounds_toArray, List.set_cons_zero, List.set_cons_succ])
  first
    | (refine wpAnyH_take (i := 16) (v := undef) (by simp only [List.getElem?_toArray, List.getElem?_cons_succ, List.getElem?_cons_zero]; rfl) (by kernel_rfl) (by kernel_rfl) (by kernel_rfl) (fun _ _ _ h => h) (Or.inr ⟨by rfl, rfl⟩) (by assumption) ?_; try simp only [Act.put, List.setIfInBounds_toArray, List.set_cons_zero, List.set_cons_succ])
    | (refine wpAnyH_take (i := 16) (v := ?_) (by simp only [List.getElem?_toArray, List.getElem?_cons_succ, List.getElem?_cons_zero]; rfl) (by kernel_rfl) (by kernel_rfl) (by kernel_rfl) (fun _ _ _ h => h) (Or.inl ⟨by rfl, ?_⟩) (by assumption) ?_
       rotate_left
       · (intro ww hSw; (try dsimp only at hSw); go_simp; (try with_reducible rfl))
       try simp only [Act.put, List.setIfInBounds_toArray, List.set_cons_zero, List.set_cons_succ])
    | (refine wpAnyH_ready (rs := [16]) (by kernel_rfl) (by simp) (AllReadyH.cons (by simp only [List.getElem?_toArray, List.getElem?_cons_succ, List.getElem?_cons_zero]; rfl) (fun K hK => ?_) AllReadyH.nil)
       go_simp
       first
         | (fail)
       try go_wp2_with fail
       refine hK.out _ _ (by (first | (with_reducible exact KS.out _ (bdrew1 (Below.refl _ _))) | (with_reducible exact KS.out _ (below_call hHeld.1 hHeld.1.size hb9)) | (with_reducible exact hHeld))) (fun hHeld => ?_)
       clear hK K
       try simp only [Act.put, List.setIfInBounds_toArray, List.set_cons_zero, List.set_cons_succ])
  refine wpAnyH_done (by kernel_rfl) ?_ _
  refine NoPanic.normal ?_
  have hB9 := Lib.hid hHeld.1
  clear hHeld
  have BE := Lib.hid (below_call B_8.out B_8.out.size hB9.out)
  go_wp2_with fail
  go_ret
  exact ⟨rfl, BE.out⟩
theorem walk_boxesNear (x : Wd) (p : Wp) (a c d : Int) (w : World) (ha : (Lit.int .u8 a).wf = true) (hc : (Lit.int .u8 c).wf = true) (hd : (Lit.int .u8 d).wf = true) (h : WorldAt w p x) : Calls Try.prog 6 #[.agg #[.slice p.d.ex x.d.exits.length p.d.exc, .slice p.d.pl x.d.players.length p.d.plc, .slice p.d.co x.d.coins.length p.d.coc, .slice p.d.it x.d.items.length p.d.itc, .slice p.d.bo x.d.boxes.length p.d.boc, .int .i64 x.d.room, .int .i64 x.d.player, .int .i64 x.d.box, .slice p.at_ x.at_.length p.atc, .slice p.co x.coins.length p.coc, .slice p.wh x.wher.length p.whc], .int .u8 a, .int .u8 c, .int .u8 d] w fun e w' => e = .returned (.bool true) ∧ Below w.heap.size w w' := by
  cases hf : fitsB x
  · exact boxesNear_no x p a c d w h hf
  by_cases hn : x.wher = []
  · exact boxesNear_none x p a c d w h hf (by rw [hn]; rfl)
  have h1 := wf_u8 ha
  have h2 := wf_u8 hc
  have h3 := wf_u8 hd
  obtain ⟨m1, rfl⟩ : ∃ m : Nat, a = m := ⟨a.toNat, by omega⟩
  obtain ⟨m2, rfl⟩ : ∃ m : Nat, c = m := ⟨c.toNat, by omega⟩
  obtain ⟨m3, rfl⟩ : ∃ m : Nat, d = m := ⟨d.toNat, by omega⟩
  have hx := (fits_fit hf).right
  have hlw : 0 < x.wher.length := List.length_pos_iff.2 hn
  obtain ⟨i, hi⟩ : ∃ i, m1 % x.at_.length = i := ⟨_, rfl⟩
  obtain ⟨k, hk⟩ : ∃ k, m2 % x.wher.length = k := ⟨_, rfl⟩
  obtain ⟨bx, hb⟩ : ∃ k, m3 % x.wher.length = k := ⟨_, rfl⟩
  have hil : i < x.at_.length := by rw [← hi]; exact Nat.mod_lt _ (right_lens hx).1
  have hkl : k < x.wher.length := by rw [← hk]; exact Nat.mod_lt _ hlw
  have hbl : bx < x.wher.length := by rw [← hb]; exact Nat.mod_lt _ hlw
  obtain ⟨b, o, ea, -, hcA⟩ := h.at_.at_ hil
  have c2 := hcA _ hil
  rw [(room_at hx hil).1] at c2
  obtain ⟨wb, wo, ew, hwb, c0, c1⟩ := PlsAt.cells h.wh hkl
  rw [← plOf_get hkl] at c0 c1
  obtain ⟨pd, pa, pac, pk, pkc, pw, pwc⟩ := p
  simp only at ea ew
  subst ea ew
  obtain ⟨⟨y, e⟩, hR⟩ : ∃ R, boxW x i k bx = R := ⟨_, rfl⟩
  obtain ⟨⟨z, f⟩, hP⟩ : ∃ R, outW x i k bx = R := ⟨_, rfl⟩
  by_cases he : e = 0
  · subst he
    obtain ⟨hB, -⟩ := boxed_of hx (i := i) (k := k) (c := bx) (by rw [hR])
    have hf0 : (f == 0) = false := by
      by_cases hf0 : f = 0
      · subst hf0
        exact (boxed_outed hB (outed_of hx (i := i) (k := k) (c := bx) (by rw [hP])).1).elim
      · simpa using hf0
    have hv : nearB x i k = true := by rw [near_leaf i (by rw [hB.at_]; simp), hB.at_]; simp
    rw [hB.at_] at c0 c1
    exact boxesNear_e x pd b o pac pk pkc wb wo pwc m1 m2 m3 i k bx (by omega) (by omega) (by omega) hlw hi hk hb f y z hR hP hv hB.near hf0 w h hf c0 c1 c2 hwb
  have he0 : (e == 0) = false := by simpa using he
  by_cases hf0 : f = 0
  · subst hf0
    obtain ⟨hB, -⟩ := outed_of hx (i := i) (k := k) (c := bx) (by rw [hP])
    have hv : nearB x i k = true := by rw [near_box hx i hkl hB.at_]; exact hB.near
    rw [hB.at_] at c0 c1
    exact boxesNear_f x pd b o pac pk pkc wb wo pwc m1 m2 m3 i k bx bx (by omega) (by omega) (by omega) hlw hi hk hb e y z hR hP hv hB.near he0 hbl hB.near w h hf c0 c1 c2 hwb
  have hf1 : (f == 0) = false := by simpa using hf0
  rcases hz : plOf x.wher k with ⟨zk, zi⟩
  rw [hz] at c0 c1
  by_cases hz2 : zk = 2
  · subst hz2
    obtain ⟨j, hj, hjl⟩ : ∃ j : Nat, zi = j ∧ j < x.wher.length := by
      have h7 := (right_tr hx).ids _ (plOf_mem hkl) (by rw [hz])
      rw [hz] at h7
      exact ⟨zi.toNat, by have := h7.1; simp only at this; omega, by have := h7.2; simp only at this; have := h7.1; simp only at this; omega⟩
    subst hj
    have hnb := near_box hx i hkl (j := j) hz
    cases hv : nearB x i k
    · exact boxesNear_bf x pd b o pac pk pkc wb wo pwc m1 m2 m3 i k bx j (by omega) (by omega) (by omega) hlw hi hk hb e f y z hR hP hv he0 hf1 hjl (by rw [← hnb]; exact hv) w h hf c0 c1 c2 hwb
    · exact boxesNear_bt x pd b o pac pk pkc wb wo pwc m1 m2 m3 i k bx j (by omega) (by omega) (by omega) hlw hi hk hb e f y z hR hP hv he0 hf1 hjl (by rw [← hnb]; exact hv) w h hf c0 c1 c2 hwb
  have hnl := near_leaf (x := x) i (k := k) (by rw [hz]; exact hz2)
  rw [hz] at hnl
  by_cases hz0 : (⟨zk, zi⟩ : Pl) = ⟨0, (roomOf x i : Int)⟩
  · simp only [Pl.mk.injEq] at hz0
    obtain ⟨rfl, rfl⟩ := hz0
    exact boxesNear_l0 x pd b o pac pk pkc wb wo pwc m1 m2 m3 i k bx (by omega) (by omega) (by omega) hlw hi hk hb e f y z hR hP (by rw [hnl]; simp) he0 hf1 w h hf c0 c1 c2 hwb
  by_cases hz1 : (⟨zk, zi⟩ : Pl) = ⟨1, (i : Int)⟩
  · simp only [Pl.mk.injEq] at hz1
    obtain ⟨rfl, rfl⟩ := hz1
    exact boxesNear_l1 x pd b o pac pk pkc wb wo pwc m1 m2 m3 i k bx (by omega) (by omega) (by omega) hlw hi hk hb e f y z hR hP (by rw [hnl]; simp) he0 hf1 w h hf c0 c1 c2 hwb
  exact boxesNear_l2 x pd b o pac pk pkc wb wo pwc m1 m2 m3 i k bx zk zi (by omega) (by omega) (by omega) hlw hi hk hb e f y z hR hP (by rw [hnl, decide_eq_false hz0, decide_eq_false hz1]; rfl) he0 hf1 hz0 hz1 hz2 w h hf c0 c1 c2 hwb
set_option maxRecDepth 100000 in
theorem lifted_boxesNear (os : Os) (started : os.Started) (H : Type) (enc : TypeId × Value → H) :
    ReturnsInHanded {} Try.checked os 6 .any (Rows.boxesNearSpec.pre6 enc Try.prog Try.f6 Rows.boxesNearRow.domain false) (Rows.boxesNearSpec.post enc Try.prog Try.f6 false true false false) := by
  refine returnsInHanded_of_change (C := Try.checked) (by kernel_rfl) started (by kernel_rfl) Try.func6
    (ChangeSpec.witness6 (enc := enc) (C := Try.checked) false ⟨#[], #[.agg #[.slice none 0 0, .slice none 0 0, .slice none 0 0, .slice none 0 0, .slice none 0 0, .int .i64 0, .int .i64 0, .int .i64 0, .slice none 0 0, .slice none 0 0, .slice none 0 0], .int .u8 0, .int .u8 0, .int .u8 0], []⟩ 8 (by kernel_rfl) (by kernel_rfl) (by kernel_rfl) (by kernel_rfl)) ?_
  intro W base args ds gs before hval0 hW hcnd _
  have hval : ∀ (j : Nat) t v, Try.f6.params[j]? = some t → args[j]? = some v → Value.okWide Try.prog W .any base t v := hval0
  have hW' := hW
  obtain ⟨p, q, hA0, hV, rfl, hfz, hnd⟩ := hW
  have hA : DataW.TrodAll enc Try.prog W 0 (fun _ => true) true Try.f6.params.toList args.toList ds p := hA0
  rw [Try.params6] at hA hval
  obtain ⟨v0, vs0, d0, ds0, p0, q0, hargs, rfl, rfl, h0, r0⟩ := trodAll_cons hA
  obtain ⟨v1, vs1, d1, ds1, p1, q1, rfl, rfl, rfl, h1, r1⟩ := trodAll_cons r0
  obtain ⟨v2, vs2, d2, ds2, p2, q2, rfl, rfl, rfl, h2, r2⟩ := trodAll_cons r1
  obtain ⟨v3, vs3, d3, ds3, p3, q3, rfl, rfl, rfl, h3, r3⟩ := trodAll_cons r2
  obtain ⟨rfl, rfl, rfl⟩ := trodAll_nil r3
  obtain rfl : args = #[v0, v1, v2, v3] := by cases args; simp_all
  obtain ⟨rfl, rfl⟩ := trodVars_none hV
  obtain ⟨wx0, wp0, rfl, m0⟩ := read_world (hval 0 29 v0 rfl rfl) h0
  obtain ⟨a1, rfl, rfl, rfl, w1⟩ := open_int Try.underlying5 (hval 1 5 v1 rfl rfl) h1
  obtain ⟨a2, rfl, rfl, rfl, w2⟩ := open_int Try.underlying5 (hval 2 5 v2 rfl rfl) h2
  obtain ⟨a3, rfl, rfl, rfl, w3⟩ := open_int Try.underlying5 (hval 3 5 v3 rfl rfl) h3
  clear hA0 hval0
  simp only [List.append_nil] at hW'
  refine (walk_boxesNear wx0 wp0 a1 a2 a3 W w1 w2 w3 m0).mono fun e W' ⟨he, hg⟩ => ?_
  subst he
  exact ⟨_, rfl, law_post (by kernel_rfl) rfl (by rw [Try.params6]; decide +kernel) rfl rfl Try.underlying4 hW' hg⟩

/-- ████ THE STATEMENT ████ -/
theorem proved_boxesNear : Rows.BoxesNearSaid :=
  OpenClaim.holds_of_wide 6 Try.f6 rfl rfl rfl rfl rfl rfl rfl ⟨rfl, rfl, rfl, rfl, rfl⟩ rfl rfl rfl rfl rfl (by kernel_rfl) Try.func6 (by kernel_rfl)
    (of_decide_eq_true (by kernel_rfl)) (by unfold Func.isWrapper; first | (rw [if_pos (by decide +kernel)]; kernel_rfl) | (rw [if_neg (by decide +kernel)]; exact ⟨rfl, rfl⟩))
    (fun os started H enc _ => lifted_boxesNear os started H enc)
#print axioms proved_boxesNear
end Go.Proofs.Ytdmfbbcidcfcjaa
