/- BoxesHold: what is handed in stays. -/
import Derived.Test.YtdmfbbcidcfcjaaRows
import Derived.Test.YtdmfbbcidcfcjaaKit
import Derived.Test.YtdmfbbcidcfcjaaGMem
import Derived.Test.YtdmfbbcidcfcjaaCoin
import Derived.Test.YtdmfbbcidcfcjaaGWorld
import Derived.Test.YtdmfbbcidcfcjaaDescMay
import Derived.Test.YtdmfbbcidcfcjaaGDescN
import Derived.Test.YtdmfbbcidcfcjaaGRight
import Derived.Test.YtdmfbbcidcfcjaaGCopy
import Derived.Test.YtdmfbbcidcfcjaaGRefD
import Derived.Test.YtdmfbbcidcfcjaaGAs
import Derived.Test.YtdmfbbcidcfcjaaGEq
import Derived.Test.YtdmfbbcidcfcjaaGNew
import Derived.Test.YtdmfbbcidcfcjaaRefRight
import Derived.Test.YtdmfbbcidcfcjaaGTreeL
import Derived.Test.YtdmfbbcidcfcjaaTreeRefA
import Derived.Test.YtdmfbbcidcfcjaaGHoldA
import Derived.Test.YtdmfbbcidcfcjaaHoldD
import Derived.Test.YtdmfbbcidcfcjaaHoldE
import Derived.Test.YtdmfbbcidcfcjaaGBoxM
import Derived.Test.YtdmfbbcidcfcjaaBoxA
import Derived.Test.YtdmfbbcidcfcjaaBoxD
import Derived.Test.YtdmfbbcidcfcjaaBoxAwake
import Derived.Test.YtdmfbbcidcfcjaaOff
import Derived.Test.YtdmfbbcidcfcjaaDescSix
import Derived.Deep.QuietTactic
import Derived.BigQuiet
import Derived.Deep.RegionHeld3
import Derived.WalkKit
import Derived.ProofKit
import Derived.OpenShut
import Derived.IntWalk
namespace Go.Proofs.Ytdmfbbcidcfcjaa
open Go.ChangeShapes Go.WideShapes Go.ChangeAt Go.RowKit
set_option linter.unusedVariables false
open Go.RowKit
set_option maxRecDepth 100000 in
theorem boxesHold_no (x : Wd) (p : Wp) (a item box : Int) (w : World) (h : WorldAt w p x) (hf : fitsB x = false) : Calls Try.prog 5 #[.agg #[.slice p.d.ex x.d.exits.length p.d.exc, .slice p.d.pl x.d.players.length p.d.plc, .slice p.d.co x.d.coins.length p.d.coc, .slice p.d.it x.d.items.length p.d.itc, .slice p.d.bo x.d.boxes.length p.d.boc, .int .i64 x.d.room, .int .i64 x.d.player, .int .i64 x.d.box, .slice p.at_ x.at_.length p.atc, .slice p.co x.coins.length p.coc, .slice p.wh x.wher.length p.whc], .int .u8 a, .int .i64 item, .int .i64 box] w fun e w' => e = .returned (.bool true) ∧ Below w.heap.size w w' := by
  have H_0 := Lib.hid (Holds.new w #[.slice p.d.ex x.d.exits.length p.d.exc, .slice p.d.pl x.d.players.length p.d.plc, .slice p.d.co x.d.coins.length p.d.coc, .slice p.d.it x.d.items.length p.d.itc, .slice p.d.bo x.d.boxes.length p.d.boc, .int .i64 x.d.room, .int .i64 x.d.player, .int .i64 x.d.box, .slice p.at_ x.at_.length p.atc, .slice p.co x.coins.length p.coc, .slice p.wh x.wher.length p.whc] 29)
  have HF := Lib.hid hf
  have HWA := Lib.hid h
  clear hf h
  go_enter Try.func5, Try.ntmps5
  go_wp2_with fail
  generalize w.alloc (.cells #[.slice p.d.ex x.d.exits.length p.d.exc, .slice p.d.pl x.d.players.length p.d.plc, .slice p.d.co x.d.coins.length p.d.coc, .slice p.d.it x.d.items.length p.d.itc, .slice p.d.bo x.d.boxes.length p.d.boc, .int .i64 x.d.room, .int .i64 x.d.player, .int .i64 x.d.box, .slice p.at_ x.at_.length p.atc, .slice p.co x.coins.length p.coc, .slice p.wh x.wher.length p.whc] 29) = V0 at *
  have B_0 := Lib.hid H_0.out.1
  refine (awake10_any _).mono ?_
  rintro e u1 ⟨rfl, b1⟩
  have B_1 := Lib.hid (bl B_0.out b1)
  have H_1 := Lib.hid (H_0.out.call b1)
  clear b1 B_0 H_0
  have hcH := H_1.out.2.2
  have hlH := H_1.out.2.1
  go_wp2_with fail
  refine (fits10_any x p _ (HWA.out.below H_1.out.1 (Nat.le_refl _))).mono ?_
  rintro e u2 ⟨rfl, b2⟩
  rw [HF.out]
  clear hcH hlH
  have B_2 := Lib.hid (bl B_1.out b2)
  have H_2 := Lib.hid (H_1.out.call b2)
  clear b2 B_1 H_1
  have hcH := H_2.out.2.2
  have hlH := H_2.out.2.1
  go_wp2_with fail
  refine (awake10_any _).mono ?_
  rintro e u3 ⟨rfl, b3⟩
  clear hcH hlH
  have B_3 := Lib.hid (bl B_2.out b3)
  have H_3 := Lib.hid (H_2.out.call b3)
  clear b3 B_2 H_2
  have hcH := H_3.out.2.2
  have hlH := H_3.out.2.1
  go_wp2_with fail
  go_ret
  exact ⟨rfl, B_3.out⟩
set_option maxRecDepth 100000 in
set_option maxHeartbeats 2000000 in
theorem boxesHold_err (x : Wd) (p : Wp) (a i : Nat) (item box : Int) (haa : a ≤ 255) (hi : a % x.at_.length = i) (w : World) (h : WorldAt w p x) (hf : fitsB x = true) (y : Wd) (e : Int) (hR : boxW x i item box = (y, e)) (he : ¬ e = 0) : Calls Try.prog 5 #[.agg #[.slice p.d.ex x.d.exits.length p.d.exc, .slice p.d.pl x.d.players.length p.d.plc, .slice p.d.co x.d.coins.length p.d.coc, .slice p.d.it x.d.items.length p.d.itc, .slice p.d.bo x.d.boxes.length p.d.boc, .int .i64 x.d.room, .int .i64 x.d.player, .int .i64 x.d.box, .slice p.at_ x.at_.length p.atc, .slice p.co x.coins.length p.coc, .slice p.wh x.wher.length p.whc], .int .u8 (a : Int), .int .i64 item, .int .i64 box] w fun e w' => e = .returned (.bool true) ∧ Below w.heap.size w w' := by
  have r1 := run_tmod7 a x.at_.length
  have m1 := run_mod7 a x.at_.length
  rw [hi] at r1 m1
  have FT := Lib.hid (fits_fit hf)
  have hlp : 0 < x.at_.length := (right_lens FT.out.right).1
  have hne : ¬ x.at_ = [] := List.length_pos_iff.1 hlp
  have hil : i < x.at_.length := by rw [← hi]; exact Nat.mod_lt _ hlp
  have hlen6 := (right_lens FT.out.right).2.1
  have hcl : 0 < x.coins.length := by rw [(right_lens FT.out.right).2.2.1]; exact hlp
  have hdw : IntKind.i64.wrap (a : Int) = (a : Int) := IntWalk.i64_in _ (by omega)
  have SY := Lib.hid (show Shape x y by have := box_shape x i item box; rwa [hR] at this)
  have HR := Lib.hid hR
  have HLP := Lib.hid hlp
  have HCL := Lib.hid hcl
  have hlen := h.wh.len
  have hne0 : (e == 0) = false := by simpa using he
  clear he
  clear hi hlp hcl hR
  have H_0 := Lib.hid (Holds.new w #[.slice p.d.ex x.d.exits.length p.d.exc, .slice p.d.pl x.d.players.length p.d.plc, .slice p.d.co x.d.coins.length p.d.coc, .slice p.d.it x.d.items.length p.d.itc, .slice p.d.bo x.d.boxes.length p.d.boc, .int .i64 x.d.room, .int .i64 x.d.player, .int .i64 x.d.box, .slice p.at_ x.at_.length p.atc, .slice p.co x.coins.length p.coc, .slice p.wh x.wher.length p.whc] 29)
  have HF := Lib.hid hf
  have HWA := Lib.hid h
  clear hf h
  go_enter Try.func5, Try.ntmps5
  go_wp2_with fail
  generalize w.alloc (.cells #[.slice p.d.ex x.d.exits.length p.d.exc, .slice p.d.pl x.d.players.length p.d.plc, .slice p.d.co x.d.coins.length p.d.coc, .slice p.d.it x.d.items.length p.d.itc, .slice p.d.bo x.d.boxes.length p.d.boc, .int .i64 x.d.room, .int .i64 x.d.player, .int .i64 x.d.box, .slice p.at_ x.at_.length p.atc, .slice p.co x.coins.length p.coc, .slice p.wh x.wher.length p.whc] 29) = V0 at *
  have B_0 := Lib.hid H_0.out.1
  refine (awake10_any _).mono ?_
  rintro e u1 ⟨rfl, b1⟩
  have B_1 := Lib.hid (bl B_0.out b1)
  have H_1 := Lib.hid (H_0.out.call b1)
  clear b1 B_0 H_0
  have hcH := H_1.out.2.2
  have hlH := H_1.out.2.1
  go_wp2_with fail
  refine (fits10_any x p _ (HWA.out.below H_1.out.1 (Nat.le_refl _))).mono ?_
  rintro e u2 ⟨rfl, b2⟩
  rw [HF.out]
  clear hcH hlH
  have B_2 := Lib.hid (bl B_1.out b2)
  have H_2 := Lib.hid (H_1.out.call b2)
  clear b2 B_1 H_1
  have hcH := H_2.out.2.2
  have hlH := H_2.out.2.1
  go_wp2_with fail
  clear hcH hlH
  refine (copied_own3 x p _ (HWA.out.below B_2.out (Nat.le_refl _)) (right_fewW9 FT.out.right)).mono ?_
  rintro e0 w3 ⟨p2, rfl, g3, b3, -⟩
  have B_3 := Lib.hid (bl B_2.out b3)
  have H_3 := Lib.hid (H_2.out.call b3)
  have OW_3 := Lib.hid g3
  clear g3 b3 B_2 H_2
  go_wp2_with fail
  have s4 : (w3.alloc (.cells #[.slice p2.d.ex x.d.exits.length p2.d.exc, .slice p2.d.pl x.d.players.length p2.d.plc, .slice p2.d.co x.d.coins.length p2.d.coc, .slice p2.d.it x.d.items.length p2.d.itc, .slice p2.d.bo x.d.boxes.length p2.d.boc, .int .i64 x.d.room, .int .i64 x.d.player, .int .i64 x.d.box, .slice p2.at_ x.at_.length p2.atc, .slice p2.co x.coins.length p2.coc, .slice p2.wh x.wher.length p2.whc] 29)).heap.size = w3.heap.size + 1 := by simp
  have B_4 := Lib.hid (B_3.out.alloc B_3.out.size (.cells #[.slice p2.d.ex x.d.exits.length p2.d.exc, .slice p2.d.pl x.d.players.length p2.d.plc, .slice p2.d.co x.d.coins.length p2.d.coc, .slice p2.d.it x.d.items.length p2.d.itc, .slice p2.d.bo x.d.boxes.length p2.d.boc, .int .i64 x.d.room, .int .i64 x.d.player, .int .i64 x.d.box, .slice p2.at_ x.at_.length p2.atc, .slice p2.co x.coins.length p2.coc, .slice p2.wh x.wher.length p2.whc] 29))
  have H_4 := Lib.hid (H_3.out.alloc (.cells #[.slice p2.d.ex x.d.exits.length p2.d.exc, .slice p2.d.pl x.d.players.length p2.d.plc, .slice p2.d.co x.d.coins.length p2.d.coc, .slice p2.d.it x.d.items.length p2.d.itc, .slice p2.d.bo x.d.boxes.length p2.d.boc, .int .i64 x.d.room, .int .i64 x.d.player, .int .i64 x.d.box, .slice p2.at_ x.at_.length p2.atc, .slice p2.co x.coins.length p2.coc, .slice p2.wh x.wher.length p2.whc] 29))
  have OW_4 := Lib.hid (OW_3.out.call ((Below.refl _ _).alloc (Nat.le_refl _) (.cells #[.slice p2.d.ex x.d.exits.length p2.d.exc, .slice p2.d.pl x.d.players.length p2.d.plc, .slice p2.d.co x.d.coins.length p2.d.coc, .slice p2.d.it x.d.items.length p2.d.itc, .slice p2.d.bo x.d.boxes.length p2.d.boc, .int .i64 x.d.room, .int .i64 x.d.player, .int .i64 x.d.box, .slice p2.at_ x.at_.length p2.atc, .slice p2.co x.coins.length p2.coc, .slice p2.wh x.wher.length p2.whc] 29)))
  have O_4 := Lib.hid (Holds.newb (w := w) (A := #[.slice p2.d.ex x.d.exits.length p2.d.exc, .slice p2.d.pl x.d.players.length p2.d.plc, .slice p2.d.co x.d.coins.length p2.d.coc, .slice p2.d.it x.d.items.length p2.d.itc, .slice p2.d.bo x.d.boxes.length p2.d.boc, .int .i64 x.d.room, .int .i64 x.d.player, .int .i64 x.d.box, .slice p2.at_ x.at_.length p2.atc, .slice p2.co x.coins.length p2.coc, .slice p2.wh x.wher.length p2.whc]) (t := 29) (n := w3.heap.size) B_3.out rfl)
  clear B_3 H_3 OW_3
  generalize w3.alloc (.cells #[.slice p2.d.ex x.d.exits.length p2.d.exc, .slice p2.d.pl x.d.players.length p2.d.plc, .slice p2.d.co x.d.coins.length p2.d.coc, .slice p2.d.it x.d.items.length p2.d.itc, .slice p2.d.bo x.d.boxes.length p2.d.boc, .int .i64 x.d.room, .int .i64 x.d.player, .int .i64 x.d.box, .slice p2.at_ x.at_.length p2.atc, .slice p2.co x.coins.length p2.coc, .slice p2.wh x.wher.length p2.whc] 29) = V3 at *
  clear s4
  have KS : Hid (∀ w', Below V3.heap.size V3 w' → Below V3.heap.size V3 w' ∧ (∀ ii, w'.cell? ⟨w.heap.size, ii, none⟩ = (#[.slice p.d.ex x.d.exits.length p.d.exc, .slice p.d.pl x.d.players.length p.d.plc, .slice p.d.co x.d.coins.length p.d.coc, .slice p.d.it x.d.items.length p.d.itc, .slice p.d.bo x.d.boxes.length p.d.boc, .int .i64 x.d.room, .int .i64 x.d.player, .int .i64 x.d.box, .slice p.at_ x.at_.length p.atc, .slice p.co x.coins.length p.coc, .slice p.wh x.wher.length p.whc][ii]? : Option Value)) ∧ (∀ ii, w'.cell? ⟨w3.heap.size, ii, none⟩ = (#[.slice p2.d.ex x.d.exits.length p2.d.exc, .slice p2.d.pl x.d.players.length p2.d.plc, .slice p2.d.co x.d.coins.length p2.d.coc, .slice p2.d.it x.d.items.length p2.d.itc, .slice p2.d.bo x.d.boxes.length p2.d.boc, .int .i64 x.d.room, .int .i64 x.d.player, .int .i64 x.d.box, .slice p2.at_ x.at_.length p2.atc, .slice p2.co x.coins.length p2.coc, .slice p2.wh x.wher.length p2.whc][ii]? : Option Value))) := Lib.hid (fun w' hb => ⟨hb, fun ii => (hb.cell (p := ⟨w.heap.size, ii, none⟩) H_4.out.2.1).trans (H_4.out.2.2 ii), fun ii => (hb.cell (p := ⟨w3.heap.size, ii, none⟩) O_4.out.2.1).trans (O_4.out.2.2 ii)⟩)
  have WI := Lib.hid (HWA.out.below B_4.out (Nat.le_refl _))
  have OWV := Lib.hid OW_4.out
  have BVV := Lib.hid B_4.out
  refine wp_region_noPanic ?_
  refine wp_region_held_drew (S := (fun w' => Below V3.heap.size V3 w' ∧ (∀ ii, w'.cell? ⟨w.heap.size, ii, none⟩ = (#[.slice p.d.ex x.d.exits.length p.d.exc, .slice p.d.pl x.d.players.length p.d.plc, .slice p.d.co x.d.coins.length p.d.coc, .slice p.d.it x.d.items.length p.d.itc, .slice p.d.bo x.d.boxes.length p.d.boc, .int .i64 x.d.room, .int .i64 x.d.player, .int .i64 x.d.box, .slice p.at_ x.at_.length p.atc, .slice p.co x.coins.length p.coc, .slice p.wh x.wher.length p.whc][ii]? : Option Value)) ∧ (∀ ii, w'.cell? ⟨w3.heap.size, ii, none⟩ = (#[.slice p2.d.ex x.d.exits.length p2.d.exc, .slice p2.d.pl x.d.players.length p2.d.plc, .slice p2.d.co x.d.coins.length p2.d.coc, .slice p2.d.it x.d.items.length p2.d.itc, .slice p2.d.bo x.d.boxes.length p2.d.boc, .int .i64 x.d.room, .int .i64 x.d.player, .int .i64 x.d.box, .slice p2.at_ x.at_.length p2.atc, .slice p2.co x.coins.length p2.coc, .slice p2.wh x.wher.length p2.whc][ii]? : Option Value)))) (by kernel_rfl) (by (first | (with_reducible exact KS.out _ (bdrew1 (Below.refl _ _))))) (fun hHeld => ?_)
  refine wpAnyH_take (i := 0) (v := ?_) (by simp only [List.getElem?_toArray, List.getElem?_cons_zero]; rfl) (by kernel_rfl) (by kernel_rfl) (by kernel_rfl) (fun _ _ _ h => h) (Or.inl ⟨by rfl, ?_⟩) (by assumption) ?_
  rotate_left
  · (intro ww hSw; (try dsimp only at hSw); go_simp; (try with_reducible rfl))
  try simp only [Act.put, List.setIfInBounds_toArray, List.set_cons_zero, List.set_cons_succ]
  refine wpAnyH_take (i := 1) (v := ?_) (by simp only [List.getElem?_toArray, List.getElem?_cons_succ, List.getElem?_cons_zero]; rfl) (by kernel_rfl) (by kernel_rfl) (by kernel_rfl) (fun _ _ _ h => h) (Or.inl ⟨by rfl, ?_⟩) (by assumption) ?_
  rotate_left
  · (intro ww hSw; (try dsimp only at hSw); go_simp; (try with_reducible rfl))
  try simp only [Act.put, List.setIfInBounds_toArray, List.set_cons_zero, List.set_cons_succ]
  refine wpAnyH_take (i := 2) (v := ?_) (by simp only [List.getElem?_toArray, List.getElem?_cons_succ, List.getElem?_cons_zero]; rfl) (by kernel_rfl) (by kernel_rfl) (by kernel_rfl) (fun _ _ _ h => h) (Or.inl ⟨by rfl, ?_⟩) (by assumption) ?_
  rotate_left
  · (intro ww hSw; (try dsimp only at hSw); go_simp; (try with_reducible rfl))
  try simp only [Act.put, List.setIfInBounds_toArray, List.set_cons_zero, List.set_cons_succ]
  refine wpAnyH_take (i := 3) (v := ?_) (by simp only [List.getElem?_toArray, List.getElem?_cons_succ, List.getElem?_cons_zero]; rfl) (by kernel_rfl) (by kernel_rfl) (by kernel_rfl) (fun _ _ _ h => h) (Or.inl ⟨by rfl, ?_⟩) (by assumption) ?_
  rotate_left
  · (intro ww hSw; (try dsimp only at hSw); go_simp; (try with_reducible rfl))
  try simp only [Act.put, List.setIfInBounds_toArray, List.set_cons_zero, List.set_cons_succ]
  refine wpAnyH_take (i := 4) (v := ?_) (by simp only [List.getElem?_toArray, List.getElem?_cons_succ, List.getElem?_cons_zero]; rfl) (by kernel_rfl) (by kernel_rfl) (by kernel_rfl) (fun _ _ _ h => h) (Or.inl ⟨by rfl, ?_⟩) (by assumption) ?_
  rotate_left
  · (intro ww hSw; (try dsimp only at hSw); go_simp; (try with_reducible rfl))
  try simp only [Act.put, List.setIfInBounds_toArray, List.set_cons_zero, List.set_cons_succ]
  refine wpAnyH_take (i := 5) (v := ?_) (by simp only [List.getElem?_toArray, List.getElem?_cons_succ, List.getElem?_cons_zero]; rfl) (by kernel_rfl) (by kernel_rfl) (by kernel_rfl) (fun _ _ _ h => h) (Or.inl ⟨by rfl, ?_⟩) (by assumption) ?_
  rotate_left
  · (intro ww hSw; (try dsimp only at hSw); go_simp; (try with_reducible rfl))
  try simp only [Act.put, List.setIfInBounds_toArray, List.set_cons_zero, List.set_cons_succ]
  refine wpAnyH_take (i := 6) (v := ?_) (by simp only [List.getElem?_toArray, List.getElem?_cons_succ, List.getElem?_cons_zero]; rfl) (by kernel_rfl) (by kernel_rfl) (by kernel_rfl) (fun _ _ _ h => h) (Or.inl ⟨by rfl, ?_⟩) (by assumption) ?_
  rotate_left
  · (intro ww hSw; (try dsimp only at hSw); go_simp; (try with_reducible rfl))
  try simp only [Act.put, List.setIfInBounds_toArray, List.set_cons_zero, List.set_cons_succ]
  refine wpAnyH_take (i := 7) (v := ?_) (by simp only [List.getElem?_toArray, List.getElem?_cons_succ, List.getElem?_cons_zero]; rfl) (by kernel_rfl) (by kernel_rfl) (by kernel_rfl) (fun _ _ _ h => h) (Or.inl ⟨by rfl, ?_⟩) (by assumption) ?_
  rotate_left
  · (intro ww hSw; (try dsimp only at hSw); go_simp; (try with_reducible rfl))
  try simp only [Act.put, List.setIfInBounds_toArray, List.set_cons_zero, List.set_cons_succ]
  refine wpAnyH_take (i := 8) (v := ?_) (by simp only [List.getElem?_toArray, List.getElem?_cons_succ, List.getElem?_cons_zero]; rfl) (by kernel_rfl) (by kernel_rfl) (by kernel_rfl) (fun _ _ _ h => h) (Or.inl ⟨by rfl, ?_⟩) (by assumption) ?_
  rotate_left
  · (intro ww hSw; (try dsimp only at hSw); go_simp; (try with_reducible rfl))
  try simp only [Act.put, List.setIfInBounds_toArray, List.set_cons_zero, List.set_cons_succ]
  refine wpAnyH_ready (rs := [9, 13]) (by kernel_rfl) (by simp) (AllReadyH.cons (by simp only [List.getElem?_toArray, List.getElem?_cons_succ, List.getElem?_cons_zero]; rfl) (fun K hK => ?_) (AllReadyH.cons (by simp only [List.getElem?_toArray, List.getElem?_cons_succ, List.getElem?_cons_zero]; rfl) (fun K hK => ?_) AllReadyH.nil))
  · skip
    go_simp
    go_at_call 10; with_reducible refine (bput_any x p2 i item box _ FT.out.right (OWV.out.below hHeld.1 (Nat.le_refl _)) hil).mono ?_; rintro e9 w9 ⟨⟨qd, qa, qac, qk, qkc, qw, qwc⟩, rfl, tk, hb9⟩; rw [HR.out] at tk ⊢; have HB9 := Lib.hid (below_call hHeld.1 hHeld.1.size hb9); have TK := Lib.hid tk; have HS := Lib.hid hHeld.1.size; clear tk hb9
    try go_wp2_with fail
    refine hK.out _ _ (by (first | (with_reducible exact KS.out _ HB9.out))) (fun hHeld => ?_)
    clear hK K
    try simp only [Act.put, List.setIfInBounds_toArray, List.set_cons_zero, List.set_cons_succ]
    refine wpAnyH_take (i := 10) (v := ?_) (by simp only [List.getElem?_toArray, List.getElem?_cons_succ, List.getElem?_cons_zero]; rfl) (by kernel_rfl) (by kernel_rfl) (by kernel_rfl) (fun _ _ _ h => h) (Or.inl ⟨by rfl, ?_⟩) (by assumption) ?_
    rotate_left
    · (intro ww hSw; (try dsimp only at hSw); go_simp; (try with_reducible rfl))
    try simp only [Act.put, List.setIfInBounds_toArray, List.set_cons_zero, List.set_cons_succ]
    refine wpAnyH_take (i := 11) (v := ?_) (by simp only [List.getElem?_toArray, List.getElem?_cons_succ, List.getElem?_cons_zero]; rfl) (by kernel_rfl) (by kernel_rfl) (by kernel_rfl) (fun _ _ _ h => h) (Or.inl ⟨by rfl, ?_⟩) (by assumption) ?_
    rotate_left
    · (intro ww hSw; (try dsimp only at hSw); go_simp; (try with_reducible rfl))
    try simp only [Act.put, List.setIfInBounds_toArray, List.set_cons_zero, List.set_cons_succ]
    refine wpAnyH_take (i := 12) (v := ?_) (by simp only [List.getElem?_toArray, List.getElem?_cons_succ, List.getElem?_cons_zero]; rfl) (by kernel_rfl) (by kernel_rfl) (by kernel_rfl) (fun _ _ _ h => h) (Or.inl ⟨by rfl, ?_⟩) (by assumption) ?_
    rotate_left
    · (intro ww hSw; (try dsimp only at hSw); go_simp; (try with_reducible rfl))
    try simp only [Act.put, List.setIfInBounds_toArray, List.set_cons_zero, List.set_cons_succ]
    refine wpAnyH_ready (rs := [13]) (by kernel_rfl) (by simp) (AllReadyH.cons (by simp only [List.getElem?_toArray, List.getElem?_cons_succ, List.getElem?_cons_zero]; rfl) (fun K hK => ?_) AllReadyH.nil)
    go_simp
    try go_wp2_with fail
    refine hK.out _ _ (by (first | (with_reducible exact KS.out _ (Below.alloc HB9.out HB9.out.size _)))) (fun hHeld => ?_)
    clear hK K
    try simp only [Act.put, List.setIfInBounds_toArray, List.set_cons_zero, List.set_cons_succ]
    refine wpAnyH_ready (rs := [14]) (by kernel_rfl) (by simp) (AllReadyH.cons (by simp only [List.getElem?_toArray, List.getElem?_cons_succ, List.getElem?_cons_zero]; rfl) (fun K hK => ?_) AllReadyH.nil)
    go_simp
    try go_wp2_with fail
    refine hK.out _ _ (by (first | (with_reducible exact KS.out _ (Below.alloc HB9.out HB9.out.size _)))) (fun hHeld => ?_)
    clear hK K
    try simp only [Act.put, List.setIfInBounds_toArray, List.set_cons_zero, List.set_cons_succ]
    refine wpAnyH_take (i := 15) (v := ?_) (by simp only [List.getElem?_toArray, List.getElem?_cons_succ, List.getElem?_cons_zero]; rfl) (by kernel_rfl) (by kernel_rfl) (by kernel_rfl) (fun _ _ _ h => h) (Or.inl ⟨by rfl, ?_⟩) (by assumption) ?_
    rotate_left
    · (intro ww hSw; (try dsimp only at hSw); go_simp; (try with_reducible rfl))
    try simp only [Act.put, List.setIfInBounds_toArray, List.set_cons_zero, List.set_cons_succ]
    refine wpAnyH_done (by kernel_rfl) ?_ _
    refine NoPanic.normal ?_
    clear hHeld
    have BG := Lib.hid (Blk.new w9 29 #[.slice qd.ex x.d.exits.length qd.exc, .slice qd.pl x.d.players.length qd.plc, .slice qd.co x.d.coins.length qd.coc, .slice qd.it x.d.items.length qd.itc, .slice qd.bo x.d.boxes.length qd.boc, .int .i64 x.d.room, .int .i64 x.d.player, .int .i64 x.d.box, .slice qa x.at_.length qac, .slice qk x.coins.length qkc, .slice qw x.wher.length qwc])
    have BV := Lib.hid (Below.alloc HB9.out HB9.out.size (.cells #[.slice qd.ex x.d.exits.length qd.exc, .slice qd.pl x.d.players.length qd.plc, .slice qd.co x.d.coins.length qd.coc, .slice qd.it x.d.items.length qd.itc, .slice qd.bo x.d.boxes.length qd.boc, .int .i64 x.d.room, .int .i64 x.d.player, .int .i64 x.d.box, .slice qa x.at_.length qac, .slice qk x.coins.length qkc, .slice qw x.wher.length qwc] 29))
    have TV := Lib.hid ((TK.out.less HS.out).call ((Below.refl _ _).alloc (Nat.le_refl _) (.cells #[.slice qd.ex x.d.exits.length qd.exc, .slice qd.pl x.d.players.length qd.plc, .slice qd.co x.d.coins.length qd.coc, .slice qd.it x.d.items.length qd.itc, .slice qd.bo x.d.boxes.length qd.boc, .int .i64 x.d.room, .int .i64 x.d.player, .int .i64 x.d.box, .slice qa x.at_.length qac, .slice qk x.coins.length qkc, .slice qw x.wher.length qwc] 29)))
    clear HB9 TK HS
    generalize w9.alloc (.cells #[.slice qd.ex x.d.exits.length qd.exc, .slice qd.pl x.d.players.length qd.plc, .slice qd.co x.d.coins.length qd.coc, .slice qd.it x.d.items.length qd.itc, .slice qd.bo x.d.boxes.length qd.boc, .int .i64 x.d.room, .int .i64 x.d.player, .int .i64 x.d.box, .slice qa x.at_.length qac, .slice qk x.coins.length qkc, .slice qw x.wher.length qwc] 29) = VV at *
    obtain ⟨rb, hrb⟩ : ∃ rb, w9.heap.size = rb := ⟨_, rfl⟩
    rw [hrb] at BG ⊢
    clear hrb KS
    have H5 := Lib.hid (H_4.out.call BV.out)
    have O5 := Lib.hid (O_4.out.call BV.out)
    have OW5 := Lib.hid (OWV.out.call BV.out)
    have cH := H5.out.2.2
    have lH := H5.out.2.1
    have cO := O5.out.2.2
    have lO := O5.out.2.1
    go_wp2_with fail
    clear cH lH cO lO
    have KS : Hid (∀ w', Below VV.heap.size VV w' → Below VV.heap.size VV w' ∧ (∀ i, w'.cell? ⟨w.heap.size, i, none⟩ = (#[.slice p.d.ex x.d.exits.length p.d.exc, .slice p.d.pl x.d.players.length p.d.plc, .slice p.d.co x.d.coins.length p.d.coc, .slice p.d.it x.d.items.length p.d.itc, .slice p.d.bo x.d.boxes.length p.d.boc, .int .i64 x.d.room, .int .i64 x.d.player, .int .i64 x.d.box, .slice p.at_ x.at_.length p.atc, .slice p.co x.coins.length p.coc, .slice p.wh x.wher.length p.whc][i]? : Option Value)) ∧ (∀ i, w'.cell? ⟨w3.heap.size, i, none⟩ = (#[.slice p2.d.ex x.d.exits.length p2.d.exc, .slice p2.d.pl x.d.players.length p2.d.plc, .slice p2.d.co x.d.coins.length p2.d.coc, .slice p2.d.it x.d.items.length p2.d.itc, .slice p2.d.bo x.d.boxes.length p2.d.boc, .int .i64 x.d.room, .int .i64 x.d.player, .int .i64 x.d.box, .slice p2.at_ x.at_.length p2.atc, .slice p2.co x.coins.length p2.coc, .slice p2.wh x.wher.length p2.whc][i]? : Option Value))) := Lib.hid (fun w' hb => ⟨hb, fun i => (hb.cell (p := ⟨w.heap.size, i, none⟩) H5.out.2.1).trans (H5.out.2.2 i), fun i => (hb.cell (p := ⟨w3.heap.size, i, none⟩) O5.out.2.1).trans (O5.out.2.2 i)⟩)
    refine wp_region_noPanic ?_
    refine wp_region_held_drew (S := (fun w' => Below VV.heap.size VV w' ∧ (∀ i, w'.cell? ⟨w.heap.size, i, none⟩ = (#[.slice p.d.ex x.d.exits.length p.d.exc, .slice p.d.pl x.d.players.length p.d.plc, .slice p.d.co x.d.coins.length p.d.coc, .slice p.d.it x.d.items.length p.d.itc, .slice p.d.bo x.d.boxes.length p.d.boc, .int .i64 x.d.room, .int .i64 x.d.player, .int .i64 x.d.box, .slice p.at_ x.at_.length p.atc, .slice p.co x.coins.length p.coc, .slice p.wh x.wher.length p.whc][i]? : Option Value)) ∧ (∀ i, w'.cell? ⟨w3.heap.size, i, none⟩ = (#[.slice p2.d.ex x.d.exits.length p2.d.exc, .slice p2.d.pl x.d.players.length p2.d.plc, .slice p2.d.co x.d.coins.length p2.d.coc, .slice p2.d.it x.d.items.length p2.d.itc, .slice p2.d.bo x.d.boxes.length p2.d.boc, .int .i64 x.d.room, .int .i64 x.d.player, .int .i64 x.d.box, .slice p2.at_ x.at_.length p2.atc, .slice p2.co x.coins.length p2.coc, .slice p2.wh x.wher.length p2.whc][i]? : Option Value)))) (by kernel_rfl) (by (first | (with_reducible exact KS.out _ (bdrew1 (Below.refl _ _))))) (fun hHeld => ?_)
    refine wpAnyH_take (i := 0) (v := ?_) (by simp only [List.getElem?_toArray, List.getElem?_cons_zero]; rfl) (by kernel_rfl) (by kernel_rfl) (by kernel_rfl) (fun _ _ _ h => h) (Or.inl ⟨by rfl, ?_⟩) (by assumption) ?_
    rotate_left
    · (intro ww hSw; (try dsimp only at hSw); go_simp; (try with_reducible rfl))
    try simp only [Act.put, List.setIfInBounds_toArray, List.set_cons_zero, List.set_cons_succ]
    refine wpAnyH_take (i := 1) (v := ?_) (by simp only [List.getElem?_toArray, List.getElem?_cons_succ, List.getElem?_cons_zero]; rfl) (by kernel_rfl) (by kernel_rfl) (by kernel_rfl) (fun _ _ _ h => h) (Or.inl ⟨by rfl, ?_⟩) (by assumption) ?_
    rotate_left
    · (intro ww hSw; (try dsimp only at hSw); go_simp; (try with_reducible rfl))
    try simp only [Act.put, List.setIfInBounds_toArray, List.set_cons_zero, List.set_cons_succ]
    refine wpAnyH_take (i := 2) (v := ?_) (by simp only [List.getElem?_toArray, List.getElem?_cons_succ, List.getElem?_cons_zero]; rfl) (by kernel_rfl) (by kernel_rfl) (by kernel_rfl) (fun _ _ _ h => h) (Or.inl ⟨by rfl, ?_⟩) (by assumption) ?_
    rotate_left
    · (intro ww hSw; (try dsimp only at hSw); go_simp; (try with_reducible rfl))
    try simp only [Act.put, List.setIfInBounds_toArray, List.set_cons_zero, List.set_cons_succ]
    refine wpAnyH_take (i := 3) (v := ?_) (by simp only [List.getElem?_toArray, List.getElem?_cons_succ, List.getElem?_cons_zero]; rfl) (by kernel_rfl) (by kernel_rfl) (by kernel_rfl) (fun _ _ _ h => h) (Or.inl ⟨by rfl, ?_⟩) (by assumption) ?_
    rotate_left
    · (intro ww hSw; (try dsimp only at hSw); go_simp; (try with_reducible rfl))
    try simp only [Act.put, List.setIfInBounds_toArray, List.set_cons_zero, List.set_cons_succ]
    refine wpAnyH_take (i := 4) (v := ?_) (by simp only [List.getElem?_toArray, List.getElem?_cons_succ, List.getElem?_cons_zero]; rfl) (by kernel_rfl) (by kernel_rfl) (by kernel_rfl) (fun _ _ _ h => h) (Or.inl ⟨by rfl, ?_⟩) (by assumption) ?_
    rotate_left
    · (intro ww hSw; (try dsimp only at hSw); go_simp; (try with_reducible rfl))
    try simp only [Act.put, List.setIfInBounds_toArray, List.set_cons_zero, List.set_cons_succ]
    refine wpAnyH_take (i := 5) (v := ?_) (by simp only [List.getElem?_toArray, List.getElem?_cons_succ, List.getElem?_cons_zero]; rfl) (by kernel_rfl) (by kernel_rfl) (by kernel_rfl) (fun _ _ _ h => h) (Or.inl ⟨by rfl, ?_⟩) (by assumption) ?_
    rotate_left
    · (intro ww hSw; (try dsimp only at hSw); go_simp; (try with_reducible rfl))
    try simp only [Act.put, List.setIfInBounds_toArray, List.set_cons_zero, List.set_cons_succ]
    refine wpAnyH_take (i := 6) (v := ?_) (by simp only [List.getElem?_toArray, List.getElem?_cons_succ, List.getElem?_cons_zero]; rfl) (by kernel_rfl) (by kernel_rfl) (by kernel_rfl) (fun _ _ _ h => h) (Or.inl ⟨by rfl, ?_⟩) (by assumption) ?_
    rotate_left
    · (intro ww hSw; (try dsimp only at hSw); go_simp; (try with_reducible rfl))
    try simp only [Act.put, List.setIfInBounds_toArray, List.set_cons_zero, List.set_cons_succ]
    refine wpAnyH_take (i := 7) (v := ?_) (by simp only [List.getElem?_toArray, List.getElem?_cons_succ, List.getElem?_cons_zero]; rfl) (by kernel_rfl) (by kernel_rfl) (by kernel_rfl) (fun _ _ _ h => h) (Or.inl ⟨by rfl, ?_⟩) (by assumption) ?_
    rotate_left
    · (intro ww hSw; (try dsimp only at hSw); go_simp; (try with_reducible rfl))
    try simp only [Act.put, List.setIfInBounds_toArray, List.set_cons_zero, List.set_cons_succ]
    refine wpAnyH_take (i := 8) (v := ?_) (by simp only [List.getElem?_toArray, List.getElem?_cons_succ, List.getElem?_cons_zero]; rfl) (by kernel_rfl) (by kernel_rfl) (by kernel_rfl) (fun _ _ _ h => h) (Or.inl ⟨by rfl, ?_⟩) (by assumption) ?_
    rotate_left
    · (intro ww hSw; (try dsimp only at hSw); go_simp; (try with_reducible rfl))
    try simp only [Act.put, List.setIfInBounds_toArray, List.set_cons_zero, List.set_cons_succ]
    refine wpAnyH_ready (rs := [9]) (by kernel_rfl) (by simp) (AllReadyH.cons (by simp only [List.getElem?_toArray, List.getElem?_cons_succ, List.getElem?_cons_zero]; rfl) (fun K hK => ?_) AllReadyH.nil)
    go_simp
    go_at_call 12; with_reducible refine (btake_any x p2 i item box _ FT.out.right (OW5.out.below hHeld.1 (Nat.le_refl _)) hil).mono ?_; rintro e8 w8 ⟨qz, rfl, -, hb8⟩; have HB6 := Lib.hid (below_call hHeld.1 hHeld.1.size hb8); clear hb8
    try go_wp2_with fail
    refine hK.out _ _ (by (first | (with_reducible exact KS.out _ HB6.out))) (fun hHeld => ?_)
    clear hK K
    try simp only [Act.put, List.setIfInBounds_toArray, List.set_cons_zero, List.set_cons_succ]
    refine wpAnyH_done (by kernel_rfl) ?_ _
    refine NoPanic.normal ?_
    clear hHeld KS
    have H6 := Lib.hid (H5.out.call HB6.out)
    have O6 := Lib.hid (O5.out.call HB6.out)
    have BG6 := Lib.hid (BG.out.call HB6.out)
    have BV6 := Lib.hid (below_call BV.out BV.out.size HB6.out)
    have TV6 := Lib.hid (TV.out.call HB6.out)
    clear H5 O5 OW5 BG BV TV HB6
    have cH := H6.out.2.2
    have lH := H6.out.2.1
    have cO := O6.out.2.2
    have lO := O6.out.2.1
    go_wp2_with fail
    clear cH lH cO lO
    refine (rsame_yes (Shape.refl x) (Shape.refl x) rfl p2 p _ (OWV.out.call BV6.out) (WI.out.call BV6.out)).mono ?_
    rintro e7 w7 ⟨rfl, b7⟩
    have BE := Lib.hid (bl H6.out.1 b7)
    clear b7
    go_wp2_with fail
    go_ret
    exact ⟨rfl, BE.out⟩
  · skip
    go_simp
    try go_wp2_with fail
    refine hK.out _ _ (by (first | (with_reducible exact KS.out _ (bdrew1 (Below.alloc (Below.refl _ _) (Nat.le_refl _) _))))) (fun hHeld => ?_)
    clear hK K
    try simp only [Act.put, List.setIfInBounds_toArray, List.set_cons_zero, List.set_cons_succ]
    refine wpAnyH_ready (rs := [9]) (by kernel_rfl) (by simp) (AllReadyH.cons (by simp only [List.getElem?_toArray, List.getElem?_cons_succ, List.getElem?_cons_zero]; rfl) (fun K hK => ?_) AllReadyH.nil)
    go_simp
    go_at_call 10; with_reducible refine (bput_any x p2 i item box _ FT.out.right (OWV.out.below hHeld.1 (Nat.le_refl _)) hil).mono ?_; rintro e9 w9 ⟨⟨qd, qa, qac, qk, qkc, qw, qwc⟩, rfl, tk, hb9⟩; rw [HR.out] at tk ⊢; have HB9 := Lib.hid (below_call hHeld.1 hHeld.1.size hb9); have TK := Lib.hid tk; have HS := Lib.hid hHeld.1.size; have BG0 := Lib.hid (show Blk w9 V3.heap.size 29 #[.slice none 0 0, .slice none 0 0, .slice none 0 0, .slice none 0 0, .slice none 0 0, .int .i64 0, .int .i64 0, .int .i64 0, .slice none 0 0, .slice none 0 0, .slice none 0 0] from (Blk.new V3 29 #[.slice none 0 0, .slice none 0 0, .slice none 0 0, .slice none 0 0, .slice none 0 0, .int .i64 0, .int .i64 0, .int .i64 0, .slice none 0 0, .slice none 0 0, .slice none 0 0]).drew.call hb9); have NB := Lib.hid (show V3.heap.size + 1 ≤ (V3.alloc (.cells #[.slice none 0 0, .slice none 0 0, .slice none 0 0, .slice none 0 0, .slice none 0 0, .int .i64 0, .int .i64 0, .int .i64 0, .slice none 0 0, .slice none 0 0, .slice none 0 0] 29)).drew.heap.size from by simp [World.drew]); have cg := BG0.out.cell; have lg := BG0.out.lt; have zg := BG0.out.frozen; clear tk hb9
    try go_wp2_with fail
    refine hK.out _ _ (by (first | (with_reducible exact KS.out _ HB9.out))) (fun hHeld => ?_)
    clear hK K
    try simp only [Act.put, List.setIfInBounds_toArray, List.set_cons_zero, List.set_cons_succ]
    refine wpAnyH_take (i := 10) (v := ?_) (by simp only [List.getElem?_toArray, List.getElem?_cons_succ, List.getElem?_cons_zero]; rfl) (by kernel_rfl) (by kernel_rfl) (by kernel_rfl) (fun _ _ _ h => h) (Or.inl ⟨by rfl, ?_⟩) (by assumption) ?_
    rotate_left
    · (intro ww hSw; (try dsimp only at hSw); go_simp; (try with_reducible rfl))
    try simp only [Act.put, List.setIfInBounds_toArray, List.set_cons_zero, List.set_cons_succ]
    refine wpAnyH_take (i := 11) (v := ?_) (by simp only [List.getElem?_toArray, List.getElem?_cons_succ, List.getElem?_cons_zero]; rfl) (by kernel_rfl) (by kernel_rfl) (by kernel_rfl) (fun _ _ _ h => h) (Or.inl ⟨by rfl, ?_⟩) (by assumption) ?_
    rotate_left
    · (intro ww hSw; (try dsimp only at hSw); go_simp; (try with_reducible rfl))
    try simp only [Act.put, List.setIfInBounds_toArray, List.set_cons_zero, List.set_cons_succ]
    refine wpAnyH_take (i := 12) (v := ?_) (by simp only [List.getElem?_toArray, List.getElem?_cons_succ, List.getElem?_cons_zero]; rfl) (by kernel_rfl) (by kernel_rfl) (by kernel_rfl) (fun _ _ _ h => h) (Or.inl ⟨by rfl, ?_⟩) (by assumption) ?_
    rotate_left
    · (intro ww hSw; (try dsimp only at hSw); go_simp; (try with_reducible rfl))
    try simp only [Act.put, List.setIfInBounds_toArray, List.set_cons_zero, List.set_cons_succ]
    refine wpAnyH_ready (rs := [14]) (by kernel_rfl) (by simp) (AllReadyH.cons (by simp only [List.getElem?_toArray, List.getElem?_cons_succ, List.getElem?_cons_zero]; rfl) (fun K hK => ?_) AllReadyH.nil)
    go_simp
    try go_wp2_with fail
    refine hK.out _ _ (by (first | ((with_reducible refine KS.out _ ?_); (iterate 11 with_reducible refine Below.setCell ?_ (by exact Nat.le_refl _) _); with_reducible exact HB9.out))) (fun hHeld => ?_)
    clear hK K
    try simp only [Act.put, List.setIfInBounds_toArray, List.set_cons_zero, List.set_cons_succ]
    refine wpAnyH_take (i := 15) (v := ?_) (by simp only [List.getElem?_toArray, List.getElem?_cons_succ, List.getElem?_cons_zero]; rfl) (by kernel_rfl) (by kernel_rfl) (by kernel_rfl) (fun _ _ _ h => h) (Or.inl ⟨by rfl, ?_⟩) (by assumption) ?_
    rotate_left
    · (intro ww hSw; (try dsimp only at hSw); go_simp; (try with_reducible rfl))
    try simp only [Act.put, List.setIfInBounds_toArray, List.set_cons_zero, List.set_cons_succ]
    refine wpAnyH_done (by kernel_rfl) ?_ _
    refine NoPanic.normal ?_
    clear hHeld cg lg zg
    have BG := Lib.hid (blk_eleven BG0.out (.slice qd.ex x.d.exits.length qd.exc) (.slice qd.pl x.d.players.length qd.plc) (.slice qd.co x.d.coins.length qd.coc) (.slice qd.it x.d.items.length qd.itc) (.slice qd.bo x.d.boxes.length qd.boc) (.int .i64 x.d.room) (.int .i64 x.d.player) (.int .i64 x.d.box) (.slice qa x.at_.length qac) (.slice qk x.coins.length qkc) (.slice qw x.wher.length qwc))
    have BV := Lib.hid (show Below V3.heap.size V3 (((((((((((w9.setCell ⟨V3.heap.size, 0, none⟩ (.slice qd.ex x.d.exits.length qd.exc)).setCell ⟨V3.heap.size, 1, none⟩ (.slice qd.pl x.d.players.length qd.plc)).setCell ⟨V3.heap.size, 2, none⟩ (.slice qd.co x.d.coins.length qd.coc)).setCell ⟨V3.heap.size, 3, none⟩ (.slice qd.it x.d.items.length qd.itc)).setCell ⟨V3.heap.size, 4, none⟩ (.slice qd.bo x.d.boxes.length qd.boc)).setCell ⟨V3.heap.size, 5, none⟩ (.int .i64 x.d.room)).setCell ⟨V3.heap.size, 6, none⟩ (.int .i64 x.d.player)).setCell ⟨V3.heap.size, 7, none⟩ (.int .i64 x.d.box)).setCell ⟨V3.heap.size, 8, none⟩ (.slice qa x.at_.length qac)).setCell ⟨V3.heap.size, 9, none⟩ (.slice qk x.coins.length qkc)).setCell ⟨V3.heap.size, 10, none⟩ (.slice qw x.wher.length qwc)) by (iterate 11 refine Below.setCell ?_ (by exact Nat.le_refl _) _); exact HB9.out)
    have TV := Lib.hid (show Took V3.heap.size (((((((((((w9.setCell ⟨V3.heap.size, 0, none⟩ (.slice qd.ex x.d.exits.length qd.exc)).setCell ⟨V3.heap.size, 1, none⟩ (.slice qd.pl x.d.players.length qd.plc)).setCell ⟨V3.heap.size, 2, none⟩ (.slice qd.co x.d.coins.length qd.coc)).setCell ⟨V3.heap.size, 3, none⟩ (.slice qd.it x.d.items.length qd.itc)).setCell ⟨V3.heap.size, 4, none⟩ (.slice qd.bo x.d.boxes.length qd.boc)).setCell ⟨V3.heap.size, 5, none⟩ (.int .i64 x.d.room)).setCell ⟨V3.heap.size, 6, none⟩ (.int .i64 x.d.player)).setCell ⟨V3.heap.size, 7, none⟩ (.int .i64 x.d.box)).setCell ⟨V3.heap.size, 8, none⟩ (.slice qa x.at_.length qac)).setCell ⟨V3.heap.size, 9, none⟩ (.slice qk x.coins.length qkc)).setCell ⟨V3.heap.size, 10, none⟩ (.slice qw x.wher.length qwc)) p2 ⟨qd, qa, qac, qk, qkc, qw, qwc⟩ x (y, e) by (refine Took.less (n := V3.heap.size + 1) ?_ (by omega)); (iterate 11 refine Took.set (b := V3.heap.size) ?_ (by omega) _ _); exact TK.out.less NB.out)
    clear HB9 TK HS BG0 NB
    generalize (((((((((((w9.setCell ⟨V3.heap.size, 0, none⟩ (.slice qd.ex x.d.exits.length qd.exc)).setCell ⟨V3.heap.size, 1, none⟩ (.slice qd.pl x.d.players.length qd.plc)).setCell ⟨V3.heap.size, 2, none⟩ (.slice qd.co x.d.coins.length qd.coc)).setCell ⟨V3.heap.size, 3, none⟩ (.slice qd.it x.d.items.length qd.itc)).setCell ⟨V3.heap.size, 4, none⟩ (.slice qd.bo x.d.boxes.length qd.boc)).setCell ⟨V3.heap.size, 5, none⟩ (.int .i64 x.d.room)).setCell ⟨V3.heap.size, 6, none⟩ (.int .i64 x.d.player)).setCell ⟨V3.heap.size, 7, none⟩ (.int .i64 x.d.box)).setCell ⟨V3.heap.size, 8, none⟩ (.slice qa x.at_.length qac)).setCell ⟨V3.heap.size, 9, none⟩ (.slice qk x.coins.length qkc)).setCell ⟨V3.heap.size, 10, none⟩ (.slice qw x.wher.length qwc)) = VV at *
    obtain ⟨rb, hrb⟩ : ∃ rb, V3.heap.size = rb := ⟨_, rfl⟩
    rw [hrb] at BG ⊢
    clear hrb KS
    have H5 := Lib.hid (H_4.out.call BV.out)
    have O5 := Lib.hid (O_4.out.call BV.out)
    have OW5 := Lib.hid (OWV.out.call BV.out)
    have cH := H5.out.2.2
    have lH := H5.out.2.1
    have cO := O5.out.2.2
    have lO := O5.out.2.1
    go_wp2_with fail
    clear cH lH cO lO
    have KS : Hid (∀ w', Below VV.heap.size VV w' → Below VV.heap.size VV w' ∧ (∀ i, w'.cell? ⟨w.heap.size, i, none⟩ = (#[.slice p.d.ex x.d.exits.length p.d.exc, .slice p.d.pl x.d.players.length p.d.plc, .slice p.d.co x.d.coins.length p.d.coc, .slice p.d.it x.d.items.length p.d.itc, .slice p.d.bo x.d.boxes.length p.d.boc, .int .i64 x.d.room, .int .i64 x.d.player, .int .i64 x.d.box, .slice p.at_ x.at_.length p.atc, .slice p.co x.coins.length p.coc, .slice p.wh x.wher.length p.whc][i]? : Option Value)) ∧ (∀ i, w'.cell? ⟨w3.heap.size, i, none⟩ = (#[.slice p2.d.ex x.d.exits.length p2.d.exc, .slice p2.d.pl x.d.players.length p2.d.plc, .slice p2.d.co x.d.coins.length p2.d.coc, .slice p2.d.it x.d.items.length p2.d.itc, .slice p2.d.bo x.d.boxes.length p2.d.boc, .int .i64 x.d.room, .int .i64 x.d.player, .int .i64 x.d.box, .slice p2.at_ x.at_.length p2.atc, .slice p2.co x.coins.length p2.coc, .slice p2.wh x.wher.length p2.whc][i]? : Option Value))) := Lib.hid (fun w' hb => ⟨hb, fun i => (hb.cell (p := ⟨w.heap.size, i, none⟩) H5.out.2.1).trans (H5.out.2.2 i), fun i => (hb.cell (p := ⟨w3.heap.size, i, none⟩) O5.out.2.1).trans (O5.out.2.2 i)⟩)
    refine wp_region_noPanic ?_
    refine wp_region_held_drew (S := (fun w' => Below VV.heap.size VV w' ∧ (∀ i, w'.cell? ⟨w.heap.size, i, none⟩ = (#[.slice p.d.ex x.d.exits.length p.d.exc, .slice p.d.pl x.d.players.length p.d.plc, .slice p.d.co x.d.coins.length p.d.coc, .slice p.d.it x.d.items.length p.d.itc, .slice p.d.bo x.d.boxes.length p.d.boc, .int .i64 x.d.room, .int .i64 x.d.player, .int .i64 x.d.box, .slice p.at_ x.at_.length p.atc, .slice p.co x.coins.length p.coc, .slice p.wh x.wher.length p.whc][i]? : Option Value)) ∧ (∀ i, w'.cell? ⟨w3.heap.size, i, none⟩ = (#[.slice p2.d.ex x.d.exits.length p2.d.exc, .slice p2.d.pl x.d.players.length p2.d.plc, .slice p2.d.co x.d.coins.length p2.d.coc, .slice p2.d.it x.d.items.length p2.d.itc, .slice p2.d.bo x.d.boxes.length p2.d.boc, .int .i64 x.d.room, .int .i64 x.d.player, .int .i64 x.d.box, .slice p2.at_ x.at_.length p2.atc, .slice p2.co x.coins.length p2.coc, .slice p2.wh x.wher.length p2.whc][i]? : Option Value)))) (by kernel_rfl) (by (first | (with_reducible exact KS.out _ (bdrew1 (Below.refl _ _))))) (fun hHeld => ?_)
    refine wpAnyH_take (i := 0) (v := ?_) (by simp only [List.getElem?_toArray, List.getElem?_cons_zero]; rfl) (by kernel_rfl) (by kernel_rfl) (by kernel_rfl) (fun _ _ _ h => h) (Or.inl ⟨by rfl, ?_⟩) (by assumption) ?_
    rotate_left
    · (intro ww hSw; (try dsimp only at hSw); go_simp; (try with_reducible rfl))
    try simp only [Act.put, List.setIfInBounds_toArray, List.set_cons_zero, List.set_cons_succ]
    refine wpAnyH_take (i := 1) (v := ?_) (by simp only [List.getElem?_toArray, List.getElem?_cons_succ, List.getElem?_cons_zero]; rfl) (by kernel_rfl) (by kernel_rfl) (by kernel_rfl) (fun _ _ _ h => h) (Or.inl ⟨by rfl, ?_⟩) (by assumption) ?_
    rotate_left
    · (intro ww hSw; (try dsimp only at hSw); go_simp; (try with_reducible rfl))
    try simp only [Act.put, List.setIfInBounds_toArray, List.set_cons_zero, List.set_cons_succ]
    refine wpAnyH_take (i := 2) (v := ?_) (by simp only [List.getElem?_toArray, List.getElem?_cons_succ, List.getElem?_cons_zero]; rfl) (by kernel_rfl) (by kernel_rfl) (by kernel_rfl) (fun _ _ _ h => h) (Or.inl ⟨by rfl, ?_⟩) (by assumption) ?_
    rotate_left
    · (intro ww hSw; (try dsimp only at hSw); go_simp; (try with_reducible rfl))
    try simp only [Act.put, List.setIfInBounds_toArray, List.set_cons_zero, List.set_cons_succ]
    refine wpAnyH_take (i := 3) (v := ?_) (by simp only [List.getElem?_toArray, List.getElem?_cons_succ, List.getElem?_cons_zero]; rfl) (by kernel_rfl) (by kernel_rfl) (by kernel_rfl) (fun _ _ _ h => h) (Or.inl ⟨by rfl, ?_⟩) (by assumption) ?_
    rotate_left
    · (intro ww hSw; (try dsimp only at hSw); go_simp; (try with_reducible rfl))
    try simp only [Act.put, List.setIfInBounds_toArray, List.set_cons_zero, List.set_cons_succ]
    refine wpAnyH_take (i := 4) (v := ?_) (by simp only [List.getElem?_toArray, List.getElem?_cons_succ, List.getElem?_cons_zero]; rfl) (by kernel_rfl) (by kernel_rfl) (by kernel_rfl) (fun _ _ _ h => h) (Or.inl ⟨by rfl, ?_⟩) (by assumption) ?_
    rotate_left
    · (intro ww hSw; (try dsimp only at hSw); go_simp; (try with_reducible rfl))
    try simp only [Act.put, List.setIfInBounds_toArray, List.set_cons_zero, List.set_cons_succ]
    refine wpAnyH_take (i := 5) (v := ?_) (by simp only [List.getElem?_toArray, List.getElem?_cons_succ, List.getElem?_cons_zero]; rfl) (by kernel_rfl) (by kernel_rfl) (by kernel_rfl) (fun _ _ _ h => h) (Or.inl ⟨by rfl, ?_⟩) (by assumption) ?_
    rotate_left
    · (intro ww hSw; (try dsimp only at hSw); go_simp; (try with_reducible rfl))
    try simp only [Act.put, List.setIfInBounds_toArray, List.set_cons_zero, List.set_cons_succ]
    refine wpAnyH_take (i := 6) (v := ?_) (by simp only [List.getElem?_toArray, List.getElem?_cons_succ, List.getElem?_cons_zero]; rfl) (by kernel_rfl) (by kernel_rfl) (by kernel_rfl) (fun _ _ _ h => h) (Or.inl ⟨by rfl, ?_⟩) (by assumption) ?_
    rotate_left
    · (intro ww hSw; (try dsimp only at hSw); go_simp; (try with_reducible rfl))
    try simp only [Act.put, List.setIfInBounds_toArray, List.set_cons_zero, List.set_cons_succ]
    refine wpAnyH_take (i := 7) (v := ?_) (by simp only [List.getElem?_toArray, List.getElem?_cons_succ, List.getElem?_cons_zero]; rfl) (by kernel_rfl) (by kernel_rfl) (by kernel_rfl) (fun _ _ _ h => h) (Or.inl ⟨by rfl, ?_⟩) (by assumption) ?_
    rotate_left
    · (intro ww hSw; (try dsimp only at hSw); go_simp; (try with_reducible rfl))
    try simp only [Act.put, List.setIfInBounds_toArray, List.set_cons_zero, List.set_cons_succ]
    refine wpAnyH_take (i := 8) (v := ?_) (by simp only [List.getElem?_toArray, List.getElem?_cons_succ, List.getElem?_cons_zero]; rfl) (by kernel_rfl) (by kernel_rfl) (by kernel_rfl) (fun _ _ _ h => h) (Or.inl ⟨by rfl, ?_⟩) (by assumption) ?_
    rotate_left
    · (intro ww hSw; (try dsimp only at hSw); go_simp; (try with_reducible rfl))
    try simp only [Act.put, List.setIfInBounds_toArray, List.set_cons_zero, List.set_cons_succ]
    refine wpAnyH_ready (rs := [9]) (by kernel_rfl) (by simp) (AllReadyH.cons (by simp only [List.getElem?_toArray, List.getElem?_cons_succ, List.getElem?_cons_zero]; rfl) (fun K hK => ?_) AllReadyH.nil)
    go_simp
    go_at_call 12; with_reducible refine (btake_any x p2 i item box _ FT.out.right (OW5.out.below hHeld.1 (Nat.le_refl _)) hil).mono ?_; rintro e8 w8 ⟨qz, rfl, -, hb8⟩; have HB6 := Lib.hid (below_call hHeld.1 hHeld.1.size hb8); clear hb8
    try go_wp2_with fail
    refine hK.out _ _ (by (first | (with_reducible exact KS.out _ HB6.out))) (fun hHeld => ?_)
    clear hK K
    try simp only [Act.put, List.setIfInBounds_toArray, List.set_cons_zero, List.set_cons_succ]
    refine wpAnyH_done (by kernel_rfl) ?_ _
    refine NoPanic.normal ?_
    clear hHeld KS
    have H6 := Lib.hid (H5.out.call HB6.out)
    have O6 := Lib.hid (O5.out.call HB6.out)
    have BG6 := Lib.hid (BG.out.call HB6.out)
    have BV6 := Lib.hid (below_call BV.out BV.out.size HB6.out)
    have TV6 := Lib.hid (TV.out.call HB6.out)
    clear H5 O5 OW5 BG BV TV HB6
    have cH := H6.out.2.2
    have lH := H6.out.2.1
    have cO := O6.out.2.2
    have lO := O6.out.2.1
    go_wp2_with fail
    clear cH lH cO lO
    refine (rsame_yes (Shape.refl x) (Shape.refl x) rfl p2 p _ (OWV.out.call BV6.out) (WI.out.call BV6.out)).mono ?_
    rintro e7 w7 ⟨rfl, b7⟩
    have BE := Lib.hid (bl H6.out.1 b7)
    clear b7
    go_wp2_with fail
    go_ret
    exact ⟨rfl, BE.out⟩
set_option maxRecDepth 100000 in
set_option maxHeartbeats 2000000 in
theorem boxesHold_yes (x : Wd) (p : Wp) (a i : Nat) (item box : Int) (haa : a ≤ 255) (hi : a % x.at_.length = i) (w : World) (h : WorldAt w p x) (hf : fitsB x = true) (y : Wd) (e : Int) (hR : boxW x i item box = (y, e)) (he : e = 0) (hin : 0 < x.wher.length) : Calls Try.prog 5 #[.agg #[.slice p.d.ex x.d.exits.length p.d.exc, .slice p.d.pl x.d.players.length p.d.plc, .slice p.d.co x.d.coins.length p.d.coc, .slice p.d.it x.d.items.length p.d.itc, .slice p.d.bo x.d.boxes.length p.d.boc, .int .i64 x.d.room, .int .i64 x.d.player, .int .i64 x.d.box, .slice p.at_ x.at_.length p.atc, .slice p.co x.coins.length p.coc, .slice p.wh x.wher.length p.whc], .int .u8 (a : Int), .int .i64 item, .int .i64 box] w fun e w' => e = .returned (.bool true) ∧ Below w.heap.size w w' := by
  have r1 := run_tmod7 a x.at_.length
  have m1 := run_mod7 a x.at_.length
  rw [hi] at r1 m1
  have FT := Lib.hid (fits_fit hf)
  have hlp : 0 < x.at_.length := (right_lens FT.out.right).1
  have hne : ¬ x.at_ = [] := List.length_pos_iff.1 hlp
  have hil : i < x.at_.length := by rw [← hi]; exact Nat.mod_lt _ hlp
  have hlen6 := (right_lens FT.out.right).2.1
  have hcl : 0 < x.coins.length := by rw [(right_lens FT.out.right).2.2.1]; exact hlp
  have hdw : IntKind.i64.wrap (a : Int) = (a : Int) := IntWalk.i64_in _ (by omega)
  have SY := Lib.hid (show Shape x y by have := box_shape x i item box; rwa [hR] at this)
  have HR := Lib.hid hR
  have HLP := Lib.hid hlp
  have HCL := Lib.hid hcl
  have hlen := h.wh.len
  subst he
  have HIN := Lib.hid hin
  clear hin
  clear hi hlp hcl hR
  have H_0 := Lib.hid (Holds.new w #[.slice p.d.ex x.d.exits.length p.d.exc, .slice p.d.pl x.d.players.length p.d.plc, .slice p.d.co x.d.coins.length p.d.coc, .slice p.d.it x.d.items.length p.d.itc, .slice p.d.bo x.d.boxes.length p.d.boc, .int .i64 x.d.room, .int .i64 x.d.player, .int .i64 x.d.box, .slice p.at_ x.at_.length p.atc, .slice p.co x.coins.length p.coc, .slice p.wh x.wher.length p.whc] 29)
  have HF := Lib.hid hf
  have HWA := Lib.hid h
  clear hf h
  go_enter Try.func5, Try.ntmps5
  go_wp2_with fail
  generalize w.alloc (.cells #[.slice p.d.ex x.d.exits.length p.d.exc, .slice p.d.pl x.d.players.length p.d.plc, .slice p.d.co x.d.coins.length p.d.coc, .slice p.d.it x.d.items.length p.d.itc, .slice p.d.bo x.d.boxes.length p.d.boc, .int .i64 x.d.room, .int .i64 x.d.player, .int .i64 x.d.box, .slice p.at_ x.at_.length p.atc, .slice p.co x.coins.length p.coc, .slice p.wh x.wher.length p.whc] 29) = V0 at *
  have B_0 := Lib.hid H_0.out.1
  refine (awake10_any _).mono ?_
  rintro e u1 ⟨rfl, b1⟩
  have B_1 := Lib.hid (bl B_0.out b1)
  have H_1 := Lib.hid (H_0.out.call b1)
  clear b1 B_0 H_0
  have hcH := H_1.out.2.2
  have hlH := H_1.out.2.1
  go_wp2_with fail
  refine (fits10_any x p _ (HWA.out.below H_1.out.1 (Nat.le_refl _))).mono ?_
  rintro e u2 ⟨rfl, b2⟩
  rw [HF.out]
  clear hcH hlH
  have B_2 := Lib.hid (bl B_1.out b2)
  have H_2 := Lib.hid (H_1.out.call b2)
  clear b2 B_1 H_1
  have hcH := H_2.out.2.2
  have hlH := H_2.out.2.1
  go_wp2_with fail
  clear hcH hlH
  refine (copied_own3 x p _ (HWA.out.below B_2.out (Nat.le_refl _)) (right_fewW9 FT.out.right)).mono ?_
  rintro e0 w3 ⟨p2, rfl, g3, b3, -⟩
  have B_3 := Lib.hid (bl B_2.out b3)
  have H_3 := Lib.hid (H_2.out.call b3)
  have OW_3 := Lib.hid g3
  clear g3 b3 B_2 H_2
  go_wp2_with fail
  have s4 : (w3.alloc (.cells #[.slice p2.d.ex x.d.exits.length p2.d.exc, .slice p2.d.pl x.d.players.length p2.d.plc, .slice p2.d.co x.d.coins.length p2.d.coc, .slice p2.d.it x.d.items.length p2.d.itc, .slice p2.d.bo x.d.boxes.length p2.d.boc, .int .i64 x.d.room, .int .i64 x.d.player, .int .i64 x.d.box, .slice p2.at_ x.at_.length p2.atc, .slice p2.co x.coins.length p2.coc, .slice p2.wh x.wher.length p2.whc] 29)).heap.size = w3.heap.size + 1 := by simp
  have B_4 := Lib.hid (B_3.out.alloc B_3.out.size (.cells #[.slice p2.d.ex x.d.exits.length p2.d.exc, .slice p2.d.pl x.d.players.length p2.d.plc, .slice p2.d.co x.d.coins.length p2.d.coc, .slice p2.d.it x.d.items.length p2.d.itc, .slice p2.d.bo x.d.boxes.length p2.d.boc, .int .i64 x.d.room, .int .i64 x.d.player, .int .i64 x.d.box, .slice p2.at_ x.at_.length p2.atc, .slice p2.co x.coins.length p2.coc, .slice p2.wh x.wher.length p2.whc] 29))
  have H_4 := Lib.hid (H_3.out.alloc (.cells #[.slice p2.d.ex x.d.exits.length p2.d.exc, .slice p2.d.pl x.d.players.length p2.d.plc, .slice p2.d.co x.d.coins.length p2.d.coc, .slice p2.d.it x.d.items.length p2.d.itc, .slice p2.d.bo x.d.boxes.length p2.d.boc, .int .i64 x.d.room, .int .i64 x.d.player, .int .i64 x.d.box, .slice p2.at_ x.at_.length p2.atc, .slice p2.co x.coins.length p2.coc, .slice p2.wh x.wher.length p2.whc] 29))
  have OW_4 := Lib.hid (OW_3.out.call ((Below.refl _ _).alloc (Nat.le_refl _) (.cells #[.slice p2.d.ex x.d.exits.length p2.d.exc, .slice p2.d.pl x.d.players.length p2.d.plc, .slice p2.d.co x.d.coins.length p2.d.coc, .slice p2.d.it x.d.items.length p2.d.itc, .slice p2.d.bo x.d.boxes.length p2.d.boc, .int .i64 x.d.room, .int .i64 x.d.player, .int .i64 x.d.box, .slice p2.at_ x.at_.length p2.atc, .slice p2.co x.coins.length p2.coc, .slice p2.wh x.wher.length p2.whc] 29)))
  have O_4 := Lib.hid (Holds.newb (w := w) (A := #[.slice p2.d.ex x.d.exits.length p2.d.exc, .slice p2.d.pl x.d.players.length p2.d.plc, .slice p2.d.co x.d.coins.length p2.d.coc, .slice p2.d.it x.d.items.length p2.d.itc, .slice p2.d.bo x.d.boxes.length p2.d.boc, .int .i64 x.d.room, .int .i64 x.d.player, .int .i64 x.d.box, .slice p2.at_ x.at_.length p2.atc, .slice p2.co x.coins.length p2.coc, .slice p2.wh x.wher.length p2.whc]) (t := 29) (n := w3.heap.size) B_3.out rfl)
  clear B_3 H_3 OW_3
  generalize w3.alloc (.cells #[.slice p2.d.ex x.d.exits.length p2.d.exc, .slice p2.d.pl x.d.players.length p2.d.plc, .slice p2.d.co x.d.coins.length p2.d.coc, .slice p2.d.it x.d.items.length p2.d.itc, .slice p2.d.bo x.d.boxes.length p2.d.boc, .int .i64 x.d.room, .int .i64 x.d.player, .int .i64 x.d.box, .slice p2.at_ x.at_.length p2.atc, .slice p2.co x.coins.length p2.coc, .slice p2.wh x.wher.length p2.whc] 29) = V3 at *
  clear s4
  have KS : Hid (∀ w', Below V3.heap.size V3 w' → Below V3.heap.size V3 w' ∧ (∀ ii, w'.cell? ⟨w.heap.size, ii, none⟩ = (#[.slice p.d.ex x.d.exits.length p.d.exc, .slice p.d.pl x.d.players.length p.d.plc, .slice p.d.co x.d.coins.length p.d.coc, .slice p.d.it x.d.items.length p.d.itc, .slice p.d.bo x.d.boxes.length p.d.boc, .int .i64 x.d.room, .int .i64 x.d.player, .int .i64 x.d.box, .slice p.at_ x.at_.length p.atc, .slice p.co x.coins.length p.coc, .slice p.wh x.wher.length p.whc][ii]? : Option Value)) ∧ (∀ ii, w'.cell? ⟨w3.heap.size, ii, none⟩ = (#[.slice p2.d.ex x.d.exits.length p2.d.exc, .slice p2.d.pl x.d.players.length p2.d.plc, .slice p2.d.co x.d.coins.length p2.d.coc, .slice p2.d.it x.d.items.length p2.d.itc, .slice p2.d.bo x.d.boxes.length p2.d.boc, .int .i64 x.d.room, .int .i64 x.d.player, .int .i64 x.d.box, .slice p2.at_ x.at_.length p2.atc, .slice p2.co x.coins.length p2.coc, .slice p2.wh x.wher.length p2.whc][ii]? : Option Value))) := Lib.hid (fun w' hb => ⟨hb, fun ii => (hb.cell (p := ⟨w.heap.size, ii, none⟩) H_4.out.2.1).trans (H_4.out.2.2 ii), fun ii => (hb.cell (p := ⟨w3.heap.size, ii, none⟩) O_4.out.2.1).trans (O_4.out.2.2 ii)⟩)
  have WI := Lib.hid (HWA.out.below B_4.out (Nat.le_refl _))
  have OWV := Lib.hid OW_4.out
  have BVV := Lib.hid B_4.out
  refine wp_region_noPanic ?_
  refine wp_region_held_drew (S := (fun w' => Below V3.heap.size V3 w' ∧ (∀ ii, w'.cell? ⟨w.heap.size, ii, none⟩ = (#[.slice p.d.ex x.d.exits.length p.d.exc, .slice p.d.pl x.d.players.length p.d.plc, .slice p.d.co x.d.coins.length p.d.coc, .slice p.d.it x.d.items.length p.d.itc, .slice p.d.bo x.d.boxes.length p.d.boc, .int .i64 x.d.room, .int .i64 x.d.player, .int .i64 x.d.box, .slice p.at_ x.at_.length p.atc, .slice p.co x.coins.length p.coc, .slice p.wh x.wher.length p.whc][ii]? : Option Value)) ∧ (∀ ii, w'.cell? ⟨w3.heap.size, ii, none⟩ = (#[.slice p2.d.ex x.d.exits.length p2.d.exc, .slice p2.d.pl x.d.players.length p2.d.plc, .slice p2.d.co x.d.coins.length p2.d.coc, .slice p2.d.it x.d.items.length p2.d.itc, .slice p2.d.bo x.d.boxes.length p2.d.boc, .int .i64 x.d.room, .int .i64 x.d.player, .int .i64 x.d.box, .slice p2.at_ x.at_.length p2.atc, .slice p2.co x.coins.length p2.coc, .slice p2.wh x.wher.length p2.whc][ii]? : Option Value)))) (by kernel_rfl) (by (first | (with_reducible exact KS.out _ (bdrew1 (Below.refl _ _))))) (fun hHeld => ?_)
  refine wpAnyH_take (i := 0) (v := ?_) (by simp only [List.getElem?_toArray, List.getElem?_cons_zero]; rfl) (by kernel_rfl) (by kernel_rfl) (by kernel_rfl) (fun _ _ _ h => h) (Or.inl ⟨by rfl, ?_⟩) (by assumption) ?_
  rotate_left
  · (intro ww hSw; (try dsimp only at hSw); go_simp; (try with_reducible rfl))
  try simp only [Act.put, List.setIfInBounds_toArray, List.set_cons_zero, List.set_cons_succ]
  refine wpAnyH_take (i := 1) (v := ?_) (by simp only [List.getElem?_toArray, List.getElem?_cons_succ, List.getElem?_cons_zero]; rfl) (by kernel_rfl) (by kernel_rfl) (by kernel_rfl) (fun _ _ _ h => h) (Or.inl ⟨by rfl, ?_⟩) (by assumption) ?_
  rotate_left
  · (intro ww hSw; (try dsimp only at hSw); go_simp; (try with_reducible rfl))
  try simp only [Act.put, List.setIfInBounds_toArray, List.set_cons_zero, List.set_cons_succ]
  refine wpAnyH_take (i := 2) (v := ?_) (by simp only [List.getElem?_toArray, List.getElem?_cons_succ, List.getElem?_cons_zero]; rfl) (by kernel_rfl) (by kernel_rfl) (by kernel_rfl) (fun _ _ _ h => h) (Or.inl ⟨by rfl, ?_⟩) (by assumption) ?_
  rotate_left
  · (intro ww hSw; (try dsimp only at hSw); go_simp; (try with_reducible rfl))
  try simp only [Act.put, List.setIfInBounds_toArray, List.set_cons_zero, List.set_cons_succ]
  refine wpAnyH_take (i := 3) (v := ?_) (by simp only [List.getElem?_toArray, List.getElem?_cons_succ, List.getElem?_cons_zero]; rfl) (by kernel_rfl) (by kernel_rfl) (by kernel_rfl) (fun _ _ _ h => h) (Or.inl ⟨by rfl, ?_⟩) (by assumption) ?_
  rotate_left
  · (intro ww hSw; (try dsimp only at hSw); go_simp; (try with_reducible rfl))
  try simp only [Act.put, List.setIfInBounds_toArray, List.set_cons_zero, List.set_cons_succ]
  refine wpAnyH_take (i := 4) (v := ?_) (by simp only [List.getElem?_toArray, List.getElem?_cons_succ, List.getElem?_cons_zero]; rfl) (by kernel_rfl) (by kernel_rfl) (by kernel_rfl) (fun _ _ _ h => h) (Or.inl ⟨by rfl, ?_⟩) (by assumption) ?_
  rotate_left
  · (intro ww hSw; (try dsimp only at hSw); go_simp; (try with_reducible rfl))
  try simp only [Act.put, List.setIfInBounds_toArray, List.set_cons_zero, List.set_cons_succ]
  refine wpAnyH_take (i := 5) (v := ?_) (by simp only [List.getElem?_toArray, List.getElem?_cons_succ, List.getElem?_cons_zero]; rfl) (by kernel_rfl) (by kernel_rfl) (by kernel_rfl) (fun _ _ _ h => h) (Or.inl ⟨by rfl, ?_⟩) (by assumption) ?_
  rotate_left
  · (intro ww hSw; (try dsimp only at hSw); go_simp; (try with_reducible rfl))
  try simp only [Act.put, List.setIfInBounds_toArray, List.set_cons_zero, List.set_cons_succ]
  refine wpAnyH_take (i := 6) (v := ?_) (by simp only [List.getElem?_toArray, List.getElem?_cons_succ, List.getElem?_cons_zero]; rfl) (by kernel_rfl) (by kernel_rfl) (by kernel_rfl) (fun _ _ _ h => h) (Or.inl ⟨by rfl, ?_⟩) (by assumption) ?_
  rotate_left
  · (intro ww hSw; (try dsimp only at hSw); go_simp; (try with_reducible rfl))
  try simp only [Act.put, List.setIfInBounds_toArray, List.set_cons_zero, List.set_cons_succ]
  refine wpAnyH_take (i := 7) (v := ?_) (by simp only [List.getElem?_toArray, List.getElem?_cons_succ, List.getElem?_cons_zero]; rfl) (by kernel_rfl) (by kernel_rfl) (by kernel_rfl) (fun _ _ _ h => h) (Or.inl ⟨by rfl, ?_⟩) (by assumption) ?_
  rotate_left
  · (intro ww hSw; (try dsimp only at hSw); go_simp; (try with_reducible rfl))
  try simp only [Act.put, List.setIfInBounds_toArray, List.set_cons_zero, List.set_cons_succ]
  refine wpAnyH_take (i := 8) (v := ?_) (by simp only [List.getElem?_toArray, List.getElem?_cons_succ, List.getElem?_cons_zero]; rfl) (by kernel_rfl) (by kernel_rfl) (by kernel_rfl) (fun _ _ _ h => h) (Or.inl ⟨by rfl, ?_⟩) (by assumption) ?_
  rotate_left
  · (intro ww hSw; (try dsimp only at hSw); go_simp; (try with_reducible rfl))
  try simp only [Act.put, List.setIfInBounds_toArray, List.set_cons_zero, List.set_cons_succ]
  refine wpAnyH_ready (rs := [9, 13]) (by kernel_rfl) (by simp) (AllReadyH.cons (by simp only [List.getElem?_toArray, List.getElem?_cons_succ, List.getElem?_cons_zero]; rfl) (fun K hK => ?_) (AllReadyH.cons (by simp only [List.getElem?_toArray, List.getElem?_cons_succ, List.getElem?_cons_zero]; rfl) (fun K hK => ?_) AllReadyH.nil))
  · skip
    go_simp
    go_at_call 10; with_reducible refine (bput_any x p2 i item box _ FT.out.right (OWV.out.below hHeld.1 (Nat.le_refl _)) hil).mono ?_; rintro e9 w9 ⟨⟨qd, qa, qac, qk, qkc, qw, qwc⟩, rfl, tk, hb9⟩; rw [HR.out] at tk ⊢; have HB9 := Lib.hid (below_call hHeld.1 hHeld.1.size hb9); have TK := Lib.hid tk; have HS := Lib.hid hHeld.1.size; clear tk hb9
    try go_wp2_with fail
    refine hK.out _ _ (by (first | (with_reducible exact KS.out _ HB9.out))) (fun hHeld => ?_)
    clear hK K
    try simp only [Act.put, List.setIfInBounds_toArray, List.set_cons_zero, List.set_cons_succ]
    refine wpAnyH_take (i := 10) (v := ?_) (by simp only [List.getElem?_toArray, List.getElem?_cons_succ, List.getElem?_cons_zero]; rfl) (by kernel_rfl) (by kernel_rfl) (by kernel_rfl) (fun _ _ _ h => h) (Or.inl ⟨by rfl, ?_⟩) (by assumption) ?_
    rotate_left
    · (intro ww hSw; (try dsimp only at hSw); go_simp; (try with_reducible rfl))
    try simp only [Act.put, List.setIfInBounds_toArray, List.set_cons_zero, List.set_cons_succ]
    refine wpAnyH_take (i := 11) (v := ?_) (by simp only [List.getElem?_toArray, List.getElem?_cons_succ, List.getElem?_cons_zero]; rfl) (by kernel_rfl) (by kernel_rfl) (by kernel_rfl) (fun _ _ _ h => h) (Or.inl ⟨by rfl, ?_⟩) (by assumption) ?_
    rotate_left
    · (intro ww hSw; (try dsimp only at hSw); go_simp; (try with_reducible rfl))
    try simp only [Act.put, List.setIfInBounds_toArray, List.set_cons_zero, List.set_cons_succ]
    refine wpAnyH_take (i := 12) (v := ?_) (by simp only [List.getElem?_toArray, List.getElem?_cons_succ, List.getElem?_cons_zero]; rfl) (by kernel_rfl) (by kernel_rfl) (by kernel_rfl) (fun _ _ _ h => h) (Or.inl ⟨by rfl, ?_⟩) (by assumption) ?_
    rotate_left
    · (intro ww hSw; (try dsimp only at hSw); go_simp; (try with_reducible rfl))
    try simp only [Act.put, List.setIfInBounds_toArray, List.set_cons_zero, List.set_cons_succ]
    refine wpAnyH_ready (rs := [13]) (by kernel_rfl) (by simp) (AllReadyH.cons (by simp only [List.getElem?_toArray, List.getElem?_cons_succ, List.getElem?_cons_zero]; rfl) (fun K hK => ?_) AllReadyH.nil)
    go_simp
    try go_wp2_with fail
    refine hK.out _ _ (by (first | (with_reducible exact KS.out _ (Below.alloc HB9.out HB9.out.size _)))) (fun hHeld => ?_)
    clear hK K
    try simp only [Act.put, List.setIfInBounds_toArray, List.set_cons_zero, List.set_cons_succ]
    refine wpAnyH_ready (rs := [14]) (by kernel_rfl) (by simp) (AllReadyH.cons (by simp only [List.getElem?_toArray, List.getElem?_cons_succ, List.getElem?_cons_zero]; rfl) (fun K hK => ?_) AllReadyH.nil)
    go_simp
    try go_wp2_with fail
    refine hK.out _ _ (by (first | (with_reducible exact KS.out _ (Below.alloc HB9.out HB9.out.size _)))) (fun hHeld => ?_)
    clear hK K
    try simp only [Act.put, List.setIfInBounds_toArray, List.set_cons_zero, List.set_cons_succ]
    refine wpAnyH_take (i := 15) (v := ?_) (by simp only [List.getElem?_toArray, List.getElem?_cons_succ, List.getElem?_cons_zero]; rfl) (by kernel_rfl) (by kernel_rfl) (by kernel_rfl) (fun _ _ _ h => h) (Or.inl ⟨by rfl, ?_⟩) (by assumption) ?_
    rotate_left
    · (intro ww hSw; (try dsimp only at hSw); go_simp; (try with_reducible rfl))
    try simp only [Act.put, List.setIfInBounds_toArray, List.set_cons_zero, List.set_cons_succ]
    refine wpAnyH_done (by kernel_rfl) ?_ _
    refine NoPanic.normal ?_
    clear hHeld
    have BG := Lib.hid (Blk.new w9 29 #[.slice qd.ex x.d.exits.length qd.exc, .slice qd.pl x.d.players.length qd.plc, .slice qd.co x.d.coins.length qd.coc, .slice qd.it x.d.items.length qd.itc, .slice qd.bo x.d.boxes.length qd.boc, .int .i64 x.d.room, .int .i64 x.d.player, .int .i64 x.d.box, .slice qa x.at_.length qac, .slice qk x.coins.length qkc, .slice qw x.wher.length qwc])
    have BV := Lib.hid (Below.alloc HB9.out HB9.out.size (.cells #[.slice qd.ex x.d.exits.length qd.exc, .slice qd.pl x.d.players.length qd.plc, .slice qd.co x.d.coins.length qd.coc, .slice qd.it x.d.items.length qd.itc, .slice qd.bo x.d.boxes.length qd.boc, .int .i64 x.d.room, .int .i64 x.d.player, .int .i64 x.d.box, .slice qa x.at_.length qac, .slice qk x.coins.length qkc, .slice qw x.wher.length qwc] 29))
    have TV := Lib.hid ((TK.out.less HS.out).call ((Below.refl _ _).alloc (Nat.le_refl _) (.cells #[.slice qd.ex x.d.exits.length qd.exc, .slice qd.pl x.d.players.length qd.plc, .slice qd.co x.d.coins.length qd.coc, .slice qd.it x.d.items.length qd.itc, .slice qd.bo x.d.boxes.length qd.boc, .int .i64 x.d.room, .int .i64 x.d.player, .int .i64 x.d.box, .slice qa x.at_.length qac, .slice qk x.coins.length qkc, .slice qw x.wher.length qwc] 29)))
    clear HB9 TK HS
    generalize w9.alloc (.cells #[.slice qd.ex x.d.exits.length qd.exc, .slice qd.pl x.d.players.length qd.plc, .slice qd.co x.d.coins.length qd.coc, .slice qd.it x.d.items.length qd.itc, .slice qd.bo x.d.boxes.length qd.boc, .int .i64 x.d.room, .int .i64 x.d.player, .int .i64 x.d.box, .slice qa x.at_.length qac, .slice qk x.coins.length qkc, .slice qw x.wher.length qwc] 29) = VV at *
    obtain ⟨rb, hrb⟩ : ∃ rb, w9.heap.size = rb := ⟨_, rfl⟩
    rw [hrb] at BG ⊢
    clear hrb KS
    have H5 := Lib.hid (H_4.out.call BV.out)
    have O5 := Lib.hid (O_4.out.call BV.out)
    have OW5 := Lib.hid (OWV.out.call BV.out)
    have cH := H5.out.2.2
    have lH := H5.out.2.1
    have cO := O5.out.2.2
    have lO := O5.out.2.1
    go_wp2_with fail
    clear cH lH cO lO
    have KS : Hid (∀ w', Below VV.heap.size VV w' → Below VV.heap.size VV w' ∧ (∀ i, w'.cell? ⟨w.heap.size, i, none⟩ = (#[.slice p.d.ex x.d.exits.length p.d.exc, .slice p.d.pl x.d.players.length p.d.plc, .slice p.d.co x.d.coins.length p.d.coc, .slice p.d.it x.d.items.length p.d.itc, .slice p.d.bo x.d.boxes.length p.d.boc, .int .i64 x.d.room, .int .i64 x.d.player, .int .i64 x.d.box, .slice p.at_ x.at_.length p.atc, .slice p.co x.coins.length p.coc, .slice p.wh x.wher.length p.whc][i]? : Option Value)) ∧ (∀ i, w'.cell? ⟨w3.heap.size, i, none⟩ = (#[.slice p2.d.ex x.d.exits.length p2.d.exc, .slice p2.d.pl x.d.players.length p2.d.plc, .slice p2.d.co x.d.coins.length p2.d.coc, .slice p2.d.it x.d.items.length p2.d.itc, .slice p2.d.bo x.d.boxes.length p2.d.boc, .int .i64 x.d.room, .int .i64 x.d.player, .int .i64 x.d.box, .slice p2.at_ x.at_.length p2.atc, .slice p2.co x.coins.length p2.coc, .slice p2.wh x.wher.length p2.whc][i]? : Option Value))) := Lib.hid (fun w' hb => ⟨hb, fun i => (hb.cell (p := ⟨w.heap.size, i, none⟩) H5.out.2.1).trans (H5.out.2.2 i), fun i => (hb.cell (p := ⟨w3.heap.size, i, none⟩) O5.out.2.1).trans (O5.out.2.2 i)⟩)
    refine wp_region_noPanic ?_
    refine wp_region_held_drew (S := (fun w' => Below VV.heap.size VV w' ∧ (∀ i, w'.cell? ⟨w.heap.size, i, none⟩ = (#[.slice p.d.ex x.d.exits.length p.d.exc, .slice p.d.pl x.d.players.length p.d.plc, .slice p.d.co x.d.coins.length p.d.coc, .slice p.d.it x.d.items.length p.d.itc, .slice p.d.bo x.d.boxes.length p.d.boc, .int .i64 x.d.room, .int .i64 x.d.player, .int .i64 x.d.box, .slice p.at_ x.at_.length p.atc, .slice p.co x.coins.length p.coc, .slice p.wh x.wher.length p.whc][i]? : Option Value)) ∧ (∀ i, w'.cell? ⟨w3.heap.size, i, none⟩ = (#[.slice p2.d.ex x.d.exits.length p2.d.exc, .slice p2.d.pl x.d.players.length p2.d.plc, .slice p2.d.co x.d.coins.length p2.d.coc, .slice p2.d.it x.d.items.length p2.d.itc, .slice p2.d.bo x.d.boxes.length p2.d.boc, .int .i64 x.d.room, .int .i64 x.d.player, .int .i64 x.d.box, .slice p2.at_ x.at_.length p2.atc, .slice p2.co x.coins.length p2.coc, .slice p2.wh x.wher.length p2.whc][i]? : Option Value)))) (by kernel_rfl) (by (first | (with_reducible exact KS.out _ (bdrew1 (Below.refl _ _))))) (fun hHeld => ?_)
    refine wpAnyH_take (i := 0) (v := ?_) (by simp only [List.getElem?_toArray, List.getElem?_cons_zero]; rfl) (by kernel_rfl) (by kernel_rfl) (by kernel_rfl) (fun _ _ _ h => h) (Or.inl ⟨by rfl, ?_⟩) (by assumption) ?_
    rotate_left
    · (intro ww hSw; (try dsimp only at hSw); go_simp; (try with_reducible rfl))
    try simp only [Act.put, List.setIfInBounds_toArray, List.set_cons_zero, List.set_cons_succ]
    refine wpAnyH_take (i := 1) (v := ?_) (by simp only [List.getElem?_toArray, List.getElem?_cons_succ, List.getElem?_cons_zero]; rfl) (by kernel_rfl) (by kernel_rfl) (by kernel_rfl) (fun _ _ _ h => h) (Or.inl ⟨by rfl, ?_⟩) (by assumption) ?_
    rotate_left
    · (intro ww hSw; (try dsimp only at hSw); go_simp; (try with_reducible rfl))
    try simp only [Act.put, List.setIfInBounds_toArray, List.set_cons_zero, List.set_cons_succ]
    refine wpAnyH_take (i := 2) (v := ?_) (by simp only [List.getElem?_toArray, List.getElem?_cons_succ, List.getElem?_cons_zero]; rfl) (by kernel_rfl) (by kernel_rfl) (by kernel_rfl) (fun _ _ _ h => h) (Or.inl ⟨by rfl, ?_⟩) (by assumption) ?_
    rotate_left
    · (intro ww hSw; (try dsimp only at hSw); go_simp; (try with_reducible rfl))
    try simp only [Act.put, List.setIfInBounds_toArray, List.set_cons_zero, List.set_cons_succ]
    refine wpAnyH_take (i := 3) (v := ?_) (by simp only [List.getElem?_toArray, List.getElem?_cons_succ, List.getElem?_cons_zero]; rfl) (by kernel_rfl) (by kernel_rfl) (by kernel_rfl) (fun _ _ _ h => h) (Or.inl ⟨by rfl, ?_⟩) (by assumption) ?_
    rotate_left
    · (intro ww hSw; (try dsimp only at hSw); go_simp; (try with_reducible rfl))
    try simp only [Act.put, List.setIfInBounds_toArray, List.set_cons_zero, List.set_cons_succ]
    refine wpAnyH_take (i := 4) (v := ?_) (by simp only [List.getElem?_toArray, List.getElem?_cons_succ, List.getElem?_cons_zero]; rfl) (by kernel_rfl) (by kernel_rfl) (by kernel_rfl) (fun _ _ _ h => h) (Or.inl ⟨by rfl, ?_⟩) (by assumption) ?_
    rotate_left
    · (intro ww hSw; (try dsimp only at hSw); go_simp; (try with_reducible rfl))
    try simp only [Act.put, List.setIfInBounds_toArray, List.set_cons_zero, List.set_cons_succ]
    refine wpAnyH_take (i := 5) (v := ?_) (by simp only [List.getElem?_toArray, List.getElem?_cons_succ, List.getElem?_cons_zero]; rfl) (by kernel_rfl) (by kernel_rfl) (by kernel_rfl) (fun _ _ _ h => h) (Or.inl ⟨by rfl, ?_⟩) (by assumption) ?_
    rotate_left
    · (intro ww hSw; (try dsimp only at hSw); go_simp; (try with_reducible rfl))
    try simp only [Act.put, List.setIfInBounds_toArray, List.set_cons_zero, List.set_cons_succ]
    refine wpAnyH_take (i := 6) (v := ?_) (by simp only [List.getElem?_toArray, List.getElem?_cons_succ, List.getElem?_cons_zero]; rfl) (by kernel_rfl) (by kernel_rfl) (by kernel_rfl) (fun _ _ _ h => h) (Or.inl ⟨by rfl, ?_⟩) (by assumption) ?_
    rotate_left
    · (intro ww hSw; (try dsimp only at hSw); go_simp; (try with_reducible rfl))
    try simp only [Act.put, List.setIfInBounds_toArray, List.set_cons_zero, List.set_cons_succ]
    refine wpAnyH_take (i := 7) (v := ?_) (by simp only [List.getElem?_toArray, List.getElem?_cons_succ, List.getElem?_cons_zero]; rfl) (by kernel_rfl) (by kernel_rfl) (by kernel_rfl) (fun _ _ _ h => h) (Or.inl ⟨by rfl, ?_⟩) (by assumption) ?_
    rotate_left
    · (intro ww hSw; (try dsimp only at hSw); go_simp; (try with_reducible rfl))
    try simp only [Act.put, List.setIfInBounds_toArray, List.set_cons_zero, List.set_cons_succ]
    refine wpAnyH_take (i := 8) (v := ?_) (by simp only [List.getElem?_toArray, List.getElem?_cons_succ, List.getElem?_cons_zero]; rfl) (by kernel_rfl) (by kernel_rfl) (by kernel_rfl) (fun _ _ _ h => h) (Or.inl ⟨by rfl, ?_⟩) (by assumption) ?_
    rotate_left
    · (intro ww hSw; (try dsimp only at hSw); go_simp; (try with_reducible rfl))
    try simp only [Act.put, List.setIfInBounds_toArray, List.set_cons_zero, List.set_cons_succ]
    refine wpAnyH_ready (rs := [9]) (by kernel_rfl) (by simp) (AllReadyH.cons (by simp only [List.getElem?_toArray, List.getElem?_cons_succ, List.getElem?_cons_zero]; rfl) (fun K hK => ?_) AllReadyH.nil)
    go_simp
    go_at_call 12; with_reducible refine (btake_any x p2 i item box _ FT.out.right (OW5.out.below hHeld.1 (Nat.le_refl _)) hil).mono ?_; rintro e8 w8 ⟨qz, rfl, -, hb8⟩; have HB6 := Lib.hid (below_call hHeld.1 hHeld.1.size hb8); clear hb8
    try go_wp2_with fail
    refine hK.out _ _ (by (first | (with_reducible exact KS.out _ HB6.out))) (fun hHeld => ?_)
    clear hK K
    try simp only [Act.put, List.setIfInBounds_toArray, List.set_cons_zero, List.set_cons_succ]
    refine wpAnyH_done (by kernel_rfl) ?_ _
    refine NoPanic.normal ?_
    clear hHeld KS
    have H6 := Lib.hid (H5.out.call HB6.out)
    have O6 := Lib.hid (O5.out.call HB6.out)
    have BG6 := Lib.hid (BG.out.call HB6.out)
    have BV6 := Lib.hid (below_call BV.out BV.out.size HB6.out)
    have TV6 := Lib.hid (TV.out.call HB6.out)
    clear H5 O5 OW5 BG BV TV HB6
    have cH := H6.out.2.2
    have lH := H6.out.2.1
    have cO := O6.out.2.2
    have lO := O6.out.2.1
    go_wp2_with fail
    clear cH lH cO lO
    have OWN := Lib.hid (show WorldOwn V3.heap.size w8 ⟨qd, qa, qac, qk, qkc, qw, qwc⟩ y from (TV6.out.resolve_left (fun h => h.1 rfl)).2)
    obtain ⟨b1, b2, g, c1, c2, cs, -, -, hn1, h12, h23, hl2, -, -, -, -, hrow⟩ := own_blocks OWN.out (by rw [SY.out.at_]; exact HLP.out) (by rw [SY.out.c, ]; exact HCL.out)
    have hwy : y.wher.length = x.wher.length := SY.out.w
    rcases hrow with ⟨h0, -⟩ | ⟨hqw, hBg, hsz⟩
    · exact absurd HIN.out (by rw [← hwy, h0]; simp)
    rw [hwy] at hsz
    simp only at hqw
    subst hqw
    have GB := Lib.hid hBg
    have HGN := Lib.hid (show V3.heap.size ≤ g by omega)
    have HSZ := Lib.hid hsz
    clear hwy hsz hBg h12 h23 hl2 hn1 OWN TV6
    have HRG := Lib.hid (show rb ≠ g from fun e => by subst e; have h7 := (show _ = _ from BG6.out).symm.trans (show _ = _ from GB.out); simp at h7)
    have N1 := Lib.hid (show w.heap.size ≠ g ∧ w3.heap.size ≠ g ∧ w.heap.size ≤ g from by have h1 := H_4.out.2.1; have h2 := O_4.out.2.1; have h3 := HGN.out; exact ⟨by omega, by omega, by omega⟩)
    go_loopw [12] (fun v wr => ∃ k : Nat, k ≤ x.wher.length ∧ v = .int .i64 k ∧ Six [g] w8 wr) (fun v _ => x.wher.length - (intOf v).toNat)
    case atStart => exact ⟨0, Nat.zero_le _, rfl, Six.refl _ _⟩
    case round =>
      obtain ⟨k, hk, rfl, h6⟩ := hrel
      have H7 := Lib.hid h6
      have BR := Lib.hid (show Blk wr rb 29 #[.slice qd.ex x.d.exits.length qd.exc, .slice qd.pl x.d.players.length qd.plc, .slice qd.co x.d.coins.length qd.coc, .slice qd.it x.d.items.length qd.itc, .slice qd.bo x.d.boxes.length qd.boc, .int .i64 x.d.room, .int .i64 x.d.player, .int .i64 x.d.box, .slice qa x.at_.length qac, .slice qk x.coins.length qkc, .slice (some ⟨g, 0, none⟩) x.wher.length qwc] from (h6.f rb (by simp; exact HRG.out)).trans BG6.out)
      have cR := BR.out.cell
      have lR := BR.out.lt
      clear h6
      by_cases hlt : k < x.wher.length
      · obtain ⟨⟨v7, c7⟩, z7, l7⟩ := H7.out.cell (b := g) (i := k * 2 + 1) (by simp) GB.out (by have := HSZ.out; omega)
        have hwk : IntKind.i64.wrap ((k : Int) + 1) = (k : Int) + 1 := IntWalk.i64_in _ (by omega)
        go_wp2_with fail
        go_roundw
        case rel => exact ⟨k + 1, by omega, by go_num, H7.out.set (by simp) _ _⟩
        case measure => simp [intOf]; omega
      · have HH := Lib.hid (H7.out.holds H6.out (by simp; exact N1.out.1) (by simp; exact N1.out.2.2))
        have HO := Lib.hid (H7.out.holds O6.out (by simp; exact N1.out.2.1) (by simp; exact N1.out.2.2))
        have BW := Lib.hid (H7.out.below BV6.out (by simp; exact HGN.out))
        have hke : k = x.wher.length := by omega
        subst hke
        have cH := HH.out.2.2
        have lH := HH.out.2.1
        have cO := HO.out.2.2
        have lO := HO.out.2.1
        go_wp2_with fail
        clear cH lH cO lO cR lR
        refine (rsame_yes (Shape.refl x) (Shape.refl x) rfl p2 p _ (OWV.out.call BW.out) (WI.out.call BW.out)).mono ?_
        rintro e7 w7 ⟨rfl, b7⟩
        have BE := Lib.hid (bl HH.out.1 b7)
        clear b7
        go_wp2_with fail
        go_ret
        exact ⟨rfl, BE.out⟩
  · skip
    go_simp
    try go_wp2_with fail
    refine hK.out _ _ (by (first | (with_reducible exact KS.out _ (bdrew1 (Below.alloc (Below.refl _ _) (Nat.le_refl _) _))))) (fun hHeld => ?_)
    clear hK K
    try simp only [Act.put, List.setIfInBounds_toArray, List.set_cons_zero, List.set_cons_succ]
    refine wpAnyH_ready (rs := [9]) (by kernel_rfl) (by simp) (AllReadyH.cons (by simp only [List.getElem?_toArray, List.getElem?_cons_succ, List.getElem?_cons_zero]; rfl) (fun K hK => ?_) AllReadyH.nil)
    go_simp
    go_at_call 10; with_reducible refine (bput_any x p2 i item box _ FT.out.right (OWV.out.below hHeld.1 (Nat.le_refl _)) hil).mono ?_; rintro e9 w9 ⟨⟨qd, qa, qac, qk, qkc, qw, qwc⟩, rfl, tk, hb9⟩; rw [HR.out] at tk ⊢; have HB9 := Lib.hid (below_call hHeld.1 hHeld.1.size hb9); have TK := Lib.hid tk; have HS := Lib.hid hHeld.1.size; have BG0 := Lib.hid (show Blk w9 V3.heap.size 29 #[.slice none 0 0, .slice none 0 0, .slice none 0 0, .slice none 0 0, .slice none 0 0, .int .i64 0, .int .i64 0, .int .i64 0, .slice none 0 0, .slice none 0 0, .slice none 0 0] from (Blk.new V3 29 #[.slice none 0 0, .slice none 0 0, .slice none 0 0, .slice none 0 0, .slice none 0 0, .int .i64 0, .int .i64 0, .int .i64 0, .slice none 0 0, .slice none 0 0, .slice none 0 0]).drew.call hb9); have NB := Lib.hid (show V3.heap.size + 1 ≤ (V3.alloc (.cells #[.slice none 0 0, .slice none 0 0, .slice none 0 0, .slice none 0 0, .slice none 0 0, .int .i64 0, .int .i64 0, .int .i64 0, .slice none 0 0, .slice none 0 0, .slice none 0 0] 29)).drew.heap.size from by simp [World.drew]); have cg := BG0.out.cell; have lg := BG0.out.lt; have zg := BG0.out.frozen; clear tk hb9
    try go_wp2_with fail
    refine hK.out _ _ (by (first | (with_reducible exact KS.out _ HB9.out))) (fun hHeld => ?_)
    clear hK K
    try simp only [Act.put, List.setIfInBounds_toArray, List.set_cons_zero, List.set_cons_succ]
    refine wpAnyH_take (i := 10) (v := ?_) (by simp only [List.getElem?_toArray, List.getElem?_cons_succ, List.getElem?_cons_zero]; rfl) (by kernel_rfl) (by kernel_rfl) (by kernel_rfl) (fun _ _ _ h => h) (Or.inl ⟨by rfl, ?_⟩) (by assumption) ?_
    rotate_left
    · (intro ww hSw; (try dsimp only at hSw); go_simp; (try with_reducible rfl))
    try simp only [Act.put, List.setIfInBounds_toArray, List.set_cons_zero, List.set_cons_succ]
    refine wpAnyH_take (i := 11) (v := ?_) (by simp only [List.getElem?_toArray, List.getElem?_cons_succ, List.getElem?_cons_zero]; rfl) (by kernel_rfl) (by kernel_rfl) (by kernel_rfl) (fun _ _ _ h => h) (Or.inl ⟨by rfl, ?_⟩) (by assumption) ?_
    rotate_left
    · (intro ww hSw; (try dsimp only at hSw); go_simp; (try with_reducible rfl))
    try simp only [Act.put, List.setIfInBounds_toArray, List.set_cons_zero, List.set_cons_succ]
    refine wpAnyH_take (i := 12) (v := ?_) (by simp only [List.getElem?_toArray, List.getElem?_cons_succ, List.getElem?_cons_zero]; rfl) (by kernel_rfl) (by kernel_rfl) (by kernel_rfl) (fun _ _ _ h => h) (Or.inl ⟨by rfl, ?_⟩) (by assumption) ?_
    rotate_left
    · (intro ww hSw; (try dsimp only at hSw); go_simp; (try with_reducible rfl))
    try simp only [Act.put, List.setIfInBounds_toArray, List.set_cons_zero, List.set_cons_succ]
    refine wpAnyH_ready (rs := [14]) (by kernel_rfl) (by simp) (AllReadyH.cons (by simp only [List.getElem?_toArray, List.getElem?_cons_succ, List.getElem?_cons_zero]; rfl) (fun K hK => ?_) AllReadyH.nil)
    go_simp
    try go_wp2_with fail
    refine hK.out _ _ (by (first | ((with_reducible refine KS.out _ ?_); (iterate 11 with_reducible refine Below.setCell ?_ (by exact Nat.le_refl _) _); with_reducible exact HB9.out))) (fun hHeld => ?_)
    clear hK K
    try simp only [Act.put, List.setIfInBounds_toArray, List.set_cons_zero, List.set_cons_succ]
    refine wpAnyH_take (i := 15) (v := ?_) (by simp only [List.getElem?_toArray, List.getElem?_cons_succ, List.getElem?_cons_zero]; rfl) (by kernel_rfl) (by kernel_rfl) (by kernel_rfl) (fun _ _ _ h => h) (Or.inl ⟨by rfl, ?_⟩) (by assumption) ?_
    rotate_left
    · (intro ww hSw; (try dsimp only at hSw); go_simp; (try with_reducible rfl))
    try simp only [Act.put, List.setIfInBounds_toArray, List.set_cons_zero, List.set_cons_succ]
    refine wpAnyH_done (by kernel_rfl) ?_ _
    refine NoPanic.normal ?_
    clear hHeld cg lg zg
    have BG := Lib.hid (blk_eleven BG0.out (.slice qd.ex x.d.exits.length qd.exc) (.slice qd.pl x.d.players.length qd.plc) (.slice qd.co x.d.coins.length qd.coc) (.slice qd.it x.d.items.length qd.itc) (.slice qd.bo x.d.boxes.length qd.boc) (.int .i64 x.d.room) (.int .i64 x.d.player) (.int .i64 x.d.box) (.slice qa x.at_.length qac) (.slice qk x.coins.length qkc) (.slice qw x.wher.length qwc))
    have BV := Lib.hid (show Below V3.heap.size V3 (((((((((((w9.setCell ⟨V3.heap.size, 0, none⟩ (.slice qd.ex x.d.exits.length qd.exc)).setCell ⟨V3.heap.size, 1, none⟩ (.slice qd.pl x.d.players.length qd.plc)).setCell ⟨V3.heap.size, 2, none⟩ (.slice qd.co x.d.coins.length qd.coc)).setCell ⟨V3.heap.size, 3, none⟩ (.slice qd.it x.d.items.length qd.itc)).setCell ⟨V3.heap.size, 4, none⟩ (.slice qd.bo x.d.boxes.length qd.boc)).setCell ⟨V3.heap.size, 5, none⟩ (.int .i64 x.d.room)).setCell ⟨V3.heap.size, 6, none⟩ (.int .i64 x.d.player)).setCell ⟨V3.heap.size, 7, none⟩ (.int .i64 x.d.box)).setCell ⟨V3.heap.size, 8, none⟩ (.slice qa x.at_.length qac)).setCell ⟨V3.heap.size, 9, none⟩ (.slice qk x.coins.length qkc)).setCell ⟨V3.heap.size, 10, none⟩ (.slice qw x.wher.length qwc)) by (iterate 11 refine Below.setCell ?_ (by exact Nat.le_refl _) _); exact HB9.out)
    have TV := Lib.hid (show Took V3.heap.size (((((((((((w9.setCell ⟨V3.heap.size, 0, none⟩ (.slice qd.ex x.d.exits.length qd.exc)).setCell ⟨V3.heap.size, 1, none⟩ (.slice qd.pl x.d.players.length qd.plc)).setCell ⟨V3.heap.size, 2, none⟩ (.slice qd.co x.d.coins.length qd.coc)).setCell ⟨V3.heap.size, 3, none⟩ (.slice qd.it x.d.items.length qd.itc)).setCell ⟨V3.heap.size, 4, none⟩ (.slice qd.bo x.d.boxes.length qd.boc)).setCell ⟨V3.heap.size, 5, none⟩ (.int .i64 x.d.room)).setCell ⟨V3.heap.size, 6, none⟩ (.int .i64 x.d.player)).setCell ⟨V3.heap.size, 7, none⟩ (.int .i64 x.d.box)).setCell ⟨V3.heap.size, 8, none⟩ (.slice qa x.at_.length qac)).setCell ⟨V3.heap.size, 9, none⟩ (.slice qk x.coins.length qkc)).setCell ⟨V3.heap.size, 10, none⟩ (.slice qw x.wher.length qwc)) p2 ⟨qd, qa, qac, qk, qkc, qw, qwc⟩ x (y, 0) by (refine Took.less (n := V3.heap.size + 1) ?_ (by omega)); (iterate 11 refine Took.set (b := V3.heap.size) ?_ (by omega) _ _); exact TK.out.less NB.out)
    clear HB9 TK HS BG0 NB
    generalize (((((((((((w9.setCell ⟨V3.heap.size, 0, none⟩ (.slice qd.ex x.d.exits.length qd.exc)).setCell ⟨V3.heap.size, 1, none⟩ (.slice qd.pl x.d.players.length qd.plc)).setCell ⟨V3.heap.size, 2, none⟩ (.slice qd.co x.d.coins.length qd.coc)).setCell ⟨V3.heap.size, 3, none⟩ (.slice qd.it x.d.items.length qd.itc)).setCell ⟨V3.heap.size, 4, none⟩ (.slice qd.bo x.d.boxes.length qd.boc)).setCell ⟨V3.heap.size, 5, none⟩ (.int .i64 x.d.room)).setCell ⟨V3.heap.size, 6, none⟩ (.int .i64 x.d.player)).setCell ⟨V3.heap.size, 7, none⟩ (.int .i64 x.d.box)).setCell ⟨V3.heap.size, 8, none⟩ (.slice qa x.at_.length qac)).setCell ⟨V3.heap.size, 9, none⟩ (.slice qk x.coins.length qkc)).setCell ⟨V3.heap.size, 10, none⟩ (.slice qw x.wher.length qwc)) = VV at *
    obtain ⟨rb, hrb⟩ : ∃ rb, V3.heap.size = rb := ⟨_, rfl⟩
    rw [hrb] at BG ⊢
    clear hrb KS
    have H5 := Lib.hid (H_4.out.call BV.out)
    have O5 := Lib.hid (O_4.out.call BV.out)
    have OW5 := Lib.hid (OWV.out.call BV.out)
    have cH := H5.out.2.2
    have lH := H5.out.2.1
    have cO := O5.out.2.2
    have lO := O5.out.2.1
    go_wp2_with fail
    clear cH lH cO lO
    have KS : Hid (∀ w', Below VV.heap.size VV w' → Below VV.heap.size VV w' ∧ (∀ i, w'.cell? ⟨w.heap.size, i, none⟩ = (#[.slice p.d.ex x.d.exits.length p.d.exc, .slice p.d.pl x.d.players.length p.d.plc, .slice p.d.co x.d.coins.length p.d.coc, .slice p.d.it x.d.items.length p.d.itc, .slice p.d.bo x.d.boxes.length p.d.boc, .int .i64 x.d.room, .int .i64 x.d.player, .int .i64 x.d.box, .slice p.at_ x.at_.length p.atc, .slice p.co x.coins.length p.coc, .slice p.wh x.wher.length p.whc][i]? : Option Value)) ∧ (∀ i, w'.cell? ⟨w3.heap.size, i, none⟩ = (#[.slice p2.d.ex x.d.exits.length p2.d.exc, .slice p2.d.pl x.d.players.length p2.d.plc, .slice p2.d.co x.d.coins.length p2.d.coc, .slice p2.d.it x.d.items.length p2.d.itc, .slice p2.d.bo x.d.boxes.length p2.d.boc, .int .i64 x.d.room, .int .i64 x.d.player, .int .i64 x.d.box, .slice p2.at_ x.at_.length p2.atc, .slice p2.co x.coins.length p2.coc, .slice p2.wh x.wher.length p2.whc][i]? : Option Value))) := Lib.hid (fun w' hb => ⟨hb, fun i => (hb.cell (p := ⟨w.heap.size, i, none⟩) H5.out.2.1).trans (H5.out.2.2 i), fun i => (hb.cell (p := ⟨w3.heap.size, i, none⟩) O5.out.2.1).trans (O5.out.2.2 i)⟩)
    refine wp_region_noPanic ?_
    refine wp_region_held_drew (S := (fun w' => Below VV.heap.size VV w' ∧ (∀ i, w'.cell? ⟨w.heap.size, i, none⟩ = (#[.slice p.d.ex x.d.exits.length p.d.exc, .slice p.d.pl x.d.players.length p.d.plc, .slice p.d.co x.d.coins.length p.d.coc, .slice p.d.it x.d.items.length p.d.itc, .slice p.d.bo x.d.boxes.length p.d.boc, .int .i64 x.d.room, .int .i64 x.d.player, .int .i64 x.d.box, .slice p.at_ x.at_.length p.atc, .slice p.co x.coins.length p.coc, .slice p.wh x.wher.length p.whc][i]? : Option Value)) ∧ (∀ i, w'.cell? ⟨w3.heap.size, i, none⟩ = (#[.slice p2.d.ex x.d.exits.length p2.d.exc, .slice p2.d.pl x.d.players.length p2.d.plc, .slice p2.d.co x.d.coins.length p2.d.coc, .slice p2.d.it x.d.items.length p2.d.itc, .slice p2.d.bo x.d.boxes.length p2.d.boc, .int .i64 x.d.room, .int .i64 x.d.player, .int .i64 x.d.box, .slice p2.at_ x.at_.length p2.atc, .slice p2.co x.coins.length p2.coc, .slice p2.wh x.wher.length p2.whc][i]? : Option Value)))) (by kernel_rfl) (by (first | (with_reducible exact KS.out _ (bdrew1 (Below.refl _ _))))) (fun hHeld => ?_)
    refine wpAnyH_take (i := 0) (v := ?_) (by simp only [List.getElem?_toArray, List.getElem?_cons_zero]; rfl) (by kernel_rfl) (by kernel_rfl) (by kernel_rfl) (fun _ _ _ h => h) (Or.inl ⟨by rfl, ?_⟩) (by assumption) ?_
    rotate_left
    · (intro ww hSw; (try dsimp only at hSw); go_simp; (try with_reducible rfl))
    try simp only [Act.put, List.setIfInBounds_toArray, List.set_cons_zero, List.set_cons_succ]
    refine wpAnyH_take (i := 1) (v := ?_) (by simp only [List.getElem?_toArray, List.getElem?_cons_succ, List.getElem?_cons_zero]; rfl) (by kernel_rfl) (by kernel_rfl) (by kernel_rfl) (fun _ _ _ h => h) (Or.inl ⟨by rfl, ?_⟩) (by assumption) ?_
    rotate_left
    · (intro ww hSw; (try dsimp only at hSw); go_simp; (try with_reducible rfl))
    try simp only [Act.put, List.setIfInBounds_toArray, List.set_cons_zero, List.set_cons_succ]
    refine wpAnyH_take (i := 2) (v := ?_) (by simp only [List.getElem?_toArray, List.getElem?_cons_succ, List.getElem?_cons_zero]; rfl) (by kernel_rfl) (by kernel_rfl) (by kernel_rfl) (fun _ _ _ h => h) (Or.inl ⟨by rfl, ?_⟩) (by assumption) ?_
    rotate_left
    · (intro ww hSw; (try dsimp only at hSw); go_simp; (try with_reducible rfl))
    try simp only [Act.put, List.setIfInBounds_toArray, List.set_cons_zero, List.set_cons_succ]
    refine wpAnyH_take (i := 3) (v := ?_) (by simp only [List.getElem?_toArray, List.getElem?_cons_succ, List.getElem?_cons_zero]; rfl) (by kernel_rfl) (by kernel_rfl) (by kernel_rfl) (fun _ _ _ h => h) (Or.inl ⟨by rfl, ?_⟩) (by assumption) ?_
    rotate_left
    · (intro ww hSw; (try dsimp only at hSw); go_simp; (try with_reducible rfl))
    try simp only [Act.put, List.setIfInBounds_toArray, List.set_cons_zero, List.set_cons_succ]
    refine wpAnyH_take (i := 4) (v := ?_) (by simp only [List.getElem?_toArray, List.getElem?_cons_succ, List.getElem?_cons_zero]; rfl) (by kernel_rfl) (by kernel_rfl) (by kernel_rfl) (fun _ _ _ h => h) (Or.inl ⟨by rfl, ?_⟩) (by assumption) ?_
    rotate_left
    · (intro ww hSw; (try dsimp only at hSw); go_simp; (try with_reducible rfl))
    try simp only [Act.put, List.setIfInBounds_toArray, List.set_cons_zero, List.set_cons_succ]
    refine wpAnyH_take (i := 5) (v := ?_) (by simp only [List.getElem?_toArray, List.getElem?_cons_succ, List.getElem?_cons_zero]; rfl) (by kernel_rfl) (by kernel_rfl) (by kernel_rfl) (fun _ _ _ h => h) (Or.inl ⟨by rfl, ?_⟩) (by assumption) ?_
    rotate_left
    · (intro ww hSw; (try dsimp only at hSw); go_simp; (try with_reducible rfl))
    try simp only [Act.put, List.setIfInBounds_toArray, List.set_cons_zero, List.set_cons_succ]
    refine wpAnyH_take (i := 6) (v := ?_) (by simp only [List.getElem?_toArray, List.getElem?_cons_succ, List.getElem?_cons_zero]; rfl) (by kernel_rfl) (by kernel_rfl) (by kernel_rfl) (fun _ _ _ h => h) (Or.inl ⟨by rfl, ?_⟩) (by assumption) ?_
    rotate_left
    · (intro ww hSw; (try dsimp only at hSw); go_simp; (try with_reducible rfl))
    try simp only [Act.put, List.setIfInBounds_toArray, List.set_cons_zero, List.set_cons_succ]
    refine wpAnyH_take (i := 7) (v := ?_) (by simp only [List.getElem?_toArray, List.getElem?_cons_succ, List.getElem?_cons_zero]; rfl) (by kernel_rfl) (by kernel_rfl) (by kernel_rfl) (fun _ _ _ h => h) (Or.inl ⟨by rfl, ?_⟩) (by assumption) ?_
    rotate_left
    · (intro ww hSw; (try dsimp only at hSw); go_simp; (try with_reducible rfl))
    try simp only [Act.put, List.setIfInBounds_toArray, List.set_cons_zero, List.set_cons_succ]
    refine wpAnyH_take (i := 8) (v := ?_) (by simp only [List.getElem?_toArray, List.getElem?_cons_succ, List.getElem?_cons_zero]; rfl) (by kernel_rfl) (by kernel_rfl) (by kernel_rfl) (fun _ _ _ h => h) (Or.inl ⟨by rfl, ?_⟩) (by assumption) ?_
    rotate_left
    · (intro ww hSw; (try dsimp only at hSw); go_simp; (try with_reducible rfl))
    try simp only [Act.put, List.setIfInBounds_toArray, List.set_cons_zero, List.set_cons_succ]
    refine wpAnyH_ready (rs := [9]) (by kernel_rfl) (by simp) (AllReadyH.cons (by simp only [List.getElem?_toArray, List.getElem?_cons_succ, List.getElem?_cons_zero]; rfl) (fun K hK => ?_) AllReadyH.nil)
    go_simp
    go_at_call 12; with_reducible refine (btake_any x p2 i item box _ FT.out.right (OW5.out.below hHeld.1 (Nat.le_refl _)) hil).mono ?_; rintro e8 w8 ⟨qz, rfl, -, hb8⟩; have HB6 := Lib.hid (below_call hHeld.1 hHeld.1.size hb8); clear hb8
    try go_wp2_with fail
    refine hK.out _ _ (by (first | (with_reducible exact KS.out _ HB6.out))) (fun hHeld => ?_)
    clear hK K
    try simp only [Act.put, List.setIfInBounds_toArray, List.set_cons_zero, List.set_cons_succ]
    refine wpAnyH_done (by kernel_rfl) ?_ _
    refine NoPanic.normal ?_
    clear hHeld KS
    have H6 := Lib.hid (H5.out.call HB6.out)
    have O6 := Lib.hid (O5.out.call HB6.out)
    have BG6 := Lib.hid (BG.out.call HB6.out)
    have BV6 := Lib.hid (below_call BV.out BV.out.size HB6.out)
    have TV6 := Lib.hid (TV.out.call HB6.out)
    clear H5 O5 OW5 BG BV TV HB6
    have cH := H6.out.2.2
    have lH := H6.out.2.1
    have cO := O6.out.2.2
    have lO := O6.out.2.1
    go_wp2_with fail
    clear cH lH cO lO
    have OWN := Lib.hid (show WorldOwn V3.heap.size w8 ⟨qd, qa, qac, qk, qkc, qw, qwc⟩ y from (TV6.out.resolve_left (fun h => h.1 rfl)).2)
    obtain ⟨b1, b2, g, c1, c2, cs, -, -, hn1, h12, h23, hl2, -, -, -, -, hrow⟩ := own_blocks OWN.out (by rw [SY.out.at_]; exact HLP.out) (by rw [SY.out.c, ]; exact HCL.out)
    have hwy : y.wher.length = x.wher.length := SY.out.w
    rcases hrow with ⟨h0, -⟩ | ⟨hqw, hBg, hsz⟩
    · exact absurd HIN.out (by rw [← hwy, h0]; simp)
    rw [hwy] at hsz
    simp only at hqw
    subst hqw
    have GB := Lib.hid hBg
    have HGN := Lib.hid (show V3.heap.size ≤ g by omega)
    have HSZ := Lib.hid hsz
    clear hwy hsz hBg h12 h23 hl2 hn1 OWN TV6
    have HRG := Lib.hid (show rb ≠ g from fun e => by subst e; have h7 := (show _ = _ from BG6.out).symm.trans (show _ = _ from GB.out); simp at h7)
    have N1 := Lib.hid (show w.heap.size ≠ g ∧ w3.heap.size ≠ g ∧ w.heap.size ≤ g from by have h1 := H_4.out.2.1; have h2 := O_4.out.2.1; have h3 := HGN.out; exact ⟨by omega, by omega, by omega⟩)
    go_loopw [12] (fun v wr => ∃ k : Nat, k ≤ x.wher.length ∧ v = .int .i64 k ∧ Six [g] w8 wr) (fun v _ => x.wher.length - (intOf v).toNat)
    case atStart => exact ⟨0, Nat.zero_le _, rfl, Six.refl _ _⟩
    case round =>
      obtain ⟨k, hk, rfl, h6⟩ := hrel
      have H7 := Lib.hid h6
      have BR := Lib.hid (show Blk wr rb 29 #[.slice qd.ex x.d.exits.length qd.exc, .slice qd.pl x.d.players.length qd.plc, .slice qd.co x.d.coins.length qd.coc, .slice qd.it x.d.items.length qd.itc, .slice qd.bo x.d.boxes.length qd.boc, .int .i64 x.d.room, .int .i64 x.d.player, .int .i64 x.d.box, .slice qa x.at_.length qac, .slice qk x.coins.length qkc, .slice (some ⟨g, 0, none⟩) x.wher.length qwc] from (h6.f rb (by simp; exact HRG.out)).trans BG6.out)
      have cR := BR.out.cell
      have lR := BR.out.lt
      clear h6
      by_cases hlt : k < x.wher.length
      · obtain ⟨⟨v7, c7⟩, z7, l7⟩ := H7.out.cell (b := g) (i := k * 2 + 1) (by simp) GB.out (by have := HSZ.out; omega)
        have hwk : IntKind.i64.wrap ((k : Int) + 1) = (k : Int) + 1 := IntWalk.i64_in _ (by omega)
        go_wp2_with fail
        go_roundw
        case rel => exact ⟨k + 1, by omega, by go_num, H7.out.set (by simp) _ _⟩
        case measure => simp [intOf]; omega
      · have HH := Lib.hid (H7.out.holds H6.out (by simp; exact N1.out.1) (by simp; exact N1.out.2.2))
        have HO := Lib.hid (H7.out.holds O6.out (by simp; exact N1.out.2.1) (by simp; exact N1.out.2.2))
        have BW := Lib.hid (H7.out.below BV6.out (by simp; exact HGN.out))
        have hke : k = x.wher.length := by omega
        subst hke
        have cH := HH.out.2.2
        have lH := HH.out.2.1
        have cO := HO.out.2.2
        have lO := HO.out.2.1
        go_wp2_with fail
        clear cH lH cO lO cR lR
        refine (rsame_yes (Shape.refl x) (Shape.refl x) rfl p2 p _ (OWV.out.call BW.out) (WI.out.call BW.out)).mono ?_
        rintro e7 w7 ⟨rfl, b7⟩
        have BE := Lib.hid (bl HH.out.1 b7)
        clear b7
        go_wp2_with fail
        go_ret
        exact ⟨rfl, BE.out⟩
theorem walk_boxesHold (x : Wd) (p : Wp) (a item box : Int) (w : World) (ha : (Lit.int .u8 a).wf = true) (hq : (Lit.int .i64 item).wf = true) (hq2 : (Lit.int .i64 box).wf = true) (h : WorldAt w p x) : Calls Try.prog 5 #[.agg #[.slice p.d.ex x.d.exits.length p.d.exc, .slice p.d.pl x.d.players.length p.d.plc, .slice p.d.co x.d.coins.length p.d.coc, .slice p.d.it x.d.items.length p.d.itc, .slice p.d.bo x.d.boxes.length p.d.boc, .int .i64 x.d.room, .int .i64 x.d.player, .int .i64 x.d.box, .slice p.at_ x.at_.length p.atc, .slice p.co x.coins.length p.coc, .slice p.wh x.wher.length p.whc], .int .u8 a, .int .i64 item, .int .i64 box] w fun e w' => e = .returned (.bool true) ∧ Below w.heap.size w w' := by
  cases hf : fitsB x
  · exact boxesHold_no x p a item box w h hf
  have h1 := wf_u8 ha
  obtain ⟨m1, rfl⟩ : ∃ m : Nat, a = m := ⟨a.toNat, by omega⟩
  by_cases he : (boxW x (m1 % x.at_.length) item box).2 = 0
  · refine boxesHold_yes x p m1 _ item box (by omega) rfl w h hf _ _ rfl he ?_
    rcases box_cases x (m1 % x.at_.length) item box with ⟨_, h2⟩ | ⟨k, _, _, _, hk, _⟩
    · rw [h2] at he; simp at he
    · omega
  · exact boxesHold_err x p m1 _ item box (by omega) rfl w h hf _ _ rfl he
set_option maxRecDepth 100000 in
theorem lifted_boxesHold (os : Os) (started : os.Started) (H : Type) (enc : TypeId × Value → H) :
    ReturnsInHanded {} Try.checked os 5 .any (Rows.boxesHoldSpec.pre6 enc Try.prog Try.f5 Rows.boxesHoldRow.domain false) (Rows.boxesHoldSpec.post enc Try.prog Try.f5 false true false false) := by
  refine returnsInHanded_of_change (C := Try.checked) (by kernel_rfl) started (by kernel_rfl) Try.func5
    (ChangeSpec.witness6 (enc := enc) (C := Try.checked) false ⟨#[], #[.agg #[.slice none 0 0, .slice none 0 0, .slice none 0 0, .slice none 0 0, .slice none 0 0, .int .i64 0, .int .i64 0, .int .i64 0, .slice none 0 0, .slice none 0 0, .slice none 0 0], .int .u8 0, .int .i64 0, .int .i64 0], []⟩ 8 (by kernel_rfl) (by kernel_rfl) (by kernel_rfl) (by kernel_rfl)) ?_
  intro W base args ds gs before hval0 hW hcnd _
  have hval : ∀ (j : Nat) t v, Try.f5.params[j]? = some t → args[j]? = some v → Value.okWide Try.prog W .any base t v := hval0
  have hW' := hW
  obtain ⟨p, q, hA0, hV, rfl, hfz, hnd⟩ := hW
  have hA : DataW.TrodAll enc Try.prog W 0 (fun _ => true) true Try.f5.params.toList args.toList ds p := hA0
  rw [Try.params5] at hA hval
  obtain ⟨v0, vs0, d0, ds0, p0, q0, hargs, rfl, rfl, h0, r0⟩ := trodAll_cons hA
  obtain ⟨v1, vs1, d1, ds1, p1, q1, rfl, rfl, rfl, h1, r1⟩ := trodAll_cons r0
  obtain ⟨v2, vs2, d2, ds2, p2, q2, rfl, rfl, rfl, h2, r2⟩ := trodAll_cons r1
  obtain ⟨v3, vs3, d3, ds3, p3, q3, rfl, rfl, rfl, h3, r3⟩ := trodAll_cons r2
  obtain ⟨rfl, rfl, rfl⟩ := trodAll_nil r3
  obtain rfl : args = #[v0, v1, v2, v3] := by cases args; simp_all
  obtain ⟨rfl, rfl⟩ := trodVars_none hV
  obtain ⟨wx0, wp0, rfl, m0⟩ := read_world (hval 0 29 v0 rfl rfl) h0
  obtain ⟨a1, rfl, rfl, rfl, w1⟩ := open_int Try.underlying5 (hval 1 5 v1 rfl rfl) h1
  obtain ⟨a2, rfl, rfl, rfl, w2⟩ := open_int Try.underlying3 (hval 2 3 v2 rfl rfl) h2
  obtain ⟨a3, rfl, rfl, rfl, w3⟩ := open_int Try.underlying3 (hval 3 3 v3 rfl rfl) h3
  clear hA0 hval0
  simp only [List.append_nil] at hW'
  refine (walk_boxesHold wx0 wp0 a1 a2 a3 W w1 w2 w3 m0).mono fun e W' ⟨he, hg⟩ => ?_
  subst he
  exact ⟨_, rfl, law_post (by kernel_rfl) rfl (by rw [Try.params5]; decide +kernel) rfl rfl Try.underlying4 hW' hg⟩

/-- ████ THE STATEMENT ████ -/
theorem proved_boxesHold : Rows.BoxesHoldSaid :=
  OpenClaim.holds_of_wide 5 Try.f5 rfl rfl rfl rfl rfl rfl rfl ⟨rfl, rfl, rfl, rfl, rfl⟩ rfl rfl rfl rfl rfl (by kernel_rfl) Try.func5 (by kernel_rfl)
    (of_decide_eq_true (by kernel_rfl)) (by unfold Func.isWrapper; first | (rw [if_pos (by decide +kernel)]; kernel_rfl) | (rw [if_neg (by decide +kernel)]; exact ⟨rfl, rfl⟩))
    (fun os started H enc _ => lifted_boxesHold os started H enc)
#print axioms proved_boxesHold
end Go.Proofs.Ytdmfbbcidcfcjaa
