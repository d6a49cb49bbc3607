/- SightTells: what is seen, what one has, who is present. -/
import Derived.Test.YtojfichbnnfjpaaRows
import Derived.Test.YtojfichbnnfjpaaTk
import Derived.Test.YtojfichbnnfjpaaKit
import Derived.Test.YtojfichbnnfjpaaGMem
import Derived.Test.YtojfichbnnfjpaaCoin
import Derived.Test.YtojfichbnnfjpaaGWorld
import Derived.Test.YtojfichbnnfjpaaDescMay
import Derived.Test.YtojfichbnnfjpaaGDescN
import Derived.Test.YtojfichbnnfjpaaGRight
import Derived.Test.YtojfichbnnfjpaaGCopy
import Derived.Test.YtojfichbnnfjpaaGRefD
import Derived.Test.YtojfichbnnfjpaaGAs
import Derived.Test.YtojfichbnnfjpaaRefRight
import Derived.Test.YtojfichbnnfjpaaGTreeL
import Derived.Test.YtojfichbnnfjpaaRepMath
import Derived.Test.YtojfichbnnfjpaaRepSame
import Derived.Test.YtojfichbnnfjpaaSightMath
import Derived.Test.YtojfichbnnfjpaaSightA
import Derived.Test.YtojfichbnnfjpaaSightB
import Derived.Test.YtojfichbnnfjpaaSightC
import Derived.Test.YtojfichbnnfjpaaSightAwake
import Derived.Deep.QuietTactic
import Derived.BigQuiet
import Derived.Deep.RegionHeld3
import Derived.WalkKit
import Derived.ProofKit
import Derived.OpenShut
import Derived.IntWalk
namespace Go.Proofs.Ytojfichbnnfjpaa
open Go.ChangeShapes Go.WideShapes Go.ChangeAt Go.RowKit
set_option linter.unusedVariables false
open Go.RowKit
set_option maxRecDepth 100000 in
theorem sightTells_no (x : Wd) (p : Wp) (a c : Int) (w : World) (h : WorldAt w p x) (hf : fitsB x = false) : Calls Try.prog 3 #[.agg #[.slice p.d.ex x.d.exits.length p.d.exc, .slice p.d.pl x.d.players.length p.d.plc, .slice p.d.co x.d.coins.length p.d.coc, .slice p.d.it x.d.items.length p.d.itc, .slice p.d.bo x.d.boxes.length p.d.boc, .int .i64 x.d.room, .int .i64 x.d.player, .int .i64 x.d.box, .slice p.at_ x.at_.length p.atc, .slice p.co x.coins.length p.coc, .slice p.wh x.wher.length p.whc], .int .u8 a, .int .u8 c] w fun e w' => e = .returned (.bool true) ∧ Below w.heap.size w w' := by
  have H_0 := Lib.hid (Holds.new w #[.slice p.d.ex x.d.exits.length p.d.exc, .slice p.d.pl x.d.players.length p.d.plc, .slice p.d.co x.d.coins.length p.d.coc, .slice p.d.it x.d.items.length p.d.itc, .slice p.d.bo x.d.boxes.length p.d.boc, .int .i64 x.d.room, .int .i64 x.d.player, .int .i64 x.d.box, .slice p.at_ x.at_.length p.atc, .slice p.co x.coins.length p.coc, .slice p.wh x.wher.length p.whc] 29)
  have HF := Lib.hid hf
  have HWA := Lib.hid h
  clear hf h
  go_enter Try.func3, Try.ntmps3
  go_wp2_with fail
  generalize w.alloc (.cells #[.slice p.d.ex x.d.exits.length p.d.exc, .slice p.d.pl x.d.players.length p.d.plc, .slice p.d.co x.d.coins.length p.d.coc, .slice p.d.it x.d.items.length p.d.itc, .slice p.d.bo x.d.boxes.length p.d.boc, .int .i64 x.d.room, .int .i64 x.d.player, .int .i64 x.d.box, .slice p.at_ x.at_.length p.atc, .slice p.co x.coins.length p.coc, .slice p.wh x.wher.length p.whc] 29) = V0 at *
  have B_0 := Lib.hid H_0.out.1
  refine (awake12_any _).mono ?_
  rintro e u1 ⟨rfl, b1⟩
  have B_1 := Lib.hid (bl B_0.out b1)
  have H_1 := Lib.hid (H_0.out.call b1)
  clear b1 B_0 H_0
  have hcH := H_1.out.2.2
  have hlH := H_1.out.2.1
  go_wp2_with fail
  refine (fits12_any x p _ (HWA.out.below H_1.out.1 (Nat.le_refl _))).mono ?_
  rintro e u2 ⟨rfl, b2⟩
  rw [HF.out]
  clear hcH hlH
  have B_2 := Lib.hid (bl B_1.out b2)
  have H_2 := Lib.hid (H_1.out.call b2)
  clear b2 B_1 H_1
  have hcH := H_2.out.2.2
  have hlH := H_2.out.2.1
  go_wp2_with fail
  refine (awake12_any _).mono ?_
  rintro e u3 ⟨rfl, b3⟩
  clear hcH hlH
  have B_3 := Lib.hid (bl B_2.out b3)
  have H_3 := Lib.hid (H_2.out.call b3)
  clear b3 B_2 H_2
  have hcH := H_3.out.2.2
  have hlH := H_3.out.2.1
  go_wp2_with fail
  go_ret
  exact ⟨rfl, B_3.out⟩
set_option maxRecDepth 100000 in
set_option maxHeartbeats 4000000 in
theorem sightTells_yes (x : Wd) (p : Wp) (a i c n : Nat) (haa : a ≤ 255) (hcc : c ≤ 255) (hi : a % x.at_.length = i) (hn : c % x.d.exits.length = n) (w : World) (h : WorldAt w p x) (hf : fitsB x = true) : Calls Try.prog 3 #[.agg #[.slice p.d.ex x.d.exits.length p.d.exc, .slice p.d.pl x.d.players.length p.d.plc, .slice p.d.co x.d.coins.length p.d.coc, .slice p.d.it x.d.items.length p.d.itc, .slice p.d.bo x.d.boxes.length p.d.boc, .int .i64 x.d.room, .int .i64 x.d.player, .int .i64 x.d.box, .slice p.at_ x.at_.length p.atc, .slice p.co x.coins.length p.coc, .slice p.wh x.wher.length p.whc], .int .u8 (a : Int), .int .u8 (c : Int)] w fun e w' => e = .returned (.bool true) ∧ Below w.heap.size w w' := by
  have FT := Lib.hid (fits_fit hf)
  have hlp : 0 < x.at_.length := (right_lens FT.out.right).1
  have hne : ¬ x.at_ = [] := List.length_pos_iff.1 hlp
  have hlen6 := (right_lens FT.out.right).2.1
  have r1 := run_tmod7 a x.at_.length
  have m1 := run_mod7 a x.at_.length
  rw [hi] at r1 m1
  have hil : i < x.at_.length := by rw [← hi]; exact Nat.mod_lt _ hlp
  have hle : 0 < x.d.exits.length := Nat.lt_of_le_of_lt (Nat.zero_le _) (room_at FT.out.right hlp).2
  have hnx : ¬ x.d.exits = [] := List.length_pos_iff.1 hle
  have r2 := run_tmod7 c x.d.exits.length
  have m2 := run_mod7 c x.d.exits.length
  rw [hn] at r2 m2
  have hnl : n < x.d.exits.length := by rw [← hn]; exact Nat.mod_lt _ hle
  obtain ⟨R, hR⟩ : ∃ R, lookR x i = R := ⟨_, rfl⟩
  obtain ⟨Q, hQ⟩ : ∃ Q, haveR x i = Q := ⟨_, rfl⟩
  have HR := Lib.hid hR
  have HQ := Lib.hid hQ
  have HIL := Lib.hid hil
  clear hi hn hR hQ hlp hle
  have H_0 := Lib.hid (Holds.new w #[.slice p.d.ex x.d.exits.length p.d.exc, .slice p.d.pl x.d.players.length p.d.plc, .slice p.d.co x.d.coins.length p.d.coc, .slice p.d.it x.d.items.length p.d.itc, .slice p.d.bo x.d.boxes.length p.d.boc, .int .i64 x.d.room, .int .i64 x.d.player, .int .i64 x.d.box, .slice p.at_ x.at_.length p.atc, .slice p.co x.coins.length p.coc, .slice p.wh x.wher.length p.whc] 29)
  have HF := Lib.hid hf
  have HWA := Lib.hid h
  clear hf h
  go_enter Try.func3, Try.ntmps3
  go_wp2_with fail
  generalize w.alloc (.cells #[.slice p.d.ex x.d.exits.length p.d.exc, .slice p.d.pl x.d.players.length p.d.plc, .slice p.d.co x.d.coins.length p.d.coc, .slice p.d.it x.d.items.length p.d.itc, .slice p.d.bo x.d.boxes.length p.d.boc, .int .i64 x.d.room, .int .i64 x.d.player, .int .i64 x.d.box, .slice p.at_ x.at_.length p.atc, .slice p.co x.coins.length p.coc, .slice p.wh x.wher.length p.whc] 29) = V0 at *
  have B_0 := Lib.hid H_0.out.1
  refine (awake12_any _).mono ?_
  rintro e u1 ⟨rfl, b1⟩
  have B_1 := Lib.hid (bl B_0.out b1)
  have H_1 := Lib.hid (H_0.out.call b1)
  clear b1 B_0 H_0
  have hcH := H_1.out.2.2
  have hlH := H_1.out.2.1
  go_wp2_with fail
  refine (fits12_any x p _ (HWA.out.below H_1.out.1 (Nat.le_refl _))).mono ?_
  rintro e u2 ⟨rfl, b2⟩
  rw [HF.out]
  clear hcH hlH
  have B_2 := Lib.hid (bl B_1.out b2)
  have H_2 := Lib.hid (H_1.out.call b2)
  clear b2 B_1 H_1
  have hcH := H_2.out.2.2
  have hlH := H_2.out.2.1
  go_wp2_with fail
  clear hcH hlH
  have KS : Hid (∀ w', Below u2.heap.size u2 w' → Below u2.heap.size u2 w' ∧ (∀ ii, w'.cell? ⟨w.heap.size, ii, none⟩ = (#[.slice p.d.ex x.d.exits.length p.d.exc, .slice p.d.pl x.d.players.length p.d.plc, .slice p.d.co x.d.coins.length p.d.coc, .slice p.d.it x.d.items.length p.d.itc, .slice p.d.bo x.d.boxes.length p.d.boc, .int .i64 x.d.room, .int .i64 x.d.player, .int .i64 x.d.box, .slice p.at_ x.at_.length p.atc, .slice p.co x.coins.length p.coc, .slice p.wh x.wher.length p.whc][ii]? : Option Value))) := Lib.hid (fun w' hb => ⟨hb, fun ii => (hb.cell (p := ⟨w.heap.size, ii, none⟩) H_2.out.2.1).trans (H_2.out.2.2 ii)⟩)
  have D0 := Lib.hid (bdrew1 (Below.refl u2.heap.size u2))
  refine wp_region_noPanic ?_
  refine wp_region_held_drew (S := (fun w' => Below u2.heap.size u2 w' ∧ (∀ ii, w'.cell? ⟨w.heap.size, ii, none⟩ = (#[.slice p.d.ex x.d.exits.length p.d.exc, .slice p.d.pl x.d.players.length p.d.plc, .slice p.d.co x.d.coins.length p.d.coc, .slice p.d.it x.d.items.length p.d.itc, .slice p.d.bo x.d.boxes.length p.d.boc, .int .i64 x.d.room, .int .i64 x.d.player, .int .i64 x.d.box, .slice p.at_ x.at_.length p.atc, .slice p.co x.coins.length p.coc, .slice p.wh x.wher.length p.whc][ii]? : Option Value)))) (by kernel_rfl) (by (first | (with_reducible exact KS.out _ D0.out))) (fun hHeld => ?_)
  iterate 4
    (first | refine tkW 0 (v := ?_) ?_ ?_ | refine tkW 1 (v := ?_) ?_ ?_ | refine tkW 3 (v := ?_) ?_ ?_ | refine tkW 4 (v := ?_) ?_ ?_)
    rotate_left
    · (intro ww hSw; (try dsimp only at hSw); go_simp; (try with_reducible rfl))
    try simp only [Act.put, List.setIfInBounds_toArray, List.set_cons_zero, List.set_cons_succ]
  refine rdy1 2 (fun K hK => ?_)
  go_simp
  refine (slook_any x p i _ FT.out.right (HWA.out.below (B_2.out.trans (D0.out.mono B_2.out.size)) (Nat.le_refl _)) HIL.out HR.out).mono ?_; rintro e x1 ⟨pa1, ia1, pc1, ic1, rfl, g1, hb9⟩; have D1 := Lib.hid (below_call D0.out D0.out.size hb9); have NA1 := Lib.hid g1; clear hb9 g1
  try go_wp2_with fail
  refine hK.out _ _ (by (first | (with_reducible exact KS.out _ D1.out))) (fun hHeld => ?_)
  clear hK K
  try simp only [Act.put, List.setIfInBounds_toArray, List.set_cons_zero, List.set_cons_succ]
  refine rdy1 5 (fun K hK => ?_)
  go_simp
  refine (rslook_any x p i _ FT.out.right (HWA.out.below (B_2.out.trans (D1.out.mono B_2.out.size)) (Nat.le_refl _)) HIL.out HR.out).mono ?_; rintro e x2 ⟨pa2, ia2, pc2, ic2, rfl, g2, hb9⟩; have D2 := Lib.hid (below_call D1.out D1.out.size hb9); have NA2 := Lib.hid (NA1.out.call hb9); have NB2 := Lib.hid g2; clear hb9 NA1 g2
  try go_wp2_with fail
  refine hK.out _ _ (by (first | (with_reducible exact KS.out _ D2.out))) (fun hHeld => ?_)
  clear hK K
  try simp only [Act.put, List.setIfInBounds_toArray, List.set_cons_zero, List.set_cons_succ]
  refine rdy1 6 (fun K hK => ?_)
  go_simp
  refine (rrefsame_any R R _ _ _ _ _ _ _ _ _ NA2.out.ints NA2.out.sns NB2.out.ints NB2.out.sns).mono ?_; rintro e x3 ⟨rfl, hb9⟩; have D3 := Lib.hid (below_call D2.out D2.out.size hb9); have NA3 := Lib.hid (NA2.out.call hb9); have NB3 := Lib.hid (NB2.out.call hb9); rw [rsameB_refl]; clear hb9 NA2 NB2
  try go_wp2_with fail
  refine hK.out _ _ (by (first | (with_reducible exact KS.out _ D3.out))) (fun hHeld => ?_)
  clear hK K
  try simp only [Act.put, List.setIfInBounds_toArray, List.set_cons_zero, List.set_cons_succ]
  iterate 5
    (first | refine tkW 7 (v := ?_) ?_ ?_ | refine tkW 8 (v := ?_) ?_ ?_ | refine tkW 9 (v := ?_) ?_ ?_ | refine tkW 11 (v := ?_) ?_ ?_ | refine tkW 12 (v := ?_) ?_ ?_)
    rotate_left
    · (intro ww hSw; (try dsimp only at hSw); go_simp; (try with_reducible rfl))
    try simp only [Act.put, List.setIfInBounds_toArray, List.set_cons_zero, List.set_cons_succ]
  refine rdy1 10 (fun K hK => ?_)
  go_simp
  refine (sown_any x p i _ FT.out.right (HWA.out.below (B_2.out.trans (D3.out.mono B_2.out.size)) (Nat.le_refl _)) HIL.out HQ.out).mono ?_; rintro e x4 ⟨pa3, ia3, pc3, ic3, rfl, g3, hb9⟩; have D4 := Lib.hid (below_call D3.out D3.out.size hb9); have NA4 := Lib.hid (NA3.out.call hb9); have NB4 := Lib.hid (NB3.out.call hb9); have NC4 := Lib.hid g3; clear hb9 NA3 NB3 g3
  try go_wp2_with fail
  refine hK.out _ _ (by (first | (with_reducible exact KS.out _ D4.out))) (fun hHeld => ?_)
  clear hK K
  try simp only [Act.put, List.setIfInBounds_toArray, List.set_cons_zero, List.set_cons_succ]
  refine rdy1 13 (fun K hK => ?_)
  go_simp
  refine (rsown_any x p i _ FT.out.right (HWA.out.below (B_2.out.trans (D4.out.mono B_2.out.size)) (Nat.le_refl _)) HIL.out HQ.out).mono ?_; rintro e x5 ⟨pa4, ia4, pc4, ic4, rfl, g4, hb9⟩; have D5 := Lib.hid (below_call D4.out D4.out.size hb9); have NA5 := Lib.hid (NA4.out.call hb9); have NB5 := Lib.hid (NB4.out.call hb9); have NC5 := Lib.hid (NC4.out.call hb9); have ND5 := Lib.hid g4; clear hb9 NA4 NB4 NC4 g4
  try go_wp2_with fail
  refine hK.out _ _ (by (first | (with_reducible exact KS.out _ D5.out))) (fun hHeld => ?_)
  clear hK K
  try simp only [Act.put, List.setIfInBounds_toArray, List.set_cons_zero, List.set_cons_succ]
  refine rdy1 14 (fun K hK => ?_)
  go_simp
  refine (rrefsame_any Q Q _ _ _ _ _ _ _ _ _ NC5.out.ints NC5.out.sns ND5.out.ints ND5.out.sns).mono ?_; rintro e x6 ⟨rfl, hb9⟩; have D6 := Lib.hid (below_call D5.out D5.out.size hb9); have NA6 := Lib.hid (NA5.out.call hb9); have NB6 := Lib.hid (NB5.out.call hb9); have NC6 := Lib.hid (NC5.out.call hb9); have ND6 := Lib.hid (ND5.out.call hb9); rw [rsameB_refl]; clear hb9 NA5 NB5 NC5 ND5
  try go_wp2_with fail
  refine hK.out _ _ (by (first | (with_reducible exact KS.out _ D6.out))) (fun hHeld => ?_)
  clear hK K
  try simp only [Act.put, List.setIfInBounds_toArray, List.set_cons_zero, List.set_cons_succ]
  iterate 6
    (first | refine tkW 15 (v := ?_) ?_ ?_ | refine tkW 16 (v := ?_) ?_ ?_ | refine tkW 17 (v := ?_) ?_ ?_ | refine tkW 18 (v := ?_) ?_ ?_ | refine tkW 20 (v := ?_) ?_ ?_ | refine tkW 21 (v := ?_) ?_ ?_)
    rotate_left
    · (intro ww hSw; (try dsimp only at hSw); go_simp; (try with_reducible rfl))
    try simp only [Act.put, List.setIfInBounds_toArray, List.set_cons_zero, List.set_cons_succ]
  refine rdy1 19 (fun K hK => ?_)
  go_simp
  refine (spresent_any x p n _ FT.out.right (HWA.out.below (B_2.out.trans (D6.out.mono B_2.out.size)) (Nat.le_refl _)).at_).mono ?_; rintro e x7 ⟨a5, c5, rfl, g5, hb9⟩; have D7 := Lib.hid (below_call D6.out D6.out.size hb9); have NA7 := Lib.hid (NA6.out.call hb9); have NB7 := Lib.hid (NB6.out.call hb9); have NC7 := Lib.hid (NC6.out.call hb9); have ND7 := Lib.hid (ND6.out.call hb9); have NE7 := Lib.hid g5; clear hb9 NA6 NB6 NC6 ND6 g5
  try go_wp2_with fail
  refine hK.out _ _ (by (first | (with_reducible exact KS.out _ D7.out))) (fun hHeld => ?_)
  clear hK K
  try simp only [Act.put, List.setIfInBounds_toArray, List.set_cons_zero, List.set_cons_succ]
  refine rdy1 22 (fun K hK => ?_)
  go_simp
  refine (rspresent_any x p n _ FT.out.right (HWA.out.below (B_2.out.trans (D7.out.mono B_2.out.size)) (Nat.le_refl _)).at_).mono ?_; rintro e x8 ⟨a6, c6, rfl, g6, hb9⟩; have D8 := Lib.hid (below_call D7.out D7.out.size hb9); have NA8 := Lib.hid (NA7.out.call hb9); have NB8 := Lib.hid (NB7.out.call hb9); have NC8 := Lib.hid (NC7.out.call hb9); have ND8 := Lib.hid (ND7.out.call hb9); have NE8 := Lib.hid (NE7.out.call hb9); have NF8 := Lib.hid g6; clear hb9 NA7 NB7 NC7 ND7 NE7 g6
  try go_wp2_with fail
  refine hK.out _ _ (by (first | (with_reducible exact KS.out _ D8.out))) (fun hHeld => ?_)
  clear hK K
  try simp only [Act.put, List.setIfInBounds_toArray, List.set_cons_zero, List.set_cons_succ]
  refine rdy1 23 (fun K hK => ?_)
  go_simp
  refine (ints_any _ _ _ _ _ _ _ (ints_row.2 NE8.out.row) (ints_row.2 NF8.out.row)).mono ?_; rintro e x9 ⟨rfl, hb9⟩; have D9 := Lib.hid (below_call D8.out D8.out.size hb9); have NA9 := Lib.hid (NA8.out.call hb9); have NB9 := Lib.hid (NB8.out.call hb9); have NC9 := Lib.hid (NC8.out.call hb9); have ND9 := Lib.hid (ND8.out.call hb9); have NE9 := Lib.hid (NE8.out.call hb9); have NF9 := Lib.hid (NF8.out.call hb9); rw [decide_eq_true rfl]; clear hb9 NA8 NB8 NC8 ND8 NE8 NF8
  try go_wp2_with fail
  refine hK.out _ _ (by (first | (with_reducible exact KS.out _ D9.out))) (fun hHeld => ?_)
  clear hK K
  try simp only [Act.put, List.setIfInBounds_toArray, List.set_cons_zero, List.set_cons_succ]
  iterate 2
    (first | refine tkW 24 (v := ?_) ?_ ?_ | refine tkW 25 (v := ?_) ?_ ?_)
    rotate_left
    · (intro ww hSw; (try dsimp only at hSw); go_simp; (try with_reducible rfl))
    try simp only [Act.put, List.setIfInBounds_toArray, List.set_cons_zero, List.set_cons_succ]
  refine wpAnyH_done (by kernel_rfl) ?_ _
  refine NoPanic.normal ?_
  clear hHeld KS
  have B_3 := Lib.hid (bl B_2.out D9.out)
  have H_3 := Lib.hid (H_2.out.call D9.out)
  clear B_2 H_2 D0 D1 D2 D3 D4 D5 D6 D7 D8 D9 NA9 NB9 NC9 ND9 NE9 NF9
  go_wp2_with fail
  go_ret
  exact ⟨rfl, B_3.out⟩
theorem walk_sightTells (x : Wd) (p : Wp) (a c : Int) (w : World) (ha : (Lit.int .u8 a).wf = true) (hc : (Lit.int .u8 c).wf = true) (h : WorldAt w p x) : Calls Try.prog 3 #[.agg #[.slice p.d.ex x.d.exits.length p.d.exc, .slice p.d.pl x.d.players.length p.d.plc, .slice p.d.co x.d.coins.length p.d.coc, .slice p.d.it x.d.items.length p.d.itc, .slice p.d.bo x.d.boxes.length p.d.boc, .int .i64 x.d.room, .int .i64 x.d.player, .int .i64 x.d.box, .slice p.at_ x.at_.length p.atc, .slice p.co x.coins.length p.coc, .slice p.wh x.wher.length p.whc], .int .u8 a, .int .u8 c] w fun e w' => e = .returned (.bool true) ∧ Below w.heap.size w w' := by
  cases hf : fitsB x
  · exact sightTells_no x p a c w h hf
  have h9 := wf_u8 ha
  have h8 := wf_u8 hc
  obtain ⟨m1, rfl⟩ : ∃ m : Nat, a = m := ⟨a.toNat, by omega⟩
  obtain ⟨m2, rfl⟩ : ∃ m : Nat, c = m := ⟨c.toNat, by omega⟩
  exact sightTells_yes x p m1 _ m2 _ (by omega) (by omega) rfl rfl w h hf
set_option maxRecDepth 100000 in
theorem lifted_sightTells (os : Os) (started : os.Started) (H : Type) (enc : TypeId × Value → H) :
    ReturnsInHanded {} Try.checked os 3 .any (Rows.sightTellsSpec.pre6 enc Try.prog Try.f3 Rows.sightTellsRow.domain false) (Rows.sightTellsSpec.post enc Try.prog Try.f3 false true false false) := by
  refine returnsInHanded_of_change (C := Try.checked) (by kernel_rfl) started (by kernel_rfl) Try.func3
    (ChangeSpec.witness6 (enc := enc) (C := Try.checked) false ⟨#[], #[.agg #[.slice none 0 0, .slice none 0 0, .slice none 0 0, .slice none 0 0, .slice none 0 0, .int .i64 0, .int .i64 0, .int .i64 0, .slice none 0 0, .slice none 0 0, .slice none 0 0], .int .u8 0, .int .u8 0], []⟩ 8 (by kernel_rfl) (by kernel_rfl) (by kernel_rfl) (by kernel_rfl)) ?_
  intro W base args ds gs before hval0 hW hcnd _
  have hval : ∀ (j : Nat) t v, Try.f3.params[j]? = some t → args[j]? = some v → Value.okWide Try.prog W .any base t v := hval0
  have hW' := hW
  obtain ⟨p, q, hA0, hV, rfl, hfz, hnd⟩ := hW
  have hA : DataW.TrodAll enc Try.prog W 0 (fun _ => true) true Try.f3.params.toList args.toList ds p := hA0
  rw [Try.params3] at hA hval
  obtain ⟨v0, vs0, d0, ds0, p0, q0, hargs, rfl, rfl, h0, r0⟩ := trodAll_cons hA
  obtain ⟨v1, vs1, d1, ds1, p1, q1, rfl, rfl, rfl, h1, r1⟩ := trodAll_cons r0
  obtain ⟨v2, vs2, d2, ds2, p2, q2, rfl, rfl, rfl, h2, r2⟩ := trodAll_cons r1
  obtain ⟨rfl, rfl, rfl⟩ := trodAll_nil r2
  obtain rfl : args = #[v0, v1, v2] := by cases args; simp_all
  obtain ⟨rfl, rfl⟩ := trodVars_none hV
  obtain ⟨wx0, wp0, rfl, m0⟩ := read_world (hval 0 29 v0 rfl rfl) h0
  obtain ⟨a1, rfl, rfl, rfl, w1⟩ := open_int Try.underlying5 (hval 1 5 v1 rfl rfl) h1
  obtain ⟨a2, rfl, rfl, rfl, w2⟩ := open_int Try.underlying5 (hval 2 5 v2 rfl rfl) h2
  clear hA0 hval0
  simp only [List.append_nil] at hW'
  refine (walk_sightTells wx0 wp0 a1 a2 W w1 w2 m0).mono fun e W' ⟨he, hg⟩ => ?_
  subst he
  exact ⟨_, rfl, law_post (by kernel_rfl) rfl (by rw [Try.params3]; decide +kernel) rfl rfl Try.underlying4 hW' hg⟩

/-- ████ THE STATEMENT ████ -/
theorem proved_sightTells : Rows.SightTellsSaid :=
  OpenClaim.holds_of_wide 3 Try.f3 rfl rfl rfl rfl rfl rfl rfl ⟨rfl, rfl, rfl, rfl, rfl⟩ rfl rfl rfl rfl rfl (by kernel_rfl) Try.func3 (by kernel_rfl)
    (of_decide_eq_true (by kernel_rfl)) (by unfold Func.isWrapper; first | (rw [if_pos (by decide +kernel)]; kernel_rfl) | (rw [if_neg (by decide +kernel)]; exact ⟨rfl, rfl⟩))
    (fun os started H enc _ => lifted_sightTells os started H enc)
#print axioms proved_sightTells
end Go.Proofs.Ytojfichbnnfjpaa
