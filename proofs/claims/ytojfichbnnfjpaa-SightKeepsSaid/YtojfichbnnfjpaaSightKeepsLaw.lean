/- SightKeeps: what is handed in stays. -/
import Derived.Test.YtojfichbnnfjpaaRows
import Derived.Test.YtojfichbnnfjpaaTk
import Derived.Test.YtojfichbnnfjpaaKit
import Derived.Test.YtojfichbnnfjpaaGMem
import Derived.Test.YtojfichbnnfjpaaCoin
import Derived.Test.YtojfichbnnfjpaaGWorld
import Derived.Test.YtojfichbnnfjpaaDescMay
import Derived.Test.YtojfichbnnfjpaaGDescN
import Derived.Test.YtojfichbnnfjpaaGRight
import Derived.Test.YtojfichbnnfjpaaGCopy
import Derived.Test.YtojfichbnnfjpaaGRefD
import Derived.Test.YtojfichbnnfjpaaGAs
import Derived.Test.YtojfichbnnfjpaaRefRight
import Derived.Test.YtojfichbnnfjpaaGTreeL
import Derived.Test.YtojfichbnnfjpaaRepMath
import Derived.Test.YtojfichbnnfjpaaRepSame
import Derived.Test.YtojfichbnnfjpaaSightMath
import Derived.Test.YtojfichbnnfjpaaSightA
import Derived.Test.YtojfichbnnfjpaaSightB
import Derived.Test.YtojfichbnnfjpaaSightOff
import Derived.Test.YtojfichbnnfjpaaSightAwake
import Derived.Test.YtojfichbnnfjpaaDescSix
import Derived.Test.YtojfichbnnfjpaaGNew
import Derived.Test.YtojfichbnnfjpaaGHoldA
import Derived.Test.YtojfichbnnfjpaaHoldE
import Derived.Deep.DeepCutAuto
import Derived.Deep.QuietTactic
import Derived.BigQuiet
import Derived.Deep.RegionHeld3
import Derived.WalkKit
import Derived.ProofKit
import Derived.OpenShut
import Derived.IntWalk
namespace Go.Proofs.Ytojfichbnnfjpaa
open Go.ChangeShapes Go.WideShapes Go.ChangeAt Go.RowKit
set_option linter.unusedVariables false
open Go.RowKit
set_option maxRecDepth 100000 in
theorem sightKeeps_no (x : Wd) (p : Wp) (a : Int) (w : World) (h : WorldAt w p x) (hf : fitsB x = false) : Calls Try.prog 5 #[.agg #[.slice p.d.ex x.d.exits.length p.d.exc, .slice p.d.pl x.d.players.length p.d.plc, .slice p.d.co x.d.coins.length p.d.coc, .slice p.d.it x.d.items.length p.d.itc, .slice p.d.bo x.d.boxes.length p.d.boc, .int .i64 x.d.room, .int .i64 x.d.player, .int .i64 x.d.box, .slice p.at_ x.at_.length p.atc, .slice p.co x.coins.length p.coc, .slice p.wh x.wher.length p.whc], .int .u8 a] w fun e w' => e = .returned (.bool true) ∧ Below w.heap.size w w' := by
  have H_0 := Lib.hid (Holds.new w #[.slice p.d.ex x.d.exits.length p.d.exc, .slice p.d.pl x.d.players.length p.d.plc, .slice p.d.co x.d.coins.length p.d.coc, .slice p.d.it x.d.items.length p.d.itc, .slice p.d.bo x.d.boxes.length p.d.boc, .int .i64 x.d.room, .int .i64 x.d.player, .int .i64 x.d.box, .slice p.at_ x.at_.length p.atc, .slice p.co x.coins.length p.coc, .slice p.wh x.wher.length p.whc] 29)
  have HF := Lib.hid hf
  have HWA := Lib.hid h
  clear hf h
  go_enter Try.func5, Try.ntmps5
  go_wp2_with fail
  generalize w.alloc (.cells #[.slice p.d.ex x.d.exits.length p.d.exc, .slice p.d.pl x.d.players.length p.d.plc, .slice p.d.co x.d.coins.length p.d.coc, .slice p.d.it x.d.items.length p.d.itc, .slice p.d.bo x.d.boxes.length p.d.boc, .int .i64 x.d.room, .int .i64 x.d.player, .int .i64 x.d.box, .slice p.at_ x.at_.length p.atc, .slice p.co x.coins.length p.coc, .slice p.wh x.wher.length p.whc] 29) = V0 at *
  have B_0 := Lib.hid H_0.out.1
  refine (awake12_any _).mono ?_
  rintro e u1 ⟨rfl, b1⟩
  have B_1 := Lib.hid (bl B_0.out b1)
  have H_1 := Lib.hid (H_0.out.call b1)
  clear b1 B_0 H_0
  have hcH := H_1.out.2.2
  have hlH := H_1.out.2.1
  go_wp2_with fail
  refine (fits12_any x p _ (HWA.out.below H_1.out.1 (Nat.le_refl _))).mono ?_
  rintro e u2 ⟨rfl, b2⟩
  rw [HF.out]
  clear hcH hlH
  have B_2 := Lib.hid (bl B_1.out b2)
  have H_2 := Lib.hid (H_1.out.call b2)
  clear b2 B_1 H_1
  have hcH := H_2.out.2.2
  have hlH := H_2.out.2.1
  go_wp2_with fail
  refine (awake12_any _).mono ?_
  rintro e u3 ⟨rfl, b3⟩
  clear hcH hlH
  have B_3 := Lib.hid (bl B_2.out b3)
  have H_3 := Lib.hid (H_2.out.call b3)
  clear b3 B_2 H_2
  have hcH := H_3.out.2.2
  have hlH := H_3.out.2.1
  go_wp2_with fail
  go_ret
  exact ⟨rfl, B_3.out⟩
set_option maxRecDepth 100000 in
set_option maxHeartbeats 2000000 in
theorem sightKeeps_yes (x : Wd) (p : Wp) (a i : Nat) (haa : a ≤ 255) (hi : a % x.at_.length = i) (w : World) (h : WorldAt w p x) (hf : fitsB x = true) : Calls Try.prog 5 #[.agg #[.slice p.d.ex x.d.exits.length p.d.exc, .slice p.d.pl x.d.players.length p.d.plc, .slice p.d.co x.d.coins.length p.d.coc, .slice p.d.it x.d.items.length p.d.itc, .slice p.d.bo x.d.boxes.length p.d.boc, .int .i64 x.d.room, .int .i64 x.d.player, .int .i64 x.d.box, .slice p.at_ x.at_.length p.atc, .slice p.co x.coins.length p.coc, .slice p.wh x.wher.length p.whc], .int .u8 (a : Int)] w fun e w' => e = .returned (.bool true) ∧ Below w.heap.size w w' := by
  have FT := Lib.hid (fits_fit hf)
  have hlp : 0 < x.at_.length := (right_lens FT.out.right).1
  have hne : ¬ x.at_ = [] := List.length_pos_iff.1 hlp
  have hlen6 := (right_lens FT.out.right).2.1
  have r1 := run_tmod7 a x.at_.length
  have m1 := run_mod7 a x.at_.length
  rw [hi] at r1 m1
  have hil : i < x.at_.length := by rw [← hi]; exact Nat.mod_lt _ hlp
  have hdw : IntKind.i64.wrap (a : Int) = (a : Int) := IntWalk.i64_in _ (by omega)
  obtain ⟨R, hR⟩ : ∃ R, lookR x i = R := ⟨_, rfl⟩
  obtain ⟨Q, hQ⟩ : ∃ Q, haveR x i = Q := ⟨_, rfl⟩
  have HR := Lib.hid hR
  have HQ := Lib.hid hQ
  have HIL := Lib.hid hil
  have HRI := Lib.hid (show R.items.length ≤ 16 by rw [← hR]; exact Nat.le_trans (underN_len _ _ _) FT.out.len)
  have HRP := Lib.hid (show R.players.length ≤ 6 by rw [← hR]; exact Nat.le_trans (presN_len _ _ _) hlen6)
  have HQI := Lib.hid (show Q.items.length ≤ 16 by rw [← hQ]; exact Nat.le_trans (underN_len _ _ _) FT.out.len)
  clear hi hR hQ hlp hil
  have H_0 := Lib.hid (Holds.new w #[.slice p.d.ex x.d.exits.length p.d.exc, .slice p.d.pl x.d.players.length p.d.plc, .slice p.d.co x.d.coins.length p.d.coc, .slice p.d.it x.d.items.length p.d.itc, .slice p.d.bo x.d.boxes.length p.d.boc, .int .i64 x.d.room, .int .i64 x.d.player, .int .i64 x.d.box, .slice p.at_ x.at_.length p.atc, .slice p.co x.coins.length p.coc, .slice p.wh x.wher.length p.whc] 29)
  have HF := Lib.hid hf
  have HWA := Lib.hid h
  clear hf h
  go_enter Try.func5, Try.ntmps5
  go_wp2_with fail
  generalize w.alloc (.cells #[.slice p.d.ex x.d.exits.length p.d.exc, .slice p.d.pl x.d.players.length p.d.plc, .slice p.d.co x.d.coins.length p.d.coc, .slice p.d.it x.d.items.length p.d.itc, .slice p.d.bo x.d.boxes.length p.d.boc, .int .i64 x.d.room, .int .i64 x.d.player, .int .i64 x.d.box, .slice p.at_ x.at_.length p.atc, .slice p.co x.coins.length p.coc, .slice p.wh x.wher.length p.whc] 29) = V0 at *
  have B_0 := Lib.hid H_0.out.1
  refine (awake12_any _).mono ?_
  rintro e u1 ⟨rfl, b1⟩
  have B_1 := Lib.hid (bl B_0.out b1)
  have H_1 := Lib.hid (H_0.out.call b1)
  clear b1 B_0 H_0
  have hcH := H_1.out.2.2
  have hlH := H_1.out.2.1
  go_wp2_with fail
  refine (fits12_any x p _ (HWA.out.below H_1.out.1 (Nat.le_refl _))).mono ?_
  rintro e u2 ⟨rfl, b2⟩
  rw [HF.out]
  clear hcH hlH
  have B_2 := Lib.hid (bl B_1.out b2)
  have H_2 := Lib.hid (H_1.out.call b2)
  clear b2 B_1 H_1
  have hcH := H_2.out.2.2
  have hlH := H_2.out.2.1
  go_wp2_with fail
  clear hcH hlH
  refine (copied_any x p _ (HWA.out.below B_2.out (Nat.le_refl _)) (right_fewW9 FT.out.right)).mono ?_
  rintro e0 w3 ⟨p2, rfl, g3, b3⟩
  have B_3 := Lib.hid (bl B_2.out b3)
  have H_3 := Lib.hid (H_2.out.call b3)
  have OW_3 := Lib.hid g3
  clear g3 b3 B_2 H_2
  go_wp2_with fail
  have s4 : (w3.alloc (.cells #[.slice p2.d.ex x.d.exits.length p2.d.exc, .slice p2.d.pl x.d.players.length p2.d.plc, .slice p2.d.co x.d.coins.length p2.d.coc, .slice p2.d.it x.d.items.length p2.d.itc, .slice p2.d.bo x.d.boxes.length p2.d.boc, .int .i64 x.d.room, .int .i64 x.d.player, .int .i64 x.d.box, .slice p2.at_ x.at_.length p2.atc, .slice p2.co x.coins.length p2.coc, .slice p2.wh x.wher.length p2.whc] 29)).heap.size = w3.heap.size + 1 := by simp
  have B_4 := Lib.hid (B_3.out.alloc B_3.out.size (.cells #[.slice p2.d.ex x.d.exits.length p2.d.exc, .slice p2.d.pl x.d.players.length p2.d.plc, .slice p2.d.co x.d.coins.length p2.d.coc, .slice p2.d.it x.d.items.length p2.d.itc, .slice p2.d.bo x.d.boxes.length p2.d.boc, .int .i64 x.d.room, .int .i64 x.d.player, .int .i64 x.d.box, .slice p2.at_ x.at_.length p2.atc, .slice p2.co x.coins.length p2.coc, .slice p2.wh x.wher.length p2.whc] 29))
  have H_4 := Lib.hid (H_3.out.alloc (.cells #[.slice p2.d.ex x.d.exits.length p2.d.exc, .slice p2.d.pl x.d.players.length p2.d.plc, .slice p2.d.co x.d.coins.length p2.d.coc, .slice p2.d.it x.d.items.length p2.d.itc, .slice p2.d.bo x.d.boxes.length p2.d.boc, .int .i64 x.d.room, .int .i64 x.d.player, .int .i64 x.d.box, .slice p2.at_ x.at_.length p2.atc, .slice p2.co x.coins.length p2.coc, .slice p2.wh x.wher.length p2.whc] 29))
  have OW_4 := Lib.hid (OW_3.out.call ((Below.refl _ _).alloc (Nat.le_refl _) (.cells #[.slice p2.d.ex x.d.exits.length p2.d.exc, .slice p2.d.pl x.d.players.length p2.d.plc, .slice p2.d.co x.d.coins.length p2.d.coc, .slice p2.d.it x.d.items.length p2.d.itc, .slice p2.d.bo x.d.boxes.length p2.d.boc, .int .i64 x.d.room, .int .i64 x.d.player, .int .i64 x.d.box, .slice p2.at_ x.at_.length p2.atc, .slice p2.co x.coins.length p2.coc, .slice p2.wh x.wher.length p2.whc] 29)))
  have O_4 := Lib.hid (Holds.newb (w := w) (A := #[.slice p2.d.ex x.d.exits.length p2.d.exc, .slice p2.d.pl x.d.players.length p2.d.plc, .slice p2.d.co x.d.coins.length p2.d.coc, .slice p2.d.it x.d.items.length p2.d.itc, .slice p2.d.bo x.d.boxes.length p2.d.boc, .int .i64 x.d.room, .int .i64 x.d.player, .int .i64 x.d.box, .slice p2.at_ x.at_.length p2.atc, .slice p2.co x.coins.length p2.coc, .slice p2.wh x.wher.length p2.whc]) (t := 29) (n := w3.heap.size) B_3.out rfl)
  clear B_3 H_3 OW_3
  generalize w3.alloc (.cells #[.slice p2.d.ex x.d.exits.length p2.d.exc, .slice p2.d.pl x.d.players.length p2.d.plc, .slice p2.d.co x.d.coins.length p2.d.coc, .slice p2.d.it x.d.items.length p2.d.itc, .slice p2.d.bo x.d.boxes.length p2.d.boc, .int .i64 x.d.room, .int .i64 x.d.player, .int .i64 x.d.box, .slice p2.at_ x.at_.length p2.atc, .slice p2.co x.coins.length p2.coc, .slice p2.wh x.wher.length p2.whc] 29) = V3 at *
  clear s4
  have OV1 := Lib.hid OW_4.out
  have WV1 := Lib.hid (HWA.out.below B_4.out (Nat.le_refl _))
  have HH1 := Lib.hid H_4.out.2.1
  have HO1 := Lib.hid O_4.out.2.1
  have BB1 := Lib.hid B_4.out
  have hcH := H_4.out.2.2
  have hlH := H_4.out.2.1
  have hcO := O_4.out.2.2
  have hlO := O_4.out.2.1
  go_upto_region 4 with fail
  clear hcH hlH hcO hlO
  go_cut [6] (fun sp wx => ∃ rb qa ia qc ic, sp = .pointer (some ⟨rb, 0, none⟩) ∧ V3.heap.size ≤ rb ∧ Blk wx rb 36 #[.int .i64 R.err, .int .i64 R.kind, .int .i64 R.room, .slice qa R.players.length qc, .slice ia R.items.length ic, .int .i64 R.coins] ∧ NewR V3.heap.size wx qa ia R ∧ Below V3.heap.size V3 wx)
  case first =>
    have KS : Hid (∀ w', Below V3.heap.size V3 w' → Below V3.heap.size V3 w' ∧ (∀ ii, w'.cell? ⟨w.heap.size, ii, none⟩ = (#[.slice p.d.ex x.d.exits.length p.d.exc, .slice p.d.pl x.d.players.length p.d.plc, .slice p.d.co x.d.coins.length p.d.coc, .slice p.d.it x.d.items.length p.d.itc, .slice p.d.bo x.d.boxes.length p.d.boc, .int .i64 x.d.room, .int .i64 x.d.player, .int .i64 x.d.box, .slice p.at_ x.at_.length p.atc, .slice p.co x.coins.length p.coc, .slice p.wh x.wher.length p.whc][ii]? : Option Value)) ∧ (∀ ii, w'.cell? ⟨w3.heap.size, ii, none⟩ = (#[.slice p2.d.ex x.d.exits.length p2.d.exc, .slice p2.d.pl x.d.players.length p2.d.plc, .slice p2.d.co x.d.coins.length p2.d.coc, .slice p2.d.it x.d.items.length p2.d.itc, .slice p2.d.bo x.d.boxes.length p2.d.boc, .int .i64 x.d.room, .int .i64 x.d.player, .int .i64 x.d.box, .slice p2.at_ x.at_.length p2.atc, .slice p2.co x.coins.length p2.coc, .slice p2.wh x.wher.length p2.whc][ii]? : Option Value))) := Lib.hid (fun w' hb => ⟨hb, fun ii => (hb.cell (p := ⟨w.heap.size, ii, none⟩) H_4.out.2.1).trans (H_4.out.2.2 ii), fun ii => (hb.cell (p := ⟨w3.heap.size, ii, none⟩) O_4.out.2.1).trans (O_4.out.2.2 ii)⟩)
    refine wp_region_noPanic ?_
    refine wp_region_held_drew (S := (fun w' => Below V3.heap.size V3 w' ∧ (∀ ii, w'.cell? ⟨w.heap.size, ii, none⟩ = (#[.slice p.d.ex x.d.exits.length p.d.exc, .slice p.d.pl x.d.players.length p.d.plc, .slice p.d.co x.d.coins.length p.d.coc, .slice p.d.it x.d.items.length p.d.itc, .slice p.d.bo x.d.boxes.length p.d.boc, .int .i64 x.d.room, .int .i64 x.d.player, .int .i64 x.d.box, .slice p.at_ x.at_.length p.atc, .slice p.co x.coins.length p.coc, .slice p.wh x.wher.length p.whc][ii]? : Option Value)) ∧ (∀ ii, w'.cell? ⟨w3.heap.size, ii, none⟩ = (#[.slice p2.d.ex x.d.exits.length p2.d.exc, .slice p2.d.pl x.d.players.length p2.d.plc, .slice p2.d.co x.d.coins.length p2.d.coc, .slice p2.d.it x.d.items.length p2.d.itc, .slice p2.d.bo x.d.boxes.length p2.d.boc, .int .i64 x.d.room, .int .i64 x.d.player, .int .i64 x.d.box, .slice p2.at_ x.at_.length p2.atc, .slice p2.co x.coins.length p2.coc, .slice p2.wh x.wher.length p2.whc][ii]? : Option Value)))) (by kernel_rfl) (by (first | (with_reducible exact KS.out _ (bdrew1 (Below.refl _ _))))) (fun hHeld => ?_)
    iterate 7
      (first | refine tkW 0 (v := ?_) ?_ ?_ | refine tkW 1 (v := ?_) ?_ ?_ | refine tkW 2 (v := ?_) ?_ ?_ | refine tkW 3 (v := ?_) ?_ ?_ | refine tkW 4 (v := ?_) ?_ ?_ | refine tkW 5 (v := ?_) ?_ ?_ | refine tkW 6 (v := ?_) ?_ ?_)
      rotate_left
      · (intro ww hSw; (try dsimp only at hSw); go_simp; (try with_reducible rfl))
      try simp only [Act.put, List.setIfInBounds_toArray, List.set_cons_zero, List.set_cons_succ]
    refine wpAnyH_ready (rs := [7, 8]) (by kernel_rfl) (by simp) (AllReadyH.cons (by simp only [List.getElem?_toArray, List.getElem?_cons_succ, List.getElem?_cons_zero]; rfl) (fun K hK => ?_) (AllReadyH.cons (by simp only [List.getElem?_toArray, List.getElem?_cons_succ, List.getElem?_cons_zero]; rfl) (fun K hK => ?_) AllReadyH.nil))
    · skip
      go_simp
      with_reducible refine (slook_any x p2 i _ FT.out.right (OW_4.out.call hHeld.1) HIL.out HR.out).mono ?_; rintro e9 w9 ⟨qa9, ia9, qc9, ic9, rfl, tk, hb9⟩; have HB9 := Lib.hid (below_call hHeld.1 hHeld.1.size hb9); have TK := Lib.hid tk; have HS := Lib.hid hHeld.1.size; clear tk hb9
      try go_wp2_with fail
      refine hK.out _ _ (by (first | (with_reducible exact KS.out _ HB9.out))) (fun hHeld => ?_)
      clear hK K
      try simp only [Act.put, List.setIfInBounds_toArray, List.set_cons_zero, List.set_cons_succ]
      refine rdy1 8 (fun K hK => ?_)
      go_simp
      try go_wp2_with fail
      refine hK.out _ _ (by (first | (with_reducible exact KS.out _ (Below.alloc HB9.out HB9.out.size _)))) (fun hHeld => ?_)
      clear hK K
      try simp only [Act.put, List.setIfInBounds_toArray, List.set_cons_zero, List.set_cons_succ]
      refine rdy1 9 (fun K hK => ?_)
      go_simp
      try go_wp2_with fail
      refine hK.out _ _ (by (first | (with_reducible exact KS.out _ (Below.alloc HB9.out HB9.out.size _)))) (fun hHeld => ?_)
      clear hK K
      try simp only [Act.put, List.setIfInBounds_toArray, List.set_cons_zero, List.set_cons_succ]
      refine wpAnyH_done (by kernel_rfl) ?_ _
      refine NoPanic.normal ?_
      clear hHeld
      go_wp2_with fail
      go_meet
      exact ⟨w9.heap.size, qa9, ia9, qc9, ic9, rfl, HB9.out.size, Blk.new w9 36 #[.int .i64 R.err, .int .i64 R.kind, .int .i64 R.room, .slice qa9 R.players.length qc9, .slice ia9 R.items.length ic9, .int .i64 R.coins], (TK.out.less HS.out).call ((Below.refl _ _).alloc (Nat.le_refl _) (.cells #[.int .i64 R.err, .int .i64 R.kind, .int .i64 R.room, .slice qa9 R.players.length qc9, .slice ia9 R.items.length ic9, .int .i64 R.coins] 36)), Below.alloc HB9.out HB9.out.size (.cells #[.int .i64 R.err, .int .i64 R.kind, .int .i64 R.room, .slice qa9 R.players.length qc9, .slice ia9 R.items.length ic9, .int .i64 R.coins] 36)⟩
    · skip
      go_simp
      try go_wp2_with fail
      refine hK.out _ _ (by (first | (with_reducible exact KS.out _ (bdrew1 (Below.alloc (Below.refl _ _) (Nat.le_refl _) _))))) (fun hHeld => ?_)
      clear hK K
      try simp only [Act.put, List.setIfInBounds_toArray, List.set_cons_zero, List.set_cons_succ]
      refine rdy1 7 (fun K hK => ?_)
      go_simp
      with_reducible refine (slook_any x p2 i _ FT.out.right (OW_4.out.call hHeld.1) HIL.out HR.out).mono ?_; rintro e9 w9 ⟨qa9, ia9, qc9, ic9, rfl, tk, hb9⟩; have HB9 := Lib.hid (below_call hHeld.1 hHeld.1.size hb9); have TK := Lib.hid tk; have HS := Lib.hid hHeld.1.size; have BG0 := Lib.hid (show Blk w9 V3.heap.size 36 #[.int .i64 0, .int .i64 0, .int .i64 0, .slice none 0 0, .slice none 0 0, .int .i64 0] from (Blk.new V3 36 #[.int .i64 0, .int .i64 0, .int .i64 0, .slice none 0 0, .slice none 0 0, .int .i64 0]).drew.call hb9); have NB := Lib.hid (show V3.heap.size + 1 ≤ (V3.alloc (.cells #[.int .i64 0, .int .i64 0, .int .i64 0, .slice none 0 0, .slice none 0 0, .int .i64 0] 36)).drew.heap.size from by simp [World.drew]); have cg := BG0.out.cell; have lg := BG0.out.lt; have zg := BG0.out.frozen; clear tk hb9
      try go_wp2_with fail
      refine hK.out _ _ (by (first | (with_reducible exact KS.out _ HB9.out))) (fun hHeld => ?_)
      clear hK K
      try simp only [Act.put, List.setIfInBounds_toArray, List.set_cons_zero, List.set_cons_succ]
      refine rdy1 9 (fun K hK => ?_)
      go_simp
      try go_wp2_with fail
      refine hK.out _ _ (by (first | ((with_reducible refine KS.out _ ?_); (iterate 6 with_reducible refine Below.setCell ?_ (by exact Nat.le_refl _) _); with_reducible exact HB9.out))) (fun hHeld => ?_)
      clear hK K
      try simp only [Act.put, List.setIfInBounds_toArray, List.set_cons_zero, List.set_cons_succ]
      refine wpAnyH_done (by kernel_rfl) ?_ _
      refine NoPanic.normal ?_
      clear hHeld cg lg zg
      go_wp2_with fail
      go_meet
      exact ⟨V3.heap.size, qa9, ia9, qc9, ic9, rfl, Nat.le_refl _, blk_six BG0.out (.int .i64 R.err) (.int .i64 R.kind) (.int .i64 R.room) (.slice qa9 R.players.length qc9) (.slice ia9 R.items.length ic9) (.int .i64 R.coins), (by (refine NewR.less (n := V3.heap.size + 1) ?_ (by omega)); (iterate 6 refine NewR.set (q := V3.heap.size) ?_ (by omega) _ _); exact TK.out.less NB.out), (by (iterate 6 refine Below.setCell ?_ (by exact Nat.le_refl _) _); exact HB9.out)⟩
  case rest =>
    obtain ⟨rb1, qa1, ia1, qc1, ic1, rfl, hrb, hBK, hNR, hBW⟩ := hcut
    generalize wc = z1 at *
    have B_5 := Lib.hid (bl B_4.out hBW)
    have H_5 := Lib.hid (H_4.out.call hBW)
    have O_5 := Lib.hid (O_4.out.call hBW)
    have OW_5 := Lib.hid (OW_4.out.call hBW)
    have K1 := Lib.hid hBK
    have BX := Lib.hid hBW
    have NX_5 := Lib.hid hNR
    have Hrb1 := Lib.hid hrb
    have X_5 := Lib.hid (hBK.holds B_5.out)
    clear hrb hBK hNR hBW B_4 H_4 O_4 OW_4
    have hcH := H_5.out.2.2
    have hlH := H_5.out.2.1
    have hcO := O_5.out.2.2
    have hlO := O_5.out.2.1
    have hcX := X_5.out.2.2
    have hlX := X_5.out.2.1
    clear hcH hlH hcO hlO hcX hlX
    have hcH := H_5.out.2.2
    have hlH := H_5.out.2.1
    have hcO := O_5.out.2.2
    have hlO := O_5.out.2.1
    have hcX := X_5.out.2.2
    have hlX := X_5.out.2.1
    go_upto_region 5 with fail
    clear hcH hlH hcO hlO hcX hlX
    go_cut [7] (fun sp wx => ∃ rb qa ia qc ic, sp = .pointer (some ⟨rb, 0, none⟩) ∧ z1.heap.size ≤ rb ∧ Blk wx rb 36 #[.int .i64 Q.err, .int .i64 Q.kind, .int .i64 Q.room, .slice qa Q.players.length qc, .slice ia Q.items.length ic, .int .i64 Q.coins] ∧ NewR z1.heap.size wx qa ia Q ∧ Below z1.heap.size z1 wx)
    case first =>
      have KS : Hid (∀ w', Below z1.heap.size z1 w' → Below z1.heap.size z1 w' ∧ (∀ ii, w'.cell? ⟨w.heap.size, ii, none⟩ = (#[.slice p.d.ex x.d.exits.length p.d.exc, .slice p.d.pl x.d.players.length p.d.plc, .slice p.d.co x.d.coins.length p.d.coc, .slice p.d.it x.d.items.length p.d.itc, .slice p.d.bo x.d.boxes.length p.d.boc, .int .i64 x.d.room, .int .i64 x.d.player, .int .i64 x.d.box, .slice p.at_ x.at_.length p.atc, .slice p.co x.coins.length p.coc, .slice p.wh x.wher.length p.whc][ii]? : Option Value)) ∧ (∀ ii, w'.cell? ⟨w3.heap.size, ii, none⟩ = (#[.slice p2.d.ex x.d.exits.length p2.d.exc, .slice p2.d.pl x.d.players.length p2.d.plc, .slice p2.d.co x.d.coins.length p2.d.coc, .slice p2.d.it x.d.items.length p2.d.itc, .slice p2.d.bo x.d.boxes.length p2.d.boc, .int .i64 x.d.room, .int .i64 x.d.player, .int .i64 x.d.box, .slice p2.at_ x.at_.length p2.atc, .slice p2.co x.coins.length p2.coc, .slice p2.wh x.wher.length p2.whc][ii]? : Option Value)) ∧ (∀ ii, w'.cell? ⟨rb1, ii, none⟩ = (#[.int .i64 R.err, .int .i64 R.kind, .int .i64 R.room, .slice qa1 R.players.length qc1, .slice ia1 R.items.length ic1, .int .i64 R.coins][ii]? : Option Value))) := Lib.hid (fun w' hb => ⟨hb, fun ii => (hb.cell (p := ⟨w.heap.size, ii, none⟩) H_5.out.2.1).trans (H_5.out.2.2 ii), fun ii => (hb.cell (p := ⟨w3.heap.size, ii, none⟩) O_5.out.2.1).trans (O_5.out.2.2 ii), fun ii => (hb.cell (p := ⟨rb1, ii, none⟩) X_5.out.2.1).trans (X_5.out.2.2 ii)⟩)
      refine wp_region_noPanic ?_
      refine wp_region_held_drew (S := (fun w' => Below z1.heap.size z1 w' ∧ (∀ ii, w'.cell? ⟨w.heap.size, ii, none⟩ = (#[.slice p.d.ex x.d.exits.length p.d.exc, .slice p.d.pl x.d.players.length p.d.plc, .slice p.d.co x.d.coins.length p.d.coc, .slice p.d.it x.d.items.length p.d.itc, .slice p.d.bo x.d.boxes.length p.d.boc, .int .i64 x.d.room, .int .i64 x.d.player, .int .i64 x.d.box, .slice p.at_ x.at_.length p.atc, .slice p.co x.coins.length p.coc, .slice p.wh x.wher.length p.whc][ii]? : Option Value)) ∧ (∀ ii, w'.cell? ⟨w3.heap.size, ii, none⟩ = (#[.slice p2.d.ex x.d.exits.length p2.d.exc, .slice p2.d.pl x.d.players.length p2.d.plc, .slice p2.d.co x.d.coins.length p2.d.coc, .slice p2.d.it x.d.items.length p2.d.itc, .slice p2.d.bo x.d.boxes.length p2.d.boc, .int .i64 x.d.room, .int .i64 x.d.player, .int .i64 x.d.box, .slice p2.at_ x.at_.length p2.atc, .slice p2.co x.coins.length p2.coc, .slice p2.wh x.wher.length p2.whc][ii]? : Option Value)) ∧ (∀ ii, w'.cell? ⟨rb1, ii, none⟩ = (#[.int .i64 R.err, .int .i64 R.kind, .int .i64 R.room, .slice qa1 R.players.length qc1, .slice ia1 R.items.length ic1, .int .i64 R.coins][ii]? : Option Value)))) (by kernel_rfl) (by (first | (with_reducible exact KS.out _ (bdrew1 (Below.refl _ _))))) (fun hHeld => ?_)
      iterate 7
        (first | refine tkW 0 (v := ?_) ?_ ?_ | refine tkW 1 (v := ?_) ?_ ?_ | refine tkW 2 (v := ?_) ?_ ?_ | refine tkW 3 (v := ?_) ?_ ?_ | refine tkW 4 (v := ?_) ?_ ?_ | refine tkW 5 (v := ?_) ?_ ?_ | refine tkW 6 (v := ?_) ?_ ?_)
        rotate_left
        · (intro ww hSw; (try dsimp only at hSw); go_simp; (try with_reducible rfl))
        try simp only [Act.put, List.setIfInBounds_toArray, List.set_cons_zero, List.set_cons_succ]
      refine wpAnyH_ready (rs := [7, 8]) (by kernel_rfl) (by simp) (AllReadyH.cons (by simp only [List.getElem?_toArray, List.getElem?_cons_succ, List.getElem?_cons_zero]; rfl) (fun K hK => ?_) (AllReadyH.cons (by simp only [List.getElem?_toArray, List.getElem?_cons_succ, List.getElem?_cons_zero]; rfl) (fun K hK => ?_) AllReadyH.nil))
      · skip
        go_simp
        with_reducible refine (sown_any x p2 i _ FT.out.right (OW_5.out.call hHeld.1) HIL.out HQ.out).mono ?_; rintro e9 w9 ⟨qa9, ia9, qc9, ic9, rfl, tk, hb9⟩; have HB9 := Lib.hid (below_call hHeld.1 hHeld.1.size hb9); have TK := Lib.hid tk; have HS := Lib.hid hHeld.1.size; clear tk hb9
        try go_wp2_with fail
        refine hK.out _ _ (by (first | (with_reducible exact KS.out _ HB9.out))) (fun hHeld => ?_)
        clear hK K
        try simp only [Act.put, List.setIfInBounds_toArray, List.set_cons_zero, List.set_cons_succ]
        refine rdy1 8 (fun K hK => ?_)
        go_simp
        try go_wp2_with fail
        refine hK.out _ _ (by (first | (with_reducible exact KS.out _ (Below.alloc HB9.out HB9.out.size _)))) (fun hHeld => ?_)
        clear hK K
        try simp only [Act.put, List.setIfInBounds_toArray, List.set_cons_zero, List.set_cons_succ]
        refine rdy1 9 (fun K hK => ?_)
        go_simp
        try go_wp2_with fail
        refine hK.out _ _ (by (first | (with_reducible exact KS.out _ (Below.alloc HB9.out HB9.out.size _)))) (fun hHeld => ?_)
        clear hK K
        try simp only [Act.put, List.setIfInBounds_toArray, List.set_cons_zero, List.set_cons_succ]
        refine wpAnyH_done (by kernel_rfl) ?_ _
        refine NoPanic.normal ?_
        clear hHeld
        go_wp2_with fail
        go_meet
        exact ⟨w9.heap.size, qa9, ia9, qc9, ic9, rfl, HB9.out.size, Blk.new w9 36 #[.int .i64 Q.err, .int .i64 Q.kind, .int .i64 Q.room, .slice qa9 Q.players.length qc9, .slice ia9 Q.items.length ic9, .int .i64 Q.coins], (TK.out.less HS.out).call ((Below.refl _ _).alloc (Nat.le_refl _) (.cells #[.int .i64 Q.err, .int .i64 Q.kind, .int .i64 Q.room, .slice qa9 Q.players.length qc9, .slice ia9 Q.items.length ic9, .int .i64 Q.coins] 36)), Below.alloc HB9.out HB9.out.size (.cells #[.int .i64 Q.err, .int .i64 Q.kind, .int .i64 Q.room, .slice qa9 Q.players.length qc9, .slice ia9 Q.items.length ic9, .int .i64 Q.coins] 36)⟩
      · skip
        go_simp
        try go_wp2_with fail
        refine hK.out _ _ (by (first | (with_reducible exact KS.out _ (bdrew1 (Below.alloc (Below.refl _ _) (Nat.le_refl _) _))))) (fun hHeld => ?_)
        clear hK K
        try simp only [Act.put, List.setIfInBounds_toArray, List.set_cons_zero, List.set_cons_succ]
        refine rdy1 7 (fun K hK => ?_)
        go_simp
        with_reducible refine (sown_any x p2 i _ FT.out.right (OW_5.out.call hHeld.1) HIL.out HQ.out).mono ?_; rintro e9 w9 ⟨qa9, ia9, qc9, ic9, rfl, tk, hb9⟩; have HB9 := Lib.hid (below_call hHeld.1 hHeld.1.size hb9); have TK := Lib.hid tk; have HS := Lib.hid hHeld.1.size; have BG0 := Lib.hid (show Blk w9 z1.heap.size 36 #[.int .i64 0, .int .i64 0, .int .i64 0, .slice none 0 0, .slice none 0 0, .int .i64 0] from (Blk.new z1 36 #[.int .i64 0, .int .i64 0, .int .i64 0, .slice none 0 0, .slice none 0 0, .int .i64 0]).drew.call hb9); have NB := Lib.hid (show z1.heap.size + 1 ≤ (z1.alloc (.cells #[.int .i64 0, .int .i64 0, .int .i64 0, .slice none 0 0, .slice none 0 0, .int .i64 0] 36)).drew.heap.size from by simp [World.drew]); have cg := BG0.out.cell; have lg := BG0.out.lt; have zg := BG0.out.frozen; clear tk hb9
        try go_wp2_with fail
        refine hK.out _ _ (by (first | (with_reducible exact KS.out _ HB9.out))) (fun hHeld => ?_)
        clear hK K
        try simp only [Act.put, List.setIfInBounds_toArray, List.set_cons_zero, List.set_cons_succ]
        refine rdy1 9 (fun K hK => ?_)
        go_simp
        try go_wp2_with fail
        refine hK.out _ _ (by (first | ((with_reducible refine KS.out _ ?_); (iterate 6 with_reducible refine Below.setCell ?_ (by exact Nat.le_refl _) _); with_reducible exact HB9.out))) (fun hHeld => ?_)
        clear hK K
        try simp only [Act.put, List.setIfInBounds_toArray, List.set_cons_zero, List.set_cons_succ]
        refine wpAnyH_done (by kernel_rfl) ?_ _
        refine NoPanic.normal ?_
        clear hHeld cg lg zg
        go_wp2_with fail
        go_meet
        exact ⟨z1.heap.size, qa9, ia9, qc9, ic9, rfl, Nat.le_refl _, blk_six BG0.out (.int .i64 Q.err) (.int .i64 Q.kind) (.int .i64 Q.room) (.slice qa9 Q.players.length qc9) (.slice ia9 Q.items.length ic9) (.int .i64 Q.coins), (by (refine NewR.less (n := z1.heap.size + 1) ?_ (by omega)); (iterate 6 refine NewR.set (q := z1.heap.size) ?_ (by omega) _ _); exact TK.out.less NB.out), (by (iterate 6 refine Below.setCell ?_ (by exact Nat.le_refl _) _); exact HB9.out)⟩
    case rest =>
      obtain ⟨rb2, qa2, ia2, qc2, ic2, rfl, hrb, hBK, hNR, hBW⟩ := hcut
      generalize wc = z2 at *
      have B_6 := Lib.hid (bl B_5.out hBW)
      have H_6 := Lib.hid (H_5.out.call hBW)
      have O_6 := Lib.hid (O_5.out.call hBW)
      have X_6 := Lib.hid (X_5.out.call hBW)
      have OW_6 := Lib.hid (OW_5.out.call hBW)
      have NX_6 := Lib.hid (NX_5.out.call hBW)
      have K2 := Lib.hid hBK
      have BY := Lib.hid hBW
      have NY_6 := Lib.hid hNR
      have Hrb2 := Lib.hid hrb
      have Y_6 := Lib.hid (hBK.holds B_6.out)
      clear hrb hBK hNR hBW B_5 H_5 O_5 X_5 OW_5 NX_5
      have hcH := H_6.out.2.2
      have hlH := H_6.out.2.1
      have hcO := O_6.out.2.2
      have hlO := O_6.out.2.1
      have hcX := X_6.out.2.2
      have hlX := X_6.out.2.1
      have hcY := Y_6.out.2.2
      have hlY := Y_6.out.2.1
      go_wp2_with fail
      clear hcH hlH hcO hlO hcX hlX hcY hlY
      have BV1 := Lib.hid (BX.out.trans (BY.out.mono BX.out.size))
      have HV := Lib.hid BX.out.size
      have K1 := Lib.hid (K1.out.call BY.out)
      obtain ⟨g1, hg1, af1, hc1⟩ := own_gap NX_6.out.it (by omega) seC_len
      obtain ⟨g2, hg2, af2, hc2⟩ := own_gap NX_6.out.pl (by omega) inC_len
      obtain ⟨g3, hg3, af3, hc3⟩ := own_gap NY_6.out.it (by omega) seC_len
      have HC1 := Lib.hid hc1
      have HC2 := Lib.hid hc2
      have HC3 := Lib.hid hc3
      have AB := Lib.hid (show ∀ b, b < V3.heap.size → b ∉ [g1, g2, g3] ∧ True from fun b hb => ⟨by have h1 := HV.out; have h2 := hg1; have h3 := hg2; have h4 := hg3; simp only [List.mem_cons, List.not_mem_nil, or_false, not_or]; omega, trivial⟩)
      have A1 := Lib.hid (show rb1 ∉ [g1, g2, g3] from by have h1 := af1 _ _ _ K1.out (by decide); have h2 := af2 _ _ _ K1.out (by decide); have h3 := af3 _ _ _ K1.out (by decide); simp only [List.mem_cons, List.not_mem_nil, or_false, not_or]; exact ⟨h1, h2, h3⟩)
      have A2 := Lib.hid (show rb2 ∉ [g1, g2, g3] from by have h1 := af1 _ _ _ K2.out (by decide); have h2 := af2 _ _ _ K2.out (by decide); have h3 := af3 _ _ _ K2.out (by decide); simp only [List.mem_cons, List.not_mem_nil, or_false, not_or]; exact ⟨h1, h2, h3⟩)
      have GE := Lib.hid (show ∀ b ∈ [g1, g2, g3], V3.heap.size ≤ b from by have h1 := HV.out; intro b hb; simp only [List.mem_cons, List.not_mem_nil, or_false] at hb; omega)
      have HGW := Lib.hid (show ∀ b ∈ [g1, g2, g3], w.heap.size ≤ b from fun b hb => Nat.le_trans BB1.out.size (GE.out b hb))
      have W0 := Lib.hid (HWA.out.below B_6.out (Nat.le_refl _))
      clear hc1 hc2 hc3 af1 af2 af3 hg1 hg2 hg3 K1 K2 NX_6 NY_6
      go_loopw [8] (fun v wr => ∃ k : Nat, k ≤ R.items.length ∧ v = .int .i64 k ∧ Six [g1, g2, g3] z2 wr) (fun v _ => R.items.length - (intOf v).toNat)
      case atStart => exact ⟨0, Nat.zero_le _, rfl, Six.refl _ _⟩
      case round =>
        obtain ⟨k, hk, rfl, h6⟩ := hrel
        have H7 := Lib.hid h6
        have HB := Lib.hid (H7.out.holds X_6.out A1.out HGW.out)
        have cR := HB.out.2.2
        have lR := HB.out.2.1
        clear h6
        by_cases hlt : k < R.items.length
        · rcases HC1.out with h0 | ⟨ha, cs, hB, hsz⟩
          · rw [h0] at hlt; simp at hlt
          obtain ⟨⟨v7, c7⟩, z7, l7⟩ := H7.out.cell (b := g1) (i := k * 3) (by simp) hB (by omega)
          have hwk : IntKind.i64.wrap ((k : Int) + 1) = (k : Int) + 1 := IntWalk.i64_in _ (by have := HRI.out; omega)
          have SS := Lib.hid (H7.out.set (b := g1) (by simp) (k * 3) (.int .i64 99))
          clear hB hsz
          subst ha
          go_wp2_with fail
          go_roundw
          case rel => exact ⟨k + 1, by omega, by go_num, SS.out⟩
          case measure => simp [intOf]; omega
        · have hke : k = R.items.length := by omega
          subst hke
          have S0 := Lib.hid H7.out
          clear HB cR lR H7
          have HB := Lib.hid (S0.out.holds X_6.out A1.out HGW.out)
          have cR := HB.out.2.2
          have lR := HB.out.2.1
          go_wp2_with fail
          clear cR lR HB
          go_loopw [9] (fun v wr => ∃ k : Nat, k ≤ R.players.length ∧ v = .int .i64 k ∧ Six [g1, g2, g3] z2 wr) (fun v _ => R.players.length - (intOf v).toNat)
          case atStart => exact ⟨0, Nat.zero_le _, rfl, S0.out⟩
          case round =>
            obtain ⟨k, hk, rfl, h6⟩ := hrel
            have H7 := Lib.hid h6
            have HB := Lib.hid (H7.out.holds X_6.out A1.out HGW.out)
            have cR := HB.out.2.2
            have lR := HB.out.2.1
            clear h6
            by_cases hlt : k < R.players.length
            · rcases HC2.out with h0 | ⟨ha, cs, hB, hsz⟩
              · rw [h0] at hlt; simp at hlt
              obtain ⟨⟨v7, c7⟩, z7, l7⟩ := H7.out.cell (b := g2) (i := k) (by simp) hB (by omega)
              have hwk : IntKind.i64.wrap ((k : Int) + 1) = (k : Int) + 1 := IntWalk.i64_in _ (by have := HRP.out; omega)
              have SS := Lib.hid (H7.out.set (b := g2) (by simp) (k) (.int .i64 99))
              clear hB hsz
              subst ha
              go_wp2_with fail
              go_roundw
              case rel => exact ⟨k + 1, by omega, by go_num, SS.out⟩
              case measure => simp [intOf]; omega
            · have hke : k = R.players.length := by omega
              subst hke
              have S1 := Lib.hid H7.out
              clear HB cR lR H7
              have HB := Lib.hid (S1.out.holds X_6.out A1.out HGW.out)
              have cR := HB.out.2.2
              have lR := HB.out.2.1
              go_wp2_with fail
              clear cR lR HB
              go_loopw [10] (fun v wr => ∃ k : Nat, k ≤ Q.items.length ∧ v = .int .i64 k ∧ Six [g1, g2, g3] z2 wr) (fun v _ => Q.items.length - (intOf v).toNat)
              case atStart => exact ⟨0, Nat.zero_le _, rfl, S1.out⟩
              case round =>
                obtain ⟨k, hk, rfl, h6⟩ := hrel
                have H7 := Lib.hid h6
                have HB := Lib.hid (H7.out.holds Y_6.out A2.out HGW.out)
                have cR := HB.out.2.2
                have lR := HB.out.2.1
                clear h6
                by_cases hlt : k < Q.items.length
                · rcases HC3.out with h0 | ⟨ha, cs, hB, hsz⟩
                  · rw [h0] at hlt; simp at hlt
                  obtain ⟨⟨v7, c7⟩, z7, l7⟩ := H7.out.cell (b := g3) (i := k * 3) (by simp) hB (by omega)
                  have hwk : IntKind.i64.wrap ((k : Int) + 1) = (k : Int) + 1 := IntWalk.i64_in _ (by have := HQI.out; omega)
                  have SS := Lib.hid (H7.out.set (b := g3) (by simp) (k * 3) (.int .i64 99))
                  clear hB hsz
                  subst ha
                  go_wp2_with fail
                  go_roundw
                  case rel => exact ⟨k + 1, by omega, by go_num, SS.out⟩
                  case measure => simp [intOf]; omega
                · have hke : k = Q.items.length := by omega
                  subst hke
                  have S2 := Lib.hid H7.out
                  clear HB cR lR H7
                  have HY := Lib.hid (S2.out.holds Y_6.out A2.out HGW.out)
                  have cR := HY.out.2.2
                  have lR := HY.out.2.1
                  have HH := Lib.hid (S2.out.holds H_6.out (AB.out _ HH1.out).1 HGW.out)
                  have HO := Lib.hid (S2.out.holds O_6.out (AB.out _ HO1.out).1 HGW.out)
                  have BW := Lib.hid (S2.out.below BV1.out GE.out)
                  have cH := HH.out.2.2
                  have lH := HH.out.2.1
                  have cO := HO.out.2.2
                  have lO := HO.out.2.1
                  go_wp2_with fail
                  clear cH lH cO lO cR lR
                  refine (rsame_yes (Shape.refl x) (Shape.refl x) rfl p2 p _ (OV1.out.call BW.out) (WV1.out.call BW.out)).mono ?_
                  rintro e7 w7 ⟨rfl, b7⟩
                  have BE := Lib.hid (bl HH.out.1 b7)
                  clear b7
                  go_wp2_with fail
                  go_ret
                  exact ⟨rfl, BE.out⟩
theorem walk_sightKeeps (x : Wd) (p : Wp) (a : Int) (w : World) (ha : (Lit.int .u8 a).wf = true) (h : WorldAt w p x) : Calls Try.prog 5 #[.agg #[.slice p.d.ex x.d.exits.length p.d.exc, .slice p.d.pl x.d.players.length p.d.plc, .slice p.d.co x.d.coins.length p.d.coc, .slice p.d.it x.d.items.length p.d.itc, .slice p.d.bo x.d.boxes.length p.d.boc, .int .i64 x.d.room, .int .i64 x.d.player, .int .i64 x.d.box, .slice p.at_ x.at_.length p.atc, .slice p.co x.coins.length p.coc, .slice p.wh x.wher.length p.whc], .int .u8 a] w fun e w' => e = .returned (.bool true) ∧ Below w.heap.size w w' := by
  cases hf : fitsB x
  · exact sightKeeps_no x p a w h hf
  have h9 := wf_u8 ha
  obtain ⟨m1, rfl⟩ : ∃ m : Nat, a = m := ⟨a.toNat, by omega⟩
  exact sightKeeps_yes x p m1 _ (by omega) rfl w h hf
set_option maxRecDepth 100000 in
theorem lifted_sightKeeps (os : Os) (started : os.Started) (H : Type) (enc : TypeId × Value → H) :
    ReturnsInHanded {} Try.checked os 5 .any (Rows.sightKeepsSpec.pre6 enc Try.prog Try.f5 Rows.sightKeepsRow.domain false) (Rows.sightKeepsSpec.post enc Try.prog Try.f5 false true false false) := by
  refine returnsInHanded_of_change (C := Try.checked) (by kernel_rfl) started (by kernel_rfl) Try.func5
    (ChangeSpec.witness6 (enc := enc) (C := Try.checked) false ⟨#[], #[.agg #[.slice none 0 0, .slice none 0 0, .slice none 0 0, .slice none 0 0, .slice none 0 0, .int .i64 0, .int .i64 0, .int .i64 0, .slice none 0 0, .slice none 0 0, .slice none 0 0], .int .u8 0], []⟩ 8 (by kernel_rfl) (by kernel_rfl) (by kernel_rfl) (by kernel_rfl)) ?_
  intro W base args ds gs before hval0 hW hcnd _
  have hval : ∀ (j : Nat) t v, Try.f5.params[j]? = some t → args[j]? = some v → Value.okWide Try.prog W .any base t v := hval0
  have hW' := hW
  obtain ⟨p, q, hA0, hV, rfl, hfz, hnd⟩ := hW
  have hA : DataW.TrodAll enc Try.prog W 0 (fun _ => true) true Try.f5.params.toList args.toList ds p := hA0
  rw [Try.params5] at hA hval
  obtain ⟨v0, vs0, d0, ds0, p0, q0, hargs, rfl, rfl, h0, r0⟩ := trodAll_cons hA
  obtain ⟨v1, vs1, d1, ds1, p1, q1, rfl, rfl, rfl, h1, r1⟩ := trodAll_cons r0
  obtain ⟨rfl, rfl, rfl⟩ := trodAll_nil r1
  obtain rfl : args = #[v0, v1] := by cases args; simp_all
  obtain ⟨rfl, rfl⟩ := trodVars_none hV
  obtain ⟨wx0, wp0, rfl, m0⟩ := read_world (hval 0 29 v0 rfl rfl) h0
  obtain ⟨a1, rfl, rfl, rfl, w1⟩ := open_int Try.underlying5 (hval 1 5 v1 rfl rfl) h1
  clear hA0 hval0
  simp only [List.append_nil] at hW'
  refine (walk_sightKeeps wx0 wp0 a1 W w1 m0).mono fun e W' ⟨he, hg⟩ => ?_
  subst he
  exact ⟨_, rfl, law_post (by kernel_rfl) rfl (by rw [Try.params5]; decide +kernel) rfl rfl Try.underlying4 hW' hg⟩

/-- ████ THE STATEMENT ████ -/
theorem proved_sightKeeps : Rows.SightKeepsSaid :=
  OpenClaim.holds_of_wide 5 Try.f5 rfl rfl rfl rfl rfl rfl rfl ⟨rfl, rfl, rfl, rfl, rfl⟩ rfl rfl rfl rfl rfl (by kernel_rfl) Try.func5 (by kernel_rfl)
    (of_decide_eq_true (by kernel_rfl)) (by unfold Func.isWrapper; first | (rw [if_pos (by decide +kernel)]; kernel_rfl) | (rw [if_neg (by decide +kernel)]; exact ⟨rfl, rfl⟩))
    (fun os started H enc _ => lifted_sightKeeps os started H enc)
#print axioms proved_sightKeeps
end Go.Proofs.Ytojfichbnnfjpaa
