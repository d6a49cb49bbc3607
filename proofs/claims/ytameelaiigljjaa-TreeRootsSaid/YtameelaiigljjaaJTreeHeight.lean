import Derived.Test.YtameelaiigljjaaRows
import Derived.Test.YtameelaiigljjaaKit
import Derived.Test.YtameelaiigljjaaJMem
import Derived.Test.YtameelaiigljjaaCoin
import Derived.Test.YtameelaiigljjaaJWorld
import Derived.Test.YtameelaiigljjaaJDesc
import Derived.Test.YtameelaiigljjaaJSame
import Derived.Test.YtameelaiigljjaaJTreeAbove
import Derived.Test.YtameelaiigljjaaJTreeDepth
import Derived.Test.YtameelaiigljjaaJTreeWithin
import Derived.Deep.QuietTactic
import Derived.BigQuiet
import Derived.Deep.RegionHeld3
import Derived.WalkKit
import Derived.ProofKit
import Derived.OpenShut
import Derived.IntWalk
/- tree.Height: the greatest depth of what is within an item, less its own. -/
namespace Go.Proofs.Ytameelaiigljjaa
open Go.ChangeShapes Go.WideShapes Go.ChangeAt Go.RowKit
set_option linter.unusedVariables false
open Go.RowKit
theorem run_max2 (a b : Nat) (W : World) : (Builtin.max_ #[3, 3] 3 #[.int .i64 (a : Int), .int .i64 (b : Int)]).run Try.prog W = .ok (.int .i64 ((max a b : Nat) : Int)) W := by
  by_cases h : a < b
  · have h1 : (a : Int) < (b : Int) := by omega
    rw [show max a b = b by omega]; clear h; go_simp
  · have h1 : ¬ (a : Int) < (b : Int) := by omega
    rw [show max a b = a by omega]; clear h; go_simp
set_option maxRecDepth 100000 in
set_option maxHeartbeats 2000000 in
theorem theight_any (x : Wd) (p : Wp) (hT : Tr x.wher) (j : Nat) (hj : j < x.wher.length) (w : World) (h : PlsAt w p.wh x.wher) : Calls Try.prog 23 #[.agg #[.slice p.d.ex x.d.exits.length p.d.exc, .slice p.d.pl x.d.players.length p.d.plc, .slice p.d.co x.d.coins.length p.d.coc, .slice p.d.it x.d.items.length p.d.itc, .slice p.d.bo x.d.boxes.length p.d.boc, .int .i64 x.d.room, .int .i64 x.d.player, .int .i64 x.d.box, .slice p.at_ x.at_.length p.atc, .slice p.co x.coins.length p.coc, .slice p.wh x.wher.length p.whc], .int .i64 (j : Int)] w fun e w' => e = .returned (.int .i64 (hgt x.wher j : Nat)) ∧ Below w.heap.size w w' := by
  have hm := h.len
  have H := Lib.hid h
  have HT := Lib.hid hT
  clear h hT
  have HP := Lib.hid (Holds.new w #[.slice p.d.ex x.d.exits.length p.d.exc, .slice p.d.pl x.d.players.length p.d.plc, .slice p.d.co x.d.coins.length p.d.coc, .slice p.d.it x.d.items.length p.d.itc, .slice p.d.bo x.d.boxes.length p.d.boc, .int .i64 x.d.room, .int .i64 x.d.player, .int .i64 x.d.box, .slice p.at_ x.at_.length p.atc, .slice p.co x.coins.length p.coc, .slice p.wh x.wher.length p.whc] 29)
  go_enter Try.func23, Try.ntmps23
  go_wp2_with fail
  go_loopw [5, 10] (fun v i wr => ∃ k : Nat, k ≤ x.wher.length ∧ i = .int .i64 k ∧ v = .int .i64 (hgtN x.wher k j : Nat) ∧ Holds w w.heap.size #[.slice p.d.ex x.d.exits.length p.d.exc, .slice p.d.pl x.d.players.length p.d.plc, .slice p.d.co x.d.coins.length p.d.coc, .slice p.d.it x.d.items.length p.d.itc, .slice p.d.bo x.d.boxes.length p.d.boc, .int .i64 x.d.room, .int .i64 x.d.player, .int .i64 x.d.box, .slice p.at_ x.at_.length p.atc, .slice p.co x.coins.length p.coc, .slice p.wh x.wher.length p.whc] wr) (fun _ i _ => x.wher.length - (intOf i).toNat)
  case atStart => exact ⟨0, Nat.zero_le _, rfl, rfl, HP.out⟩
  case round =>
    obtain ⟨k, hk, rfl, rfl, h1⟩ := hrel
    have hc1 := h1.2.2
    have hl1 := h1.2.1
    by_cases hlt : k < x.wher.length
    · have hw : IntKind.i64.wrap ((k : Int) + 1) = (k : Int) + 1 := IntWalk.i64_in _ (by omega)
      have H1 := Lib.hid h1
      have HY := Lib.hid (show hgtN x.wher (k + 1) j = max (hgtN x.wher k j) (if wB x.wher k j then dep x.wher k - dep x.wher j else 0) from rfl)
      clear h1
      generalize hgtN x.wher k j = hh at *
      go_wp2_with fail
      refine (twithin_any x p HT.out k j hlt _ (H.out.below H1.out.1 (Nat.le_refl _))).mono ?_
      rintro e w1 ⟨rfl, b1⟩
      have K1 := Lib.hid (H1.out.call b1)
      have hc2 := K1.out.2.2
      have hl2 := K1.out.2.1
      clear b1 H1 hc1 hl1
      cases hwb : wB x.wher k j
      · have HX := Lib.hid (show hgtN x.wher (k + 1) j = hh by rw [HY.out, hwb]; simp)
        clear hwb HY
        go_wp2_with fail
        go_roundw
        case rel => exact ⟨k + 1, by omega, by go_num, by rw [HX.out], K1.out⟩
        case measure => simp [intOf]; omega
      · have HX := Lib.hid (show hgtN x.wher (k + 1) j = max hh (dep x.wher k - dep x.wher j) by rw [HY.out, hwb]; simp)
        have hle := (HT.out.within j k hlt hwb).2.1
        have hd4 := HT.out.dep4 hlt
        have D1 := Lib.hid (tdepth_any x p HT.out k hlt)
        have D2 := Lib.hid (tdepth_any x p HT.out j hj)
        clear hwb HY
        obtain ⟨dk, hdk⟩ : ∃ n, dep x.wher k = n := ⟨_, rfl⟩
        obtain ⟨dj, hdj⟩ : ∃ n, dep x.wher j = n := ⟨_, rfl⟩
        rw [hdk, hdj] at hle HX
        rw [hdk] at D1 hd4
        rw [hdj] at D2
        have hsub : IntKind.i64.wrap ((dk : Int) - (dj : Int)) = ((dk - dj : Nat) : Int) := by rw [IntWalk.i64_in _ (by omega)]; omega
        have hmax := run_max2 hh (dk - dj)
        have HXX := Lib.hid HX.out
        clear HX hdk hdj
        generalize dk - dj = ee at *
        have HV := Lib.hid (H.out.below K1.out.1 (Nat.le_refl _))
        have KS : Hid (∀ w', Below w1.heap.size w1 w' → Below w1.heap.size w1 w' ∧ (∀ i, w'.cell? ⟨w.heap.size, i, none⟩ = (#[.slice p.d.ex x.d.exits.length p.d.exc, .slice p.d.pl x.d.players.length p.d.plc, .slice p.d.co x.d.coins.length p.d.coc, .slice p.d.it x.d.items.length p.d.itc, .slice p.d.bo x.d.boxes.length p.d.boc, .int .i64 x.d.room, .int .i64 x.d.player, .int .i64 x.d.box, .slice p.at_ x.at_.length p.atc, .slice p.co x.coins.length p.coc, .slice p.wh x.wher.length p.whc][i]? : Option Value))) := Lib.hid (fun w' hb => ⟨hb, fun i => (hb.cell (p := ⟨w.heap.size, i, none⟩) K1.out.2.1).trans (K1.out.2.2 i)⟩)
        go_wp2_with fail
        refine wp_region_noPanic ?_
        refine wp_region_held_drew (S := (fun w' => Below w1.heap.size w1 w' ∧ (∀ i, w'.cell? ⟨w.heap.size, i, none⟩ = (#[.slice p.d.ex x.d.exits.length p.d.exc, .slice p.d.pl x.d.players.length p.d.plc, .slice p.d.co x.d.coins.length p.d.coc, .slice p.d.it x.d.items.length p.d.itc, .slice p.d.bo x.d.boxes.length p.d.boc, .int .i64 x.d.room, .int .i64 x.d.player, .int .i64 x.d.box, .slice p.at_ x.at_.length p.atc, .slice p.co x.coins.length p.coc, .slice p.wh x.wher.length p.whc][i]? : Option Value)))) (by kernel_rfl) (by (first | (with_reducible exact KS.out _ (bdrew1 (Below.refl _ _))) | (with_reducible exact KS.out _ (below_call hHeld.1 hHeld.1.size hb9)) | (with_reducible exact hHeld))) (fun hHeld => ?_)
        first
          | (refine wpAnyH_take (i := 0) (v := undef) (by simp only [List.getElem?_toArray, List.getElem?_cons_zero]; rfl) (by kernel_rfl) (by kernel_rfl) (by kernel_rfl) (fun _ _ _ h => h) (Or.inr ⟨by rfl, rfl⟩) (by assumption) ?_; try simp only [Act.put, List.setIfInBounds_toArray, List.set_cons_zero, List.set_cons_succ])
          | (refine wpAnyH_take (i := 0) (v := ?_) (by simp only [List.getElem?_toArray, List.getElem?_cons_zero]; rfl) (by kernel_rfl) (by kernel_rfl) (by kernel_rfl) (fun _ _ _ h => h) (Or.inl ⟨by rfl, ?_⟩) (by assumption) ?_
             rotate_left
             · (intro ww hSw; (try dsimp only at hSw); go_simp; (try with_reducible rfl))
             try simp only [Act.put, List.setIfInBounds_toArray, List.set_cons_zero, List.set_cons_succ])
          | (refine wpAnyH_ready (rs := [0]) (by kernel_rfl) (by simp) (AllReadyH.cons (by simp only [List.getElem?_toArray, List.getElem?_cons_succ, List.getElem?_cons_zero]; rfl) (fun K hK => ?_) AllReadyH.nil)
             go_simp
             first
               | (fail)
             try go_wp2_with fail
             refine hK.out _ _ (by (first | (with_reducible exact KS.out _ (bdrew1 (Below.refl _ _))) | (with_reducible exact KS.out _ (below_call hHeld.1 hHeld.1.size hb9)) | (with_reducible exact hHeld))) (fun hHeld => ?_)
             clear hK K
             try simp only [Act.put, List.setIfInBounds_toArray, List.set_cons_zero, List.set_cons_succ])
        first
          | (refine wpAnyH_take (i := 1) (v := undef) (by simp only [List.getElem?_toArray, List.getElem?_cons_succ, List.getElem?_cons_zero]; rfl) (by kernel_rfl) (by kernel_rfl) (by kernel_rfl) (fun _ _ _ h => h) (Or.inr ⟨by rfl, rfl⟩) (by assumption) ?_; try simp only [Act.put, List.setIfInBounds_toArray, List.set_cons_zero, List.set_cons_succ])
          | (refine wpAnyH_take (i := 1) (v := ?_) (by simp only [List.getElem?_toArray, List.getElem?_cons_succ, List.getElem?_cons_zero]; rfl) (by kernel_rfl) (by kernel_rfl) (by kernel_rfl) (fun _ _ _ h => h) (Or.inl ⟨by rfl, ?_⟩) (by assumption) ?_
             rotate_left
             · (intro ww hSw; (try dsimp only at hSw); go_simp; (try with_reducible rfl))
             try simp only [Act.put, List.setIfInBounds_toArray, List.set_cons_zero, List.set_cons_succ])
          | (refine wpAnyH_ready (rs := [1]) (by kernel_rfl) (by simp) (AllReadyH.cons (by simp only [List.getElem?_toArray, List.getElem?_cons_succ, List.getElem?_cons_zero]; rfl) (fun K hK => ?_) AllReadyH.nil)
             go_simp
             first
               | (fail)
             try go_wp2_with fail
             refine hK.out _ _ (by (first | (with_reducible exact KS.out _ (bdrew1 (Below.refl _ _))) | (with_reducible exact KS.out _ (below_call hHeld.1 hHeld.1.size hb9)) | (with_reducible exact hHeld))) (fun hHeld => ?_)
             clear hK K
             try simp only [Act.put, List.setIfInBounds_toArray, List.set_cons_zero, List.set_cons_succ])
        first
          | (refine wpAnyH_take (i := 2) (v := undef) (by simp only [List.getElem?_toArray, List.getElem?_cons_succ, List.getElem?_cons_zero]; rfl) (by kernel_rfl) (by kernel_rfl) (by kernel_rfl) (fun _ _ _ h => h) (Or.inr ⟨by rfl, rfl⟩) (by assumption) ?_; try simp only [Act.put, List.setIfInBounds_toArray, List.set_cons_zero, List.set_cons_succ])
          | (refine wpAnyH_take (i := 2) (v := ?_) (by simp only [List.getElem?_toArray, List.getElem?_cons_succ, List.getElem?_cons_zero]; rfl) (by kernel_rfl) (by kernel_rfl) (by kernel_rfl) (fun _ _ _ h => h) (Or.inl ⟨by rfl, ?_⟩) (by assumption) ?_
             rotate_left
             · (intro ww hSw; (try dsimp only at hSw); go_simp; (try with_reducible rfl))
             try simp only [Act.put, List.setIfInBounds_toArray, List.set_cons_zero, List.set_cons_succ])
          | (refine wpAnyH_ready (rs := [2]) (by kernel_rfl) (by simp) (AllReadyH.cons (by simp only [List.getElem?_toArray, List.getElem?_cons_succ, List.getElem?_cons_zero]; rfl) (fun K hK => ?_) AllReadyH.nil)
             go_simp
             first
               | (fail)
             try go_wp2_with fail
             refine hK.out _ _ (by (first | (with_reducible exact KS.out _ (bdrew1 (Below.refl _ _))) | (with_reducible exact KS.out _ (below_call hHeld.1 hHeld.1.size hb9)) | (with_reducible exact hHeld))) (fun hHeld => ?_)
             clear hK K
             try simp only [Act.put, List.setIfInBounds_toArray, List.set_cons_zero, List.set_cons_succ])
        first
          | (refine wpAnyH_take (i := 4) (v := undef) (by simp only [List.getElem?_toArray, List.getElem?_cons_succ, List.getElem?_cons_zero]; rfl) (by kernel_rfl) (by kernel_rfl) (by kernel_rfl) (fun _ _ _ h => h) (Or.inr ⟨by rfl, rfl⟩) (by assumption) ?_; try simp only [Act.put, List.setIfInBounds_toArray, List.set_cons_zero, List.set_cons_succ])
          | (refine wpAnyH_take (i := 4) (v := ?_) (by simp only [List.getElem?_toArray, List.getElem?_cons_succ, List.getElem?_cons_zero]; rfl) (by kernel_rfl) (by kernel_rfl) (by kernel_rfl) (fun _ _ _ h => h) (Or.inl ⟨by rfl, ?_⟩) (by assumption) ?_
             rotate_left
             · (intro ww hSw; (try dsimp only at hSw); go_simp; (try with_reducible rfl))
             try simp only [Act.put, List.setIfInBounds_toArray, List.set_cons_zero, List.set_cons_succ])
          | (refine wpAnyH_ready (rs := [4]) (by kernel_rfl) (by simp) (AllReadyH.cons (by simp only [List.getElem?_toArray, List.getElem?_cons_succ, List.getElem?_cons_zero]; rfl) (fun K hK => ?_) AllReadyH.nil)
             go_simp
             first
               | (fail)
             try go_wp2_with fail
             refine hK.out _ _ (by (first | (with_reducible exact KS.out _ (bdrew1 (Below.refl _ _))) | (with_reducible exact KS.out _ (below_call hHeld.1 hHeld.1.size hb9)) | (with_reducible exact hHeld))) (fun hHeld => ?_)
             clear hK K
             try simp only [Act.put, List.setIfInBounds_toArray, List.set_cons_zero, List.set_cons_succ])
        first
          | (refine wpAnyH_take (i := 5) (v := undef) (by simp only [List.getElem?_toArray, List.getElem?_cons_succ, List.getElem?_cons_zero]; rfl) (by kernel_rfl) (by kernel_rfl) (by kernel_rfl) (fun _ _ _ h => h) (Or.inr ⟨by rfl, rfl⟩) (by assumption) ?_; try simp only [Act.put, List.setIfInBounds_toArray, List.set_cons_zero, List.set_cons_succ])
          | (refine wpAnyH_take (i := 5) (v := ?_) (by simp only [List.getElem?_toArray, List.getElem?_cons_succ, List.getElem?_cons_zero]; rfl) (by kernel_rfl) (by kernel_rfl) (by kernel_rfl) (fun _ _ _ h => h) (Or.inl ⟨by rfl, ?_⟩) (by assumption) ?_
             rotate_left
             · (intro ww hSw; (try dsimp only at hSw); go_simp; (try with_reducible rfl))
             try simp only [Act.put, List.setIfInBounds_toArray, List.set_cons_zero, List.set_cons_succ])
          | (refine wpAnyH_ready (rs := [5]) (by kernel_rfl) (by simp) (AllReadyH.cons (by simp only [List.getElem?_toArray, List.getElem?_cons_succ, List.getElem?_cons_zero]; rfl) (fun K hK => ?_) AllReadyH.nil)
             go_simp
             first
               | (fail)
             try go_wp2_with fail
             refine hK.out _ _ (by (first | (with_reducible exact KS.out _ (bdrew1 (Below.refl _ _))) | (with_reducible exact KS.out _ (below_call hHeld.1 hHeld.1.size hb9)) | (with_reducible exact hHeld))) (fun hHeld => ?_)
             clear hK K
             try simp only [Act.put, List.setIfInBounds_toArray, List.set_cons_zero, List.set_cons_succ])
        refine wpAnyH_ready (rs := [3]) (by kernel_rfl) (by simp) (AllReadyH.cons (by simp only [List.getElem?_toArray, List.getElem?_cons_succ, List.getElem?_cons_zero]; rfl) (fun K hK => ?_) AllReadyH.nil)
        go_simp; refine (D1.out _ (HV.out.below hHeld.1 (Nat.le_refl _))).mono ?_; rintro e w9 ⟨rfl, hb9⟩; try go_wp2_with fail
        refine hK.out _ _ (by (first | (with_reducible exact KS.out _ (bdrew1 (Below.refl _ _))) | (with_reducible exact KS.out _ (below_call hHeld.1 hHeld.1.size hb9)) | (with_reducible exact hHeld))) (fun hHeld => ?_)
        clear hK K
        try simp only [Act.put, List.setIfInBounds_toArray, List.set_cons_zero, List.set_cons_succ]
        refine wpAnyH_ready (rs := [6]) (by kernel_rfl) (by simp) (AllReadyH.cons (by simp only [List.getElem?_toArray, List.getElem?_cons_succ, List.getElem?_cons_zero]; rfl) (fun K hK => ?_) AllReadyH.nil)
        go_simp; refine (D2.out _ (HV.out.below hHeld.1 (Nat.le_refl _))).mono ?_; rintro e w9 ⟨rfl, hb9⟩; try go_wp2_with fail
        refine hK.out _ _ (by (first | (with_reducible exact KS.out _ (bdrew1 (Below.refl _ _))) | (with_reducible exact KS.out _ (below_call hHeld.1 hHeld.1.size hb9)) | (with_reducible exact hHeld))) (fun hHeld => ?_)
        clear hK K
        try simp only [Act.put, List.setIfInBounds_toArray, List.set_cons_zero, List.set_cons_succ]
        first
          | (refine wpAnyH_take (i := 7) (v := undef) (by simp only [List.getElem?_toArray, List.getElem?_cons_succ, List.getElem?_cons_zero]; rfl) (by kernel_rfl) (by kernel_rfl) (by kernel_rfl) (fun _ _ _ h => h) (Or.inr ⟨by rfl, rfl⟩) (by assumption) ?_; try simp only [Act.put, List.setIfInBounds_toArray, List.set_cons_zero, List.set_cons_succ])
          | (refine wpAnyH_take (i := 7) (v := ?_) (by simp only [List.getElem?_toArray, List.getElem?_cons_succ, List.getElem?_cons_zero]; rfl) (by kernel_rfl) (by kernel_rfl) (by kernel_rfl) (fun _ _ _ h => h) (Or.inl ⟨by rfl, ?_⟩) (by assumption) ?_
             rotate_left
             · (intro ww hSw; (try dsimp only at hSw); go_simp; (try with_reducible rfl))
             try simp only [Act.put, List.setIfInBounds_toArray, List.set_cons_zero, List.set_cons_succ])
          | (refine wpAnyH_ready (rs := [7]) (by kernel_rfl) (by simp) (AllReadyH.cons (by simp only [List.getElem?_toArray, List.getElem?_cons_succ, List.getElem?_cons_zero]; rfl) (fun K hK => ?_) AllReadyH.nil)
             go_simp
             first
               | (fail)
             try go_wp2_with fail
             refine hK.out _ _ (by (first | (with_reducible exact KS.out _ (bdrew1 (Below.refl _ _))) | (with_reducible exact KS.out _ (below_call hHeld.1 hHeld.1.size hb9)) | (with_reducible exact hHeld))) (fun hHeld => ?_)
             clear hK K
             try simp only [Act.put, List.setIfInBounds_toArray, List.set_cons_zero, List.set_cons_succ])
        first
          | (refine wpAnyH_take (i := 8) (v := undef) (by simp only [List.getElem?_toArray, List.getElem?_cons_succ, List.getElem?_cons_zero]; rfl) (by kernel_rfl) (by kernel_rfl) (by kernel_rfl) (fun _ _ _ h => h) (Or.inr ⟨by rfl, rfl⟩) (by assumption) ?_; try simp only [Act.put, List.setIfInBounds_toArray, List.set_cons_zero, List.set_cons_succ])
          | (refine wpAnyH_take (i := 8) (v := ?_) (by simp only [List.getElem?_toArray, List.getElem?_cons_succ, List.getElem?_cons_zero]; rfl) (by kernel_rfl) (by kernel_rfl) (by kernel_rfl) (fun _ _ _ h => h) (Or.inl ⟨by rfl, ?_⟩) (by assumption) ?_
             rotate_left
             · (intro ww hSw; (try dsimp only at hSw); go_simp; (try with_reducible rfl))
             try simp only [Act.put, List.setIfInBounds_toArray, List.set_cons_zero, List.set_cons_succ])
          | (refine wpAnyH_ready (rs := [8]) (by kernel_rfl) (by simp) (AllReadyH.cons (by simp only [List.getElem?_toArray, List.getElem?_cons_succ, List.getElem?_cons_zero]; rfl) (fun K hK => ?_) AllReadyH.nil)
             go_simp
             first
               | (fail)
             try go_wp2_with fail
             refine hK.out _ _ (by (first | (with_reducible exact KS.out _ (bdrew1 (Below.refl _ _))) | (with_reducible exact KS.out _ (below_call hHeld.1 hHeld.1.size hb9)) | (with_reducible exact hHeld))) (fun hHeld => ?_)
             clear hK K
             try simp only [Act.put, List.setIfInBounds_toArray, List.set_cons_zero, List.set_cons_succ])
        first
          | (refine wpAnyH_take (i := 9) (v := undef) (by simp only [List.getElem?_toArray, List.getElem?_cons_succ, List.getElem?_cons_zero]; rfl) (by kernel_rfl) (by kernel_rfl) (by kernel_rfl) (fun _ _ _ h => h) (Or.inr ⟨by rfl, rfl⟩) (by assumption) ?_; try simp only [Act.put, List.setIfInBounds_toArray, List.set_cons_zero, List.set_cons_succ])
          | (refine wpAnyH_take (i := 9) (v := ?_) (by simp only [List.getElem?_toArray, List.getElem?_cons_succ, List.getElem?_cons_zero]; rfl) (by kernel_rfl) (by kernel_rfl) (by kernel_rfl) (fun _ _ _ h => h) (Or.inl ⟨by rfl, ?_⟩) (by assumption) ?_
             rotate_left
             · (intro ww hSw; (try dsimp only at hSw); go_simp; (try with_reducible rfl))
             try simp only [Act.put, List.setIfInBounds_toArray, List.set_cons_zero, List.set_cons_succ])
          | (refine wpAnyH_ready (rs := [9]) (by kernel_rfl) (by simp) (AllReadyH.cons (by simp only [List.getElem?_toArray, List.getElem?_cons_succ, List.getElem?_cons_zero]; rfl) (fun K hK => ?_) AllReadyH.nil)
             go_simp
             first
               | (fail)
             try go_wp2_with fail
             refine hK.out _ _ (by (first | (with_reducible exact KS.out _ (bdrew1 (Below.refl _ _))) | (with_reducible exact KS.out _ (below_call hHeld.1 hHeld.1.size hb9)) | (with_reducible exact hHeld))) (fun hHeld => ?_)
             clear hK K
             try simp only [Act.put, List.setIfInBounds_toArray, List.set_cons_zero, List.set_cons_succ])
        refine wpAnyH_done (by kernel_rfl) ?_ _
        refine NoPanic.normal ?_
        have K2 := Lib.hid (K1.out.call hHeld.1)
        clear hHeld
        go_wp2_with fail
        go_roundw
        case rel => exact ⟨k + 1, by omega, by go_num, by rw [HXX.out], K2.out⟩
        case measure => simp [intOf]; omega
    · have hke : k = x.wher.length := by omega
      subst hke
      have H1 := Lib.hid h1
      clear H h1
      go_wp2_with fail
      go_ret
      exact ⟨rfl, H1.out.1⟩
end Go.Proofs.Ytameelaiigljjaa
