/- The document's own Right: the loops. -/
import Derived.Test.YthagafopkkhjjaaGreatRows
import Derived.Test.YthagafopkkhjjaaGreatTk
import Derived.Test.YthagafopkkhjjaaGreatKit
import Derived.Test.YthagafopkkhjjaaGreatGMem
import Derived.Test.YthagafopkkhjjaaGreatCoin
import Derived.Test.YthagafopkkhjjaaGreatGWorld
import Derived.Test.YthagafopkkhjjaaGreatGDescF
import Derived.Test.YthagafopkkhjjaaGreatDescMay
import Derived.Test.YthagafopkkhjjaaGreatGRight
import Derived.Test.YthagafopkkhjjaaGreatGDescN
import Derived.Test.YthagafopkkhjjaaGreatGCopy
import Derived.Test.YthagafopkkhjjaaGreatGRefD
import Derived.Test.YthagafopkkhjjaaGreatGRefMay
import Derived.Deep.QuietTactic
import Derived.BigQuiet
import Derived.Deep.RegionHeld3
import Derived.WalkKit
import Derived.ProofKit
import Derived.OpenShut
import Derived.IntWalk
namespace Go.Proofs.YthagafopkkhjjaaGreat
open Go.ChangeShapes Go.WideShapes Go.ChangeAt Go.RowKit
set_option linter.unusedVariables false
open Go.RowKit
open List (setIfInBounds_toArray)
/-- The two boxes of the call. -/
def RR (w : World) (A B : Array Value) (wr : World) : Prop := Holds w w.heap.size A wr ∧ Holds w (w.heap.size + 1) B wr
set_option maxRecDepth 100000 in
set_option maxHeartbeats 4000000 in
theorem refright_go (x : Wd) (px pp pc pi pb pa pk pw : Option Addr) (pxc ppc pcc pic pbc pac pkc pwc : Nat) (w : World) (h : WorldAt w ⟨⟨px, pxc, pp, ppc, pc, pcc, pi, pic, pb, pbc⟩, pa, pac, pk, pkc, pw, pwc⟩ x) (hm : mayD x.d = true) (hl : WLens x) :
    Calls Tryz.prog 14 #[.agg (wC x ⟨⟨px, pxc, pp, ppc, pc, pcc, pi, pic, pb, pbc⟩, pa, pac, pk, pkc, pw, pwc⟩)] w fun e w' => e = .returned (.bool (rightW x)) ∧ Below w.heap.size w w' := by
  have HR := Lib.hid (right_split hm hl)
  have H := Lib.hid h
  have HP := Lib.hid (Holds.pair w (wC x ⟨⟨px, pxc, pp, ppc, pc, pcc, pi, pic, pb, pbc⟩, pa, pac, pk, pkc, pw, pwc⟩) #[.slice px x.d.exits.length pxc, .slice pp x.d.players.length ppc, .slice pc x.d.coins.length pcc, .slice pi x.d.items.length pic, .slice pb x.d.boxes.length pbc, .int .i64 x.d.room, .int .i64 x.d.player, .int .i64 x.d.box] 29 26)
  have HX := Lib.hid hm
  have HFW := Lib.hid (may_few hm)
  obtain ⟨e1, e2, e3⟩ := hl
  have E1 := Lib.hid e1
  have E2 := Lib.hid e2
  have E3 := Lib.hid e3
  have q1 : ((x.at_.length : Int) != (x.d.players.length : Int)) = false := by simp; omega
  have q2 : ((x.coins.length : Int) != (x.d.players.length : Int)) = false := by simp; omega
  have q3 : ((x.wher.length : Int) != (x.d.items.length : Int)) = false := by simp; omega
  have hw16 : x.wher.length ≤ 16 := by have := HFW.out; omega
  have ha6 : x.at_.length ≤ 6 := by have := HFW.out; omega
  clear h hm e1 e2 e3
  have hWC := @wC.eq_1
  go_enter Tryz.func14, Tryz.ntmps14
  go_wp2_with fail
  refine (refmay_any x.d _ _ (H.out.below HP.out.1.1 (Nat.le_refl _)).d).mono ?_
  rintro e w1 ⟨rfl, b1⟩
  rw [HX.out]
  have HQ := Lib.hid (show RR w (wC x ⟨⟨px, pxc, pp, ppc, pc, pcc, pi, pic, pb, pbc⟩, pa, pac, pk, pkc, pw, pwc⟩) #[.slice px x.d.exits.length pxc, .slice pp x.d.players.length ppc, .slice pc x.d.coins.length pcc, .slice pi x.d.items.length pic, .slice pb x.d.boxes.length pbc, .int .i64 x.d.room, .int .i64 x.d.player, .int .i64 x.d.box] w1 from Holds.call2 HP.out b1)
  clear b1 HP
  have hcA := HQ.out.1.2.2
  have hcB := HQ.out.2.2.2
  go_wp2_with fail
  clear hcA hcB q1 q2 q3
  go_loopw [4] (fun i wr => ∃ j : Nat, j ≤ x.at_.length ∧ i = .int .i64 j ∧ (x.at_.take j).all (fun n => inB n x.d.exits.length) = true ∧ (x.coins.take j).all isB = true ∧ RR w (wC x ⟨⟨px, pxc, pp, ppc, pc, pcc, pi, pic, pb, pbc⟩, pa, pac, pk, pkc, pw, pwc⟩) #[.slice px x.d.exits.length pxc, .slice pp x.d.players.length ppc, .slice pc x.d.coins.length pcc, .slice pi x.d.items.length pic, .slice pb x.d.boxes.length pbc, .int .i64 x.d.room, .int .i64 x.d.player, .int .i64 x.d.box] wr) (fun i _ => x.at_.length - (intOf i).toNat)
  case atStart => exact ⟨0, Nat.zero_le _, rfl, rfl, rfl, HQ.out⟩
  case round =>
    obtain ⟨j, hj, rfl, ht1, ht2, hrr⟩ := hrel
    clear HQ
    have T1 := Lib.hid ht1
    have T2 := Lib.hid ht2
    have HQ := Lib.hid hrr
    clear ht1 ht2 hrr
    have hcA := HQ.out.1.2.2
    have hcB := HQ.out.2.2.2
    by_cases hlj : j < x.at_.length
    · have hlc : j < x.coins.length := by have h1 := E1.out; have h2 := E2.out; omega
      obtain ⟨b, o, rfl, hb, hcs⟩ := (show IntsAt _ pa x.at_ from H.out.at_).at_ hlj
      have hi1 := (HQ.out.1.1.cell (p := ⟨b, o + j, none⟩) hb).trans (hcs j hlj)
      obtain ⟨b2, o2, rfl, hb2, hcs2⟩ := (show IntsAt _ pk x.coins from H.out.co).at_ hlc
      have hi2 := (HQ.out.1.1.cell (p := ⟨b2, o2 + j, none⟩) hb2).trans (hcs2 j hlc)
      clear hcs hcs2
      have F1 := Lib.hid (all_take_succ (fun n => inB n x.d.exits.length) hlj T1.out)
      have F2 := Lib.hid (all_take_succ isB hlc T2.out)
      have N1 := Lib.hid (all_not (fun n => inB n x.d.exits.length) hlj)
      have N2 := Lib.hid (all_not isB hlc)
      generalize x.at_[j] = u at *
      generalize x.coins[j] = v at *
      have CA := Lib.hid hcA
      have CB := Lib.hid hcB
      have I1 := Lib.hid hi1
      have I2 := Lib.hid hi2
      cases hx : inB u x.d.exits.length
      · have HX := Lib.hid hx
        have HX2 := Lib.hid (show ofB x.at_ x.d.exits.length = false from N1.out hx)
        clear hx F1 F2 N1 N2
        go_wp2_with fail
        refine wp_region_noPanic ?_
        refine wp_region_held_drew (S := (fun w' => (∀ i, w'.cell? ⟨w.heap.size, i, none⟩ = ((wC x ⟨⟨px, pxc, pp, ppc, pc, pcc, pi, pic, pb, pbc⟩, some ⟨b, o, none⟩, pac, some ⟨b2, o2, none⟩, pkc, pw, pwc⟩)[i]? : Option Value)) ∧ (∀ i, w'.cell? ⟨w.heap.size + 1, i, none⟩ = (#[.slice px x.d.exits.length pxc, .slice pp x.d.players.length ppc, .slice pc x.d.coins.length pcc, .slice pi x.d.items.length pic, .slice pb x.d.boxes.length pbc, .int .i64 x.d.room, .int .i64 x.d.player, .int .i64 x.d.box][i]? : Option Value)) ∧ w'.cell? ⟨b, o + j, none⟩ = some (.int .i64 u) ∧ w'.cell? ⟨b2, o2 + j, none⟩ = some (.int .i64 v))) (by kernel_rfl) (by (first | (exact ⟨CA.out, CB.out, I1.out, I2.out⟩) | (exact hHeld))) (fun hHeld => ?_)
        iterate 6
          first
            | ((first | refine tkW 0 (v := ?_) ?_ ?_ | refine tkW 1 (v := ?_) ?_ ?_ | refine tkW 2 (v := ?_) ?_ ?_ | refine tkW 3 (v := ?_) ?_ ?_ | refine tkW 4 (v := ?_) ?_ ?_ | refine tkW 5 (v := ?_) ?_ ?_)
               rotate_left
               · (intro ww hSw; (try dsimp only at hSw); go_simp; (try with_reducible rfl)))
            | (first | refine tkN 0 ?_ | refine tkN 1 ?_ | refine tkN 2 ?_ | refine tkN 3 ?_ | refine tkN 4 ?_ | refine tkN 5 ?_)
            | ((first | refine rdy1 0 (fun K hK => ?_) | refine rdy1 1 (fun K hK => ?_) | refine rdy1 2 (fun K hK => ?_) | refine rdy1 3 (fun K hK => ?_) | refine rdy1 4 (fun K hK => ?_) | refine rdy1 5 (fun K hK => ?_))
               go_simp
               first
                 | (go_at_call 37; refine (refin_any _ _ _).mono ?_; rintro e w9 ⟨rfl, rfl⟩; rw [HX.out])
               try go_wp2_with fail
               refine hK.out _ _ (by (first | (exact ⟨CA.out, CB.out, I1.out, I2.out⟩) | (exact hHeld))) (fun hHeld => ?_)
               clear hK K)
          try simp only [Act.put, setIfInBounds_toArray, List.set_cons_zero, List.set_cons_succ]
        iterate 6
          first
            | ((first | refine tkW 6 (v := ?_) ?_ ?_ | refine tkW 7 (v := ?_) ?_ ?_ | refine tkW 8 (v := ?_) ?_ ?_ | refine tkW 9 (v := ?_) ?_ ?_ | refine tkW 10 (v := ?_) ?_ ?_ | refine tkW 11 (v := ?_) ?_ ?_)
               rotate_left
               · (intro ww hSw; (try dsimp only at hSw); go_simp; (try with_reducible rfl)))
            | (first | refine tkN 6 ?_ | refine tkN 7 ?_ | refine tkN 8 ?_ | refine tkN 9 ?_ | refine tkN 10 ?_ | refine tkN 11 ?_)
            | ((first | refine rdy1 6 (fun K hK => ?_) | refine rdy1 7 (fun K hK => ?_) | refine rdy1 8 (fun K hK => ?_) | refine rdy1 9 (fun K hK => ?_) | refine rdy1 10 (fun K hK => ?_) | refine rdy1 11 (fun K hK => ?_))
               go_simp
               first
                 | (go_at_call 37; refine (refin_any _ _ _).mono ?_; rintro e w9 ⟨rfl, rfl⟩; rw [HX.out])
               try go_wp2_with fail
               refine hK.out _ _ (by (first | (exact ⟨CA.out, CB.out, I1.out, I2.out⟩) | (exact hHeld))) (fun hHeld => ?_)
               clear hK K)
          try simp only [Act.put, setIfInBounds_toArray, List.set_cons_zero, List.set_cons_succ]
        iterate 6
          first
            | ((first | refine tkW 12 (v := ?_) ?_ ?_ | refine tkW 13 (v := ?_) ?_ ?_ | refine tkW 14 (v := ?_) ?_ ?_ | refine tkW 15 (v := ?_) ?_ ?_ | refine tkW 16 (v := ?_) ?_ ?_ | refine tkW 17 (v := ?_) ?_ ?_)
               rotate_left
               · (intro ww hSw; (try dsimp only at hSw); go_simp; (try with_reducible rfl)))
            | (first | refine tkN 12 ?_ | refine tkN 13 ?_ | refine tkN 14 ?_ | refine tkN 15 ?_ | refine tkN 16 ?_ | refine tkN 17 ?_)
            | ((first | refine rdy1 12 (fun K hK => ?_) | refine rdy1 13 (fun K hK => ?_) | refine rdy1 14 (fun K hK => ?_) | refine rdy1 15 (fun K hK => ?_) | refine rdy1 16 (fun K hK => ?_) | refine rdy1 17 (fun K hK => ?_))
               go_simp
               first
                 | (go_at_call 37; refine (refin_any _ _ _).mono ?_; rintro e w9 ⟨rfl, rfl⟩; rw [HX.out])
               try go_wp2_with fail
               refine hK.out _ _ (by (first | (exact ⟨CA.out, CB.out, I1.out, I2.out⟩) | (exact hHeld))) (fun hHeld => ?_)
               clear hK K)
          try simp only [Act.put, setIfInBounds_toArray, List.set_cons_zero, List.set_cons_succ]
        iterate 1
          first
            | ((first | refine tkW 18 (v := ?_) ?_ ?_)
               rotate_left
               · (intro ww hSw; (try dsimp only at hSw); go_simp; (try with_reducible rfl)))
            | (first | refine tkN 18 ?_)
            | ((first | refine rdy1 18 (fun K hK => ?_))
               go_simp
               first
                 | (go_at_call 37; refine (refin_any _ _ _).mono ?_; rintro e w9 ⟨rfl, rfl⟩; rw [HX.out])
               try go_wp2_with fail
               refine hK.out _ _ (by (first | (exact ⟨CA.out, CB.out, I1.out, I2.out⟩) | (exact hHeld))) (fun hHeld => ?_)
               clear hK K)
          try simp only [Act.put, setIfInBounds_toArray, List.set_cons_zero, List.set_cons_succ]
        refine wpAnyH_done (by kernel_rfl) ?_ _
        refine NoPanic.normal ?_
        go_wp2_with fail
        go_ret
        exact ⟨ret_bool (by rw [HR.out, HX2.out]; simp), HQ.out.1.drew.1⟩
      cases hy : isB v
      · have HX := Lib.hid hx
        have HY := Lib.hid hy
        have HX2 := Lib.hid (show pursesB x.coins = false from N2.out hy)
        clear hx hy F1 F2 N1 N2
        go_wp2_with fail
        refine wp_region_noPanic ?_
        refine wp_region_held_drew (S := (fun w' => (∀ i, w'.cell? ⟨w.heap.size, i, none⟩ = ((wC x ⟨⟨px, pxc, pp, ppc, pc, pcc, pi, pic, pb, pbc⟩, some ⟨b, o, none⟩, pac, some ⟨b2, o2, none⟩, pkc, pw, pwc⟩)[i]? : Option Value)) ∧ (∀ i, w'.cell? ⟨w.heap.size + 1, i, none⟩ = (#[.slice px x.d.exits.length pxc, .slice pp x.d.players.length ppc, .slice pc x.d.coins.length pcc, .slice pi x.d.items.length pic, .slice pb x.d.boxes.length pbc, .int .i64 x.d.room, .int .i64 x.d.player, .int .i64 x.d.box][i]? : Option Value)) ∧ w'.cell? ⟨b, o + j, none⟩ = some (.int .i64 u) ∧ w'.cell? ⟨b2, o2 + j, none⟩ = some (.int .i64 v))) (by kernel_rfl) (by (first | (exact ⟨CA.out, CB.out, I1.out, I2.out⟩) | (exact hHeld))) (fun hHeld => ?_)
        iterate 6
          first
            | ((first | refine tkW 0 (v := ?_) ?_ ?_ | refine tkW 1 (v := ?_) ?_ ?_ | refine tkW 2 (v := ?_) ?_ ?_ | refine tkW 3 (v := ?_) ?_ ?_ | refine tkW 4 (v := ?_) ?_ ?_ | refine tkW 5 (v := ?_) ?_ ?_)
               rotate_left
               · (intro ww hSw; (try dsimp only at hSw); go_simp; (try with_reducible rfl)))
            | (first | refine tkN 0 ?_ | refine tkN 1 ?_ | refine tkN 2 ?_ | refine tkN 3 ?_ | refine tkN 4 ?_ | refine tkN 5 ?_)
            | ((first | refine rdy1 0 (fun K hK => ?_) | refine rdy1 1 (fun K hK => ?_) | refine rdy1 2 (fun K hK => ?_) | refine rdy1 3 (fun K hK => ?_) | refine rdy1 4 (fun K hK => ?_) | refine rdy1 5 (fun K hK => ?_))
               go_simp
               first
                 | (go_at_call 37; refine (refin_any _ _ _).mono ?_; rintro e w9 ⟨rfl, rfl⟩; rw [HX.out])
                 | (go_at_call 38; refine (refis_any _ _).mono ?_; rintro e w9 ⟨rfl, rfl⟩; rw [HY.out])
               try go_wp2_with fail
               refine hK.out _ _ (by (first | (exact ⟨CA.out, CB.out, I1.out, I2.out⟩) | (exact hHeld))) (fun hHeld => ?_)
               clear hK K)
          try simp only [Act.put, setIfInBounds_toArray, List.set_cons_zero, List.set_cons_succ]
        iterate 6
          first
            | ((first | refine tkW 6 (v := ?_) ?_ ?_ | refine tkW 7 (v := ?_) ?_ ?_ | refine tkW 8 (v := ?_) ?_ ?_ | refine tkW 9 (v := ?_) ?_ ?_ | refine tkW 10 (v := ?_) ?_ ?_ | refine tkW 11 (v := ?_) ?_ ?_)
               rotate_left
               · (intro ww hSw; (try dsimp only at hSw); go_simp; (try with_reducible rfl)))
            | (first | refine tkN 6 ?_ | refine tkN 7 ?_ | refine tkN 8 ?_ | refine tkN 9 ?_ | refine tkN 10 ?_ | refine tkN 11 ?_)
            | ((first | refine rdy1 6 (fun K hK => ?_) | refine rdy1 7 (fun K hK => ?_) | refine rdy1 8 (fun K hK => ?_) | refine rdy1 9 (fun K hK => ?_) | refine rdy1 10 (fun K hK => ?_) | refine rdy1 11 (fun K hK => ?_))
               go_simp
               first
                 | (go_at_call 37; refine (refin_any _ _ _).mono ?_; rintro e w9 ⟨rfl, rfl⟩; rw [HX.out])
                 | (go_at_call 38; refine (refis_any _ _).mono ?_; rintro e w9 ⟨rfl, rfl⟩; rw [HY.out])
               try go_wp2_with fail
               refine hK.out _ _ (by (first | (exact ⟨CA.out, CB.out, I1.out, I2.out⟩) | (exact hHeld))) (fun hHeld => ?_)
               clear hK K)
          try simp only [Act.put, setIfInBounds_toArray, List.set_cons_zero, List.set_cons_succ]
        iterate 6
          first
            | ((first | refine tkW 12 (v := ?_) ?_ ?_ | refine tkW 13 (v := ?_) ?_ ?_ | refine tkW 14 (v := ?_) ?_ ?_ | refine tkW 15 (v := ?_) ?_ ?_ | refine tkW 16 (v := ?_) ?_ ?_ | refine tkW 17 (v := ?_) ?_ ?_)
               rotate_left
               · (intro ww hSw; (try dsimp only at hSw); go_simp; (try with_reducible rfl)))
            | (first | refine tkN 12 ?_ | refine tkN 13 ?_ | refine tkN 14 ?_ | refine tkN 15 ?_ | refine tkN 16 ?_ | refine tkN 17 ?_)
            | ((first | refine rdy1 12 (fun K hK => ?_) | refine rdy1 13 (fun K hK => ?_) | refine rdy1 14 (fun K hK => ?_) | refine rdy1 15 (fun K hK => ?_) | refine rdy1 16 (fun K hK => ?_) | refine rdy1 17 (fun K hK => ?_))
               go_simp
               first
                 | (go_at_call 37; refine (refin_any _ _ _).mono ?_; rintro e w9 ⟨rfl, rfl⟩; rw [HX.out])
                 | (go_at_call 38; refine (refis_any _ _).mono ?_; rintro e w9 ⟨rfl, rfl⟩; rw [HY.out])
               try go_wp2_with fail
               refine hK.out _ _ (by (first | (exact ⟨CA.out, CB.out, I1.out, I2.out⟩) | (exact hHeld))) (fun hHeld => ?_)
               clear hK K)
          try simp only [Act.put, setIfInBounds_toArray, List.set_cons_zero, List.set_cons_succ]
        iterate 1
          first
            | ((first | refine tkW 18 (v := ?_) ?_ ?_)
               rotate_left
               · (intro ww hSw; (try dsimp only at hSw); go_simp; (try with_reducible rfl)))
            | (first | refine tkN 18 ?_)
            | ((first | refine rdy1 18 (fun K hK => ?_))
               go_simp
               first
                 | (go_at_call 37; refine (refin_any _ _ _).mono ?_; rintro e w9 ⟨rfl, rfl⟩; rw [HX.out])
                 | (go_at_call 38; refine (refis_any _ _).mono ?_; rintro e w9 ⟨rfl, rfl⟩; rw [HY.out])
               try go_wp2_with fail
               refine hK.out _ _ (by (first | (exact ⟨CA.out, CB.out, I1.out, I2.out⟩) | (exact hHeld))) (fun hHeld => ?_)
               clear hK K)
          try simp only [Act.put, setIfInBounds_toArray, List.set_cons_zero, List.set_cons_succ]
        refine wpAnyH_done (by kernel_rfl) ?_ _
        refine NoPanic.normal ?_
        go_wp2_with fail
        go_ret
        exact ⟨ret_bool (by rw [HR.out, HX2.out]; simp), HQ.out.1.drew.1⟩
      · have HX := Lib.hid hx
        have HY := Lib.hid hy
        have G1 := Lib.hid (F1.out hx)
        have G2 := Lib.hid (F2.out hy)
        clear hx hy F1 F2 N1 N2
        go_wp2_with fail
        refine wp_region_noPanic ?_
        refine wp_region_held_drew (S := (fun w' => (∀ i, w'.cell? ⟨w.heap.size, i, none⟩ = ((wC x ⟨⟨px, pxc, pp, ppc, pc, pcc, pi, pic, pb, pbc⟩, some ⟨b, o, none⟩, pac, some ⟨b2, o2, none⟩, pkc, pw, pwc⟩)[i]? : Option Value)) ∧ (∀ i, w'.cell? ⟨w.heap.size + 1, i, none⟩ = (#[.slice px x.d.exits.length pxc, .slice pp x.d.players.length ppc, .slice pc x.d.coins.length pcc, .slice pi x.d.items.length pic, .slice pb x.d.boxes.length pbc, .int .i64 x.d.room, .int .i64 x.d.player, .int .i64 x.d.box][i]? : Option Value)) ∧ w'.cell? ⟨b, o + j, none⟩ = some (.int .i64 u) ∧ w'.cell? ⟨b2, o2 + j, none⟩ = some (.int .i64 v))) (by kernel_rfl) (by (first | (exact ⟨CA.out, CB.out, I1.out, I2.out⟩) | (exact hHeld))) (fun hHeld => ?_)
        iterate 6
          first
            | ((first | refine tkW 0 (v := ?_) ?_ ?_ | refine tkW 1 (v := ?_) ?_ ?_ | refine tkW 2 (v := ?_) ?_ ?_ | refine tkW 3 (v := ?_) ?_ ?_ | refine tkW 4 (v := ?_) ?_ ?_ | refine tkW 5 (v := ?_) ?_ ?_)
               rotate_left
               · (intro ww hSw; (try dsimp only at hSw); go_simp; (try with_reducible rfl)))
            | (first | refine tkN 0 ?_ | refine tkN 1 ?_ | refine tkN 2 ?_ | refine tkN 3 ?_ | refine tkN 4 ?_ | refine tkN 5 ?_)
            | ((first | refine rdy1 0 (fun K hK => ?_) | refine rdy1 1 (fun K hK => ?_) | refine rdy1 2 (fun K hK => ?_) | refine rdy1 3 (fun K hK => ?_) | refine rdy1 4 (fun K hK => ?_) | refine rdy1 5 (fun K hK => ?_))
               go_simp
               first
                 | (go_at_call 37; refine (refin_any _ _ _).mono ?_; rintro e w9 ⟨rfl, rfl⟩; rw [HX.out])
                 | (go_at_call 38; refine (refis_any _ _).mono ?_; rintro e w9 ⟨rfl, rfl⟩; rw [HY.out])
               try go_wp2_with fail
               refine hK.out _ _ (by (first | (exact ⟨CA.out, CB.out, I1.out, I2.out⟩) | (exact hHeld))) (fun hHeld => ?_)
               clear hK K)
          try simp only [Act.put, setIfInBounds_toArray, List.set_cons_zero, List.set_cons_succ]
        iterate 6
          first
            | ((first | refine tkW 6 (v := ?_) ?_ ?_ | refine tkW 7 (v := ?_) ?_ ?_ | refine tkW 8 (v := ?_) ?_ ?_ | refine tkW 9 (v := ?_) ?_ ?_ | refine tkW 10 (v := ?_) ?_ ?_ | refine tkW 11 (v := ?_) ?_ ?_)
               rotate_left
               · (intro ww hSw; (try dsimp only at hSw); go_simp; (try with_reducible rfl)))
            | (first | refine tkN 6 ?_ | refine tkN 7 ?_ | refine tkN 8 ?_ | refine tkN 9 ?_ | refine tkN 10 ?_ | refine tkN 11 ?_)
            | ((first | refine rdy1 6 (fun K hK => ?_) | refine rdy1 7 (fun K hK => ?_) | refine rdy1 8 (fun K hK => ?_) | refine rdy1 9 (fun K hK => ?_) | refine rdy1 10 (fun K hK => ?_) | refine rdy1 11 (fun K hK => ?_))
               go_simp
               first
                 | (go_at_call 37; refine (refin_any _ _ _).mono ?_; rintro e w9 ⟨rfl, rfl⟩; rw [HX.out])
                 | (go_at_call 38; refine (refis_any _ _).mono ?_; rintro e w9 ⟨rfl, rfl⟩; rw [HY.out])
               try go_wp2_with fail
               refine hK.out _ _ (by (first | (exact ⟨CA.out, CB.out, I1.out, I2.out⟩) | (exact hHeld))) (fun hHeld => ?_)
               clear hK K)
          try simp only [Act.put, setIfInBounds_toArray, List.set_cons_zero, List.set_cons_succ]
        iterate 6
          first
            | ((first | refine tkW 12 (v := ?_) ?_ ?_ | refine tkW 13 (v := ?_) ?_ ?_ | refine tkW 14 (v := ?_) ?_ ?_ | refine tkW 15 (v := ?_) ?_ ?_ | refine tkW 16 (v := ?_) ?_ ?_ | refine tkW 17 (v := ?_) ?_ ?_)
               rotate_left
               · (intro ww hSw; (try dsimp only at hSw); go_simp; (try with_reducible rfl)))
            | (first | refine tkN 12 ?_ | refine tkN 13 ?_ | refine tkN 14 ?_ | refine tkN 15 ?_ | refine tkN 16 ?_ | refine tkN 17 ?_)
            | ((first | refine rdy1 12 (fun K hK => ?_) | refine rdy1 13 (fun K hK => ?_) | refine rdy1 14 (fun K hK => ?_) | refine rdy1 15 (fun K hK => ?_) | refine rdy1 16 (fun K hK => ?_) | refine rdy1 17 (fun K hK => ?_))
               go_simp
               first
                 | (go_at_call 37; refine (refin_any _ _ _).mono ?_; rintro e w9 ⟨rfl, rfl⟩; rw [HX.out])
                 | (go_at_call 38; refine (refis_any _ _).mono ?_; rintro e w9 ⟨rfl, rfl⟩; rw [HY.out])
               try go_wp2_with fail
               refine hK.out _ _ (by (first | (exact ⟨CA.out, CB.out, I1.out, I2.out⟩) | (exact hHeld))) (fun hHeld => ?_)
               clear hK K)
          try simp only [Act.put, setIfInBounds_toArray, List.set_cons_zero, List.set_cons_succ]
        iterate 1
          first
            | ((first | refine tkW 18 (v := ?_) ?_ ?_)
               rotate_left
               · (intro ww hSw; (try dsimp only at hSw); go_simp; (try with_reducible rfl)))
            | (first | refine tkN 18 ?_)
            | ((first | refine rdy1 18 (fun K hK => ?_))
               go_simp
               first
                 | (go_at_call 37; refine (refin_any _ _ _).mono ?_; rintro e w9 ⟨rfl, rfl⟩; rw [HX.out])
                 | (go_at_call 38; refine (refis_any _ _).mono ?_; rintro e w9 ⟨rfl, rfl⟩; rw [HY.out])
               try go_wp2_with fail
               refine hK.out _ _ (by (first | (exact ⟨CA.out, CB.out, I1.out, I2.out⟩) | (exact hHeld))) (fun hHeld => ?_)
               clear hK K)
          try simp only [Act.put, setIfInBounds_toArray, List.set_cons_zero, List.set_cons_succ]
        refine wpAnyH_done (by kernel_rfl) ?_ _
        refine NoPanic.normal ?_
        go_wp2_with fail
        go_roundw
        case rel => exact ⟨j + 1, by omega, by go_num, G1.out, G2.out, ⟨HQ.out.1.drew, HQ.out.2.drew⟩⟩
        case measure => simp [intOf]; omega
    · have hje : j = x.at_.length := by omega
      subst hje
      have A1 := Lib.hid (show ofB x.at_ x.d.exits.length = true from all_whole _ T1.out)
      have A2 := Lib.hid (show pursesB x.coins = true from all_whole _ (by have h1 := T2.out; have h2 := E1.out; have h3 := E2.out; rwa [show x.at_.length = x.coins.length by omega] at h1))
      clear T1 T2
      go_wp2_with fail
      clear hcA hcB
      go_loopw [5] (fun i wr => ∃ j : Nat, j ≤ x.wher.length ∧ i = .int .i64 j ∧ (x.wher.take j).all (placeB x.d) = true ∧ RR w (wC x ⟨⟨px, pxc, pp, ppc, pc, pcc, pi, pic, pb, pbc⟩, pa, pac, pk, pkc, pw, pwc⟩) #[.slice px x.d.exits.length pxc, .slice pp x.d.players.length ppc, .slice pc x.d.coins.length pcc, .slice pi x.d.items.length pic, .slice pb x.d.boxes.length pbc, .int .i64 x.d.room, .int .i64 x.d.player, .int .i64 x.d.box] wr) (fun i _ => x.wher.length - (intOf i).toNat)
      case atStart => exact ⟨0, Nat.zero_le _, rfl, rfl, HQ.out⟩
      case round =>
        obtain ⟨j, hj, rfl, ht1, hrr⟩ := hrel
        clear HQ
        have T1 := Lib.hid ht1
        have HQ := Lib.hid hrr
        clear ht1 hrr
        have hcA := HQ.out.1.2.2
        have hcB := HQ.out.2.2.2
        have hls := HQ.out.2.2.1
        by_cases hlj : j < x.wher.length
        · obtain ⟨b, o, rfl, hb, c0, c1⟩ := PlsAt.cells (RowAt.below (show PlsAt _ pw x.wher from H.out.wh) HQ.out.1.1 (Nat.le_refl _)) hlj
          have F1 := Lib.hid (all_take_succ (placeB x.d) hlj T1.out)
          have N1 := Lib.hid (all_not (placeB x.d) hlj)
          generalize x.wher[j] = z at *
          obtain ⟨zk, zi⟩ := z
          simp only at c0 c1
          by_cases k0 : zk = 0
          · subst k0
            have DD := Lib.hid (show placeB x.d ⟨0, zi⟩ = inB zi x.d.exits.length by simp [placeB])
            cases hx : inB zi x.d.exits.length
            · have HX := Lib.hid hx
              have HX2 := Lib.hid (N1.out (DD.out.trans hx))
              clear hx F1 N1
              go_wp2_with fail
              refine (refin_any _ _ _).mono ?_
              rintro e w' ⟨rfl, rfl⟩
              rw [HX.out]
              go_wp2_with fail
              go_ret
              exact ⟨ret_bool (by rw [HR.out, HX2.out]; simp), (HQ.out.1.alloc _).1⟩
            · have HX := Lib.hid hx
              have HX2 := Lib.hid (F1.out (DD.out.trans hx))
              clear hx F1 N1
              go_wp2_with fail
              refine (refin_any _ _ _).mono ?_
              rintro e w' ⟨rfl, rfl⟩
              rw [HX.out]
              go_wp2_with fail
              go_roundw
              case rel => exact ⟨j + 1, by omega, by go_num, HX2.out, ⟨HQ.out.1.alloc _, HQ.out.2.alloc _⟩⟩
              case measure => simp [intOf]; omega
          by_cases k1 : zk = 1
          · subst k1
            have DD := Lib.hid (show placeB x.d ⟨1, zi⟩ = inB zi x.d.players.length by simp [placeB])
            clear k0
            cases hx : inB zi x.d.players.length
            · have HX := Lib.hid hx
              have HX2 := Lib.hid (N1.out (DD.out.trans hx))
              clear hx F1 N1
              go_wp2_with fail
              refine (refin_any _ _ _).mono ?_
              rintro e w' ⟨rfl, rfl⟩
              rw [HX.out]
              go_wp2_with fail
              go_ret
              exact ⟨ret_bool (by rw [HR.out, HX2.out]; simp), (HQ.out.1.alloc _).1⟩
            · have HX := Lib.hid hx
              have HX2 := Lib.hid (F1.out (DD.out.trans hx))
              clear hx F1 N1
              go_wp2_with fail
              refine (refin_any _ _ _).mono ?_
              rintro e w' ⟨rfl, rfl⟩
              rw [HX.out]
              go_wp2_with fail
              go_roundw
              case rel => exact ⟨j + 1, by omega, by go_num, HX2.out, ⟨HQ.out.1.alloc _, HQ.out.2.alloc _⟩⟩
              case measure => simp [intOf]; omega
          by_cases k2 : zk = 2
          · subst k2
            have DD := Lib.hid (show placeB x.d ⟨2, zi⟩ = (inB zi x.d.items.length && x.d.boxes.getD zi.toNat false) by
              have h1 := HFW.out.2.2.2.2.2.1
              simp [placeB, h1])
            clear k0 k1
            cases hx : inB zi x.d.items.length
            · have HX := Lib.hid hx
              have HX2 := Lib.hid (N1.out (DD.out.trans (by rw [hx]; rfl)))
              clear hx F1 N1
              go_wp2_with fail
              refine (refin_any _ _ _).mono ?_
              rintro e w' ⟨rfl, rfl⟩
              rw [HX.out]
              go_wp2_with fail
              go_ret
              exact ⟨ret_bool (by rw [HR.out, HX2.out]; simp), (HQ.out.1.alloc _).1⟩
            · have HX := Lib.hid hx
              obtain ⟨g0, g1⟩ := (inB_iff _ _).1 hx
              obtain ⟨m, rfl⟩ : ∃ m : Nat, zi = m := ⟨zi.toNat, by omega⟩
              have hlm : m < x.d.boxes.length := by have h1 := HFW.out.2.2.2.2.2.1; omega
              obtain ⟨b4, o4, rfl, hb4, c4⟩ := BlsAt.cells (RowAt.below (show BlsAt _ pb x.d.boxes from H.out.d.bo) HQ.out.1.1 (Nat.le_refl _)) hlm
              have hg : x.d.boxes.getD (m : Int).toNat false = x.d.boxes[m] := by simp [List.getD, List.getElem?_eq_getElem hlm]
              have DD2 := Lib.hid (show placeB x.d ⟨2, m⟩ = x.d.boxes[m] from DD.out.trans (by rw [hx, hg]; rfl))
              clear hx hg DD g0 g1
              generalize x.d.boxes[m] = v at *
              cases v
              · have HX2 := Lib.hid (N1.out DD2.out)
                clear F1 N1
                go_wp2_with fail
                refine (refin_any _ _ _).mono ?_
                rintro e w' ⟨rfl, rfl⟩
                rw [HX.out]
                go_wp2_with fail
                go_ret
                exact ⟨ret_bool (by rw [HR.out, HX2.out]; simp), (HQ.out.1.alloc _).1⟩
              · have HX2 := Lib.hid (F1.out DD2.out)
                clear F1 N1
                go_wp2_with fail
                refine (refin_any _ _ _).mono ?_
                rintro e w' ⟨rfl, rfl⟩
                rw [HX.out]
                go_wp2_with fail
                go_roundw
                case rel => exact ⟨j + 1, by omega, by go_num, HX2.out, ⟨HQ.out.1.alloc _, HQ.out.2.alloc _⟩⟩
                case measure => simp [intOf]; omega
          · have HX2 := Lib.hid (N1.out (show placeB x.d ⟨zk, zi⟩ = false by simp [placeB, k0, k1, k2]))
            have z0 : (zk == 0) = false := by simpa using k0
            have z1 : (zk == 1) = false := by simpa using k1
            have z2 : (zk == 2) = false := by simpa using k2
            clear k0 k1 k2 F1 N1
            go_wp2_with fail
            go_ret
            exact ⟨ret_bool (by rw [HR.out, HX2.out]; simp), (HQ.out.1.alloc _).1⟩
        · have hje : j = x.wher.length := by omega
          subst hje
          have A3 := Lib.hid (all_whole _ T1.out)
          have PB := Lib.hid (show placesB x.d x.wher = true by have h1 := E3.out; have h2 := A3.out; simp only [placesB, h1, decide_true, Bool.true_and]; exact h2)
          clear T1
          go_wp2_with fail
          clear hcA hcB hls
          go_loopw [8] (fun i wr => ∃ j : Nat, j ≤ x.wher.length ∧ i = .int .i64 j ∧ (x.wher.take j).all (endsB x.wher 4) = true ∧ (x.wher.take j).all (fun p => decide (((x.wher.count p : Nat) : Int) ≤ capOf x.d p.kind)) = true ∧ Holds w w.heap.size (wC x ⟨⟨px, pxc, pp, ppc, pc, pcc, pi, pic, pb, pbc⟩, pa, pac, pk, pkc, pw, pwc⟩) wr) (fun i _ => x.wher.length - (intOf i).toNat)
          case atStart => exact ⟨0, Nat.zero_le _, rfl, rfl, rfl, HQ.out.1⟩
          case round =>
            obtain ⟨j, hj, rfl, ht1, ht2, hrr⟩ := hrel
            clear HQ
            have T1 := Lib.hid ht1
            have T2 := Lib.hid ht2
            have HQ := Lib.hid hrr
            clear ht1 ht2 hrr
            have hcA := HQ.out.2.2
            by_cases hlj : j < x.wher.length
            · obtain ⟨b, o, rfl, hb, c0, c1⟩ := PlsAt.cells (RowAt.below (show PlsAt _ pw x.wher from H.out.wh) HQ.out.1 (Nat.le_refl _)) hlj
              have F1 := Lib.hid (all_take_succ (endsB x.wher 4) hlj T1.out)
              have N1 := Lib.hid (all_not (endsB x.wher 4) hlj)
              have F2 := Lib.hid (all_take_succ (fun p => decide (((x.wher.count p : Nat) : Int) ≤ capOf x.d p.kind)) hlj T2.out)
              have N2 := Lib.hid (all_not (fun p => decide (((x.wher.count p : Nat) : Int) ≤ capOf x.d p.kind)) hlj)
              have HBI := Lib.hid (places_boxes HX.out PB.out)
              have HZ := Lib.hid (HBI.out x.wher[j] (List.getElem_mem hlj))
              obtain ⟨z0, z3, _⟩ := places_fit HX.out PB.out x.wher[j] (List.getElem_mem hlj)
              generalize x.wher[j] = z at *
              obtain ⟨zk, zi⟩ := z
              obtain ⟨q, rfl⟩ : ∃ q : Nat, zk = q := ⟨zk.toNat, by simp only at z0; omega⟩
              have hq : q < 3 := by simp only at z3; omega
              simp only at c0 c1
              have CA := Lib.hid hcA
              have I0 := Lib.hid c0
              have I1 := Lib.hid c1
              have hls := HQ.out.2.1
              obtain ⟨dd, hdd⟩ : ∃ dd, depthR x.wher ⟨q, zi⟩ = dd := ⟨_, rfl⟩
              obtain ⟨cc, hcc⟩ : ∃ cc, x.wher.count ⟨q, zi⟩ = cc := ⟨_, rfl⟩
              have DE := Lib.hid (show endsB x.wher 4 ⟨q, zi⟩ = decide (dd ≤ 4) by rw [ends_depth, hdd])
              have DF := Lib.hid (show decide (((x.wher.count ⟨q, zi⟩ : Nat) : Int) ≤ capOf x.d q) = decide ((cc : Int) ≤ capOf x.d q) by rw [hcc])
              have DDD := Lib.hid hdd
              have DCC := Lib.hid hcc
              clear hdd hcc z0 z3
              by_cases h4 : dd ≤ 4
              · have h4a : ¬ ((4 : Int) < (dd : Int)) := by omega
                have h4b : decide ((4 : Int) < (dd : Int)) = false := by simp; omega
                by_cases hcp : (cc : Int) ≤ capOf x.d q
                · have G1 := Lib.hid (F1.out (DE.out.trans (decide_eq_true h4)))
                  have G2 := Lib.hid (F2.out (DF.out.trans (decide_eq_true hcp)))
                  have hcpa : ¬ (capOf x.d q < (cc : Int)) := by omega
                  clear F1 F2 N1 N2 h4 hcp
                  go_wp2_with fail
                  refine wp_region_noPanic ?_
                  refine wp_region_held_drew (S := (fun w' => Below w.heap.size w w' ∧ w.heap.size < w'.heap.size ∧ (∀ i, w'.cell? ⟨w.heap.size, i, none⟩ = ((wC x ⟨⟨px, pxc, pp, ppc, pc, pcc, pi, pic, pb, pbc⟩, pa, pac, pk, pkc, some ⟨b, o, none⟩, pwc⟩)[i]? : Option Value)) ∧ w'.cell? ⟨b, o + j * 2, none⟩ = some (.int .i64 q) ∧ w'.cell? ⟨b, o + j * 2 + 1, none⟩ = some (.int .i64 zi))) (by kernel_rfl) (by (first | (exact ⟨HQ.out.drew.1, HQ.out.drew.2.1, CA.out, I0.out, I1.out⟩) | (exact ⟨(Holds.call ⟨hHeld.1, hHeld.2.1, hHeld.2.2.1⟩ hb9).1, (Holds.call ⟨hHeld.1, hHeld.2.1, hHeld.2.2.1⟩ hb9).2.1, (Holds.call ⟨hHeld.1, hHeld.2.1, hHeld.2.2.1⟩ hb9).2.2, cell_call hHeld.2.2.2.1 hb9, cell_call hHeld.2.2.2.2 hb9⟩) | (exact hHeld))) (fun hHeld => ?_)
                  iterate 6
                    first
                      | ((first | refine tkW 0 (v := ?_) ?_ ?_ | refine tkW 1 (v := ?_) ?_ ?_ | refine tkW 2 (v := ?_) ?_ ?_ | refine tkW 3 (v := ?_) ?_ ?_ | refine tkW 4 (v := ?_) ?_ ?_ | refine tkW 5 (v := ?_) ?_ ?_)
                         rotate_left
                         · (intro ww hSw; (try dsimp only at hSw); go_simp; (try with_reducible rfl)))
                      | (first | refine tkN 0 ?_ | refine tkN 1 ?_ | refine tkN 2 ?_ | refine tkN 3 ?_ | refine tkN 4 ?_ | refine tkN 5 ?_)
                      | ((first | refine rdy1 0 (fun K hK => ?_) | refine rdy1 1 (fun K hK => ?_) | refine rdy1 2 (fun K hK => ?_) | refine rdy1 3 (fun K hK => ?_) | refine rdy1 4 (fun K hK => ?_) | refine rdy1 5 (fun K hK => ?_))
                         go_simp
                         first
                           | (go_at_call 39; refine (depth_any x ⟨⟨px, pxc, pp, ppc, pc, pcc, pi, pic, pb, pbc⟩, pa, pac, pk, pkc, some ⟨b, o, none⟩, pwc⟩ ⟨q, zi⟩ _ (RowAt.below (show PlsAt _ _ x.wher from H.out.wh) hHeld.1 (Nat.le_refl _)) HBI.out HZ.out).mono ?_; rintro e w9 ⟨rfl, hb9⟩; rw [DDD.out])
                           | (go_at_call 40; refine (many_any x ⟨⟨px, pxc, pp, ppc, pc, pcc, pi, pic, pb, pbc⟩, pa, pac, pk, pkc, some ⟨b, o, none⟩, pwc⟩ ⟨q, zi⟩ _ (RowAt.below (show PlsAt _ _ x.wher from H.out.wh) hHeld.1 (Nat.le_refl _))).mono ?_; rintro e w9 ⟨rfl, hb9⟩; rw [DCC.out])
                           | (go_at_call 41; refine (cap_any x ⟨⟨px, pxc, pp, ppc, pc, pcc, pi, pic, pb, pbc⟩, pa, pac, pk, pkc, some ⟨b, o, none⟩, pwc⟩ q zi hq _).mono ?_; rintro e w9 ⟨rfl, hb9⟩)
                         try go_wp2_with fail
                         refine hK.out _ _ (by (first | (exact ⟨HQ.out.drew.1, HQ.out.drew.2.1, CA.out, I0.out, I1.out⟩) | (exact ⟨(Holds.call ⟨hHeld.1, hHeld.2.1, hHeld.2.2.1⟩ hb9).1, (Holds.call ⟨hHeld.1, hHeld.2.1, hHeld.2.2.1⟩ hb9).2.1, (Holds.call ⟨hHeld.1, hHeld.2.1, hHeld.2.2.1⟩ hb9).2.2, cell_call hHeld.2.2.2.1 hb9, cell_call hHeld.2.2.2.2 hb9⟩) | (exact hHeld))) (fun hHeld => ?_)
                         clear hK K)
                    try simp only [Act.put, setIfInBounds_toArray, List.set_cons_zero, List.set_cons_succ]
                  iterate 6
                    first
                      | ((first | refine tkW 6 (v := ?_) ?_ ?_ | refine tkW 7 (v := ?_) ?_ ?_ | refine tkW 8 (v := ?_) ?_ ?_ | refine tkW 9 (v := ?_) ?_ ?_ | refine tkW 10 (v := ?_) ?_ ?_ | refine tkW 11 (v := ?_) ?_ ?_)
                         rotate_left
                         · (intro ww hSw; (try dsimp only at hSw); go_simp; (try with_reducible rfl)))
                      | (first | refine tkN 6 ?_ | refine tkN 7 ?_ | refine tkN 8 ?_ | refine tkN 9 ?_ | refine tkN 10 ?_ | refine tkN 11 ?_)
                      | ((first | refine rdy1 6 (fun K hK => ?_) | refine rdy1 7 (fun K hK => ?_) | refine rdy1 8 (fun K hK => ?_) | refine rdy1 9 (fun K hK => ?_) | refine rdy1 10 (fun K hK => ?_) | refine rdy1 11 (fun K hK => ?_))
                         go_simp
                         first
                           | (go_at_call 39; refine (depth_any x ⟨⟨px, pxc, pp, ppc, pc, pcc, pi, pic, pb, pbc⟩, pa, pac, pk, pkc, some ⟨b, o, none⟩, pwc⟩ ⟨q, zi⟩ _ (RowAt.below (show PlsAt _ _ x.wher from H.out.wh) hHeld.1 (Nat.le_refl _)) HBI.out HZ.out).mono ?_; rintro e w9 ⟨rfl, hb9⟩; rw [DDD.out])
                           | (go_at_call 40; refine (many_any x ⟨⟨px, pxc, pp, ppc, pc, pcc, pi, pic, pb, pbc⟩, pa, pac, pk, pkc, some ⟨b, o, none⟩, pwc⟩ ⟨q, zi⟩ _ (RowAt.below (show PlsAt _ _ x.wher from H.out.wh) hHeld.1 (Nat.le_refl _))).mono ?_; rintro e w9 ⟨rfl, hb9⟩; rw [DCC.out])
                           | (go_at_call 41; refine (cap_any x ⟨⟨px, pxc, pp, ppc, pc, pcc, pi, pic, pb, pbc⟩, pa, pac, pk, pkc, some ⟨b, o, none⟩, pwc⟩ q zi hq _).mono ?_; rintro e w9 ⟨rfl, hb9⟩)
                         try go_wp2_with fail
                         refine hK.out _ _ (by (first | (exact ⟨HQ.out.drew.1, HQ.out.drew.2.1, CA.out, I0.out, I1.out⟩) | (exact ⟨(Holds.call ⟨hHeld.1, hHeld.2.1, hHeld.2.2.1⟩ hb9).1, (Holds.call ⟨hHeld.1, hHeld.2.1, hHeld.2.2.1⟩ hb9).2.1, (Holds.call ⟨hHeld.1, hHeld.2.1, hHeld.2.2.1⟩ hb9).2.2, cell_call hHeld.2.2.2.1 hb9, cell_call hHeld.2.2.2.2 hb9⟩) | (exact hHeld))) (fun hHeld => ?_)
                         clear hK K)
                    try simp only [Act.put, setIfInBounds_toArray, List.set_cons_zero, List.set_cons_succ]
                  iterate 6
                    first
                      | ((first | refine tkW 12 (v := ?_) ?_ ?_ | refine tkW 13 (v := ?_) ?_ ?_ | refine tkW 14 (v := ?_) ?_ ?_ | refine tkW 16 (v := ?_) ?_ ?_ | refine tkW 17 (v := ?_) ?_ ?_ | refine tkW 18 (v := ?_) ?_ ?_)
                         rotate_left
                         · (intro ww hSw; (try dsimp only at hSw); go_simp; (try with_reducible rfl)))
                      | (first | refine tkN 12 ?_ | refine tkN 13 ?_ | refine tkN 14 ?_ | refine tkN 16 ?_ | refine tkN 17 ?_ | refine tkN 18 ?_)
                      | ((first | refine rdy1 12 (fun K hK => ?_) | refine rdy1 13 (fun K hK => ?_) | refine rdy1 14 (fun K hK => ?_) | refine rdy1 16 (fun K hK => ?_) | refine rdy1 17 (fun K hK => ?_) | refine rdy1 18 (fun K hK => ?_))
                         go_simp
                         first
                           | (go_at_call 39; refine (depth_any x ⟨⟨px, pxc, pp, ppc, pc, pcc, pi, pic, pb, pbc⟩, pa, pac, pk, pkc, some ⟨b, o, none⟩, pwc⟩ ⟨q, zi⟩ _ (RowAt.below (show PlsAt _ _ x.wher from H.out.wh) hHeld.1 (Nat.le_refl _)) HBI.out HZ.out).mono ?_; rintro e w9 ⟨rfl, hb9⟩; rw [DDD.out])
                           | (go_at_call 40; refine (many_any x ⟨⟨px, pxc, pp, ppc, pc, pcc, pi, pic, pb, pbc⟩, pa, pac, pk, pkc, some ⟨b, o, none⟩, pwc⟩ ⟨q, zi⟩ _ (RowAt.below (show PlsAt _ _ x.wher from H.out.wh) hHeld.1 (Nat.le_refl _))).mono ?_; rintro e w9 ⟨rfl, hb9⟩; rw [DCC.out])
                           | (go_at_call 41; refine (cap_any x ⟨⟨px, pxc, pp, ppc, pc, pcc, pi, pic, pb, pbc⟩, pa, pac, pk, pkc, some ⟨b, o, none⟩, pwc⟩ q zi hq _).mono ?_; rintro e w9 ⟨rfl, hb9⟩)
                         try go_wp2_with fail
                         refine hK.out _ _ (by (first | (exact ⟨HQ.out.drew.1, HQ.out.drew.2.1, CA.out, I0.out, I1.out⟩) | (exact ⟨(Holds.call ⟨hHeld.1, hHeld.2.1, hHeld.2.2.1⟩ hb9).1, (Holds.call ⟨hHeld.1, hHeld.2.1, hHeld.2.2.1⟩ hb9).2.1, (Holds.call ⟨hHeld.1, hHeld.2.1, hHeld.2.2.1⟩ hb9).2.2, cell_call hHeld.2.2.2.1 hb9, cell_call hHeld.2.2.2.2 hb9⟩) | (exact hHeld))) (fun hHeld => ?_)
                         clear hK K)
                    try simp only [Act.put, setIfInBounds_toArray, List.set_cons_zero, List.set_cons_succ]
                  iterate 6
                    first
                      | ((first | refine tkW 19 (v := ?_) ?_ ?_ | refine tkW 20 (v := ?_) ?_ ?_ | refine tkW 21 (v := ?_) ?_ ?_ | refine tkW 15 (v := ?_) ?_ ?_ | refine tkW 22 (v := ?_) ?_ ?_ | refine tkW 23 (v := ?_) ?_ ?_)
                         rotate_left
                         · (intro ww hSw; (try dsimp only at hSw); go_simp; (try with_reducible rfl)))
                      | (first | refine tkN 19 ?_ | refine tkN 20 ?_ | refine tkN 21 ?_ | refine tkN 15 ?_ | refine tkN 22 ?_ | refine tkN 23 ?_)
                      | ((first | refine rdy1 19 (fun K hK => ?_) | refine rdy1 20 (fun K hK => ?_) | refine rdy1 21 (fun K hK => ?_) | refine rdy1 15 (fun K hK => ?_) | refine rdy1 22 (fun K hK => ?_) | refine rdy1 23 (fun K hK => ?_))
                         go_simp
                         first
                           | (go_at_call 39; refine (depth_any x ⟨⟨px, pxc, pp, ppc, pc, pcc, pi, pic, pb, pbc⟩, pa, pac, pk, pkc, some ⟨b, o, none⟩, pwc⟩ ⟨q, zi⟩ _ (RowAt.below (show PlsAt _ _ x.wher from H.out.wh) hHeld.1 (Nat.le_refl _)) HBI.out HZ.out).mono ?_; rintro e w9 ⟨rfl, hb9⟩; rw [DDD.out])
                           | (go_at_call 40; refine (many_any x ⟨⟨px, pxc, pp, ppc, pc, pcc, pi, pic, pb, pbc⟩, pa, pac, pk, pkc, some ⟨b, o, none⟩, pwc⟩ ⟨q, zi⟩ _ (RowAt.below (show PlsAt _ _ x.wher from H.out.wh) hHeld.1 (Nat.le_refl _))).mono ?_; rintro e w9 ⟨rfl, hb9⟩; rw [DCC.out])
                           | (go_at_call 41; refine (cap_any x ⟨⟨px, pxc, pp, ppc, pc, pcc, pi, pic, pb, pbc⟩, pa, pac, pk, pkc, some ⟨b, o, none⟩, pwc⟩ q zi hq _).mono ?_; rintro e w9 ⟨rfl, hb9⟩)
                         try go_wp2_with fail
                         refine hK.out _ _ (by (first | (exact ⟨HQ.out.drew.1, HQ.out.drew.2.1, CA.out, I0.out, I1.out⟩) | (exact ⟨(Holds.call ⟨hHeld.1, hHeld.2.1, hHeld.2.2.1⟩ hb9).1, (Holds.call ⟨hHeld.1, hHeld.2.1, hHeld.2.2.1⟩ hb9).2.1, (Holds.call ⟨hHeld.1, hHeld.2.1, hHeld.2.2.1⟩ hb9).2.2, cell_call hHeld.2.2.2.1 hb9, cell_call hHeld.2.2.2.2 hb9⟩) | (exact hHeld))) (fun hHeld => ?_)
                         clear hK K)
                    try simp only [Act.put, setIfInBounds_toArray, List.set_cons_zero, List.set_cons_succ]
                  iterate 1
                    first
                      | ((first | refine tkW 24 (v := ?_) ?_ ?_)
                         rotate_left
                         · (intro ww hSw; (try dsimp only at hSw); go_simp; (try with_reducible rfl)))
                      | (first | refine tkN 24 ?_)
                      | ((first | refine rdy1 24 (fun K hK => ?_))
                         go_simp
                         first
                           | (go_at_call 39; refine (depth_any x ⟨⟨px, pxc, pp, ppc, pc, pcc, pi, pic, pb, pbc⟩, pa, pac, pk, pkc, some ⟨b, o, none⟩, pwc⟩ ⟨q, zi⟩ _ (RowAt.below (show PlsAt _ _ x.wher from H.out.wh) hHeld.1 (Nat.le_refl _)) HBI.out HZ.out).mono ?_; rintro e w9 ⟨rfl, hb9⟩; rw [DDD.out])
                           | (go_at_call 40; refine (many_any x ⟨⟨px, pxc, pp, ppc, pc, pcc, pi, pic, pb, pbc⟩, pa, pac, pk, pkc, some ⟨b, o, none⟩, pwc⟩ ⟨q, zi⟩ _ (RowAt.below (show PlsAt _ _ x.wher from H.out.wh) hHeld.1 (Nat.le_refl _))).mono ?_; rintro e w9 ⟨rfl, hb9⟩; rw [DCC.out])
                           | (go_at_call 41; refine (cap_any x ⟨⟨px, pxc, pp, ppc, pc, pcc, pi, pic, pb, pbc⟩, pa, pac, pk, pkc, some ⟨b, o, none⟩, pwc⟩ q zi hq _).mono ?_; rintro e w9 ⟨rfl, hb9⟩)
                         try go_wp2_with fail
                         refine hK.out _ _ (by (first | (exact ⟨HQ.out.drew.1, HQ.out.drew.2.1, CA.out, I0.out, I1.out⟩) | (exact ⟨(Holds.call ⟨hHeld.1, hHeld.2.1, hHeld.2.2.1⟩ hb9).1, (Holds.call ⟨hHeld.1, hHeld.2.1, hHeld.2.2.1⟩ hb9).2.1, (Holds.call ⟨hHeld.1, hHeld.2.1, hHeld.2.2.1⟩ hb9).2.2, cell_call hHeld.2.2.2.1 hb9, cell_call hHeld.2.2.2.2 hb9⟩) | (exact hHeld))) (fun hHeld => ?_)
                         clear hK K)
                    try simp only [Act.put, setIfInBounds_toArray, List.set_cons_zero, List.set_cons_succ]
                  refine wpAnyH_done (by kernel_rfl) ?_ _
                  refine NoPanic.normal ?_
                  have HE := Lib.hid hHeld
                  clear hHeld
                  go_wp2_with fail
                  go_roundw
                  case rel => exact ⟨j + 1, by omega, by go_num, G1.out, G2.out, ⟨HE.out.1, HE.out.2.1, HE.out.2.2.1⟩⟩
                  case measure => simp [intOf]; omega
                · have HX2 := Lib.hid (show fitB x.d x.wher = false from N2.out (DF.out.trans (decide_eq_false hcp)))
                  have hcpa : capOf x.d q < (cc : Int) := by omega
                  clear F1 F2 N1 N2 h4 hcp
                  go_wp2_with fail
                  refine wp_region_noPanic ?_
                  refine wp_region_held_drew (S := (fun w' => Below w.heap.size w w' ∧ w.heap.size < w'.heap.size ∧ (∀ i, w'.cell? ⟨w.heap.size, i, none⟩ = ((wC x ⟨⟨px, pxc, pp, ppc, pc, pcc, pi, pic, pb, pbc⟩, pa, pac, pk, pkc, some ⟨b, o, none⟩, pwc⟩)[i]? : Option Value)) ∧ w'.cell? ⟨b, o + j * 2, none⟩ = some (.int .i64 q) ∧ w'.cell? ⟨b, o + j * 2 + 1, none⟩ = some (.int .i64 zi))) (by kernel_rfl) (by (first | (exact ⟨HQ.out.drew.1, HQ.out.drew.2.1, CA.out, I0.out, I1.out⟩) | (exact ⟨(Holds.call ⟨hHeld.1, hHeld.2.1, hHeld.2.2.1⟩ hb9).1, (Holds.call ⟨hHeld.1, hHeld.2.1, hHeld.2.2.1⟩ hb9).2.1, (Holds.call ⟨hHeld.1, hHeld.2.1, hHeld.2.2.1⟩ hb9).2.2, cell_call hHeld.2.2.2.1 hb9, cell_call hHeld.2.2.2.2 hb9⟩) | (exact hHeld))) (fun hHeld => ?_)
                  iterate 6
                    first
                      | ((first | refine tkW 0 (v := ?_) ?_ ?_ | refine tkW 1 (v := ?_) ?_ ?_ | refine tkW 2 (v := ?_) ?_ ?_ | refine tkW 3 (v := ?_) ?_ ?_ | refine tkW 4 (v := ?_) ?_ ?_ | refine tkW 5 (v := ?_) ?_ ?_)
                         rotate_left
                         · (intro ww hSw; (try dsimp only at hSw); go_simp; (try with_reducible rfl)))
                      | (first | refine tkN 0 ?_ | refine tkN 1 ?_ | refine tkN 2 ?_ | refine tkN 3 ?_ | refine tkN 4 ?_ | refine tkN 5 ?_)
                      | ((first | refine rdy1 0 (fun K hK => ?_) | refine rdy1 1 (fun K hK => ?_) | refine rdy1 2 (fun K hK => ?_) | refine rdy1 3 (fun K hK => ?_) | refine rdy1 4 (fun K hK => ?_) | refine rdy1 5 (fun K hK => ?_))
                         go_simp
                         first
                           | (go_at_call 39; refine (depth_any x ⟨⟨px, pxc, pp, ppc, pc, pcc, pi, pic, pb, pbc⟩, pa, pac, pk, pkc, some ⟨b, o, none⟩, pwc⟩ ⟨q, zi⟩ _ (RowAt.below (show PlsAt _ _ x.wher from H.out.wh) hHeld.1 (Nat.le_refl _)) HBI.out HZ.out).mono ?_; rintro e w9 ⟨rfl, hb9⟩; rw [DDD.out])
                           | (go_at_call 40; refine (many_any x ⟨⟨px, pxc, pp, ppc, pc, pcc, pi, pic, pb, pbc⟩, pa, pac, pk, pkc, some ⟨b, o, none⟩, pwc⟩ ⟨q, zi⟩ _ (RowAt.below (show PlsAt _ _ x.wher from H.out.wh) hHeld.1 (Nat.le_refl _))).mono ?_; rintro e w9 ⟨rfl, hb9⟩; rw [DCC.out])
                           | (go_at_call 41; refine (cap_any x ⟨⟨px, pxc, pp, ppc, pc, pcc, pi, pic, pb, pbc⟩, pa, pac, pk, pkc, some ⟨b, o, none⟩, pwc⟩ q zi hq _).mono ?_; rintro e w9 ⟨rfl, hb9⟩)
                         try go_wp2_with fail
                         refine hK.out _ _ (by (first | (exact ⟨HQ.out.drew.1, HQ.out.drew.2.1, CA.out, I0.out, I1.out⟩) | (exact ⟨(Holds.call ⟨hHeld.1, hHeld.2.1, hHeld.2.2.1⟩ hb9).1, (Holds.call ⟨hHeld.1, hHeld.2.1, hHeld.2.2.1⟩ hb9).2.1, (Holds.call ⟨hHeld.1, hHeld.2.1, hHeld.2.2.1⟩ hb9).2.2, cell_call hHeld.2.2.2.1 hb9, cell_call hHeld.2.2.2.2 hb9⟩) | (exact hHeld))) (fun hHeld => ?_)
                         clear hK K)
                    try simp only [Act.put, setIfInBounds_toArray, List.set_cons_zero, List.set_cons_succ]
                  iterate 6
                    first
                      | ((first | refine tkW 6 (v := ?_) ?_ ?_ | refine tkW 7 (v := ?_) ?_ ?_ | refine tkW 8 (v := ?_) ?_ ?_ | refine tkW 9 (v := ?_) ?_ ?_ | refine tkW 10 (v := ?_) ?_ ?_ | refine tkW 11 (v := ?_) ?_ ?_)
                         rotate_left
                         · (intro ww hSw; (try dsimp only at hSw); go_simp; (try with_reducible rfl)))
                      | (first | refine tkN 6 ?_ | refine tkN 7 ?_ | refine tkN 8 ?_ | refine tkN 9 ?_ | refine tkN 10 ?_ | refine tkN 11 ?_)
                      | ((first | refine rdy1 6 (fun K hK => ?_) | refine rdy1 7 (fun K hK => ?_) | refine rdy1 8 (fun K hK => ?_) | refine rdy1 9 (fun K hK => ?_) | refine rdy1 10 (fun K hK => ?_) | refine rdy1 11 (fun K hK => ?_))
                         go_simp
                         first
                           | (go_at_call 39; refine (depth_any x ⟨⟨px, pxc, pp, ppc, pc, pcc, pi, pic, pb, pbc⟩, pa, pac, pk, pkc, some ⟨b, o, none⟩, pwc⟩ ⟨q, zi⟩ _ (RowAt.below (show PlsAt _ _ x.wher from H.out.wh) hHeld.1 (Nat.le_refl _)) HBI.out HZ.out).mono ?_; rintro e w9 ⟨rfl, hb9⟩; rw [DDD.out])
                           | (go_at_call 40; refine (many_any x ⟨⟨px, pxc, pp, ppc, pc, pcc, pi, pic, pb, pbc⟩, pa, pac, pk, pkc, some ⟨b, o, none⟩, pwc⟩ ⟨q, zi⟩ _ (RowAt.below (show PlsAt _ _ x.wher from H.out.wh) hHeld.1 (Nat.le_refl _))).mono ?_; rintro e w9 ⟨rfl, hb9⟩; rw [DCC.out])
                           | (go_at_call 41; refine (cap_any x ⟨⟨px, pxc, pp, ppc, pc, pcc, pi, pic, pb, pbc⟩, pa, pac, pk, pkc, some ⟨b, o, none⟩, pwc⟩ q zi hq _).mono ?_; rintro e w9 ⟨rfl, hb9⟩)
                         try go_wp2_with fail
                         refine hK.out _ _ (by (first | (exact ⟨HQ.out.drew.1, HQ.out.drew.2.1, CA.out, I0.out, I1.out⟩) | (exact ⟨(Holds.call ⟨hHeld.1, hHeld.2.1, hHeld.2.2.1⟩ hb9).1, (Holds.call ⟨hHeld.1, hHeld.2.1, hHeld.2.2.1⟩ hb9).2.1, (Holds.call ⟨hHeld.1, hHeld.2.1, hHeld.2.2.1⟩ hb9).2.2, cell_call hHeld.2.2.2.1 hb9, cell_call hHeld.2.2.2.2 hb9⟩) | (exact hHeld))) (fun hHeld => ?_)
                         clear hK K)
                    try simp only [Act.put, setIfInBounds_toArray, List.set_cons_zero, List.set_cons_succ]
                  iterate 6
                    first
                      | ((first | refine tkW 12 (v := ?_) ?_ ?_ | refine tkW 13 (v := ?_) ?_ ?_ | refine tkW 14 (v := ?_) ?_ ?_ | refine tkW 16 (v := ?_) ?_ ?_ | refine tkW 17 (v := ?_) ?_ ?_ | refine tkW 18 (v := ?_) ?_ ?_)
                         rotate_left
                         · (intro ww hSw; (try dsimp only at hSw); go_simp; (try with_reducible rfl)))
                      | (first | refine tkN 12 ?_ | refine tkN 13 ?_ | refine tkN 14 ?_ | refine tkN 16 ?_ | refine tkN 17 ?_ | refine tkN 18 ?_)
                      | ((first | refine rdy1 12 (fun K hK => ?_) | refine rdy1 13 (fun K hK => ?_) | refine rdy1 14 (fun K hK => ?_) | refine rdy1 16 (fun K hK => ?_) | refine rdy1 17 (fun K hK => ?_) | refine rdy1 18 (fun K hK => ?_))
                         go_simp
                         first
                           | (go_at_call 39; refine (depth_any x ⟨⟨px, pxc, pp, ppc, pc, pcc, pi, pic, pb, pbc⟩, pa, pac, pk, pkc, some ⟨b, o, none⟩, pwc⟩ ⟨q, zi⟩ _ (RowAt.below (show PlsAt _ _ x.wher from H.out.wh) hHeld.1 (Nat.le_refl _)) HBI.out HZ.out).mono ?_; rintro e w9 ⟨rfl, hb9⟩; rw [DDD.out])
                           | (go_at_call 40; refine (many_any x ⟨⟨px, pxc, pp, ppc, pc, pcc, pi, pic, pb, pbc⟩, pa, pac, pk, pkc, some ⟨b, o, none⟩, pwc⟩ ⟨q, zi⟩ _ (RowAt.below (show PlsAt _ _ x.wher from H.out.wh) hHeld.1 (Nat.le_refl _))).mono ?_; rintro e w9 ⟨rfl, hb9⟩; rw [DCC.out])
                           | (go_at_call 41; refine (cap_any x ⟨⟨px, pxc, pp, ppc, pc, pcc, pi, pic, pb, pbc⟩, pa, pac, pk, pkc, some ⟨b, o, none⟩, pwc⟩ q zi hq _).mono ?_; rintro e w9 ⟨rfl, hb9⟩)
                         try go_wp2_with fail
                         refine hK.out _ _ (by (first | (exact ⟨HQ.out.drew.1, HQ.out.drew.2.1, CA.out, I0.out, I1.out⟩) | (exact ⟨(Holds.call ⟨hHeld.1, hHeld.2.1, hHeld.2.2.1⟩ hb9).1, (Holds.call ⟨hHeld.1, hHeld.2.1, hHeld.2.2.1⟩ hb9).2.1, (Holds.call ⟨hHeld.1, hHeld.2.1, hHeld.2.2.1⟩ hb9).2.2, cell_call hHeld.2.2.2.1 hb9, cell_call hHeld.2.2.2.2 hb9⟩) | (exact hHeld))) (fun hHeld => ?_)
                         clear hK K)
                    try simp only [Act.put, setIfInBounds_toArray, List.set_cons_zero, List.set_cons_succ]
                  iterate 6
                    first
                      | ((first | refine tkW 19 (v := ?_) ?_ ?_ | refine tkW 20 (v := ?_) ?_ ?_ | refine tkW 21 (v := ?_) ?_ ?_ | refine tkW 15 (v := ?_) ?_ ?_ | refine tkW 22 (v := ?_) ?_ ?_ | refine tkW 23 (v := ?_) ?_ ?_)
                         rotate_left
                         · (intro ww hSw; (try dsimp only at hSw); go_simp; (try with_reducible rfl)))
                      | (first | refine tkN 19 ?_ | refine tkN 20 ?_ | refine tkN 21 ?_ | refine tkN 15 ?_ | refine tkN 22 ?_ | refine tkN 23 ?_)
                      | ((first | refine rdy1 19 (fun K hK => ?_) | refine rdy1 20 (fun K hK => ?_) | refine rdy1 21 (fun K hK => ?_) | refine rdy1 15 (fun K hK => ?_) | refine rdy1 22 (fun K hK => ?_) | refine rdy1 23 (fun K hK => ?_))
                         go_simp
                         first
                           | (go_at_call 39; refine (depth_any x ⟨⟨px, pxc, pp, ppc, pc, pcc, pi, pic, pb, pbc⟩, pa, pac, pk, pkc, some ⟨b, o, none⟩, pwc⟩ ⟨q, zi⟩ _ (RowAt.below (show PlsAt _ _ x.wher from H.out.wh) hHeld.1 (Nat.le_refl _)) HBI.out HZ.out).mono ?_; rintro e w9 ⟨rfl, hb9⟩; rw [DDD.out])
                           | (go_at_call 40; refine (many_any x ⟨⟨px, pxc, pp, ppc, pc, pcc, pi, pic, pb, pbc⟩, pa, pac, pk, pkc, some ⟨b, o, none⟩, pwc⟩ ⟨q, zi⟩ _ (RowAt.below (show PlsAt _ _ x.wher from H.out.wh) hHeld.1 (Nat.le_refl _))).mono ?_; rintro e w9 ⟨rfl, hb9⟩; rw [DCC.out])
                           | (go_at_call 41; refine (cap_any x ⟨⟨px, pxc, pp, ppc, pc, pcc, pi, pic, pb, pbc⟩, pa, pac, pk, pkc, some ⟨b, o, none⟩, pwc⟩ q zi hq _).mono ?_; rintro e w9 ⟨rfl, hb9⟩)
                         try go_wp2_with fail
                         refine hK.out _ _ (by (first | (exact ⟨HQ.out.drew.1, HQ.out.drew.2.1, CA.out, I0.out, I1.out⟩) | (exact ⟨(Holds.call ⟨hHeld.1, hHeld.2.1, hHeld.2.2.1⟩ hb9).1, (Holds.call ⟨hHeld.1, hHeld.2.1, hHeld.2.2.1⟩ hb9).2.1, (Holds.call ⟨hHeld.1, hHeld.2.1, hHeld.2.2.1⟩ hb9).2.2, cell_call hHeld.2.2.2.1 hb9, cell_call hHeld.2.2.2.2 hb9⟩) | (exact hHeld))) (fun hHeld => ?_)
                         clear hK K)
                    try simp only [Act.put, setIfInBounds_toArray, List.set_cons_zero, List.set_cons_succ]
                  iterate 1
                    first
                      | ((first | refine tkW 24 (v := ?_) ?_ ?_)
                         rotate_left
                         · (intro ww hSw; (try dsimp only at hSw); go_simp; (try with_reducible rfl)))
                      | (first | refine tkN 24 ?_)
                      | ((first | refine rdy1 24 (fun K hK => ?_))
                         go_simp
                         first
                           | (go_at_call 39; refine (depth_any x ⟨⟨px, pxc, pp, ppc, pc, pcc, pi, pic, pb, pbc⟩, pa, pac, pk, pkc, some ⟨b, o, none⟩, pwc⟩ ⟨q, zi⟩ _ (RowAt.below (show PlsAt _ _ x.wher from H.out.wh) hHeld.1 (Nat.le_refl _)) HBI.out HZ.out).mono ?_; rintro e w9 ⟨rfl, hb9⟩; rw [DDD.out])
                           | (go_at_call 40; refine (many_any x ⟨⟨px, pxc, pp, ppc, pc, pcc, pi, pic, pb, pbc⟩, pa, pac, pk, pkc, some ⟨b, o, none⟩, pwc⟩ ⟨q, zi⟩ _ (RowAt.below (show PlsAt _ _ x.wher from H.out.wh) hHeld.1 (Nat.le_refl _))).mono ?_; rintro e w9 ⟨rfl, hb9⟩; rw [DCC.out])
                           | (go_at_call 41; refine (cap_any x ⟨⟨px, pxc, pp, ppc, pc, pcc, pi, pic, pb, pbc⟩, pa, pac, pk, pkc, some ⟨b, o, none⟩, pwc⟩ q zi hq _).mono ?_; rintro e w9 ⟨rfl, hb9⟩)
                         try go_wp2_with fail
                         refine hK.out _ _ (by (first | (exact ⟨HQ.out.drew.1, HQ.out.drew.2.1, CA.out, I0.out, I1.out⟩) | (exact ⟨(Holds.call ⟨hHeld.1, hHeld.2.1, hHeld.2.2.1⟩ hb9).1, (Holds.call ⟨hHeld.1, hHeld.2.1, hHeld.2.2.1⟩ hb9).2.1, (Holds.call ⟨hHeld.1, hHeld.2.1, hHeld.2.2.1⟩ hb9).2.2, cell_call hHeld.2.2.2.1 hb9, cell_call hHeld.2.2.2.2 hb9⟩) | (exact hHeld))) (fun hHeld => ?_)
                         clear hK K)
                    try simp only [Act.put, setIfInBounds_toArray, List.set_cons_zero, List.set_cons_succ]
                  refine wpAnyH_done (by kernel_rfl) ?_ _
                  refine NoPanic.normal ?_
                  have HE := Lib.hid hHeld
                  clear hHeld
                  go_wp2_with fail
                  go_ret
                  exact ⟨ret_bool (by rw [HR.out, HX2.out]; simp), HE.out.1⟩
              · have h4a : (4 : Int) < (dd : Int) := by omega
                have HX2 := Lib.hid (show nestB x.wher = false from N1.out (DE.out.trans (decide_eq_false h4)))
                clear F1 F2 N1 N2 h4
                go_wp2_with fail
                refine wp_region_noPanic ?_
                refine wp_region_held_drew (S := (fun w' => Below w.heap.size w w' ∧ w.heap.size < w'.heap.size ∧ (∀ i, w'.cell? ⟨w.heap.size, i, none⟩ = ((wC x ⟨⟨px, pxc, pp, ppc, pc, pcc, pi, pic, pb, pbc⟩, pa, pac, pk, pkc, some ⟨b, o, none⟩, pwc⟩)[i]? : Option Value)) ∧ w'.cell? ⟨b, o + j * 2, none⟩ = some (.int .i64 q) ∧ w'.cell? ⟨b, o + j * 2 + 1, none⟩ = some (.int .i64 zi))) (by kernel_rfl) (by (first | (exact ⟨HQ.out.drew.1, HQ.out.drew.2.1, CA.out, I0.out, I1.out⟩) | (exact ⟨(Holds.call ⟨hHeld.1, hHeld.2.1, hHeld.2.2.1⟩ hb9).1, (Holds.call ⟨hHeld.1, hHeld.2.1, hHeld.2.2.1⟩ hb9).2.1, (Holds.call ⟨hHeld.1, hHeld.2.1, hHeld.2.2.1⟩ hb9).2.2, cell_call hHeld.2.2.2.1 hb9, cell_call hHeld.2.2.2.2 hb9⟩) | (exact hHeld))) (fun hHeld => ?_)
                iterate 6
                  first
                    | ((first | refine tkW 0 (v := ?_) ?_ ?_ | refine tkW 1 (v := ?_) ?_ ?_ | refine tkW 2 (v := ?_) ?_ ?_ | refine tkW 3 (v := ?_) ?_ ?_ | refine tkW 4 (v := ?_) ?_ ?_ | refine tkW 5 (v := ?_) ?_ ?_)
                       rotate_left
                       · (intro ww hSw; (try dsimp only at hSw); go_simp; (try with_reducible rfl)))
                    | (first | refine tkN 0 ?_ | refine tkN 1 ?_ | refine tkN 2 ?_ | refine tkN 3 ?_ | refine tkN 4 ?_ | refine tkN 5 ?_)
                    | ((first | refine rdy1 0 (fun K hK => ?_) | refine rdy1 1 (fun K hK => ?_) | refine rdy1 2 (fun K hK => ?_) | refine rdy1 3 (fun K hK => ?_) | refine rdy1 4 (fun K hK => ?_) | refine rdy1 5 (fun K hK => ?_))
                       go_simp
                       first
                         | (go_at_call 39; refine (depth_any x ⟨⟨px, pxc, pp, ppc, pc, pcc, pi, pic, pb, pbc⟩, pa, pac, pk, pkc, some ⟨b, o, none⟩, pwc⟩ ⟨q, zi⟩ _ (RowAt.below (show PlsAt _ _ x.wher from H.out.wh) hHeld.1 (Nat.le_refl _)) HBI.out HZ.out).mono ?_; rintro e w9 ⟨rfl, hb9⟩; rw [DDD.out])
                       try go_wp2_with fail
                       refine hK.out _ _ (by (first | (exact ⟨HQ.out.drew.1, HQ.out.drew.2.1, CA.out, I0.out, I1.out⟩) | (exact ⟨(Holds.call ⟨hHeld.1, hHeld.2.1, hHeld.2.2.1⟩ hb9).1, (Holds.call ⟨hHeld.1, hHeld.2.1, hHeld.2.2.1⟩ hb9).2.1, (Holds.call ⟨hHeld.1, hHeld.2.1, hHeld.2.2.1⟩ hb9).2.2, cell_call hHeld.2.2.2.1 hb9, cell_call hHeld.2.2.2.2 hb9⟩) | (exact hHeld))) (fun hHeld => ?_)
                       clear hK K)
                  try simp only [Act.put, setIfInBounds_toArray, List.set_cons_zero, List.set_cons_succ]
                iterate 6
                  first
                    | ((first | refine tkW 6 (v := ?_) ?_ ?_ | refine tkW 7 (v := ?_) ?_ ?_ | refine tkW 8 (v := ?_) ?_ ?_ | refine tkW 9 (v := ?_) ?_ ?_ | refine tkW 10 (v := ?_) ?_ ?_ | refine tkW 11 (v := ?_) ?_ ?_)
                       rotate_left
                       · (intro ww hSw; (try dsimp only at hSw); go_simp; (try with_reducible rfl)))
                    | (first | refine tkN 6 ?_ | refine tkN 7 ?_ | refine tkN 8 ?_ | refine tkN 9 ?_ | refine tkN 10 ?_ | refine tkN 11 ?_)
                    | ((first | refine rdy1 6 (fun K hK => ?_) | refine rdy1 7 (fun K hK => ?_) | refine rdy1 8 (fun K hK => ?_) | refine rdy1 9 (fun K hK => ?_) | refine rdy1 10 (fun K hK => ?_) | refine rdy1 11 (fun K hK => ?_))
                       go_simp
                       first
                         | (go_at_call 39; refine (depth_any x ⟨⟨px, pxc, pp, ppc, pc, pcc, pi, pic, pb, pbc⟩, pa, pac, pk, pkc, some ⟨b, o, none⟩, pwc⟩ ⟨q, zi⟩ _ (RowAt.below (show PlsAt _ _ x.wher from H.out.wh) hHeld.1 (Nat.le_refl _)) HBI.out HZ.out).mono ?_; rintro e w9 ⟨rfl, hb9⟩; rw [DDD.out])
                       try go_wp2_with fail
                       refine hK.out _ _ (by (first | (exact ⟨HQ.out.drew.1, HQ.out.drew.2.1, CA.out, I0.out, I1.out⟩) | (exact ⟨(Holds.call ⟨hHeld.1, hHeld.2.1, hHeld.2.2.1⟩ hb9).1, (Holds.call ⟨hHeld.1, hHeld.2.1, hHeld.2.2.1⟩ hb9).2.1, (Holds.call ⟨hHeld.1, hHeld.2.1, hHeld.2.2.1⟩ hb9).2.2, cell_call hHeld.2.2.2.1 hb9, cell_call hHeld.2.2.2.2 hb9⟩) | (exact hHeld))) (fun hHeld => ?_)
                       clear hK K)
                  try simp only [Act.put, setIfInBounds_toArray, List.set_cons_zero, List.set_cons_succ]
                iterate 6
                  first
                    | ((first | refine tkW 12 (v := ?_) ?_ ?_ | refine tkW 13 (v := ?_) ?_ ?_ | refine tkW 14 (v := ?_) ?_ ?_ | refine tkW 15 (v := ?_) ?_ ?_ | refine tkW 16 (v := ?_) ?_ ?_ | refine tkW 17 (v := ?_) ?_ ?_)
                       rotate_left
                       · (intro ww hSw; (try dsimp only at hSw); go_simp; (try with_reducible rfl)))
                    | (first | refine tkN 12 ?_ | refine tkN 13 ?_ | refine tkN 14 ?_ | refine tkN 15 ?_ | refine tkN 16 ?_ | refine tkN 17 ?_)
                    | ((first | refine rdy1 12 (fun K hK => ?_) | refine rdy1 13 (fun K hK => ?_) | refine rdy1 14 (fun K hK => ?_) | refine rdy1 15 (fun K hK => ?_) | refine rdy1 16 (fun K hK => ?_) | refine rdy1 17 (fun K hK => ?_))
                       go_simp
                       first
                         | (go_at_call 39; refine (depth_any x ⟨⟨px, pxc, pp, ppc, pc, pcc, pi, pic, pb, pbc⟩, pa, pac, pk, pkc, some ⟨b, o, none⟩, pwc⟩ ⟨q, zi⟩ _ (RowAt.below (show PlsAt _ _ x.wher from H.out.wh) hHeld.1 (Nat.le_refl _)) HBI.out HZ.out).mono ?_; rintro e w9 ⟨rfl, hb9⟩; rw [DDD.out])
                       try go_wp2_with fail
                       refine hK.out _ _ (by (first | (exact ⟨HQ.out.drew.1, HQ.out.drew.2.1, CA.out, I0.out, I1.out⟩) | (exact ⟨(Holds.call ⟨hHeld.1, hHeld.2.1, hHeld.2.2.1⟩ hb9).1, (Holds.call ⟨hHeld.1, hHeld.2.1, hHeld.2.2.1⟩ hb9).2.1, (Holds.call ⟨hHeld.1, hHeld.2.1, hHeld.2.2.1⟩ hb9).2.2, cell_call hHeld.2.2.2.1 hb9, cell_call hHeld.2.2.2.2 hb9⟩) | (exact hHeld))) (fun hHeld => ?_)
                       clear hK K)
                  try simp only [Act.put, setIfInBounds_toArray, List.set_cons_zero, List.set_cons_succ]
                iterate 6
                  first
                    | ((first | refine tkW 18 (v := ?_) ?_ ?_ | refine tkW 19 (v := ?_) ?_ ?_ | refine tkW 20 (v := ?_) ?_ ?_ | refine tkW 21 (v := ?_) ?_ ?_ | refine tkW 22 (v := ?_) ?_ ?_ | refine tkW 23 (v := ?_) ?_ ?_)
                       rotate_left
                       · (intro ww hSw; (try dsimp only at hSw); go_simp; (try with_reducible rfl)))
                    | (first | refine tkN 18 ?_ | refine tkN 19 ?_ | refine tkN 20 ?_ | refine tkN 21 ?_ | refine tkN 22 ?_ | refine tkN 23 ?_)
                    | ((first | refine rdy1 18 (fun K hK => ?_) | refine rdy1 19 (fun K hK => ?_) | refine rdy1 20 (fun K hK => ?_) | refine rdy1 21 (fun K hK => ?_) | refine rdy1 22 (fun K hK => ?_) | refine rdy1 23 (fun K hK => ?_))
                       go_simp
                       first
                         | (go_at_call 39; refine (depth_any x ⟨⟨px, pxc, pp, ppc, pc, pcc, pi, pic, pb, pbc⟩, pa, pac, pk, pkc, some ⟨b, o, none⟩, pwc⟩ ⟨q, zi⟩ _ (RowAt.below (show PlsAt _ _ x.wher from H.out.wh) hHeld.1 (Nat.le_refl _)) HBI.out HZ.out).mono ?_; rintro e w9 ⟨rfl, hb9⟩; rw [DDD.out])
                       try go_wp2_with fail
                       refine hK.out _ _ (by (first | (exact ⟨HQ.out.drew.1, HQ.out.drew.2.1, CA.out, I0.out, I1.out⟩) | (exact ⟨(Holds.call ⟨hHeld.1, hHeld.2.1, hHeld.2.2.1⟩ hb9).1, (Holds.call ⟨hHeld.1, hHeld.2.1, hHeld.2.2.1⟩ hb9).2.1, (Holds.call ⟨hHeld.1, hHeld.2.1, hHeld.2.2.1⟩ hb9).2.2, cell_call hHeld.2.2.2.1 hb9, cell_call hHeld.2.2.2.2 hb9⟩) | (exact hHeld))) (fun hHeld => ?_)
                       clear hK K)
                  try simp only [Act.put, setIfInBounds_toArray, List.set_cons_zero, List.set_cons_succ]
                iterate 1
                  first
                    | ((first | refine tkW 24 (v := ?_) ?_ ?_)
                       rotate_left
                       · (intro ww hSw; (try dsimp only at hSw); go_simp; (try with_reducible rfl)))
                    | (first | refine tkN 24 ?_)
                    | ((first | refine rdy1 24 (fun K hK => ?_))
                       go_simp
                       first
                         | (go_at_call 39; refine (depth_any x ⟨⟨px, pxc, pp, ppc, pc, pcc, pi, pic, pb, pbc⟩, pa, pac, pk, pkc, some ⟨b, o, none⟩, pwc⟩ ⟨q, zi⟩ _ (RowAt.below (show PlsAt _ _ x.wher from H.out.wh) hHeld.1 (Nat.le_refl _)) HBI.out HZ.out).mono ?_; rintro e w9 ⟨rfl, hb9⟩; rw [DDD.out])
                       try go_wp2_with fail
                       refine hK.out _ _ (by (first | (exact ⟨HQ.out.drew.1, HQ.out.drew.2.1, CA.out, I0.out, I1.out⟩) | (exact ⟨(Holds.call ⟨hHeld.1, hHeld.2.1, hHeld.2.2.1⟩ hb9).1, (Holds.call ⟨hHeld.1, hHeld.2.1, hHeld.2.2.1⟩ hb9).2.1, (Holds.call ⟨hHeld.1, hHeld.2.1, hHeld.2.2.1⟩ hb9).2.2, cell_call hHeld.2.2.2.1 hb9, cell_call hHeld.2.2.2.2 hb9⟩) | (exact hHeld))) (fun hHeld => ?_)
                       clear hK K)
                  try simp only [Act.put, setIfInBounds_toArray, List.set_cons_zero, List.set_cons_succ]
                refine wpAnyH_done (by kernel_rfl) ?_ _
                refine NoPanic.normal ?_
                have HE := Lib.hid hHeld
                clear hHeld
                go_wp2_with fail
                go_ret
                exact ⟨ret_bool (by rw [HR.out, HX2.out]; simp), HE.out.1⟩
            · have hje : j = x.wher.length := by omega
              subst hje
              have A4 := Lib.hid (show nestB x.wher = true from all_whole _ T1.out)
              have A5 := Lib.hid (show fitB x.d x.wher = true from all_whole _ T2.out)
              clear T1 T2
              go_wp2_with fail
              go_ret
              exact ⟨ret_bool (by rw [HR.out, A1.out, A2.out, A4.out, A5.out, A3.out]; rfl), HQ.out.1⟩
theorem refright_any (x : Wd) (p : Wp) (w : World) (h : WorldAt w p x) : Calls Tryz.prog 14 #[.agg (wC x p)] w fun e w' => e = .returned (.bool (rightW x)) ∧ Below w.heap.size w w' := by
  by_cases hn : mayD x.d = true ∧ WLens x
  · exact refright_go x p.d.ex p.d.pl p.d.co p.d.it p.d.bo p.at_ p.co p.wh p.d.exc p.d.plc p.d.coc p.d.itc p.d.boc p.atc p.coc p.whc w h hn.1 hn.2
  · exact refright_lens x p w h hn
end Go.Proofs.YthagafopkkhjjaaGreat
