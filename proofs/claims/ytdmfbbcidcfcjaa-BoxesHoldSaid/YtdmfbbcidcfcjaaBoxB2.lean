/- boxes: the rest of what may be wrong; what makes them. -/
import Derived.Test.YtdmfbbcidcfcjaaRows
import Derived.Test.YtdmfbbcidcfcjaaKit
import Derived.Test.YtdmfbbcidcfcjaaGMem
import Derived.Test.YtdmfbbcidcfcjaaCoin
import Derived.Test.YtdmfbbcidcfcjaaGWorld
import Derived.Test.YtdmfbbcidcfcjaaGDescN
import Derived.Test.YtdmfbbcidcfcjaaGRight
import Derived.Test.YtdmfbbcidcfcjaaGCopy
import Derived.Test.YtdmfbbcidcfcjaaGRefD
import Derived.Test.YtdmfbbcidcfcjaaGEq
import Derived.Test.YtdmfbbcidcfcjaaGAs
import Derived.Test.YtdmfbbcidcfcjaaGTreeL
import Derived.Test.YtdmfbbcidcfcjaaGTreeA
import Derived.Test.YtdmfbbcidcfcjaaGHoldA
import Derived.Test.YtdmfbbcidcfcjaaGBoxM
import Derived.Test.YtdmfbbcidcfcjaaBoxA
import Derived.Test.YtdmfbbcidcfcjaaBoxB
import Derived.Deep.QuietTactic
import Derived.BigQuiet
import Derived.Deep.RegionHeld3
import Derived.WalkKit
import Derived.ProofKit
import Derived.OpenShut
import Derived.IntWalk
namespace Go.Proofs.Ytdmfbbcidcfcjaa
open Go.ChangeShapes Go.WideShapes Go.ChangeAt Go.RowKit
set_option linter.unusedVariables false
open Go.RowKit
set_option maxRecDepth 100000 in
set_option maxHeartbeats 400000 in
theorem elsewhere1_any (x : Wd) (p : Wp) (n : Nat) (w : World) (hc : ∀ j, w.cell? ⟨n, j, none⟩ = (#[.slice p.d.ex x.d.exits.length p.d.exc, .slice p.d.pl x.d.players.length p.d.plc, .slice p.d.co x.d.coins.length p.d.coc, .slice p.d.it x.d.items.length p.d.itc, .slice p.d.bo x.d.boxes.length p.d.boc, .int .i64 x.d.room, .int .i64 x.d.player, .int .i64 x.d.box, .slice p.at_ x.at_.length p.atc, .slice p.co x.coins.length p.coc, .slice p.wh x.wher.length p.whc][j]? : Option Value)) (hl : n + 2 < w.heap.size) (h : PlsAt w p.wh x.wher) (k : Nat) (hk : k < x.wher.length) (zk zi : Int) (c1 : w.cell? ⟨n + 1, 0, none⟩ = some (.int .i64 (k : Int))) (d1 : ∀ j, w.cell? ⟨n + 2, j, none⟩ = (#[.int .i64 zk, .int .i64 zi][j]? : Option Value)) : Calls Try.prog 49 #[.pointer (some ⟨n, 0, none⟩), .pointer (some ⟨n + 1, 0, none⟩), .pointer (some ⟨n + 2, 0, none⟩)] w fun e w' => e = .returned (.bool (!decide (plOf x.wher k = ⟨zk, zi⟩))) ∧ Below w.heap.size w w' := by
  have hl0 : n < w.heap.size := by omega
  have hl1 : n + 1 < w.heap.size := by omega
  have hlen := h.len
  obtain ⟨b, o, ea, hb, a0, a1⟩ := PlsAt.cells h hk
  rw [← plOf_get hk] at a0 a1
  obtain ⟨pd, pa, pac, pk, pkc, pw, pwc⟩ := p
  simp only at ea
  subst ea
  generalize plOf x.wher k = y at *
  obtain ⟨yk, yi⟩ := y
  simp only at a0 a1
  have hr := run_pl yk yi zk zi
  cases h1 : (decide ((⟨yk, yi⟩ : Pl) = ⟨zk, zi⟩))
  all_goals
    rw [h1] at hr
    clear h h1
    go_enter Try.func49, Try.ntmps49
    go_wp2_with fail
    refine wp_region_noPanic ?_
    refine wp_region_held_drew (S := (fun w' => Below w.heap.size w w' ∧ (∀ j, w'.cell? ⟨n, j, none⟩ = (#[.slice pd.ex x.d.exits.length pd.exc, .slice pd.pl x.d.players.length pd.plc, .slice pd.co x.d.coins.length pd.coc, .slice pd.it x.d.items.length pd.itc, .slice pd.bo x.d.boxes.length pd.boc, .int .i64 x.d.room, .int .i64 x.d.player, .int .i64 x.d.box, .slice pa x.at_.length pac, .slice pk x.coins.length pkc, .slice (some ⟨b, o, none⟩) x.wher.length pwc][j]? : Option Value)) ∧ w'.cell? ⟨n + 1, 0, none⟩ = some (.int .i64 (k : Int)) ∧ (∀ j, w'.cell? ⟨n + 2, j, none⟩ = (#[.int .i64 zk, .int .i64 zi][j]? : Option Value)) ∧ w'.cell? ⟨b, o + k * 2, none⟩ = some (.int .i64 yk) ∧ w'.cell? ⟨b, o + k * 2 + 1, none⟩ = some (.int .i64 yi))) (by kernel_rfl) (by (first | (exact ⟨bdrew1 (Below.refl _ _), hc, c1, d1, a0, a1⟩) | (with_reducible exact hHeld))) (fun hHeld => ?_)
    first
      | (refine wpAnyH_take (i := 0) (v := undef) (by simp only [List.getElem?_toArray, List.getElem?_cons_zero]; rfl) (by kernel_rfl) (by kernel_rfl) (by kernel_rfl) (fun _ _ _ h => h) (Or.inr ⟨by rfl, rfl⟩) (by assumption) ?_; try simp only [Act.put, List.setIfInBounds_toArray, List.set_cons_zero, List.set_cons_succ])
      | (refine wpAnyH_take (i := 0) (v := ?_) (by simp only [List.getElem?_toArray, List.getElem?_cons_zero]; rfl) (by kernel_rfl) (by kernel_rfl) (by kernel_rfl) (fun _ _ _ h => h) (Or.inl ⟨by rfl, ?_⟩) (by assumption) ?_
         rotate_left
         · (intro ww hSw; (try dsimp only at hSw); go_simp; (try with_reducible rfl))
         try simp only [Act.put, List.setIfInBounds_toArray, List.set_cons_zero, List.set_cons_succ])
      | (refine wpAnyH_ready (rs := [0]) (by kernel_rfl) (by simp) (AllReadyH.cons (by simp only [List.getElem?_toArray, List.getElem?_cons_succ, List.getElem?_cons_zero]; rfl) (fun K hK => ?_) AllReadyH.nil)
         go_simp
         first
           | (fail)
         try go_wp2_with fail
         refine hK.out _ _ (by (first | (exact ⟨bdrew1 (Below.refl _ _), hc, c1, d1, a0, a1⟩) | (with_reducible exact hHeld))) (fun hHeld => ?_)
         clear hK K
         try simp only [Act.put, List.setIfInBounds_toArray, List.set_cons_zero, List.set_cons_succ])
    first
      | (refine wpAnyH_take (i := 1) (v := undef) (by simp only [List.getElem?_toArray, List.getElem?_cons_succ, List.getElem?_cons_zero]; rfl) (by kernel_rfl) (by kernel_rfl) (by kernel_rfl) (fun _ _ _ h => h) (Or.inr ⟨by rfl, rfl⟩) (by assumption) ?_; try simp only [Act.put, List.setIfInBounds_toArray, List.set_cons_zero, List.set_cons_succ])
      | (refine wpAnyH_take (i := 1) (v := ?_) (by simp only [List.getElem?_toArray, List.getElem?_cons_succ, List.getElem?_cons_zero]; rfl) (by kernel_rfl) (by kernel_rfl) (by kernel_rfl) (fun _ _ _ h => h) (Or.inl ⟨by rfl, ?_⟩) (by assumption) ?_
         rotate_left
         · (intro ww hSw; (try dsimp only at hSw); go_simp; (try with_reducible rfl))
         try simp only [Act.put, List.setIfInBounds_toArray, List.set_cons_zero, List.set_cons_succ])
      | (refine wpAnyH_ready (rs := [1]) (by kernel_rfl) (by simp) (AllReadyH.cons (by simp only [List.getElem?_toArray, List.getElem?_cons_succ, List.getElem?_cons_zero]; rfl) (fun K hK => ?_) AllReadyH.nil)
         go_simp
         first
           | (fail)
         try go_wp2_with fail
         refine hK.out _ _ (by (first | (exact ⟨bdrew1 (Below.refl _ _), hc, c1, d1, a0, a1⟩) | (with_reducible exact hHeld))) (fun hHeld => ?_)
         clear hK K
         try simp only [Act.put, List.setIfInBounds_toArray, List.set_cons_zero, List.set_cons_succ])
    first
      | (refine wpAnyH_take (i := 2) (v := undef) (by simp only [List.getElem?_toArray, List.getElem?_cons_succ, List.getElem?_cons_zero]; rfl) (by kernel_rfl) (by kernel_rfl) (by kernel_rfl) (fun _ _ _ h => h) (Or.inr ⟨by rfl, rfl⟩) (by assumption) ?_; try simp only [Act.put, List.setIfInBounds_toArray, List.set_cons_zero, List.set_cons_succ])
      | (refine wpAnyH_take (i := 2) (v := ?_) (by simp only [List.getElem?_toArray, List.getElem?_cons_succ, List.getElem?_cons_zero]; rfl) (by kernel_rfl) (by kernel_rfl) (by kernel_rfl) (fun _ _ _ h => h) (Or.inl ⟨by rfl, ?_⟩) (by assumption) ?_
         rotate_left
         · (intro ww hSw; (try dsimp only at hSw); go_simp; (try with_reducible rfl))
         try simp only [Act.put, List.setIfInBounds_toArray, List.set_cons_zero, List.set_cons_succ])
      | (refine wpAnyH_ready (rs := [2]) (by kernel_rfl) (by simp) (AllReadyH.cons (by simp only [List.getElem?_toArray, List.getElem?_cons_succ, List.getElem?_cons_zero]; rfl) (fun K hK => ?_) AllReadyH.nil)
         go_simp
         first
           | (fail)
         try go_wp2_with fail
         refine hK.out _ _ (by (first | (exact ⟨bdrew1 (Below.refl _ _), hc, c1, d1, a0, a1⟩) | (with_reducible exact hHeld))) (fun hHeld => ?_)
         clear hK K
         try simp only [Act.put, List.setIfInBounds_toArray, List.set_cons_zero, List.set_cons_succ])
    first
      | (refine wpAnyH_take (i := 3) (v := undef) (by simp only [List.getElem?_toArray, List.getElem?_cons_succ, List.getElem?_cons_zero]; rfl) (by kernel_rfl) (by kernel_rfl) (by kernel_rfl) (fun _ _ _ h => h) (Or.inr ⟨by rfl, rfl⟩) (by assumption) ?_; try simp only [Act.put, List.setIfInBounds_toArray, List.set_cons_zero, List.set_cons_succ])
      | (refine wpAnyH_take (i := 3) (v := ?_) (by simp only [List.getElem?_toArray, List.getElem?_cons_succ, List.getElem?_cons_zero]; rfl) (by kernel_rfl) (by kernel_rfl) (by kernel_rfl) (fun _ _ _ h => h) (Or.inl ⟨by rfl, ?_⟩) (by assumption) ?_
         rotate_left
         · (intro ww hSw; (try dsimp only at hSw); go_simp; (try with_reducible rfl))
         try simp only [Act.put, List.setIfInBounds_toArray, List.set_cons_zero, List.set_cons_succ])
      | (refine wpAnyH_ready (rs := [3]) (by kernel_rfl) (by simp) (AllReadyH.cons (by simp only [List.getElem?_toArray, List.getElem?_cons_succ, List.getElem?_cons_zero]; rfl) (fun K hK => ?_) AllReadyH.nil)
         go_simp
         first
           | (fail)
         try go_wp2_with fail
         refine hK.out _ _ (by (first | (exact ⟨bdrew1 (Below.refl _ _), hc, c1, d1, a0, a1⟩) | (with_reducible exact hHeld))) (fun hHeld => ?_)
         clear hK K
         try simp only [Act.put, List.setIfInBounds_toArray, List.set_cons_zero, List.set_cons_succ])
    first
      | (refine wpAnyH_take (i := 4) (v := undef) (by simp only [List.getElem?_toArray, List.getElem?_cons_succ, List.getElem?_cons_zero]; rfl) (by kernel_rfl) (by kernel_rfl) (by kernel_rfl) (fun _ _ _ h => h) (Or.inr ⟨by rfl, rfl⟩) (by assumption) ?_; try simp only [Act.put, List.setIfInBounds_toArray, List.set_cons_zero, List.set_cons_succ])
      | (refine wpAnyH_take (i := 4) (v := ?_) (by simp only [List.getElem?_toArray, List.getElem?_cons_succ, List.getElem?_cons_zero]; rfl) (by kernel_rfl) (by kernel_rfl) (by kernel_rfl) (fun _ _ _ h => h) (Or.inl ⟨by rfl, ?_⟩) (by assumption) ?_
         rotate_left
         · (intro ww hSw; (try dsimp only at hSw); go_simp; (try with_reducible rfl))
         try simp only [Act.put, List.setIfInBounds_toArray, List.set_cons_zero, List.set_cons_succ])
      | (refine wpAnyH_ready (rs := [4]) (by kernel_rfl) (by simp) (AllReadyH.cons (by simp only [List.getElem?_toArray, List.getElem?_cons_succ, List.getElem?_cons_zero]; rfl) (fun K hK => ?_) AllReadyH.nil)
         go_simp
         first
           | (fail)
         try go_wp2_with fail
         refine hK.out _ _ (by (first | (exact ⟨bdrew1 (Below.refl _ _), hc, c1, d1, a0, a1⟩) | (with_reducible exact hHeld))) (fun hHeld => ?_)
         clear hK K
         try simp only [Act.put, List.setIfInBounds_toArray, List.set_cons_zero, List.set_cons_succ])
    first
      | (refine wpAnyH_take (i := 5) (v := undef) (by simp only [List.getElem?_toArray, List.getElem?_cons_succ, List.getElem?_cons_zero]; rfl) (by kernel_rfl) (by kernel_rfl) (by kernel_rfl) (fun _ _ _ h => h) (Or.inr ⟨by rfl, rfl⟩) (by assumption) ?_; try simp only [Act.put, List.setIfInBounds_toArray, List.set_cons_zero, List.set_cons_succ])
      | (refine wpAnyH_take (i := 5) (v := ?_) (by simp only [List.getElem?_toArray, List.getElem?_cons_succ, List.getElem?_cons_zero]; rfl) (by kernel_rfl) (by kernel_rfl) (by kernel_rfl) (fun _ _ _ h => h) (Or.inl ⟨by rfl, ?_⟩) (by assumption) ?_
         rotate_left
         · (intro ww hSw; (try dsimp only at hSw); go_simp; (try with_reducible rfl))
         try simp only [Act.put, List.setIfInBounds_toArray, List.set_cons_zero, List.set_cons_succ])
      | (refine wpAnyH_ready (rs := [5]) (by kernel_rfl) (by simp) (AllReadyH.cons (by simp only [List.getElem?_toArray, List.getElem?_cons_succ, List.getElem?_cons_zero]; rfl) (fun K hK => ?_) AllReadyH.nil)
         go_simp
         first
           | (fail)
         try go_wp2_with fail
         refine hK.out _ _ (by (first | (exact ⟨bdrew1 (Below.refl _ _), hc, c1, d1, a0, a1⟩) | (with_reducible exact hHeld))) (fun hHeld => ?_)
         clear hK K
         try simp only [Act.put, List.setIfInBounds_toArray, List.set_cons_zero, List.set_cons_succ])
    first
      | (refine wpAnyH_take (i := 6) (v := undef) (by simp only [List.getElem?_toArray, List.getElem?_cons_succ, List.getElem?_cons_zero]; rfl) (by kernel_rfl) (by kernel_rfl) (by kernel_rfl) (fun _ _ _ h => h) (Or.inr ⟨by rfl, rfl⟩) (by assumption) ?_; try simp only [Act.put, List.setIfInBounds_toArray, List.set_cons_zero, List.set_cons_succ])
      | (refine wpAnyH_take (i := 6) (v := ?_) (by simp only [List.getElem?_toArray, List.getElem?_cons_succ, List.getElem?_cons_zero]; rfl) (by kernel_rfl) (by kernel_rfl) (by kernel_rfl) (fun _ _ _ h => h) (Or.inl ⟨by rfl, ?_⟩) (by assumption) ?_
         rotate_left
         · (intro ww hSw; (try dsimp only at hSw); go_simp; (try with_reducible rfl))
         try simp only [Act.put, List.setIfInBounds_toArray, List.set_cons_zero, List.set_cons_succ])
      | (refine wpAnyH_ready (rs := [6]) (by kernel_rfl) (by simp) (AllReadyH.cons (by simp only [List.getElem?_toArray, List.getElem?_cons_succ, List.getElem?_cons_zero]; rfl) (fun K hK => ?_) AllReadyH.nil)
         go_simp
         first
           | (fail)
         try go_wp2_with fail
         refine hK.out _ _ (by (first | (exact ⟨bdrew1 (Below.refl _ _), hc, c1, d1, a0, a1⟩) | (with_reducible exact hHeld))) (fun hHeld => ?_)
         clear hK K
         try simp only [Act.put, List.setIfInBounds_toArray, List.set_cons_zero, List.set_cons_succ])
    first
      | (refine wpAnyH_take (i := 7) (v := undef) (by simp only [List.getElem?_toArray, List.getElem?_cons_succ, List.getElem?_cons_zero]; rfl) (by kernel_rfl) (by kernel_rfl) (by kernel_rfl) (fun _ _ _ h => h) (Or.inr ⟨by rfl, rfl⟩) (by assumption) ?_; try simp only [Act.put, List.setIfInBounds_toArray, List.set_cons_zero, List.set_cons_succ])
      | (refine wpAnyH_take (i := 7) (v := ?_) (by simp only [List.getElem?_toArray, List.getElem?_cons_succ, List.getElem?_cons_zero]; rfl) (by kernel_rfl) (by kernel_rfl) (by kernel_rfl) (fun _ _ _ h => h) (Or.inl ⟨by rfl, ?_⟩) (by assumption) ?_
         rotate_left
         · (intro ww hSw; (try dsimp only at hSw); go_simp; (try with_reducible rfl))
         try simp only [Act.put, List.setIfInBounds_toArray, List.set_cons_zero, List.set_cons_succ])
      | (refine wpAnyH_ready (rs := [7]) (by kernel_rfl) (by simp) (AllReadyH.cons (by simp only [List.getElem?_toArray, List.getElem?_cons_succ, List.getElem?_cons_zero]; rfl) (fun K hK => ?_) AllReadyH.nil)
         go_simp
         first
           | (fail)
         try go_wp2_with fail
         refine hK.out _ _ (by (first | (exact ⟨bdrew1 (Below.refl _ _), hc, c1, d1, a0, a1⟩) | (with_reducible exact hHeld))) (fun hHeld => ?_)
         clear hK K
         try simp only [Act.put, List.setIfInBounds_toArray, List.set_cons_zero, List.set_cons_succ])
    refine wpAnyH_done (by kernel_rfl) ?_ _
    refine NoPanic.normal ?_
    have BZ := Lib.hid hHeld.1
    clear hHeld
    go_wp2_with fail
    go_ret
    exact ⟨ret_bool rfl, BZ.out⟩
set_option maxRecDepth 100000 in
set_option maxHeartbeats 400000 in
theorem noBox1_any (x : Wd) (p : Wp) (n : Nat) (w : World) (hc : ∀ j, w.cell? ⟨n, j, none⟩ = (#[.slice p.d.ex x.d.exits.length p.d.exc, .slice p.d.pl x.d.players.length p.d.plc, .slice p.d.co x.d.coins.length p.d.coc, .slice p.d.it x.d.items.length p.d.itc, .slice p.d.bo x.d.boxes.length p.d.boc, .int .i64 x.d.room, .int .i64 x.d.player, .int .i64 x.d.box, .slice p.at_ x.at_.length p.atc, .slice p.co x.coins.length p.coc, .slice p.wh x.wher.length p.whc][j]? : Option Value)) (hl1 : n + 1 < w.heap.size) (h : BlsAt w p.d.bo x.d.boxes) (k : Nat) (hk : k < x.d.boxes.length) (c1 : w.cell? ⟨n + 1, 0, none⟩ = some (.int .i64 (k : Int))) : Calls Try.prog 51 #[.pointer (some ⟨n + 1, 0, none⟩), .pointer (some ⟨n, 0, none⟩)] w fun e w' => e = .returned (.bool (!x.d.boxes.getD k false)) ∧ Below w.heap.size w w' := by
  have hl0 : n < w.heap.size := by omega
  have hlen := h.len
  obtain ⟨b, o, ea, hb, a0⟩ := BlsAt.cells h hk
  rw [show x.d.boxes[k] = x.d.boxes.getD k false by simp [List.getD, List.getElem?_eq_getElem hk]] at a0
  obtain ⟨⟨px, pxc, pp, ppc, pc, pcc, pi, pic, pb, pbc⟩, pa, pac, pk, pkc, pw, pwc⟩ := p
  simp only at ea
  subst ea
  clear h
  cases hv : x.d.boxes.getD k false
  all_goals
    rw [hv] at a0
    clear hv
    go_enter Try.func51, Try.ntmps51
    go_wp2_with fail
    go_ret
    exact ⟨ret_bool (by first | rfl | (simp; omega)), Below.refl _ _⟩
set_option maxRecDepth 100000 in
theorem missing_any (x : Wd) (p : Wp) (k : Int) (w : World) : Calls Try.prog 27 #[.agg #[.slice p.d.ex x.d.exits.length p.d.exc, .slice p.d.pl x.d.players.length p.d.plc, .slice p.d.co x.d.coins.length p.d.coc, .slice p.d.it x.d.items.length p.d.itc, .slice p.d.bo x.d.boxes.length p.d.boc, .int .i64 x.d.room, .int .i64 x.d.player, .int .i64 x.d.box, .slice p.at_ x.at_.length p.atc, .slice p.co x.coins.length p.coc, .slice p.wh x.wher.length p.whc], .int .i64 k] w fun e w' => ∃ v, e = .returned v ∧ FaultAt w' v (True) (!inB k x.wher.length) 3 ∧ Below w.heap.size w w' := by
  have hsf : ∀ (W : World) (p : Addr) (fn : Fn) (x y : Array Value), (store p (.func fn x y)).run Try.prog W = stored Try.prog W p (.func fn x y) .plain := fun W p fn x y => run_store _ _ _ _ _ rfl
  have C := Lib.hid (Tri.start 29 3 51 w #[.slice p.d.ex x.d.exits.length p.d.exc, .slice p.d.pl x.d.players.length p.d.plc, .slice p.d.co x.d.coins.length p.d.coc, .slice p.d.it x.d.items.length p.d.itc, .slice p.d.bo x.d.boxes.length p.d.boc, .int .i64 x.d.room, .int .i64 x.d.player, .int .i64 x.d.box, .slice p.at_ x.at_.length p.atc, .slice p.co x.coins.length p.coc, .slice p.wh x.wher.length p.whc] #[.int .i64 k] #[.func (.func 48) #[] #[.pointer (some ⟨w.heap.size, 0, none⟩), .pointer (some ⟨w.heap.size + 1, 0, none⟩)], .int .i64 3])
  go_enter Try.func27, Try.ntmps27
  go_wp2_with fail
  refine bodyPost_ret (v := .agg #[.func (.func 48) #[] #[.pointer (some ⟨w.heap.size, 0, none⟩), .pointer (some ⟨w.heap.size + 1, 0, none⟩)], .int .i64 3]) (by simp [results, Try.results27, go_sem]) rfl ⟨_, rfl, ⟨_, _, rfl, enters_of Try.func48 (by kernel_rfl) rfl, fun hp W' hb => ?_⟩, C.out.b⟩
  have D := C.out.call hb
  exact missing1_any x p w.heap.size W' D.a.cell D.m.lt k (D.m.cell 0)
set_option maxRecDepth 100000 in
theorem elsewhere_any (x : Wd) (p : Wp) (k : Int) (g : Pl) (w : World) (h : WorldAt w p x) : Calls Try.prog 28 #[.agg #[.slice p.d.ex x.d.exits.length p.d.exc, .slice p.d.pl x.d.players.length p.d.plc, .slice p.d.co x.d.coins.length p.d.coc, .slice p.d.it x.d.items.length p.d.itc, .slice p.d.bo x.d.boxes.length p.d.boc, .int .i64 x.d.room, .int .i64 x.d.player, .int .i64 x.d.box, .slice p.at_ x.at_.length p.atc, .slice p.co x.coins.length p.coc, .slice p.wh x.wher.length p.whc], .int .i64 k, .agg #[.int .i64 g.kind, .int .i64 g.id]] w fun e w' => ∃ v, e = .returned v ∧ FaultAt w' v (inB k x.wher.length = true) (!decide (plOf x.wher k.toNat = g)) 5 ∧ Below w.heap.size w w' := by
  have hsf : ∀ (W : World) (p : Addr) (fn : Fn) (x y : Array Value), (store p (.func fn x y)).run Try.prog W = stored Try.prog W p (.func fn x y) .plain := fun W p fn x y => run_store _ _ _ _ _ rfl
  have C := Lib.hid (Qua.start 29 3 42 51 w #[.slice p.d.ex x.d.exits.length p.d.exc, .slice p.d.pl x.d.players.length p.d.plc, .slice p.d.co x.d.coins.length p.d.coc, .slice p.d.it x.d.items.length p.d.itc, .slice p.d.bo x.d.boxes.length p.d.boc, .int .i64 x.d.room, .int .i64 x.d.player, .int .i64 x.d.box, .slice p.at_ x.at_.length p.atc, .slice p.co x.coins.length p.coc, .slice p.wh x.wher.length p.whc] #[.int .i64 k] #[.int .i64 g.kind, .int .i64 g.id] #[.func (.func 49) #[] #[.pointer (some ⟨w.heap.size, 0, none⟩), .pointer (some ⟨w.heap.size + 1, 0, none⟩), .pointer (some ⟨w.heap.size + 1 + 1, 0, none⟩)], .int .i64 5])
  go_enter Try.func28, Try.ntmps28
  go_wp2_with fail
  refine bodyPost_ret (v := .agg #[.func (.func 49) #[] #[.pointer (some ⟨w.heap.size, 0, none⟩), .pointer (some ⟨w.heap.size + 1, 0, none⟩), .pointer (some ⟨w.heap.size + 1 + 1, 0, none⟩)], .int .i64 5]) (by simp [results, Try.results28, go_sem]) rfl ⟨_, rfl, ⟨_, _, rfl, enters_of Try.func49 (by kernel_rfl) rfl, fun hp W' hb => ?_⟩, C.out.b⟩
  have D := C.out.call hb
  have H := h.below D.b (Nat.le_refl _)
  have hk := hp
  obtain ⟨k', rfl⟩ : ∃ q : Nat, k = q := ⟨k.toNat, by have := (inB_iff _ _).1 hk; omega⟩
  have lk : k' < x.wher.length := by have := (inB_iff _ _).1 hk; omega
  obtain ⟨gk, gi⟩ := g
  exact elsewhere1_any x p w.heap.size W' D.a.cell D.n.lt H.wh k' lk gk gi (D.m.cell 0) D.n.cell
set_option maxRecDepth 100000 in
theorem far_any (x : Wd) (p : Wp) (i : Nat) (k : Int) (w : World) (hx : rightW x = true) (h : WorldAt w p x) (hi : i < x.at_.length) : Calls Try.prog 30 #[.agg #[.slice p.d.ex x.d.exits.length p.d.exc, .slice p.d.pl x.d.players.length p.d.plc, .slice p.d.co x.d.coins.length p.d.coc, .slice p.d.it x.d.items.length p.d.itc, .slice p.d.bo x.d.boxes.length p.d.boc, .int .i64 x.d.room, .int .i64 x.d.player, .int .i64 x.d.box, .slice p.at_ x.at_.length p.atc, .slice p.co x.coins.length p.coc, .slice p.wh x.wher.length p.whc], .int .i64 (i : Int), .int .i64 k] w fun e w' => ∃ v, e = .returned v ∧ FaultAt w' v (inB k x.wher.length = true) (!nearB x i k.toNat) 5 ∧ Below w.heap.size w w' := by
  have hsf : ∀ (W : World) (p : Addr) (fn : Fn) (x y : Array Value), (store p (.func fn x y)).run Try.prog W = stored Try.prog W p (.func fn x y) .plain := fun W p fn x y => run_store _ _ _ _ _ rfl
  have C := Lib.hid (Qua.start 29 3 3 51 w #[.slice p.d.ex x.d.exits.length p.d.exc, .slice p.d.pl x.d.players.length p.d.plc, .slice p.d.co x.d.coins.length p.d.coc, .slice p.d.it x.d.items.length p.d.itc, .slice p.d.bo x.d.boxes.length p.d.boc, .int .i64 x.d.room, .int .i64 x.d.player, .int .i64 x.d.box, .slice p.at_ x.at_.length p.atc, .slice p.co x.coins.length p.coc, .slice p.wh x.wher.length p.whc] #[.int .i64 (i : Int)] #[.int .i64 k] #[.func (.func 50) #[] #[.pointer (some ⟨w.heap.size, 0, none⟩), .pointer (some ⟨w.heap.size + 1, 0, none⟩), .pointer (some ⟨w.heap.size + 1 + 1, 0, none⟩)], .int .i64 5])
  go_enter Try.func30, Try.ntmps30
  go_wp2_with fail
  refine bodyPost_ret (v := .agg #[.func (.func 50) #[] #[.pointer (some ⟨w.heap.size, 0, none⟩), .pointer (some ⟨w.heap.size + 1, 0, none⟩), .pointer (some ⟨w.heap.size + 1 + 1, 0, none⟩)], .int .i64 5]) (by simp [results, Try.results30, go_sem]) rfl ⟨_, rfl, ⟨_, _, rfl, enters_of Try.func50 (by kernel_rfl) rfl, fun hp W' hb => ?_⟩, C.out.b⟩
  have D := C.out.call hb
  have H := h.below D.b (Nat.le_refl _)
  have hk := hp
  obtain ⟨k', rfl⟩ : ∃ q : Nat, k = q := ⟨k.toNat, by have := (inB_iff _ _).1 hk; omega⟩
  have lk : k' < x.wher.length := by have := (inB_iff _ _).1 hk; omega
  exact far1_any x p w.heap.size W' D.a.cell D.m.lt hx H i hi k' lk D.n.lt (D.m.cell 0) (D.n.cell 0)
set_option maxRecDepth 100000 in
theorem noBox_any (x : Wd) (p : Wp) (k : Int) (w : World) (h : WorldAt w p x) (hl : x.d.boxes.length = x.wher.length) : Calls Try.prog 31 #[.agg #[.slice p.d.ex x.d.exits.length p.d.exc, .slice p.d.pl x.d.players.length p.d.plc, .slice p.d.co x.d.coins.length p.d.coc, .slice p.d.it x.d.items.length p.d.itc, .slice p.d.bo x.d.boxes.length p.d.boc, .int .i64 x.d.room, .int .i64 x.d.player, .int .i64 x.d.box, .slice p.at_ x.at_.length p.atc, .slice p.co x.coins.length p.coc, .slice p.wh x.wher.length p.whc], .int .i64 k] w fun e w' => ∃ v, e = .returned v ∧ FaultAt w' v (inB k x.wher.length = true) (!x.d.boxes.getD k.toNat false) 6 ∧ Below w.heap.size w w' := by
  have hsf : ∀ (W : World) (p : Addr) (fn : Fn) (x y : Array Value), (store p (.func fn x y)).run Try.prog W = stored Try.prog W p (.func fn x y) .plain := fun W p fn x y => run_store _ _ _ _ _ rfl
  have C := Lib.hid (Tri.start 29 3 51 w #[.slice p.d.ex x.d.exits.length p.d.exc, .slice p.d.pl x.d.players.length p.d.plc, .slice p.d.co x.d.coins.length p.d.coc, .slice p.d.it x.d.items.length p.d.itc, .slice p.d.bo x.d.boxes.length p.d.boc, .int .i64 x.d.room, .int .i64 x.d.player, .int .i64 x.d.box, .slice p.at_ x.at_.length p.atc, .slice p.co x.coins.length p.coc, .slice p.wh x.wher.length p.whc] #[.int .i64 k] #[.func (.func 51) #[] #[.pointer (some ⟨w.heap.size + 1, 0, none⟩), .pointer (some ⟨w.heap.size, 0, none⟩)], .int .i64 6])
  have HL := Lib.hid hl
  clear hl
  go_enter Try.func31, Try.ntmps31
  go_wp2_with fail
  refine bodyPost_ret (v := .agg #[.func (.func 51) #[] #[.pointer (some ⟨w.heap.size + 1, 0, none⟩), .pointer (some ⟨w.heap.size, 0, none⟩)], .int .i64 6]) (by simp [results, Try.results31, go_sem]) rfl ⟨_, rfl, ⟨_, _, rfl, enters_of Try.func51 (by kernel_rfl) rfl, fun hp W' hb => ?_⟩, C.out.b⟩
  have D := C.out.call hb
  have H := h.below D.b (Nat.le_refl _)
  have hk := hp
  obtain ⟨k', rfl⟩ : ∃ q : Nat, k = q := ⟨k.toNat, by have := (inB_iff _ _).1 hk; omega⟩
  have lk : k' < x.wher.length := by have := (inB_iff _ _).1 hk; omega
  exact noBox1_any x p w.heap.size W' D.a.cell D.m.lt H.d.bo k' (by have := HL.out; omega) (D.m.cell 0)
set_option maxRecDepth 100000 in
theorem loop_any (x : Wd) (p : Wp) (k c : Int) (w : World) (hT : Tr x.wher) (h : WorldAt w p x) : Calls Try.prog 32 #[.agg #[.slice p.d.ex x.d.exits.length p.d.exc, .slice p.d.pl x.d.players.length p.d.plc, .slice p.d.co x.d.coins.length p.d.coc, .slice p.d.it x.d.items.length p.d.itc, .slice p.d.bo x.d.boxes.length p.d.boc, .int .i64 x.d.room, .int .i64 x.d.player, .int .i64 x.d.box, .slice p.at_ x.at_.length p.atc, .slice p.co x.coins.length p.coc, .slice p.wh x.wher.length p.whc], .int .i64 k, .int .i64 c] w fun e w' => ∃ v, e = .returned v ∧ FaultAt w' v (inB k x.wher.length = true ∧ inB c x.wher.length = true) (wB x.wher c.toNat k.toNat) 7 ∧ Below w.heap.size w w' := by
  have hsf : ∀ (W : World) (p : Addr) (fn : Fn) (x y : Array Value), (store p (.func fn x y)).run Try.prog W = stored Try.prog W p (.func fn x y) .plain := fun W p fn x y => run_store _ _ _ _ _ rfl
  have C := Lib.hid (Qua.start 29 3 3 51 w #[.slice p.d.ex x.d.exits.length p.d.exc, .slice p.d.pl x.d.players.length p.d.plc, .slice p.d.co x.d.coins.length p.d.coc, .slice p.d.it x.d.items.length p.d.itc, .slice p.d.bo x.d.boxes.length p.d.boc, .int .i64 x.d.room, .int .i64 x.d.player, .int .i64 x.d.box, .slice p.at_ x.at_.length p.atc, .slice p.co x.coins.length p.coc, .slice p.wh x.wher.length p.whc] #[.int .i64 k] #[.int .i64 c] #[.func (.func 52) #[] #[.pointer (some ⟨w.heap.size, 0, none⟩), .pointer (some ⟨w.heap.size + 1 + 1, 0, none⟩), .pointer (some ⟨w.heap.size + 1, 0, none⟩)], .int .i64 7])
  go_enter Try.func32, Try.ntmps32
  go_wp2_with fail
  refine bodyPost_ret (v := .agg #[.func (.func 52) #[] #[.pointer (some ⟨w.heap.size, 0, none⟩), .pointer (some ⟨w.heap.size + 1 + 1, 0, none⟩), .pointer (some ⟨w.heap.size + 1, 0, none⟩)], .int .i64 7]) (by simp [results, Try.results32, go_sem]) rfl ⟨_, rfl, ⟨_, _, rfl, enters_of Try.func52 (by kernel_rfl) rfl, fun hp W' hb => ?_⟩, C.out.b⟩
  have D := C.out.call hb
  have H := h.below D.b (Nat.le_refl _)
  obtain ⟨hk, hc⟩ := hp
  obtain ⟨k', rfl⟩ : ∃ q : Nat, k = q := ⟨k.toNat, by have := (inB_iff _ _).1 hk; omega⟩
  obtain ⟨c', rfl⟩ : ∃ q : Nat, c = q := ⟨c.toNat, by have := (inB_iff _ _).1 hc; omega⟩
  have lc : c' < x.wher.length := by have := (inB_iff _ _).1 hc; omega
  exact loop1_any x p w.heap.size W' D.a.cell D.m.lt hT H.wh k' c' lc D.n.lt (D.m.cell 0) (D.n.cell 0)
set_option maxRecDepth 100000 in
theorem deep_any (x : Wd) (p : Wp) (k c : Int) (w : World) (hT : Tr x.wher) (h : WorldAt w p x) : Calls Try.prog 33 #[.agg #[.slice p.d.ex x.d.exits.length p.d.exc, .slice p.d.pl x.d.players.length p.d.plc, .slice p.d.co x.d.coins.length p.d.coc, .slice p.d.it x.d.items.length p.d.itc, .slice p.d.bo x.d.boxes.length p.d.boc, .int .i64 x.d.room, .int .i64 x.d.player, .int .i64 x.d.box, .slice p.at_ x.at_.length p.atc, .slice p.co x.coins.length p.coc, .slice p.wh x.wher.length p.whc], .int .i64 k, .int .i64 c] w fun e w' => ∃ v, e = .returned v ∧ FaultAt w' v (inB k x.wher.length = true ∧ inB c x.wher.length = true) (decide (4 < dep x.wher c.toNat + 1 + hgt x.wher k.toNat)) 8 ∧ Below w.heap.size w w' := by
  have hsf : ∀ (W : World) (p : Addr) (fn : Fn) (x y : Array Value), (store p (.func fn x y)).run Try.prog W = stored Try.prog W p (.func fn x y) .plain := fun W p fn x y => run_store _ _ _ _ _ rfl
  have C := Lib.hid (Qua.start 29 3 3 51 w #[.slice p.d.ex x.d.exits.length p.d.exc, .slice p.d.pl x.d.players.length p.d.plc, .slice p.d.co x.d.coins.length p.d.coc, .slice p.d.it x.d.items.length p.d.itc, .slice p.d.bo x.d.boxes.length p.d.boc, .int .i64 x.d.room, .int .i64 x.d.player, .int .i64 x.d.box, .slice p.at_ x.at_.length p.atc, .slice p.co x.coins.length p.coc, .slice p.wh x.wher.length p.whc] #[.int .i64 k] #[.int .i64 c] #[.func (.func 54) #[] #[.pointer (some ⟨w.heap.size, 0, none⟩), .pointer (some ⟨w.heap.size + 1 + 1, 0, none⟩), .pointer (some ⟨w.heap.size + 1, 0, none⟩)], .int .i64 8])
  go_enter Try.func33, Try.ntmps33
  go_wp2_with fail
  refine bodyPost_ret (v := .agg #[.func (.func 54) #[] #[.pointer (some ⟨w.heap.size, 0, none⟩), .pointer (some ⟨w.heap.size + 1 + 1, 0, none⟩), .pointer (some ⟨w.heap.size + 1, 0, none⟩)], .int .i64 8]) (by simp [results, Try.results33, go_sem]) rfl ⟨_, rfl, ⟨_, _, rfl, enters_of Try.func54 (by kernel_rfl) rfl, fun hp W' hb => ?_⟩, C.out.b⟩
  have D := C.out.call hb
  have H := h.below D.b (Nat.le_refl _)
  obtain ⟨hk, hc⟩ := hp
  obtain ⟨k', rfl⟩ : ∃ q : Nat, k = q := ⟨k.toNat, by have := (inB_iff _ _).1 hk; omega⟩
  obtain ⟨c', rfl⟩ : ∃ q : Nat, c = q := ⟨c.toNat, by have := (inB_iff _ _).1 hc; omega⟩
  have lk : k' < x.wher.length := by have := (inB_iff _ _).1 hk; omega
  have lc : c' < x.wher.length := by have := (inB_iff _ _).1 hc; omega
  exact deep1_any x p w.heap.size W' D.a.cell D.m.lt hT H.wh k' c' lk lc D.n.lt (D.m.cell 0) (D.n.cell 0)
set_option maxRecDepth 100000 in
theorem full_any (x : Wd) (p : Wp) (q : Nat) (g : Int) (w : World) (hx : rightW x = true) (h : WorldAt w p x) (hq : q < 3) : Calls Try.prog 34 #[.agg #[.slice p.d.ex x.d.exits.length p.d.exc, .slice p.d.pl x.d.players.length p.d.plc, .slice p.d.co x.d.coins.length p.d.coc, .slice p.d.it x.d.items.length p.d.itc, .slice p.d.bo x.d.boxes.length p.d.boc, .int .i64 x.d.room, .int .i64 x.d.player, .int .i64 x.d.box, .slice p.at_ x.at_.length p.atc, .slice p.co x.coins.length p.coc, .slice p.wh x.wher.length p.whc], .agg #[.int .i64 (q : Int), .int .i64 g]] w fun e w' => ∃ v, e = .returned v ∧ FaultAt w' v (True) (decide (roomI x ⟨(q : Int), g⟩ < 1)) 9 ∧ Below w.heap.size w w' := by
  have hsf : ∀ (W : World) (p : Addr) (fn : Fn) (x y : Array Value), (store p (.func fn x y)).run Try.prog W = stored Try.prog W p (.func fn x y) .plain := fun W p fn x y => run_store _ _ _ _ _ rfl
  have C := Lib.hid (Tri.start 29 42 51 w #[.slice p.d.ex x.d.exits.length p.d.exc, .slice p.d.pl x.d.players.length p.d.plc, .slice p.d.co x.d.coins.length p.d.coc, .slice p.d.it x.d.items.length p.d.itc, .slice p.d.bo x.d.boxes.length p.d.boc, .int .i64 x.d.room, .int .i64 x.d.player, .int .i64 x.d.box, .slice p.at_ x.at_.length p.atc, .slice p.co x.coins.length p.coc, .slice p.wh x.wher.length p.whc] #[.int .i64 (q : Int), .int .i64 g] #[.func (.func 57) #[] #[.pointer (some ⟨w.heap.size, 0, none⟩), .pointer (some ⟨w.heap.size + 1, 0, none⟩)], .int .i64 9])
  go_enter Try.func34, Try.ntmps34
  go_wp2_with fail
  refine bodyPost_ret (v := .agg #[.func (.func 57) #[] #[.pointer (some ⟨w.heap.size, 0, none⟩), .pointer (some ⟨w.heap.size + 1, 0, none⟩)], .int .i64 9]) (by simp [results, Try.results34, go_sem]) rfl ⟨_, rfl, ⟨_, _, rfl, enters_of Try.func57 (by kernel_rfl) rfl, fun hp W' hb => ?_⟩, C.out.b⟩
  have D := C.out.call hb
  have H := h.below D.b (Nat.le_refl _)
  exact full1_any x p w.heap.size W' D.a.cell D.m.lt hx H.wh q g hq (D.m.cell 0) (D.m.cell 1)
end Go.Proofs.Ytdmfbbcidcfcjaa
