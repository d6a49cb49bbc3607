/- boxes: what may be wrong: each as a function over what it was made of. -/
import Derived.Test.YtdmfbbcidcfcjaaRows
import Derived.Test.YtdmfbbcidcfcjaaKit
import Derived.Test.YtdmfbbcidcfcjaaGMem
import Derived.Test.YtdmfbbcidcfcjaaCoin
import Derived.Test.YtdmfbbcidcfcjaaGWorld
import Derived.Test.YtdmfbbcidcfcjaaGDescN
import Derived.Test.YtdmfbbcidcfcjaaGRight
import Derived.Test.YtdmfbbcidcfcjaaGCopy
import Derived.Test.YtdmfbbcidcfcjaaGRefD
import Derived.Test.YtdmfbbcidcfcjaaGEq
import Derived.Test.YtdmfbbcidcfcjaaGAs
import Derived.Test.YtdmfbbcidcfcjaaGTreeL
import Derived.Test.YtdmfbbcidcfcjaaGTreeA
import Derived.Test.YtdmfbbcidcfcjaaGHoldA
import Derived.Test.YtdmfbbcidcfcjaaGBoxM
import Derived.Test.YtdmfbbcidcfcjaaBoxA
import Derived.Deep.QuietTactic
import Derived.BigQuiet
import Derived.Deep.RegionHeld3
import Derived.WalkKit
import Derived.ProofKit
import Derived.OpenShut
import Derived.IntWalk
namespace Go.Proofs.Ytdmfbbcidcfcjaa
open Go.ChangeShapes Go.WideShapes Go.ChangeAt Go.RowKit
set_option linter.unusedVariables false
open Go.RowKit
/-- A fault: what may be wrong, where P holds, and the error that comes of it; it may be asked in whatever world comes of this one. -/
def FaultAt (W : World) (v : Value) (P : Prop) (B : Bool) (err : Int) : Prop :=
  ∃ F fs, v = .agg #[.func (.func F) #[] fs, .int .i64 err] ∧ (∀ (args : Array Value) (w : World), (callFunc F args).run Try.prog w = .ok (.enter F args) w) ∧
    (P → ∀ W', Below W.heap.size W W' → Calls Try.prog F fs W' fun e w' => e = .returned (.bool B) ∧ Below W'.heap.size W' w')
theorem FaultAt.call {W W1 : World} {v : Value} {P : Prop} {B : Bool} {err : Int} (h : FaultAt W v P B err) (hb : Below W.heap.size W W1) : FaultAt W1 v P B err := by
  obtain ⟨F, fs, h1, h2, h3⟩ := h
  exact ⟨F, fs, h1, h2, fun hp W' hb' => h3 hp W' (hb.trans (hb'.mono hb.size))⟩
section
variable (x : Wd) (p : Wp) (n : Nat) (w : World) (hc : ∀ j, w.cell? ⟨n, j, none⟩ = (#[.slice p.d.ex x.d.exits.length p.d.exc, .slice p.d.pl x.d.players.length p.d.plc, .slice p.d.co x.d.coins.length p.d.coc, .slice p.d.it x.d.items.length p.d.itc, .slice p.d.bo x.d.boxes.length p.d.boc, .int .i64 x.d.room, .int .i64 x.d.player, .int .i64 x.d.box, .slice p.at_ x.at_.length p.atc, .slice p.co x.coins.length p.coc, .slice p.wh x.wher.length p.whc][j]? : Option Value)) (hl : n + 1 < w.heap.size)
include hc hl
set_option maxRecDepth 100000 in
theorem missing1_any (k : Int) (c1 : w.cell? ⟨n + 1, 0, none⟩ = some (.int .i64 k)) : Calls Try.prog 48 #[.pointer (some ⟨n, 0, none⟩), .pointer (some ⟨n + 1, 0, none⟩)] w fun e w' => e = .returned (.bool (!inB k x.wher.length)) ∧ Below w.heap.size w w' := by
  have hl0 : n < w.heap.size := Nat.lt_of_succ_lt hl
  go_enter Try.func48, Try.ntmps48
  go_wp2_with fail
  refine (bisitem_any x p k _).mono ?_
  rintro e w1 ⟨rfl, b1⟩
  have B1 := Lib.hid b1
  clear b1
  cases hb : inB k x.wher.length
  all_goals
    go_wp2_with fail
    go_ret
    exact ⟨ret_bool (by first | rfl | (rw [hb]; rfl)), B1.out⟩
set_option maxRecDepth 100000 in
theorem far1_any (hx : rightW x = true) (h : WorldAt w p x) (i : Nat) (hi : i < x.at_.length) (k : Nat) (hk : k < x.wher.length) (hl2 : n + 2 < w.heap.size) (c1 : w.cell? ⟨n + 1, 0, none⟩ = some (.int .i64 (i : Int))) (c2 : w.cell? ⟨n + 2, 0, none⟩ = some (.int .i64 (k : Int))) : Calls Try.prog 50 #[.pointer (some ⟨n, 0, none⟩), .pointer (some ⟨n + 1, 0, none⟩), .pointer (some ⟨n + 2, 0, none⟩)] w fun e w' => e = .returned (.bool (!nearB x i k)) ∧ Below w.heap.size w w' := by
  have hl0 : n < w.heap.size := Nat.lt_of_succ_lt hl
  have H := Lib.hid h
  have HX := Lib.hid hx
  clear h hx
  go_enter Try.func50, Try.ntmps50
  go_wp2_with fail
  refine (near_any x p i k _ HX.out H.out hi hk).mono ?_
  rintro e w1 ⟨rfl, b1⟩
  have B1 := Lib.hid b1
  clear b1
  cases hb : nearB x i k
  all_goals
    go_wp2_with fail
    go_ret
    exact ⟨ret_bool (by first | rfl | (rw [hb]; rfl)), B1.out⟩
set_option maxRecDepth 100000 in
theorem loop1_any (hT : Tr x.wher) (h : PlsAt w p.wh x.wher) (k c : Nat) (hk : c < x.wher.length) (hl2 : n + 2 < w.heap.size) (c1 : w.cell? ⟨n + 1, 0, none⟩ = some (.int .i64 (k : Int))) (c2 : w.cell? ⟨n + 2, 0, none⟩ = some (.int .i64 (c : Int))) : Calls Try.prog 52 #[.pointer (some ⟨n, 0, none⟩), .pointer (some ⟨n + 2, 0, none⟩), .pointer (some ⟨n + 1, 0, none⟩)] w fun e w' => e = .returned (.bool (wB x.wher c k)) ∧ Below w.heap.size w w' := by
  have hl0 : n < w.heap.size := Nat.lt_of_succ_lt hl
  have H := Lib.hid h
  have HT := Lib.hid hT
  clear h hT
  go_enter Try.func52, Try.ntmps52
  go_wp2_with fail
  refine (twithin_any x p HT.out c k hk _ H.out).mono ?_
  rintro e w1 ⟨rfl, b1⟩
  have B1 := Lib.hid b1
  clear b1
  go_wp2_with fail
  go_ret
  exact ⟨ret_bool (by first | rfl | (rw [hb]; rfl)), B1.out⟩
set_option maxRecDepth 100000 in
theorem full1_any (hx : rightW x = true) (h : PlsAt w p.wh x.wher) (q : Nat) (g : Int) (hq : q < 3) (c1 : w.cell? ⟨n + 1, 0, none⟩ = some (.int .i64 (q : Int))) (c2 : w.cell? ⟨n + 1, 1, none⟩ = some (.int .i64 g)) : Calls Try.prog 57 #[.pointer (some ⟨n, 0, none⟩), .pointer (some ⟨n + 1, 0, none⟩)] w fun e w' => e = .returned (.bool (decide (roomI x ⟨(q : Int), g⟩ < 1))) ∧ Below w.heap.size w w' := by
  have hl0 : n < w.heap.size := Nat.lt_of_succ_lt hl
  have H := Lib.hid h
  have HX := Lib.hid hx
  clear h hx
  obtain ⟨r, hr⟩ : ∃ r, r = roomI x ⟨(q : Int), g⟩ := ⟨_, rfl⟩
  rw [← hr]
  have HR := Lib.hid (show capOf x.d q - (x.wher.count ⟨q, g⟩ : Nat) = r from hr.symm)
  clear hr
  go_enter Try.func57, Try.ntmps57
  go_wp2_with fail
  refine (troom_any x p q g hq (cap_in HX.out hq) _ H.out (by have := (right_lens HX.out).2.2.2.1; omega)).mono ?_
  rintro e w1 ⟨rfl, b1⟩
  rw [HR.out]
  have B1 := Lib.hid b1
  clear b1
  by_cases hb : r < 1
  all_goals
    go_wp2_with fail
    go_ret
    exact ⟨ret_bool (by simp [hb]), B1.out⟩
set_option maxRecDepth 100000 in
set_option maxHeartbeats 400000 in
theorem deep1_any (hT : Tr x.wher) (h : PlsAt w p.wh x.wher) (k c : Nat) (hk : k < x.wher.length) (hc2 : c < x.wher.length) (hl2 : n + 2 < w.heap.size) (c1 : w.cell? ⟨n + 1, 0, none⟩ = some (.int .i64 (k : Int))) (c2 : w.cell? ⟨n + 2, 0, none⟩ = some (.int .i64 (c : Int))) : Calls Try.prog 54 #[.pointer (some ⟨n, 0, none⟩), .pointer (some ⟨n + 2, 0, none⟩), .pointer (some ⟨n + 1, 0, none⟩)] w fun e w' => e = .returned (.bool (decide (4 < dep x.wher c + 1 + hgt x.wher k))) ∧ Below w.heap.size w w' := by
  have hl0 : n < w.heap.size := Nat.lt_of_succ_lt hl
  have H := Lib.hid h
  have HT := Lib.hid hT
  have hd4 := hT.dep4 hc2
  have hh4 := hT.sum4 hk
  clear h hT
  go_enter Try.func54, Try.ntmps54
  go_wp2_with fail
  have w1 : IntKind.i64.wrap ((dep x.wher c : Int) + 1) = (dep x.wher c : Int) + 1 := IntWalk.i64_in _ (by omega)
  have w2 : IntKind.i64.wrap ((dep x.wher c : Int) + 1 + (hgt x.wher k : Int)) = (dep x.wher c : Int) + 1 + (hgt x.wher k : Int) := IntWalk.i64_in _ (by omega)
  refine wp_region_noPanic ?_
  refine wp_region_held_drew (S := (fun w' => Below w.heap.size w w' ∧ (∀ j, w'.cell? ⟨n, j, none⟩ = (#[.slice p.d.ex x.d.exits.length p.d.exc, .slice p.d.pl x.d.players.length p.d.plc, .slice p.d.co x.d.coins.length p.d.coc, .slice p.d.it x.d.items.length p.d.itc, .slice p.d.bo x.d.boxes.length p.d.boc, .int .i64 x.d.room, .int .i64 x.d.player, .int .i64 x.d.box, .slice p.at_ x.at_.length p.atc, .slice p.co x.coins.length p.coc, .slice p.wh x.wher.length p.whc][j]? : Option Value)) ∧ w'.cell? ⟨n + 1, 0, none⟩ = some (.int .i64 (k : Int)) ∧ w'.cell? ⟨n + 2, 0, none⟩ = some (.int .i64 (c : Int)))) (by kernel_rfl) (by (first | (exact ⟨bdrew1 (Below.refl _ _), hc, c1, c2⟩) | (with_reducible exact ⟨bl hHeld.1 hb9, fun j => (hb9.cell (p := ⟨n, j, none⟩) (Nat.lt_of_lt_of_le hl0 hHeld.1.size)).trans (hHeld.2.1 j), cell_call hHeld.2.2.1 hb9, cell_call hHeld.2.2.2 hb9⟩) | (with_reducible exact hHeld))) (fun hHeld => ?_)
  first
    | (refine wpAnyH_take (i := 0) (v := undef) (by simp only [List.getElem?_toArray, List.getElem?_cons_zero]; rfl) (by kernel_rfl) (by kernel_rfl) (by kernel_rfl) (fun _ _ _ h => h) (Or.inr ⟨by rfl, rfl⟩) (by assumption) ?_; try simp only [Act.put, List.setIfInBounds_toArray, List.set_cons_zero, List.set_cons_succ])
    | (refine wpAnyH_take (i := 0) (v := ?_) (by simp only [List.getElem?_toArray, List.getElem?_cons_zero]; rfl) (by kernel_rfl) (by kernel_rfl) (by kernel_rfl) (fun _ _ _ h => h) (Or.inl ⟨by rfl, ?_⟩) (by assumption) ?_
       rotate_left
       · (intro ww hSw; (try dsimp only at hSw); go_simp; (try with_reducible rfl))
       try simp only [Act.put, List.setIfInBounds_toArray, List.set_cons_zero, List.set_cons_succ])
    | (refine wpAnyH_ready (rs := [0]) (by kernel_rfl) (by simp) (AllReadyH.cons (by simp only [List.getElem?_toArray, List.getElem?_cons_succ, List.getElem?_cons_zero]; rfl) (fun K hK => ?_) AllReadyH.nil)
       go_simp
       first
         | (fail)
       try go_wp2_with fail
       refine hK.out _ _ (by (first | (exact ⟨bdrew1 (Below.refl _ _), hc, c1, c2⟩) | (with_reducible exact ⟨bl hHeld.1 hb9, fun j => (hb9.cell (p := ⟨n, j, none⟩) (Nat.lt_of_lt_of_le hl0 hHeld.1.size)).trans (hHeld.2.1 j), cell_call hHeld.2.2.1 hb9, cell_call hHeld.2.2.2 hb9⟩) | (with_reducible exact hHeld))) (fun hHeld => ?_)
       clear hK K
       try simp only [Act.put, List.setIfInBounds_toArray, List.set_cons_zero, List.set_cons_succ])
  first
    | (refine wpAnyH_take (i := 1) (v := undef) (by simp only [List.getElem?_toArray, List.getElem?_cons_succ, List.getElem?_cons_zero]; rfl) (by kernel_rfl) (by kernel_rfl) (by kernel_rfl) (fun _ _ _ h => h) (Or.inr ⟨by rfl, rfl⟩) (by assumption) ?_; try simp only [Act.put, List.setIfInBounds_toArray, List.set_cons_zero, List.set_cons_succ])
    | (refine wpAnyH_take (i := 1) (v := ?_) (by simp only [List.getElem?_toArray, List.getElem?_cons_succ, List.getElem?_cons_zero]; rfl) (by kernel_rfl) (by kernel_rfl) (by kernel_rfl) (fun _ _ _ h => h) (Or.inl ⟨by rfl, ?_⟩) (by assumption) ?_
       rotate_left
       · (intro ww hSw; (try dsimp only at hSw); go_simp; (try with_reducible rfl))
       try simp only [Act.put, List.setIfInBounds_toArray, List.set_cons_zero, List.set_cons_succ])
    | (refine wpAnyH_ready (rs := [1]) (by kernel_rfl) (by simp) (AllReadyH.cons (by simp only [List.getElem?_toArray, List.getElem?_cons_succ, List.getElem?_cons_zero]; rfl) (fun K hK => ?_) AllReadyH.nil)
       go_simp
       first
         | (fail)
       try go_wp2_with fail
       refine hK.out _ _ (by (first | (exact ⟨bdrew1 (Below.refl _ _), hc, c1, c2⟩) | (with_reducible exact ⟨bl hHeld.1 hb9, fun j => (hb9.cell (p := ⟨n, j, none⟩) (Nat.lt_of_lt_of_le hl0 hHeld.1.size)).trans (hHeld.2.1 j), cell_call hHeld.2.2.1 hb9, cell_call hHeld.2.2.2 hb9⟩) | (with_reducible exact hHeld))) (fun hHeld => ?_)
       clear hK K
       try simp only [Act.put, List.setIfInBounds_toArray, List.set_cons_zero, List.set_cons_succ])
  first
    | (refine wpAnyH_take (i := 4) (v := undef) (by simp only [List.getElem?_toArray, List.getElem?_cons_succ, List.getElem?_cons_zero]; rfl) (by kernel_rfl) (by kernel_rfl) (by kernel_rfl) (fun _ _ _ h => h) (Or.inr ⟨by rfl, rfl⟩) (by assumption) ?_; try simp only [Act.put, List.setIfInBounds_toArray, List.set_cons_zero, List.set_cons_succ])
    | (refine wpAnyH_take (i := 4) (v := ?_) (by simp only [List.getElem?_toArray, List.getElem?_cons_succ, List.getElem?_cons_zero]; rfl) (by kernel_rfl) (by kernel_rfl) (by kernel_rfl) (fun _ _ _ h => h) (Or.inl ⟨by rfl, ?_⟩) (by assumption) ?_
       rotate_left
       · (intro ww hSw; (try dsimp only at hSw); go_simp; (try with_reducible rfl))
       try simp only [Act.put, List.setIfInBounds_toArray, List.set_cons_zero, List.set_cons_succ])
    | (refine wpAnyH_ready (rs := [4]) (by kernel_rfl) (by simp) (AllReadyH.cons (by simp only [List.getElem?_toArray, List.getElem?_cons_succ, List.getElem?_cons_zero]; rfl) (fun K hK => ?_) AllReadyH.nil)
       go_simp
       first
         | (fail)
       try go_wp2_with fail
       refine hK.out _ _ (by (first | (exact ⟨bdrew1 (Below.refl _ _), hc, c1, c2⟩) | (with_reducible exact ⟨bl hHeld.1 hb9, fun j => (hb9.cell (p := ⟨n, j, none⟩) (Nat.lt_of_lt_of_le hl0 hHeld.1.size)).trans (hHeld.2.1 j), cell_call hHeld.2.2.1 hb9, cell_call hHeld.2.2.2 hb9⟩) | (with_reducible exact hHeld))) (fun hHeld => ?_)
       clear hK K
       try simp only [Act.put, List.setIfInBounds_toArray, List.set_cons_zero, List.set_cons_succ])
  first
    | (refine wpAnyH_take (i := 5) (v := undef) (by simp only [List.getElem?_toArray, List.getElem?_cons_succ, List.getElem?_cons_zero]; rfl) (by kernel_rfl) (by kernel_rfl) (by kernel_rfl) (fun _ _ _ h => h) (Or.inr ⟨by rfl, rfl⟩) (by assumption) ?_; try simp only [Act.put, List.setIfInBounds_toArray, List.set_cons_zero, List.set_cons_succ])
    | (refine wpAnyH_take (i := 5) (v := ?_) (by simp only [List.getElem?_toArray, List.getElem?_cons_succ, List.getElem?_cons_zero]; rfl) (by kernel_rfl) (by kernel_rfl) (by kernel_rfl) (fun _ _ _ h => h) (Or.inl ⟨by rfl, ?_⟩) (by assumption) ?_
       rotate_left
       · (intro ww hSw; (try dsimp only at hSw); go_simp; (try with_reducible rfl))
       try simp only [Act.put, List.setIfInBounds_toArray, List.set_cons_zero, List.set_cons_succ])
    | (refine wpAnyH_ready (rs := [5]) (by kernel_rfl) (by simp) (AllReadyH.cons (by simp only [List.getElem?_toArray, List.getElem?_cons_succ, List.getElem?_cons_zero]; rfl) (fun K hK => ?_) AllReadyH.nil)
       go_simp
       first
         | (fail)
       try go_wp2_with fail
       refine hK.out _ _ (by (first | (exact ⟨bdrew1 (Below.refl _ _), hc, c1, c2⟩) | (with_reducible exact ⟨bl hHeld.1 hb9, fun j => (hb9.cell (p := ⟨n, j, none⟩) (Nat.lt_of_lt_of_le hl0 hHeld.1.size)).trans (hHeld.2.1 j), cell_call hHeld.2.2.1 hb9, cell_call hHeld.2.2.2 hb9⟩) | (with_reducible exact hHeld))) (fun hHeld => ?_)
       clear hK K
       try simp only [Act.put, List.setIfInBounds_toArray, List.set_cons_zero, List.set_cons_succ])
  refine wpAnyH_ready (rs := [2]) (by kernel_rfl) (by simp) (AllReadyH.cons (by simp only [List.getElem?_toArray, List.getElem?_cons_succ, List.getElem?_cons_zero]; rfl) (fun K hK => ?_) AllReadyH.nil)
  go_simp; refine (tdepth_any x p HT.out c hc2 _ (H.out.below hHeld.1 (Nat.le_refl _))).mono ?_; rintro e w9 ⟨rfl, hb9⟩; try go_wp2_with fail
  refine hK.out _ _ (by (first | (exact ⟨bdrew1 (Below.refl _ _), hc, c1, c2⟩) | (with_reducible exact ⟨bl hHeld.1 hb9, fun j => (hb9.cell (p := ⟨n, j, none⟩) (Nat.lt_of_lt_of_le hl0 hHeld.1.size)).trans (hHeld.2.1 j), cell_call hHeld.2.2.1 hb9, cell_call hHeld.2.2.2 hb9⟩) | (with_reducible exact hHeld))) (fun hHeld => ?_)
  clear hK K
  try simp only [Act.put, List.setIfInBounds_toArray, List.set_cons_zero, List.set_cons_succ]
  first
    | (refine wpAnyH_take (i := 3) (v := undef) (by simp only [List.getElem?_toArray, List.getElem?_cons_succ, List.getElem?_cons_zero]; rfl) (by kernel_rfl) (by kernel_rfl) (by kernel_rfl) (fun _ _ _ h => h) (Or.inr ⟨by rfl, rfl⟩) (by assumption) ?_; try simp only [Act.put, List.setIfInBounds_toArray, List.set_cons_zero, List.set_cons_succ])
    | (refine wpAnyH_take (i := 3) (v := ?_) (by simp only [List.getElem?_toArray, List.getElem?_cons_succ, List.getElem?_cons_zero]; rfl) (by kernel_rfl) (by kernel_rfl) (by kernel_rfl) (fun _ _ _ h => h) (Or.inl ⟨by rfl, ?_⟩) (by assumption) ?_
       rotate_left
       · (intro ww hSw; (try dsimp only at hSw); go_simp; (try with_reducible rfl))
       try simp only [Act.put, List.setIfInBounds_toArray, List.set_cons_zero, List.set_cons_succ])
    | (refine wpAnyH_ready (rs := [3]) (by kernel_rfl) (by simp) (AllReadyH.cons (by simp only [List.getElem?_toArray, List.getElem?_cons_succ, List.getElem?_cons_zero]; rfl) (fun K hK => ?_) AllReadyH.nil)
       go_simp
       first
         | (fail)
       try go_wp2_with fail
       refine hK.out _ _ (by (first | (exact ⟨bdrew1 (Below.refl _ _), hc, c1, c2⟩) | (with_reducible exact ⟨bl hHeld.1 hb9, fun j => (hb9.cell (p := ⟨n, j, none⟩) (Nat.lt_of_lt_of_le hl0 hHeld.1.size)).trans (hHeld.2.1 j), cell_call hHeld.2.2.1 hb9, cell_call hHeld.2.2.2 hb9⟩) | (with_reducible exact hHeld))) (fun hHeld => ?_)
       clear hK K
       try simp only [Act.put, List.setIfInBounds_toArray, List.set_cons_zero, List.set_cons_succ])
  refine wpAnyH_ready (rs := [6]) (by kernel_rfl) (by simp) (AllReadyH.cons (by simp only [List.getElem?_toArray, List.getElem?_cons_succ, List.getElem?_cons_zero]; rfl) (fun K hK => ?_) AllReadyH.nil)
  go_simp; refine (theight_any x p HT.out k hk _ (H.out.below hHeld.1 (Nat.le_refl _))).mono ?_; rintro e w9 ⟨rfl, hb9⟩; try go_wp2_with fail
  refine hK.out _ _ (by (first | (exact ⟨bdrew1 (Below.refl _ _), hc, c1, c2⟩) | (with_reducible exact ⟨bl hHeld.1 hb9, fun j => (hb9.cell (p := ⟨n, j, none⟩) (Nat.lt_of_lt_of_le hl0 hHeld.1.size)).trans (hHeld.2.1 j), cell_call hHeld.2.2.1 hb9, cell_call hHeld.2.2.2 hb9⟩) | (with_reducible exact hHeld))) (fun hHeld => ?_)
  clear hK K
  try simp only [Act.put, List.setIfInBounds_toArray, List.set_cons_zero, List.set_cons_succ]
  first
    | (refine wpAnyH_take (i := 7) (v := undef) (by simp only [List.getElem?_toArray, List.getElem?_cons_succ, List.getElem?_cons_zero]; rfl) (by kernel_rfl) (by kernel_rfl) (by kernel_rfl) (fun _ _ _ h => h) (Or.inr ⟨by rfl, rfl⟩) (by assumption) ?_; try simp only [Act.put, List.setIfInBounds_toArray, List.set_cons_zero, List.set_cons_succ])
    | (refine wpAnyH_take (i := 7) (v := ?_) (by simp only [List.getElem?_toArray, List.getElem?_cons_succ, List.getElem?_cons_zero]; rfl) (by kernel_rfl) (by kernel_rfl) (by kernel_rfl) (fun _ _ _ h => h) (Or.inl ⟨by rfl, ?_⟩) (by assumption) ?_
       rotate_left
       · (intro ww hSw; (try dsimp only at hSw); go_simp; (try with_reducible rfl))
       try simp only [Act.put, List.setIfInBounds_toArray, List.set_cons_zero, List.set_cons_succ])
    | (refine wpAnyH_ready (rs := [7]) (by kernel_rfl) (by simp) (AllReadyH.cons (by simp only [List.getElem?_toArray, List.getElem?_cons_succ, List.getElem?_cons_zero]; rfl) (fun K hK => ?_) AllReadyH.nil)
       go_simp
       first
         | (fail)
       try go_wp2_with fail
       refine hK.out _ _ (by (first | (exact ⟨bdrew1 (Below.refl _ _), hc, c1, c2⟩) | (with_reducible exact ⟨bl hHeld.1 hb9, fun j => (hb9.cell (p := ⟨n, j, none⟩) (Nat.lt_of_lt_of_le hl0 hHeld.1.size)).trans (hHeld.2.1 j), cell_call hHeld.2.2.1 hb9, cell_call hHeld.2.2.2 hb9⟩) | (with_reducible exact hHeld))) (fun hHeld => ?_)
       clear hK K
       try simp only [Act.put, List.setIfInBounds_toArray, List.set_cons_zero, List.set_cons_succ])
  first
    | (refine wpAnyH_take (i := 8) (v := undef) (by simp only [List.getElem?_toArray, List.getElem?_cons_succ, List.getElem?_cons_zero]; rfl) (by kernel_rfl) (by kernel_rfl) (by kernel_rfl) (fun _ _ _ h => h) (Or.inr ⟨by rfl, rfl⟩) (by assumption) ?_; try simp only [Act.put, List.setIfInBounds_toArray, List.set_cons_zero, List.set_cons_succ])
    | (refine wpAnyH_take (i := 8) (v := ?_) (by simp only [List.getElem?_toArray, List.getElem?_cons_succ, List.getElem?_cons_zero]; rfl) (by kernel_rfl) (by kernel_rfl) (by kernel_rfl) (fun _ _ _ h => h) (Or.inl ⟨by rfl, ?_⟩) (by assumption) ?_
       rotate_left
       · (intro ww hSw; (try dsimp only at hSw); go_simp; (try with_reducible rfl))
       try simp only [Act.put, List.setIfInBounds_toArray, List.set_cons_zero, List.set_cons_succ])
    | (refine wpAnyH_ready (rs := [8]) (by kernel_rfl) (by simp) (AllReadyH.cons (by simp only [List.getElem?_toArray, List.getElem?_cons_succ, List.getElem?_cons_zero]; rfl) (fun K hK => ?_) AllReadyH.nil)
       go_simp
       first
         | (fail)
       try go_wp2_with fail
       refine hK.out _ _ (by (first | (exact ⟨bdrew1 (Below.refl _ _), hc, c1, c2⟩) | (with_reducible exact ⟨bl hHeld.1 hb9, fun j => (hb9.cell (p := ⟨n, j, none⟩) (Nat.lt_of_lt_of_le hl0 hHeld.1.size)).trans (hHeld.2.1 j), cell_call hHeld.2.2.1 hb9, cell_call hHeld.2.2.2 hb9⟩) | (with_reducible exact hHeld))) (fun hHeld => ?_)
       clear hK K
       try simp only [Act.put, List.setIfInBounds_toArray, List.set_cons_zero, List.set_cons_succ])
  first
    | (refine wpAnyH_take (i := 9) (v := undef) (by simp only [List.getElem?_toArray, List.getElem?_cons_succ, List.getElem?_cons_zero]; rfl) (by kernel_rfl) (by kernel_rfl) (by kernel_rfl) (fun _ _ _ h => h) (Or.inr ⟨by rfl, rfl⟩) (by assumption) ?_; try simp only [Act.put, List.setIfInBounds_toArray, List.set_cons_zero, List.set_cons_succ])
    | (refine wpAnyH_take (i := 9) (v := ?_) (by simp only [List.getElem?_toArray, List.getElem?_cons_succ, List.getElem?_cons_zero]; rfl) (by kernel_rfl) (by kernel_rfl) (by kernel_rfl) (fun _ _ _ h => h) (Or.inl ⟨by rfl, ?_⟩) (by assumption) ?_
       rotate_left
       · (intro ww hSw; (try dsimp only at hSw); go_simp; (try with_reducible rfl))
       try simp only [Act.put, List.setIfInBounds_toArray, List.set_cons_zero, List.set_cons_succ])
    | (refine wpAnyH_ready (rs := [9]) (by kernel_rfl) (by simp) (AllReadyH.cons (by simp only [List.getElem?_toArray, List.getElem?_cons_succ, List.getElem?_cons_zero]; rfl) (fun K hK => ?_) AllReadyH.nil)
       go_simp
       first
         | (fail)
       try go_wp2_with fail
       refine hK.out _ _ (by (first | (exact ⟨bdrew1 (Below.refl _ _), hc, c1, c2⟩) | (with_reducible exact ⟨bl hHeld.1 hb9, fun j => (hb9.cell (p := ⟨n, j, none⟩) (Nat.lt_of_lt_of_le hl0 hHeld.1.size)).trans (hHeld.2.1 j), cell_call hHeld.2.2.1 hb9, cell_call hHeld.2.2.2 hb9⟩) | (with_reducible exact hHeld))) (fun hHeld => ?_)
       clear hK K
       try simp only [Act.put, List.setIfInBounds_toArray, List.set_cons_zero, List.set_cons_succ])
  refine wpAnyH_done (by kernel_rfl) ?_ _
  refine NoPanic.normal ?_
  have BZ := Lib.hid hHeld.1
  clear hHeld
  go_wp2_with fail
  go_ret
  exact ⟨ret_bool (by rw [← decide_eq_decide.2 (show (4 : Int) < (dep x.wher c : Int) + 1 + (hgt x.wher k : Int) ↔ 4 < dep x.wher c + 1 + hgt x.wher k by omega)]), BZ.out⟩
end
end Go.Proofs.Ytdmfbbcidcfcjaa
