/- ways: who is sent. -/
import Derived.Test.YtkhjmgedamndhaaRows
import Derived.Test.YtkhjmgedamndhaaKit
import Derived.Test.YtkhjmgedamndhaaStrs
import Derived.Test.YtkhjmgedamndhaaCoin
import Derived.Test.YtkhjmgedamndhaaBlk
import Derived.Test.YtkhjmgedamndhaaHolds
import Derived.Test.YtkhjmgedamndhaaWorldMath
import Derived.Test.YtkhjmgedamndhaaWorldAt
import Derived.Test.YtkhjmgedamndhaaDescNest
import Derived.Test.YtkhjmgedamndhaaDescRight
import Derived.Test.YtkhjmgedamndhaaDescCopy
import Derived.Test.YtkhjmgedamndhaaDescCopy2
import Derived.Test.YtkhjmgedamndhaaDescStore
import Derived.Test.YtkhjmgedamndhaaDescAs
import Derived.Test.YtkhjmgedamndhaaWaysMath
import Derived.Test.YtkhjmgedamndhaaWaysA
import Derived.Deep.QuietTactic
import Derived.BigQuiet
import Derived.Deep.RegionHeld3
import Derived.WalkKit
import Derived.ProofKit
import Derived.OpenShut
import Derived.IntWalk
namespace Go.Proofs.Ytkhjmgedamndhaa
open Go.ChangeShapes Go.WideShapes Go.ChangeAt Go.RowKit
set_option linter.unusedVariables false
open Go.RowKit
theorem right_fewW {x : Wd} (h : rightW x = true) : FewW x := by
  have h1 := right_lens h
  have h2 := may_few h1.2.2.2.2.2
  exact ⟨⟨by omega, by omega, by omega, by omega, by omega⟩, by omega, by omega, by omega⟩
set_option maxRecDepth 100000 in
theorem send_no (x : Wd) (p : Wp) (d : Nat) (n i : Nat) (q : Int) (w : World) (hx : rightW x = true) (h : WorldAt w p x) (hi : i < x.at_.length) (hg : GoerAt w n x p i q) (he : ¬ (whoW x i q).2 = 0) : Calls Try.prog 20 #[.agg #[.slice p.d.ex x.d.exits.length p.d.exc, .slice p.d.pl x.d.players.length p.d.plc, .slice p.d.co x.d.coins.length p.d.coc, .slice p.d.it x.d.items.length p.d.itc, .slice p.d.bo x.d.boxes.length p.d.boc, .int .i64 x.d.room, .int .i64 x.d.player, .int .i64 x.d.box, .slice p.at_ x.at_.length p.atc, .slice p.co x.coins.length p.coc, .slice p.wh x.wher.length p.whc], .int .i64 (d : Int), .func (.func 31) #[] #[.pointer (some ⟨n + 2, 0, none⟩), .pointer (some ⟨n, 0, none⟩), .pointer (some ⟨n + 1, 0, none⟩)]] w fun e w' => e = .returned (.tuple #[.agg #[.slice p.d.ex x.d.exits.length p.d.exc, .slice p.d.pl x.d.players.length p.d.plc, .slice p.d.co x.d.coins.length p.d.coc, .slice p.d.it x.d.items.length p.d.itc, .slice p.d.bo x.d.boxes.length p.d.boc, .int .i64 x.d.room, .int .i64 x.d.player, .int .i64 x.d.box, .slice p.at_ x.at_.length p.atc, .slice p.co x.coins.length p.coc, .slice p.wh x.wher.length p.whc], .int .i64 0, .int .i64 (whoW x i q).2]) ∧ Below w.heap.size w w' := by
  have C0 := Lib.hid (Two.start 29 29 w #[.slice p.d.ex x.d.exits.length p.d.exc, .slice p.d.pl x.d.players.length p.d.plc, .slice p.d.co x.d.coins.length p.d.coc, .slice p.d.it x.d.items.length p.d.itc, .slice p.d.bo x.d.boxes.length p.d.boc, .int .i64 x.d.room, .int .i64 x.d.player, .int .i64 x.d.box, .slice p.at_ x.at_.length p.atc, .slice p.co x.coins.length p.coc, .slice p.wh x.wher.length p.whc] #[.slice none 0 0, .slice none 0 0, .slice none 0 0, .slice none 0 0, .slice none 0 0, .int .i64 0, .int .i64 0, .int .i64 0, .slice none 0 0, .slice none 0 0, .slice none 0 0])
  have H := Lib.hid h
  have HX := Lib.hid hx
  have HG := Lib.hid hg
  have hne : ((whoW x i q).2 != 0) = true := by simpa using he
  clear hx h hg he
  go_enter Try.func20, Try.ntmps20
  go_wp2_with fail
  refine (goer1_any x p i q n _ HX.out hi (HG.out.call C0.out.b) (H.out.at_.below C0.out.b (Nat.le_refl _))).mono ?_
  rintro e w1 ⟨rfl, b1⟩
  have D1 := Lib.hid (C0.out.call b1)
  have hc1 := D1.out.a.cell
  have hl1 := D1.out.a.lt
  have hc2 := D1.out.r.cell
  have hz2 := D1.out.r.frozen
  have hs2 := D1.out.r.lt
  clear b1
  go_wp2_with fail
  refine bodyPost_ret (v := .tuple #[.agg #[.slice p.d.ex x.d.exits.length p.d.exc, .slice p.d.pl x.d.players.length p.d.plc, .slice p.d.co x.d.coins.length p.d.coc, .slice p.d.it x.d.items.length p.d.itc, .slice p.d.bo x.d.boxes.length p.d.boc, .int .i64 x.d.room, .int .i64 x.d.player, .int .i64 x.d.box, .slice p.at_ x.at_.length p.atc, .slice p.co x.coins.length p.coc, .slice p.wh x.wher.length p.whc], .int .i64 0, .int .i64 (whoW x i q).2]) (by simp [results, Try.results20, go_sem, hc2]) rfl ⟨rfl, ?_⟩
  iterate 11 refine Below.setCell ?_ (by show w.heap.size ≤ w.heap.size + 1; omega) _
  exact D1.out.b
set_option maxRecDepth 100000 in
theorem send_shut (x : Wd) (pd : Dp) (b o pac : Nat) (pk pw : Option Addr) (pkc pwc : Nat) (d : Nat) (hd : d < 4) (n i k : Nat) (w : World) (hx : rightW x = true) (h : WorldAt w ⟨pd, some ⟨b, o, none⟩, pac, pk, pkc, pw, pwc⟩ x) (c0 : w.cell? ⟨b, o + k, none⟩ = some (.int .i64 (roomOf x k : Int))) (hi : i < x.at_.length) (hk : k < x.at_.length) (hg : GoerAt w n x ⟨pd, some ⟨b, o, none⟩, pac, pk, pkc, pw, pwc⟩ i k) (he : whoW x i k = ((k : Int), 0)) (ht : toW x (roomOf x k) d = -1) : Calls Try.prog 20 #[.agg #[.slice pd.ex x.d.exits.length pd.exc, .slice pd.pl x.d.players.length pd.plc, .slice pd.co x.d.coins.length pd.coc, .slice pd.it x.d.items.length pd.itc, .slice pd.bo x.d.boxes.length pd.boc, .int .i64 x.d.room, .int .i64 x.d.player, .int .i64 x.d.box, .slice (some ⟨b, o, none⟩) x.at_.length pac, .slice pk x.coins.length pkc, .slice pw x.wher.length pwc], .int .i64 (d : Int), .func (.func 31) #[] #[.pointer (some ⟨n + 2, 0, none⟩), .pointer (some ⟨n, 0, none⟩), .pointer (some ⟨n + 1, 0, none⟩)]] w fun e w' => e = .returned (.tuple #[.agg #[.slice pd.ex x.d.exits.length pd.exc, .slice pd.pl x.d.players.length pd.plc, .slice pd.co x.d.coins.length pd.coc, .slice pd.it x.d.items.length pd.itc, .slice pd.bo x.d.boxes.length pd.boc, .int .i64 x.d.room, .int .i64 x.d.player, .int .i64 x.d.box, .slice (some ⟨b, o, none⟩) x.at_.length pac, .slice pk x.coins.length pkc, .slice pw x.wher.length pwc], .int .i64 0, .int .i64 4]) ∧ Below w.heap.size w w' := by
  have C0 := Lib.hid (Two.start 29 29 w #[.slice pd.ex x.d.exits.length pd.exc, .slice pd.pl x.d.players.length pd.plc, .slice pd.co x.d.coins.length pd.coc, .slice pd.it x.d.items.length pd.itc, .slice pd.bo x.d.boxes.length pd.boc, .int .i64 x.d.room, .int .i64 x.d.player, .int .i64 x.d.box, .slice (some ⟨b, o, none⟩) x.at_.length pac, .slice pk x.coins.length pkc, .slice pw x.wher.length pwc] #[.slice none 0 0, .slice none 0 0, .slice none 0 0, .slice none 0 0, .slice none 0 0, .int .i64 0, .int .i64 0, .int .i64 0, .slice none 0 0, .slice none 0 0, .slice none 0 0])
  have H := Lib.hid h
  have HX := Lib.hid hx
  have HG := Lib.hid hg
  have HE := Lib.hid he
  have HT := Lib.hid ht
  have HR := Lib.hid (room_at hx hk)
  have hlen := h.at_.len
  clear hx h hg he ht
  go_enter Try.func20, Try.ntmps20
  go_wp2_with fail
  refine (goer1_any x _ i k n _ HX.out hi (HG.out.call C0.out.b) (H.out.at_.below C0.out.b (Nat.le_refl _))).mono ?_
  rintro e w1 ⟨rfl, b1⟩
  rw [HE.out]
  have D1 := Lib.hid (C0.out.call b1)
  have c1 := cell_call c0 D1.out.b
  have hl1 := D1.out.a.lt
  clear b1 c0
  go_wp2_with fail
  refine wp_region_noPanic ?_
  refine wp_region_held_drew (S := (fun w' => Below w1.heap.size w1 w' ∧ (∀ j, w'.cell? ⟨w.heap.size, j, none⟩ = (#[.slice pd.ex x.d.exits.length pd.exc, .slice pd.pl x.d.players.length pd.plc, .slice pd.co x.d.coins.length pd.coc, .slice pd.it x.d.items.length pd.itc, .slice pd.bo x.d.boxes.length pd.boc, .int .i64 x.d.room, .int .i64 x.d.player, .int .i64 x.d.box, .slice (some ⟨b, o, none⟩) x.at_.length pac, .slice pk x.coins.length pkc, .slice pw x.wher.length pwc][j]? : Option Value)) ∧ w'.cell? ⟨b, o + k, none⟩ = some (.int .i64 (roomOf x k : Int)))) (by kernel_rfl) (by (first | (exact ⟨bdrew1 (Below.refl _ _), D1.out.a.cell, c1⟩) | (exact ⟨below_call hHeld.1 hHeld.1.size hb2, fun j => ((below_call hHeld.1 hHeld.1.size hb2).cell (p := ⟨w.heap.size, j, none⟩) hl1).trans (D1.out.a.cell j), cell_call hHeld.2.2 hb2⟩) | (exact hHeld))) (fun hHeld => ?_)
  first
    | (refine wpAnyH_take (i := 0) (v := undef) (by simp only [List.getElem?_toArray, List.getElem?_cons_zero]; rfl) (by kernel_rfl) (by kernel_rfl) (by kernel_rfl) (fun _ _ _ h => h) (Or.inr ⟨by rfl, rfl⟩) (by assumption) ?_; try simp only [Act.put, List.setIfInBounds_toArray, List.set_cons_zero, List.set_cons_succ])
    | (refine wpAnyH_take (i := 0) (v := ?_) (by simp only [List.getElem?_toArray, List.getElem?_cons_zero]; rfl) (by kernel_rfl) (by kernel_rfl) (by kernel_rfl) (fun _ _ _ h => h) (Or.inl ⟨by rfl, ?_⟩) (by assumption) ?_
       rotate_left
       · (intro ww hSw; (try dsimp only at hSw); go_simp; (try with_reducible rfl))
       try simp only [Act.put, List.setIfInBounds_toArray, List.set_cons_zero, List.set_cons_succ])
    | (refine wpAnyH_ready (rs := [0]) (by kernel_rfl) (by simp) (AllReadyH.cons (by simp only [List.getElem?_toArray, List.getElem?_cons_succ, List.getElem?_cons_zero]; rfl) (fun K hK => ?_) AllReadyH.nil)
       go_simp
       first
         | (go_at_call 13; refine (exit_any x ⟨pd, some ⟨b, o, none⟩, pac, pk, pkc, pw, pwc⟩ (roomOf x k) d HR.out.2 hd _ (H.out.d.ex.below (D1.out.b.trans (hHeld.1.mono D1.out.b.size)) (Nat.le_refl _))).mono ?_; rintro e w9 ⟨rfl, hb2⟩; rw [HT.out])
       try go_wp2_with fail
       refine hK.out _ _ (by (first | (exact ⟨bdrew1 (Below.refl _ _), D1.out.a.cell, c1⟩) | (exact ⟨below_call hHeld.1 hHeld.1.size hb2, fun j => ((below_call hHeld.1 hHeld.1.size hb2).cell (p := ⟨w.heap.size, j, none⟩) hl1).trans (D1.out.a.cell j), cell_call hHeld.2.2 hb2⟩) | (exact hHeld))) (fun hHeld => ?_)
       clear hK K
       try simp only [Act.put, List.setIfInBounds_toArray, List.set_cons_zero, List.set_cons_succ])
  first
    | (refine wpAnyH_take (i := 1) (v := undef) (by simp only [List.getElem?_toArray, List.getElem?_cons_succ, List.getElem?_cons_zero]; rfl) (by kernel_rfl) (by kernel_rfl) (by kernel_rfl) (fun _ _ _ h => h) (Or.inr ⟨by rfl, rfl⟩) (by assumption) ?_; try simp only [Act.put, List.setIfInBounds_toArray, List.set_cons_zero, List.set_cons_succ])
    | (refine wpAnyH_take (i := 1) (v := ?_) (by simp only [List.getElem?_toArray, List.getElem?_cons_succ, List.getElem?_cons_zero]; rfl) (by kernel_rfl) (by kernel_rfl) (by kernel_rfl) (fun _ _ _ h => h) (Or.inl ⟨by rfl, ?_⟩) (by assumption) ?_
       rotate_left
       · (intro ww hSw; (try dsimp only at hSw); go_simp; (try with_reducible rfl))
       try simp only [Act.put, List.setIfInBounds_toArray, List.set_cons_zero, List.set_cons_succ])
    | (refine wpAnyH_ready (rs := [1]) (by kernel_rfl) (by simp) (AllReadyH.cons (by simp only [List.getElem?_toArray, List.getElem?_cons_succ, List.getElem?_cons_zero]; rfl) (fun K hK => ?_) AllReadyH.nil)
       go_simp
       first
         | (go_at_call 13; refine (exit_any x ⟨pd, some ⟨b, o, none⟩, pac, pk, pkc, pw, pwc⟩ (roomOf x k) d HR.out.2 hd _ (H.out.d.ex.below (D1.out.b.trans (hHeld.1.mono D1.out.b.size)) (Nat.le_refl _))).mono ?_; rintro e w9 ⟨rfl, hb2⟩; rw [HT.out])
       try go_wp2_with fail
       refine hK.out _ _ (by (first | (exact ⟨bdrew1 (Below.refl _ _), D1.out.a.cell, c1⟩) | (exact ⟨below_call hHeld.1 hHeld.1.size hb2, fun j => ((below_call hHeld.1 hHeld.1.size hb2).cell (p := ⟨w.heap.size, j, none⟩) hl1).trans (D1.out.a.cell j), cell_call hHeld.2.2 hb2⟩) | (exact hHeld))) (fun hHeld => ?_)
       clear hK K
       try simp only [Act.put, List.setIfInBounds_toArray, List.set_cons_zero, List.set_cons_succ])
  first
    | (refine wpAnyH_take (i := 2) (v := undef) (by simp only [List.getElem?_toArray, List.getElem?_cons_succ, List.getElem?_cons_zero]; rfl) (by kernel_rfl) (by kernel_rfl) (by kernel_rfl) (fun _ _ _ h => h) (Or.inr ⟨by rfl, rfl⟩) (by assumption) ?_; try simp only [Act.put, List.setIfInBounds_toArray, List.set_cons_zero, List.set_cons_succ])
    | (refine wpAnyH_take (i := 2) (v := ?_) (by simp only [List.getElem?_toArray, List.getElem?_cons_succ, List.getElem?_cons_zero]; rfl) (by kernel_rfl) (by kernel_rfl) (by kernel_rfl) (fun _ _ _ h => h) (Or.inl ⟨by rfl, ?_⟩) (by assumption) ?_
       rotate_left
       · (intro ww hSw; (try dsimp only at hSw); go_simp; (try with_reducible rfl))
       try simp only [Act.put, List.setIfInBounds_toArray, List.set_cons_zero, List.set_cons_succ])
    | (refine wpAnyH_ready (rs := [2]) (by kernel_rfl) (by simp) (AllReadyH.cons (by simp only [List.getElem?_toArray, List.getElem?_cons_succ, List.getElem?_cons_zero]; rfl) (fun K hK => ?_) AllReadyH.nil)
       go_simp
       first
         | (go_at_call 13; refine (exit_any x ⟨pd, some ⟨b, o, none⟩, pac, pk, pkc, pw, pwc⟩ (roomOf x k) d HR.out.2 hd _ (H.out.d.ex.below (D1.out.b.trans (hHeld.1.mono D1.out.b.size)) (Nat.le_refl _))).mono ?_; rintro e w9 ⟨rfl, hb2⟩; rw [HT.out])
       try go_wp2_with fail
       refine hK.out _ _ (by (first | (exact ⟨bdrew1 (Below.refl _ _), D1.out.a.cell, c1⟩) | (exact ⟨below_call hHeld.1 hHeld.1.size hb2, fun j => ((below_call hHeld.1 hHeld.1.size hb2).cell (p := ⟨w.heap.size, j, none⟩) hl1).trans (D1.out.a.cell j), cell_call hHeld.2.2 hb2⟩) | (exact hHeld))) (fun hHeld => ?_)
       clear hK K
       try simp only [Act.put, List.setIfInBounds_toArray, List.set_cons_zero, List.set_cons_succ])
  first
    | (refine wpAnyH_take (i := 3) (v := undef) (by simp only [List.getElem?_toArray, List.getElem?_cons_succ, List.getElem?_cons_zero]; rfl) (by kernel_rfl) (by kernel_rfl) (by kernel_rfl) (fun _ _ _ h => h) (Or.inr ⟨by rfl, rfl⟩) (by assumption) ?_; try simp only [Act.put, List.setIfInBounds_toArray, List.set_cons_zero, List.set_cons_succ])
    | (refine wpAnyH_take (i := 3) (v := ?_) (by simp only [List.getElem?_toArray, List.getElem?_cons_succ, List.getElem?_cons_zero]; rfl) (by kernel_rfl) (by kernel_rfl) (by kernel_rfl) (fun _ _ _ h => h) (Or.inl ⟨by rfl, ?_⟩) (by assumption) ?_
       rotate_left
       · (intro ww hSw; (try dsimp only at hSw); go_simp; (try with_reducible rfl))
       try simp only [Act.put, List.setIfInBounds_toArray, List.set_cons_zero, List.set_cons_succ])
    | (refine wpAnyH_ready (rs := [3]) (by kernel_rfl) (by simp) (AllReadyH.cons (by simp only [List.getElem?_toArray, List.getElem?_cons_succ, List.getElem?_cons_zero]; rfl) (fun K hK => ?_) AllReadyH.nil)
       go_simp
       first
         | (go_at_call 13; refine (exit_any x ⟨pd, some ⟨b, o, none⟩, pac, pk, pkc, pw, pwc⟩ (roomOf x k) d HR.out.2 hd _ (H.out.d.ex.below (D1.out.b.trans (hHeld.1.mono D1.out.b.size)) (Nat.le_refl _))).mono ?_; rintro e w9 ⟨rfl, hb2⟩; rw [HT.out])
       try go_wp2_with fail
       refine hK.out _ _ (by (first | (exact ⟨bdrew1 (Below.refl _ _), D1.out.a.cell, c1⟩) | (exact ⟨below_call hHeld.1 hHeld.1.size hb2, fun j => ((below_call hHeld.1 hHeld.1.size hb2).cell (p := ⟨w.heap.size, j, none⟩) hl1).trans (D1.out.a.cell j), cell_call hHeld.2.2 hb2⟩) | (exact hHeld))) (fun hHeld => ?_)
       clear hK K
       try simp only [Act.put, List.setIfInBounds_toArray, List.set_cons_zero, List.set_cons_succ])
  first
    | (refine wpAnyH_take (i := 4) (v := undef) (by simp only [List.getElem?_toArray, List.getElem?_cons_succ, List.getElem?_cons_zero]; rfl) (by kernel_rfl) (by kernel_rfl) (by kernel_rfl) (fun _ _ _ h => h) (Or.inr ⟨by rfl, rfl⟩) (by assumption) ?_; try simp only [Act.put, List.setIfInBounds_toArray, List.set_cons_zero, List.set_cons_succ])
    | (refine wpAnyH_take (i := 4) (v := ?_) (by simp only [List.getElem?_toArray, List.getElem?_cons_succ, List.getElem?_cons_zero]; rfl) (by kernel_rfl) (by kernel_rfl) (by kernel_rfl) (fun _ _ _ h => h) (Or.inl ⟨by rfl, ?_⟩) (by assumption) ?_
       rotate_left
       · (intro ww hSw; (try dsimp only at hSw); go_simp; (try with_reducible rfl))
       try simp only [Act.put, List.setIfInBounds_toArray, List.set_cons_zero, List.set_cons_succ])
    | (refine wpAnyH_ready (rs := [4]) (by kernel_rfl) (by simp) (AllReadyH.cons (by simp only [List.getElem?_toArray, List.getElem?_cons_succ, List.getElem?_cons_zero]; rfl) (fun K hK => ?_) AllReadyH.nil)
       go_simp
       first
         | (go_at_call 13; refine (exit_any x ⟨pd, some ⟨b, o, none⟩, pac, pk, pkc, pw, pwc⟩ (roomOf x k) d HR.out.2 hd _ (H.out.d.ex.below (D1.out.b.trans (hHeld.1.mono D1.out.b.size)) (Nat.le_refl _))).mono ?_; rintro e w9 ⟨rfl, hb2⟩; rw [HT.out])
       try go_wp2_with fail
       refine hK.out _ _ (by (first | (exact ⟨bdrew1 (Below.refl _ _), D1.out.a.cell, c1⟩) | (exact ⟨below_call hHeld.1 hHeld.1.size hb2, fun j => ((below_call hHeld.1 hHeld.1.size hb2).cell (p := ⟨w.heap.size, j, none⟩) hl1).trans (D1.out.a.cell j), cell_call hHeld.2.2 hb2⟩) | (exact hHeld))) (fun hHeld => ?_)
       clear hK K
       try simp only [Act.put, List.setIfInBounds_toArray, List.set_cons_zero, List.set_cons_succ])
  first
    | (refine wpAnyH_take (i := 5) (v := undef) (by simp only [List.getElem?_toArray, List.getElem?_cons_succ, List.getElem?_cons_zero]; rfl) (by kernel_rfl) (by kernel_rfl) (by kernel_rfl) (fun _ _ _ h => h) (Or.inr ⟨by rfl, rfl⟩) (by assumption) ?_; try simp only [Act.put, List.setIfInBounds_toArray, List.set_cons_zero, List.set_cons_succ])
    | (refine wpAnyH_take (i := 5) (v := ?_) (by simp only [List.getElem?_toArray, List.getElem?_cons_succ, List.getElem?_cons_zero]; rfl) (by kernel_rfl) (by kernel_rfl) (by kernel_rfl) (fun _ _ _ h => h) (Or.inl ⟨by rfl, ?_⟩) (by assumption) ?_
       rotate_left
       · (intro ww hSw; (try dsimp only at hSw); go_simp; (try with_reducible rfl))
       try simp only [Act.put, List.setIfInBounds_toArray, List.set_cons_zero, List.set_cons_succ])
    | (refine wpAnyH_ready (rs := [5]) (by kernel_rfl) (by simp) (AllReadyH.cons (by simp only [List.getElem?_toArray, List.getElem?_cons_succ, List.getElem?_cons_zero]; rfl) (fun K hK => ?_) AllReadyH.nil)
       go_simp
       first
         | (go_at_call 13; refine (exit_any x ⟨pd, some ⟨b, o, none⟩, pac, pk, pkc, pw, pwc⟩ (roomOf x k) d HR.out.2 hd _ (H.out.d.ex.below (D1.out.b.trans (hHeld.1.mono D1.out.b.size)) (Nat.le_refl _))).mono ?_; rintro e w9 ⟨rfl, hb2⟩; rw [HT.out])
       try go_wp2_with fail
       refine hK.out _ _ (by (first | (exact ⟨bdrew1 (Below.refl _ _), D1.out.a.cell, c1⟩) | (exact ⟨below_call hHeld.1 hHeld.1.size hb2, fun j => ((below_call hHeld.1 hHeld.1.size hb2).cell (p := ⟨w.heap.size, j, none⟩) hl1).trans (D1.out.a.cell j), cell_call hHeld.2.2 hb2⟩) | (exact hHeld))) (fun hHeld => ?_)
       clear hK K
       try simp only [Act.put, List.setIfInBounds_toArray, List.set_cons_zero, List.set_cons_succ])
  first
    | (refine wpAnyH_take (i := 6) (v := undef) (by simp only [List.getElem?_toArray, List.getElem?_cons_succ, List.getElem?_cons_zero]; rfl) (by kernel_rfl) (by kernel_rfl) (by kernel_rfl) (fun _ _ _ h => h) (Or.inr ⟨by rfl, rfl⟩) (by assumption) ?_; try simp only [Act.put, List.setIfInBounds_toArray, List.set_cons_zero, List.set_cons_succ])
    | (refine wpAnyH_take (i := 6) (v := ?_) (by simp only [List.getElem?_toArray, List.getElem?_cons_succ, List.getElem?_cons_zero]; rfl) (by kernel_rfl) (by kernel_rfl) (by kernel_rfl) (fun _ _ _ h => h) (Or.inl ⟨by rfl, ?_⟩) (by assumption) ?_
       rotate_left
       · (intro ww hSw; (try dsimp only at hSw); go_simp; (try with_reducible rfl))
       try simp only [Act.put, List.setIfInBounds_toArray, List.set_cons_zero, List.set_cons_succ])
    | (refine wpAnyH_ready (rs := [6]) (by kernel_rfl) (by simp) (AllReadyH.cons (by simp only [List.getElem?_toArray, List.getElem?_cons_succ, List.getElem?_cons_zero]; rfl) (fun K hK => ?_) AllReadyH.nil)
       go_simp
       first
         | (go_at_call 13; refine (exit_any x ⟨pd, some ⟨b, o, none⟩, pac, pk, pkc, pw, pwc⟩ (roomOf x k) d HR.out.2 hd _ (H.out.d.ex.below (D1.out.b.trans (hHeld.1.mono D1.out.b.size)) (Nat.le_refl _))).mono ?_; rintro e w9 ⟨rfl, hb2⟩; rw [HT.out])
       try go_wp2_with fail
       refine hK.out _ _ (by (first | (exact ⟨bdrew1 (Below.refl _ _), D1.out.a.cell, c1⟩) | (exact ⟨below_call hHeld.1 hHeld.1.size hb2, fun j => ((below_call hHeld.1 hHeld.1.size hb2).cell (p := ⟨w.heap.size, j, none⟩) hl1).trans (D1.out.a.cell j), cell_call hHeld.2.2 hb2⟩) | (exact hHeld))) (fun hHeld => ?_)
       clear hK K
       try simp only [Act.put, List.setIfInBounds_toArray, List.set_cons_zero, List.set_cons_succ])
  first
    | (refine wpAnyH_take (i := 7) (v := undef) (by simp only [List.getElem?_toArray, List.getElem?_cons_succ, List.getElem?_cons_zero]; rfl) (by kernel_rfl) (by kernel_rfl) (by kernel_rfl) (fun _ _ _ h => h) (Or.inr ⟨by rfl, rfl⟩) (by assumption) ?_; try simp only [Act.put, List.setIfInBounds_toArray, List.set_cons_zero, List.set_cons_succ])
    | (refine wpAnyH_take (i := 7) (v := ?_) (by simp only [List.getElem?_toArray, List.getElem?_cons_succ, List.getElem?_cons_zero]; rfl) (by kernel_rfl) (by kernel_rfl) (by kernel_rfl) (fun _ _ _ h => h) (Or.inl ⟨by rfl, ?_⟩) (by assumption) ?_
       rotate_left
       · (intro ww hSw; (try dsimp only at hSw); go_simp; (try with_reducible rfl))
       try simp only [Act.put, List.setIfInBounds_toArray, List.set_cons_zero, List.set_cons_succ])
    | (refine wpAnyH_ready (rs := [7]) (by kernel_rfl) (by simp) (AllReadyH.cons (by simp only [List.getElem?_toArray, List.getElem?_cons_succ, List.getElem?_cons_zero]; rfl) (fun K hK => ?_) AllReadyH.nil)
       go_simp
       first
         | (go_at_call 13; refine (exit_any x ⟨pd, some ⟨b, o, none⟩, pac, pk, pkc, pw, pwc⟩ (roomOf x k) d HR.out.2 hd _ (H.out.d.ex.below (D1.out.b.trans (hHeld.1.mono D1.out.b.size)) (Nat.le_refl _))).mono ?_; rintro e w9 ⟨rfl, hb2⟩; rw [HT.out])
       try go_wp2_with fail
       refine hK.out _ _ (by (first | (exact ⟨bdrew1 (Below.refl _ _), D1.out.a.cell, c1⟩) | (exact ⟨below_call hHeld.1 hHeld.1.size hb2, fun j => ((below_call hHeld.1 hHeld.1.size hb2).cell (p := ⟨w.heap.size, j, none⟩) hl1).trans (D1.out.a.cell j), cell_call hHeld.2.2 hb2⟩) | (exact hHeld))) (fun hHeld => ?_)
       clear hK K
       try simp only [Act.put, List.setIfInBounds_toArray, List.set_cons_zero, List.set_cons_succ])
  first
    | (refine wpAnyH_take (i := 8) (v := undef) (by simp only [List.getElem?_toArray, List.getElem?_cons_succ, List.getElem?_cons_zero]; rfl) (by kernel_rfl) (by kernel_rfl) (by kernel_rfl) (fun _ _ _ h => h) (Or.inr ⟨by rfl, rfl⟩) (by assumption) ?_; try simp only [Act.put, List.setIfInBounds_toArray, List.set_cons_zero, List.set_cons_succ])
    | (refine wpAnyH_take (i := 8) (v := ?_) (by simp only [List.getElem?_toArray, List.getElem?_cons_succ, List.getElem?_cons_zero]; rfl) (by kernel_rfl) (by kernel_rfl) (by kernel_rfl) (fun _ _ _ h => h) (Or.inl ⟨by rfl, ?_⟩) (by assumption) ?_
       rotate_left
       · (intro ww hSw; (try dsimp only at hSw); go_simp; (try with_reducible rfl))
       try simp only [Act.put, List.setIfInBounds_toArray, List.set_cons_zero, List.set_cons_succ])
    | (refine wpAnyH_ready (rs := [8]) (by kernel_rfl) (by simp) (AllReadyH.cons (by simp only [List.getElem?_toArray, List.getElem?_cons_succ, List.getElem?_cons_zero]; rfl) (fun K hK => ?_) AllReadyH.nil)
       go_simp
       first
         | (go_at_call 13; refine (exit_any x ⟨pd, some ⟨b, o, none⟩, pac, pk, pkc, pw, pwc⟩ (roomOf x k) d HR.out.2 hd _ (H.out.d.ex.below (D1.out.b.trans (hHeld.1.mono D1.out.b.size)) (Nat.le_refl _))).mono ?_; rintro e w9 ⟨rfl, hb2⟩; rw [HT.out])
       try go_wp2_with fail
       refine hK.out _ _ (by (first | (exact ⟨bdrew1 (Below.refl _ _), D1.out.a.cell, c1⟩) | (exact ⟨below_call hHeld.1 hHeld.1.size hb2, fun j => ((below_call hHeld.1 hHeld.1.size hb2).cell (p := ⟨w.heap.size, j, none⟩) hl1).trans (D1.out.a.cell j), cell_call hHeld.2.2 hb2⟩) | (exact hHeld))) (fun hHeld => ?_)
       clear hK K
       try simp only [Act.put, List.setIfInBounds_toArray, List.set_cons_zero, List.set_cons_succ])
  first
    | (refine wpAnyH_take (i := 9) (v := undef) (by simp only [List.getElem?_toArray, List.getElem?_cons_succ, List.getElem?_cons_zero]; rfl) (by kernel_rfl) (by kernel_rfl) (by kernel_rfl) (fun _ _ _ h => h) (Or.inr ⟨by rfl, rfl⟩) (by assumption) ?_; try simp only [Act.put, List.setIfInBounds_toArray, List.set_cons_zero, List.set_cons_succ])
    | (refine wpAnyH_take (i := 9) (v := ?_) (by simp only [List.getElem?_toArray, List.getElem?_cons_succ, List.getElem?_cons_zero]; rfl) (by kernel_rfl) (by kernel_rfl) (by kernel_rfl) (fun _ _ _ h => h) (Or.inl ⟨by rfl, ?_⟩) (by assumption) ?_
       rotate_left
       · (intro ww hSw; (try dsimp only at hSw); go_simp; (try with_reducible rfl))
       try simp only [Act.put, List.setIfInBounds_toArray, List.set_cons_zero, List.set_cons_succ])
    | (refine wpAnyH_ready (rs := [9]) (by kernel_rfl) (by simp) (AllReadyH.cons (by simp only [List.getElem?_toArray, List.getElem?_cons_succ, List.getElem?_cons_zero]; rfl) (fun K hK => ?_) AllReadyH.nil)
       go_simp
       first
         | (go_at_call 13; refine (exit_any x ⟨pd, some ⟨b, o, none⟩, pac, pk, pkc, pw, pwc⟩ (roomOf x k) d HR.out.2 hd _ (H.out.d.ex.below (D1.out.b.trans (hHeld.1.mono D1.out.b.size)) (Nat.le_refl _))).mono ?_; rintro e w9 ⟨rfl, hb2⟩; rw [HT.out])
       try go_wp2_with fail
       refine hK.out _ _ (by (first | (exact ⟨bdrew1 (Below.refl _ _), D1.out.a.cell, c1⟩) | (exact ⟨below_call hHeld.1 hHeld.1.size hb2, fun j => ((below_call hHeld.1 hHeld.1.size hb2).cell (p := ⟨w.heap.size, j, none⟩) hl1).trans (D1.out.a.cell j), cell_call hHeld.2.2 hb2⟩) | (exact hHeld))) (fun hHeld => ?_)
       clear hK K
       try simp only [Act.put, List.setIfInBounds_toArray, List.set_cons_zero, List.set_cons_succ])
  first
    | (refine wpAnyH_take (i := 10) (v := undef) (by simp only [List.getElem?_toArray, List.getElem?_cons_succ, List.getElem?_cons_zero]; rfl) (by kernel_rfl) (by kernel_rfl) (by kernel_rfl) (fun _ _ _ h => h) (Or.inr ⟨by rfl, rfl⟩) (by assumption) ?_; try simp only [Act.put, List.setIfInBounds_toArray, List.set_cons_zero, List.set_cons_succ])
    | (refine wpAnyH_take (i := 10) (v := ?_) (by simp only [List.getElem?_toArray, List.getElem?_cons_succ, List.getElem?_cons_zero]; rfl) (by kernel_rfl) (by kernel_rfl) (by kernel_rfl) (fun _ _ _ h => h) (Or.inl ⟨by rfl, ?_⟩) (by assumption) ?_
       rotate_left
       · (intro ww hSw; (try dsimp only at hSw); go_simp; (try with_reducible rfl))
       try simp only [Act.put, List.setIfInBounds_toArray, List.set_cons_zero, List.set_cons_succ])
    | (refine wpAnyH_ready (rs := [10]) (by kernel_rfl) (by simp) (AllReadyH.cons (by simp only [List.getElem?_toArray, List.getElem?_cons_succ, List.getElem?_cons_zero]; rfl) (fun K hK => ?_) AllReadyH.nil)
       go_simp
       first
         | (go_at_call 13; refine (exit_any x ⟨pd, some ⟨b, o, none⟩, pac, pk, pkc, pw, pwc⟩ (roomOf x k) d HR.out.2 hd _ (H.out.d.ex.below (D1.out.b.trans (hHeld.1.mono D1.out.b.size)) (Nat.le_refl _))).mono ?_; rintro e w9 ⟨rfl, hb2⟩; rw [HT.out])
       try go_wp2_with fail
       refine hK.out _ _ (by (first | (exact ⟨bdrew1 (Below.refl _ _), D1.out.a.cell, c1⟩) | (exact ⟨below_call hHeld.1 hHeld.1.size hb2, fun j => ((below_call hHeld.1 hHeld.1.size hb2).cell (p := ⟨w.heap.size, j, none⟩) hl1).trans (D1.out.a.cell j), cell_call hHeld.2.2 hb2⟩) | (exact hHeld))) (fun hHeld => ?_)
       clear hK K
       try simp only [Act.put, List.setIfInBounds_toArray, List.set_cons_zero, List.set_cons_succ])
  first
    | (refine wpAnyH_take (i := 11) (v := undef) (by simp only [List.getElem?_toArray, List.getElem?_cons_succ, List.getElem?_cons_zero]; rfl) (by kernel_rfl) (by kernel_rfl) (by kernel_rfl) (fun _ _ _ h => h) (Or.inr ⟨by rfl, rfl⟩) (by assumption) ?_; try simp only [Act.put, List.setIfInBounds_toArray, List.set_cons_zero, List.set_cons_succ])
    | (refine wpAnyH_take (i := 11) (v := ?_) (by simp only [List.getElem?_toArray, List.getElem?_cons_succ, List.getElem?_cons_zero]; rfl) (by kernel_rfl) (by kernel_rfl) (by kernel_rfl) (fun _ _ _ h => h) (Or.inl ⟨by rfl, ?_⟩) (by assumption) ?_
       rotate_left
       · (intro ww hSw; (try dsimp only at hSw); go_simp; (try with_reducible rfl))
       try simp only [Act.put, List.setIfInBounds_toArray, List.set_cons_zero, List.set_cons_succ])
    | (refine wpAnyH_ready (rs := [11]) (by kernel_rfl) (by simp) (AllReadyH.cons (by simp only [List.getElem?_toArray, List.getElem?_cons_succ, List.getElem?_cons_zero]; rfl) (fun K hK => ?_) AllReadyH.nil)
       go_simp
       first
         | (go_at_call 13; refine (exit_any x ⟨pd, some ⟨b, o, none⟩, pac, pk, pkc, pw, pwc⟩ (roomOf x k) d HR.out.2 hd _ (H.out.d.ex.below (D1.out.b.trans (hHeld.1.mono D1.out.b.size)) (Nat.le_refl _))).mono ?_; rintro e w9 ⟨rfl, hb2⟩; rw [HT.out])
       try go_wp2_with fail
       refine hK.out _ _ (by (first | (exact ⟨bdrew1 (Below.refl _ _), D1.out.a.cell, c1⟩) | (exact ⟨below_call hHeld.1 hHeld.1.size hb2, fun j => ((below_call hHeld.1 hHeld.1.size hb2).cell (p := ⟨w.heap.size, j, none⟩) hl1).trans (D1.out.a.cell j), cell_call hHeld.2.2 hb2⟩) | (exact hHeld))) (fun hHeld => ?_)
       clear hK K
       try simp only [Act.put, List.setIfInBounds_toArray, List.set_cons_zero, List.set_cons_succ])
  first
    | (refine wpAnyH_take (i := 12) (v := undef) (by simp only [List.getElem?_toArray, List.getElem?_cons_succ, List.getElem?_cons_zero]; rfl) (by kernel_rfl) (by kernel_rfl) (by kernel_rfl) (fun _ _ _ h => h) (Or.inr ⟨by rfl, rfl⟩) (by assumption) ?_; try simp only [Act.put, List.setIfInBounds_toArray, List.set_cons_zero, List.set_cons_succ])
    | (refine wpAnyH_take (i := 12) (v := ?_) (by simp only [List.getElem?_toArray, List.getElem?_cons_succ, List.getElem?_cons_zero]; rfl) (by kernel_rfl) (by kernel_rfl) (by kernel_rfl) (fun _ _ _ h => h) (Or.inl ⟨by rfl, ?_⟩) (by assumption) ?_
       rotate_left
       · (intro ww hSw; (try dsimp only at hSw); go_simp; (try with_reducible rfl))
       try simp only [Act.put, List.setIfInBounds_toArray, List.set_cons_zero, List.set_cons_succ])
    | (refine wpAnyH_ready (rs := [12]) (by kernel_rfl) (by simp) (AllReadyH.cons (by simp only [List.getElem?_toArray, List.getElem?_cons_succ, List.getElem?_cons_zero]; rfl) (fun K hK => ?_) AllReadyH.nil)
       go_simp
       first
         | (go_at_call 13; refine (exit_any x ⟨pd, some ⟨b, o, none⟩, pac, pk, pkc, pw, pwc⟩ (roomOf x k) d HR.out.2 hd _ (H.out.d.ex.below (D1.out.b.trans (hHeld.1.mono D1.out.b.size)) (Nat.le_refl _))).mono ?_; rintro e w9 ⟨rfl, hb2⟩; rw [HT.out])
       try go_wp2_with fail
       refine hK.out _ _ (by (first | (exact ⟨bdrew1 (Below.refl _ _), D1.out.a.cell, c1⟩) | (exact ⟨below_call hHeld.1 hHeld.1.size hb2, fun j => ((below_call hHeld.1 hHeld.1.size hb2).cell (p := ⟨w.heap.size, j, none⟩) hl1).trans (D1.out.a.cell j), cell_call hHeld.2.2 hb2⟩) | (exact hHeld))) (fun hHeld => ?_)
       clear hK K
       try simp only [Act.put, List.setIfInBounds_toArray, List.set_cons_zero, List.set_cons_succ])
  refine wpAnyH_done (by kernel_rfl) ?_ _
  refine NoPanic.normal ?_
  have D2 := Lib.hid (D1.out.call hHeld.1)
  clear hHeld hl1 c1
  have hc1 := D2.out.a.cell
  have hl1 := D2.out.a.lt
  have hc2 := D2.out.r.cell
  have hz2 := D2.out.r.frozen
  have hs2 := D2.out.r.lt
  go_wp2_with fail
  refine bodyPost_ret (v := .tuple #[.agg #[.slice pd.ex x.d.exits.length pd.exc, .slice pd.pl x.d.players.length pd.plc, .slice pd.co x.d.coins.length pd.coc, .slice pd.it x.d.items.length pd.itc, .slice pd.bo x.d.boxes.length pd.boc, .int .i64 x.d.room, .int .i64 x.d.player, .int .i64 x.d.box, .slice (some ⟨b, o, none⟩) x.at_.length pac, .slice pk x.coins.length pkc, .slice pw x.wher.length pwc], .int .i64 0, .int .i64 4]) (by simp [results, Try.results20, go_sem, hc2]) rfl ⟨rfl, ?_⟩
  iterate 11 refine Below.setCell ?_ (by show w.heap.size ≤ w.heap.size + 1; omega) _
  exact D2.out.b
set_option maxRecDepth 100000 in
theorem send_go (x : Wd) (pd : Dp) (b o pac : Nat) (pk pw : Option Addr) (pkc pwc : Nat) (d : Nat) (hd : d < 4) (n i k : Nat) (t : Int) (w : World) (hx : rightW x = true) (h : WorldAt w ⟨pd, some ⟨b, o, none⟩, pac, pk, pkc, pw, pwc⟩ x) (c0 : w.cell? ⟨b, o + k, none⟩ = some (.int .i64 (roomOf x k : Int))) (hi : i < x.at_.length) (hk : k < x.at_.length) (hg : GoerAt w n x ⟨pd, some ⟨b, o, none⟩, pac, pk, pkc, pw, pwc⟩ i k) (he : whoW x i k = ((k : Int), 0)) (ht : toW x (roomOf x k) d = t) (h1 : ¬ t = -1) : Calls Try.prog 20 #[.agg #[.slice pd.ex x.d.exits.length pd.exc, .slice pd.pl x.d.players.length pd.plc, .slice pd.co x.d.coins.length pd.coc, .slice pd.it x.d.items.length pd.itc, .slice pd.bo x.d.boxes.length pd.boc, .int .i64 x.d.room, .int .i64 x.d.player, .int .i64 x.d.box, .slice (some ⟨b, o, none⟩) x.at_.length pac, .slice pk x.coins.length pkc, .slice pw x.wher.length pwc], .int .i64 (d : Int), .func (.func 31) #[] #[.pointer (some ⟨n + 2, 0, none⟩), .pointer (some ⟨n, 0, none⟩), .pointer (some ⟨n + 1, 0, none⟩)]] w fun e w' => ∃ q : Wp, e = .returned (.tuple #[.agg #[.slice q.d.ex x.d.exits.length q.d.exc, .slice q.d.pl x.d.players.length q.d.plc, .slice q.d.co x.d.coins.length q.d.coc, .slice q.d.it x.d.items.length q.d.itc, .slice q.d.bo x.d.boxes.length q.d.boc, .int .i64 x.d.room, .int .i64 x.d.player, .int .i64 x.d.box, .slice q.at_ x.at_.length q.atc, .slice q.co x.coins.length q.coc, .slice q.wh x.wher.length q.whc], .int .i64 t, .int .i64 0]) ∧ WorldOwn w.heap.size w' q (goW x k t) ∧ Below w.heap.size w w' := by
  have C0 := Lib.hid (Two.start 29 29 w #[.slice pd.ex x.d.exits.length pd.exc, .slice pd.pl x.d.players.length pd.plc, .slice pd.co x.d.coins.length pd.coc, .slice pd.it x.d.items.length pd.itc, .slice pd.bo x.d.boxes.length pd.boc, .int .i64 x.d.room, .int .i64 x.d.player, .int .i64 x.d.box, .slice (some ⟨b, o, none⟩) x.at_.length pac, .slice pk x.coins.length pkc, .slice pw x.wher.length pwc] #[.slice none 0 0, .slice none 0 0, .slice none 0 0, .slice none 0 0, .slice none 0 0, .int .i64 0, .int .i64 0, .int .i64 0, .slice none 0 0, .slice none 0 0, .slice none 0 0])
  have H := Lib.hid h
  have HX := Lib.hid hx
  have HG := Lib.hid hg
  have HE := Lib.hid he
  have HT := Lib.hid (show toW x (roomOf x k) d = t ∧ exA t = t ∧ (t != -1) = true from ⟨ht, by simp [exA, h1], by simpa using h1⟩)
  have HR := Lib.hid (room_at hx hk)
  have hlen := h.at_.len
  clear hx h hg he ht h1
  go_enter Try.func20, Try.ntmps20
  go_wp2_with fail
  refine (goer1_any x _ i k n _ HX.out hi (HG.out.call C0.out.b) (H.out.at_.below C0.out.b (Nat.le_refl _))).mono ?_
  rintro e w1 ⟨rfl, b1⟩
  rw [HE.out]
  have D1 := Lib.hid (C0.out.call b1)
  have c1 := cell_call c0 D1.out.b
  have hl1 := D1.out.a.lt
  clear b1 c0
  go_wp2_with fail
  refine wp_region_noPanic ?_
  refine wp_region_held_drew (S := (fun w' => Below w1.heap.size w1 w' ∧ (∀ j, w'.cell? ⟨w.heap.size, j, none⟩ = (#[.slice pd.ex x.d.exits.length pd.exc, .slice pd.pl x.d.players.length pd.plc, .slice pd.co x.d.coins.length pd.coc, .slice pd.it x.d.items.length pd.itc, .slice pd.bo x.d.boxes.length pd.boc, .int .i64 x.d.room, .int .i64 x.d.player, .int .i64 x.d.box, .slice (some ⟨b, o, none⟩) x.at_.length pac, .slice pk x.coins.length pkc, .slice pw x.wher.length pwc][j]? : Option Value)) ∧ w'.cell? ⟨b, o + k, none⟩ = some (.int .i64 (roomOf x k : Int)))) (by kernel_rfl) (by (first | (exact ⟨bdrew1 (Below.refl _ _), D1.out.a.cell, c1⟩) | (exact ⟨below_call hHeld.1 hHeld.1.size hb2, fun j => ((below_call hHeld.1 hHeld.1.size hb2).cell (p := ⟨w.heap.size, j, none⟩) hl1).trans (D1.out.a.cell j), cell_call hHeld.2.2 hb2⟩) | (exact hHeld))) (fun hHeld => ?_)
  first
    | (refine wpAnyH_take (i := 0) (v := undef) (by simp only [List.getElem?_toArray, List.getElem?_cons_zero]; rfl) (by kernel_rfl) (by kernel_rfl) (by kernel_rfl) (fun _ _ _ h => h) (Or.inr ⟨by rfl, rfl⟩) (by assumption) ?_; try simp only [Act.put, List.setIfInBounds_toArray, List.set_cons_zero, List.set_cons_succ])
    | (refine wpAnyH_take (i := 0) (v := ?_) (by simp only [List.getElem?_toArray, List.getElem?_cons_zero]; rfl) (by kernel_rfl) (by kernel_rfl) (by kernel_rfl) (fun _ _ _ h => h) (Or.inl ⟨by rfl, ?_⟩) (by assumption) ?_
       rotate_left
       · (intro ww hSw; (try dsimp only at hSw); go_simp; (try with_reducible rfl))
       try simp only [Act.put, List.setIfInBounds_toArray, List.set_cons_zero, List.set_cons_succ])
    | (refine wpAnyH_ready (rs := [0]) (by kernel_rfl) (by simp) (AllReadyH.cons (by simp only [List.getElem?_toArray, List.getElem?_cons_succ, List.getElem?_cons_zero]; rfl) (fun K hK => ?_) AllReadyH.nil)
       go_simp
       first
         | (go_at_call 13; refine (exit_any x ⟨pd, some ⟨b, o, none⟩, pac, pk, pkc, pw, pwc⟩ (roomOf x k) d HR.out.2 hd _ (H.out.d.ex.below (D1.out.b.trans (hHeld.1.mono D1.out.b.size)) (Nat.le_refl _))).mono ?_; rintro e w9 ⟨rfl, hb2⟩; rw [HT.out.1, HT.out.2.1, HT.out.2.2])
       try go_wp2_with fail
       refine hK.out _ _ (by (first | (exact ⟨bdrew1 (Below.refl _ _), D1.out.a.cell, c1⟩) | (exact ⟨below_call hHeld.1 hHeld.1.size hb2, fun j => ((below_call hHeld.1 hHeld.1.size hb2).cell (p := ⟨w.heap.size, j, none⟩) hl1).trans (D1.out.a.cell j), cell_call hHeld.2.2 hb2⟩) | (exact hHeld))) (fun hHeld => ?_)
       clear hK K
       try simp only [Act.put, List.setIfInBounds_toArray, List.set_cons_zero, List.set_cons_succ])
  first
    | (refine wpAnyH_take (i := 1) (v := undef) (by simp only [List.getElem?_toArray, List.getElem?_cons_succ, List.getElem?_cons_zero]; rfl) (by kernel_rfl) (by kernel_rfl) (by kernel_rfl) (fun _ _ _ h => h) (Or.inr ⟨by rfl, rfl⟩) (by assumption) ?_; try simp only [Act.put, List.setIfInBounds_toArray, List.set_cons_zero, List.set_cons_succ])
    | (refine wpAnyH_take (i := 1) (v := ?_) (by simp only [List.getElem?_toArray, List.getElem?_cons_succ, List.getElem?_cons_zero]; rfl) (by kernel_rfl) (by kernel_rfl) (by kernel_rfl) (fun _ _ _ h => h) (Or.inl ⟨by rfl, ?_⟩) (by assumption) ?_
       rotate_left
       · (intro ww hSw; (try dsimp only at hSw); go_simp; (try with_reducible rfl))
       try simp only [Act.put, List.setIfInBounds_toArray, List.set_cons_zero, List.set_cons_succ])
    | (refine wpAnyH_ready (rs := [1]) (by kernel_rfl) (by simp) (AllReadyH.cons (by simp only [List.getElem?_toArray, List.getElem?_cons_succ, List.getElem?_cons_zero]; rfl) (fun K hK => ?_) AllReadyH.nil)
       go_simp
       first
         | (go_at_call 13; refine (exit_any x ⟨pd, some ⟨b, o, none⟩, pac, pk, pkc, pw, pwc⟩ (roomOf x k) d HR.out.2 hd _ (H.out.d.ex.below (D1.out.b.trans (hHeld.1.mono D1.out.b.size)) (Nat.le_refl _))).mono ?_; rintro e w9 ⟨rfl, hb2⟩; rw [HT.out.1, HT.out.2.1, HT.out.2.2])
       try go_wp2_with fail
       refine hK.out _ _ (by (first | (exact ⟨bdrew1 (Below.refl _ _), D1.out.a.cell, c1⟩) | (exact ⟨below_call hHeld.1 hHeld.1.size hb2, fun j => ((below_call hHeld.1 hHeld.1.size hb2).cell (p := ⟨w.heap.size, j, none⟩) hl1).trans (D1.out.a.cell j), cell_call hHeld.2.2 hb2⟩) | (exact hHeld))) (fun hHeld => ?_)
       clear hK K
       try simp only [Act.put, List.setIfInBounds_toArray, List.set_cons_zero, List.set_cons_succ])
  first
    | (refine wpAnyH_take (i := 2) (v := undef) (by simp only [List.getElem?_toArray, List.getElem?_cons_succ, List.getElem?_cons_zero]; rfl) (by kernel_rfl) (by kernel_rfl) (by kernel_rfl) (fun _ _ _ h => h) (Or.inr ⟨by rfl, rfl⟩) (by assumption) ?_; try simp only [Act.put, List.setIfInBounds_toArray, List.set_cons_zero, List.set_cons_succ])
    | (refine wpAnyH_take (i := 2) (v := ?_) (by simp only [List.getElem?_toArray, List.getElem?_cons_succ, List.getElem?_cons_zero]; rfl) (by kernel_rfl) (by kernel_rfl) (by kernel_rfl) (fun _ _ _ h => h) (Or.inl ⟨by rfl, ?_⟩) (by assumption) ?_
       rotate_left
       · (intro ww hSw; (try dsimp only at hSw); go_simp; (try with_reducible rfl))
       try simp only [Act.put, List.setIfInBounds_toArray, List.set_cons_zero, List.set_cons_succ])
    | (refine wpAnyH_ready (rs := [2]) (by kernel_rfl) (by simp) (AllReadyH.cons (by simp only [List.getElem?_toArray, List.getElem?_cons_succ, List.getElem?_cons_zero]; rfl) (fun K hK => ?_) AllReadyH.nil)
       go_simp
       first
         | (go_at_call 13; refine (exit_any x ⟨pd, some ⟨b, o, none⟩, pac, pk, pkc, pw, pwc⟩ (roomOf x k) d HR.out.2 hd _ (H.out.d.ex.below (D1.out.b.trans (hHeld.1.mono D1.out.b.size)) (Nat.le_refl _))).mono ?_; rintro e w9 ⟨rfl, hb2⟩; rw [HT.out.1, HT.out.2.1, HT.out.2.2])
       try go_wp2_with fail
       refine hK.out _ _ (by (first | (exact ⟨bdrew1 (Below.refl _ _), D1.out.a.cell, c1⟩) | (exact ⟨below_call hHeld.1 hHeld.1.size hb2, fun j => ((below_call hHeld.1 hHeld.1.size hb2).cell (p := ⟨w.heap.size, j, none⟩) hl1).trans (D1.out.a.cell j), cell_call hHeld.2.2 hb2⟩) | (exact hHeld))) (fun hHeld => ?_)
       clear hK K
       try simp only [Act.put, List.setIfInBounds_toArray, List.set_cons_zero, List.set_cons_succ])
  first
    | (refine wpAnyH_take (i := 3) (v := undef) (by simp only [List.getElem?_toArray, List.getElem?_cons_succ, List.getElem?_cons_zero]; rfl) (by kernel_rfl) (by kernel_rfl) (by kernel_rfl) (fun _ _ _ h => h) (Or.inr ⟨by rfl, rfl⟩) (by assumption) ?_; try simp only [Act.put, List.setIfInBounds_toArray, List.set_cons_zero, List.set_cons_succ])
    | (refine wpAnyH_take (i := 3) (v := ?_) (by simp only [List.getElem?_toArray, List.getElem?_cons_succ, List.getElem?_cons_zero]; rfl) (by kernel_rfl) (by kernel_rfl) (by kernel_rfl) (fun _ _ _ h => h) (Or.inl ⟨by rfl, ?_⟩) (by assumption) ?_
       rotate_left
       · (intro ww hSw; (try dsimp only at hSw); go_simp; (try with_reducible rfl))
       try simp only [Act.put, List.setIfInBounds_toArray, List.set_cons_zero, List.set_cons_succ])
    | (refine wpAnyH_ready (rs := [3]) (by kernel_rfl) (by simp) (AllReadyH.cons (by simp only [List.getElem?_toArray, List.getElem?_cons_succ, List.getElem?_cons_zero]; rfl) (fun K hK => ?_) AllReadyH.nil)
       go_simp
       first
         | (go_at_call 13; refine (exit_any x ⟨pd, some ⟨b, o, none⟩, pac, pk, pkc, pw, pwc⟩ (roomOf x k) d HR.out.2 hd _ (H.out.d.ex.below (D1.out.b.trans (hHeld.1.mono D1.out.b.size)) (Nat.le_refl _))).mono ?_; rintro e w9 ⟨rfl, hb2⟩; rw [HT.out.1, HT.out.2.1, HT.out.2.2])
       try go_wp2_with fail
       refine hK.out _ _ (by (first | (exact ⟨bdrew1 (Below.refl _ _), D1.out.a.cell, c1⟩) | (exact ⟨below_call hHeld.1 hHeld.1.size hb2, fun j => ((below_call hHeld.1 hHeld.1.size hb2).cell (p := ⟨w.heap.size, j, none⟩) hl1).trans (D1.out.a.cell j), cell_call hHeld.2.2 hb2⟩) | (exact hHeld))) (fun hHeld => ?_)
       clear hK K
       try simp only [Act.put, List.setIfInBounds_toArray, List.set_cons_zero, List.set_cons_succ])
  first
    | (refine wpAnyH_take (i := 4) (v := undef) (by simp only [List.getElem?_toArray, List.getElem?_cons_succ, List.getElem?_cons_zero]; rfl) (by kernel_rfl) (by kernel_rfl) (by kernel_rfl) (fun _ _ _ h => h) (Or.inr ⟨by rfl, rfl⟩) (by assumption) ?_; try simp only [Act.put, List.setIfInBounds_toArray, List.set_cons_zero, List.set_cons_succ])
    | (refine wpAnyH_take (i := 4) (v := ?_) (by simp only [List.getElem?_toArray, List.getElem?_cons_succ, List.getElem?_cons_zero]; rfl) (by kernel_rfl) (by kernel_rfl) (by kernel_rfl) (fun _ _ _ h => h) (Or.inl ⟨by rfl, ?_⟩) (by assumption) ?_
       rotate_left
       · (intro ww hSw; (try dsimp only at hSw); go_simp; (try with_reducible rfl))
       try simp only [Act.put, List.setIfInBounds_toArray, List.set_cons_zero, List.set_cons_succ])
    | (refine wpAnyH_ready (rs := [4]) (by kernel_rfl) (by simp) (AllReadyH.cons (by simp only [List.getElem?_toArray, List.getElem?_cons_succ, List.getElem?_cons_zero]; rfl) (fun K hK => ?_) AllReadyH.nil)
       go_simp
       first
         | (go_at_call 13; refine (exit_any x ⟨pd, some ⟨b, o, none⟩, pac, pk, pkc, pw, pwc⟩ (roomOf x k) d HR.out.2 hd _ (H.out.d.ex.below (D1.out.b.trans (hHeld.1.mono D1.out.b.size)) (Nat.le_refl _))).mono ?_; rintro e w9 ⟨rfl, hb2⟩; rw [HT.out.1, HT.out.2.1, HT.out.2.2])
       try go_wp2_with fail
       refine hK.out _ _ (by (first | (exact ⟨bdrew1 (Below.refl _ _), D1.out.a.cell, c1⟩) | (exact ⟨below_call hHeld.1 hHeld.1.size hb2, fun j => ((below_call hHeld.1 hHeld.1.size hb2).cell (p := ⟨w.heap.size, j, none⟩) hl1).trans (D1.out.a.cell j), cell_call hHeld.2.2 hb2⟩) | (exact hHeld))) (fun hHeld => ?_)
       clear hK K
       try simp only [Act.put, List.setIfInBounds_toArray, List.set_cons_zero, List.set_cons_succ])
  first
    | (refine wpAnyH_take (i := 5) (v := undef) (by simp only [List.getElem?_toArray, List.getElem?_cons_succ, List.getElem?_cons_zero]; rfl) (by kernel_rfl) (by kernel_rfl) (by kernel_rfl) (fun _ _ _ h => h) (Or.inr ⟨by rfl, rfl⟩) (by assumption) ?_; try simp only [Act.put, List.setIfInBounds_toArray, List.set_cons_zero, List.set_cons_succ])
    | (refine wpAnyH_take (i := 5) (v := ?_) (by simp only [List.getElem?_toArray, List.getElem?_cons_succ, List.getElem?_cons_zero]; rfl) (by kernel_rfl) (by kernel_rfl) (by kernel_rfl) (fun _ _ _ h => h) (Or.inl ⟨by rfl, ?_⟩) (by assumption) ?_
       rotate_left
       · (intro ww hSw; (try dsimp only at hSw); go_simp; (try with_reducible rfl))
       try simp only [Act.put, List.setIfInBounds_toArray, List.set_cons_zero, List.set_cons_succ])
    | (refine wpAnyH_ready (rs := [5]) (by kernel_rfl) (by simp) (AllReadyH.cons (by simp only [List.getElem?_toArray, List.getElem?_cons_succ, List.getElem?_cons_zero]; rfl) (fun K hK => ?_) AllReadyH.nil)
       go_simp
       first
         | (go_at_call 13; refine (exit_any x ⟨pd, some ⟨b, o, none⟩, pac, pk, pkc, pw, pwc⟩ (roomOf x k) d HR.out.2 hd _ (H.out.d.ex.below (D1.out.b.trans (hHeld.1.mono D1.out.b.size)) (Nat.le_refl _))).mono ?_; rintro e w9 ⟨rfl, hb2⟩; rw [HT.out.1, HT.out.2.1, HT.out.2.2])
       try go_wp2_with fail
       refine hK.out _ _ (by (first | (exact ⟨bdrew1 (Below.refl _ _), D1.out.a.cell, c1⟩) | (exact ⟨below_call hHeld.1 hHeld.1.size hb2, fun j => ((below_call hHeld.1 hHeld.1.size hb2).cell (p := ⟨w.heap.size, j, none⟩) hl1).trans (D1.out.a.cell j), cell_call hHeld.2.2 hb2⟩) | (exact hHeld))) (fun hHeld => ?_)
       clear hK K
       try simp only [Act.put, List.setIfInBounds_toArray, List.set_cons_zero, List.set_cons_succ])
  first
    | (refine wpAnyH_take (i := 6) (v := undef) (by simp only [List.getElem?_toArray, List.getElem?_cons_succ, List.getElem?_cons_zero]; rfl) (by kernel_rfl) (by kernel_rfl) (by kernel_rfl) (fun _ _ _ h => h) (Or.inr ⟨by rfl, rfl⟩) (by assumption) ?_; try simp only [Act.put, List.setIfInBounds_toArray, List.set_cons_zero, List.set_cons_succ])
    | (refine wpAnyH_take (i := 6) (v := ?_) (by simp only [List.getElem?_toArray, List.getElem?_cons_succ, List.getElem?_cons_zero]; rfl) (by kernel_rfl) (by kernel_rfl) (by kernel_rfl) (fun _ _ _ h => h) (Or.inl ⟨by rfl, ?_⟩) (by assumption) ?_
       rotate_left
       · (intro ww hSw; (try dsimp only at hSw); go_simp; (try with_reducible rfl))
       try simp only [Act.put, List.setIfInBounds_toArray, List.set_cons_zero, List.set_cons_succ])
    | (refine wpAnyH_ready (rs := [6]) (by kernel_rfl) (by simp) (AllReadyH.cons (by simp only [List.getElem?_toArray, List.getElem?_cons_succ, List.getElem?_cons_zero]; rfl) (fun K hK => ?_) AllReadyH.nil)
       go_simp
       first
         | (go_at_call 13; refine (exit_any x ⟨pd, some ⟨b, o, none⟩, pac, pk, pkc, pw, pwc⟩ (roomOf x k) d HR.out.2 hd _ (H.out.d.ex.below (D1.out.b.trans (hHeld.1.mono D1.out.b.size)) (Nat.le_refl _))).mono ?_; rintro e w9 ⟨rfl, hb2⟩; rw [HT.out.1, HT.out.2.1, HT.out.2.2])
       try go_wp2_with fail
       refine hK.out _ _ (by (first | (exact ⟨bdrew1 (Below.refl _ _), D1.out.a.cell, c1⟩) | (exact ⟨below_call hHeld.1 hHeld.1.size hb2, fun j => ((below_call hHeld.1 hHeld.1.size hb2).cell (p := ⟨w.heap.size, j, none⟩) hl1).trans (D1.out.a.cell j), cell_call hHeld.2.2 hb2⟩) | (exact hHeld))) (fun hHeld => ?_)
       clear hK K
       try simp only [Act.put, List.setIfInBounds_toArray, List.set_cons_zero, List.set_cons_succ])
  first
    | (refine wpAnyH_take (i := 7) (v := undef) (by simp only [List.getElem?_toArray, List.getElem?_cons_succ, List.getElem?_cons_zero]; rfl) (by kernel_rfl) (by kernel_rfl) (by kernel_rfl) (fun _ _ _ h => h) (Or.inr ⟨by rfl, rfl⟩) (by assumption) ?_; try simp only [Act.put, List.setIfInBounds_toArray, List.set_cons_zero, List.set_cons_succ])
    | (refine wpAnyH_take (i := 7) (v := ?_) (by simp only [List.getElem?_toArray, List.getElem?_cons_succ, List.getElem?_cons_zero]; rfl) (by kernel_rfl) (by kernel_rfl) (by kernel_rfl) (fun _ _ _ h => h) (Or.inl ⟨by rfl, ?_⟩) (by assumption) ?_
       rotate_left
       · (intro ww hSw; (try dsimp only at hSw); go_simp; (try with_reducible rfl))
       try simp only [Act.put, List.setIfInBounds_toArray, List.set_cons_zero, List.set_cons_succ])
    | (refine wpAnyH_ready (rs := [7]) (by kernel_rfl) (by simp) (AllReadyH.cons (by simp only [List.getElem?_toArray, List.getElem?_cons_succ, List.getElem?_cons_zero]; rfl) (fun K hK => ?_) AllReadyH.nil)
       go_simp
       first
         | (go_at_call 13; refine (exit_any x ⟨pd, some ⟨b, o, none⟩, pac, pk, pkc, pw, pwc⟩ (roomOf x k) d HR.out.2 hd _ (H.out.d.ex.below (D1.out.b.trans (hHeld.1.mono D1.out.b.size)) (Nat.le_refl _))).mono ?_; rintro e w9 ⟨rfl, hb2⟩; rw [HT.out.1, HT.out.2.1, HT.out.2.2])
       try go_wp2_with fail
       refine hK.out _ _ (by (first | (exact ⟨bdrew1 (Below.refl _ _), D1.out.a.cell, c1⟩) | (exact ⟨below_call hHeld.1 hHeld.1.size hb2, fun j => ((below_call hHeld.1 hHeld.1.size hb2).cell (p := ⟨w.heap.size, j, none⟩) hl1).trans (D1.out.a.cell j), cell_call hHeld.2.2 hb2⟩) | (exact hHeld))) (fun hHeld => ?_)
       clear hK K
       try simp only [Act.put, List.setIfInBounds_toArray, List.set_cons_zero, List.set_cons_succ])
  first
    | (refine wpAnyH_take (i := 8) (v := undef) (by simp only [List.getElem?_toArray, List.getElem?_cons_succ, List.getElem?_cons_zero]; rfl) (by kernel_rfl) (by kernel_rfl) (by kernel_rfl) (fun _ _ _ h => h) (Or.inr ⟨by rfl, rfl⟩) (by assumption) ?_; try simp only [Act.put, List.setIfInBounds_toArray, List.set_cons_zero, List.set_cons_succ])
    | (refine wpAnyH_take (i := 8) (v := ?_) (by simp only [List.getElem?_toArray, List.getElem?_cons_succ, List.getElem?_cons_zero]; rfl) (by kernel_rfl) (by kernel_rfl) (by kernel_rfl) (fun _ _ _ h => h) (Or.inl ⟨by rfl, ?_⟩) (by assumption) ?_
       rotate_left
       · (intro ww hSw; (try dsimp only at hSw); go_simp; (try with_reducible rfl))
       try simp only [Act.put, List.setIfInBounds_toArray, List.set_cons_zero, List.set_cons_succ])
    | (refine wpAnyH_ready (rs := [8]) (by kernel_rfl) (by simp) (AllReadyH.cons (by simp only [List.getElem?_toArray, List.getElem?_cons_succ, List.getElem?_cons_zero]; rfl) (fun K hK => ?_) AllReadyH.nil)
       go_simp
       first
         | (go_at_call 13; refine (exit_any x ⟨pd, some ⟨b, o, none⟩, pac, pk, pkc, pw, pwc⟩ (roomOf x k) d HR.out.2 hd _ (H.out.d.ex.below (D1.out.b.trans (hHeld.1.mono D1.out.b.size)) (Nat.le_refl _))).mono ?_; rintro e w9 ⟨rfl, hb2⟩; rw [HT.out.1, HT.out.2.1, HT.out.2.2])
       try go_wp2_with fail
       refine hK.out _ _ (by (first | (exact ⟨bdrew1 (Below.refl _ _), D1.out.a.cell, c1⟩) | (exact ⟨below_call hHeld.1 hHeld.1.size hb2, fun j => ((below_call hHeld.1 hHeld.1.size hb2).cell (p := ⟨w.heap.size, j, none⟩) hl1).trans (D1.out.a.cell j), cell_call hHeld.2.2 hb2⟩) | (exact hHeld))) (fun hHeld => ?_)
       clear hK K
       try simp only [Act.put, List.setIfInBounds_toArray, List.set_cons_zero, List.set_cons_succ])
  first
    | (refine wpAnyH_take (i := 9) (v := undef) (by simp only [List.getElem?_toArray, List.getElem?_cons_succ, List.getElem?_cons_zero]; rfl) (by kernel_rfl) (by kernel_rfl) (by kernel_rfl) (fun _ _ _ h => h) (Or.inr ⟨by rfl, rfl⟩) (by assumption) ?_; try simp only [Act.put, List.setIfInBounds_toArray, List.set_cons_zero, List.set_cons_succ])
    | (refine wpAnyH_take (i := 9) (v := ?_) (by simp only [List.getElem?_toArray, List.getElem?_cons_succ, List.getElem?_cons_zero]; rfl) (by kernel_rfl) (by kernel_rfl) (by kernel_rfl) (fun _ _ _ h => h) (Or.inl ⟨by rfl, ?_⟩) (by assumption) ?_
       rotate_left
       · (intro ww hSw; (try dsimp only at hSw); go_simp; (try with_reducible rfl))
       try simp only [Act.put, List.setIfInBounds_toArray, List.set_cons_zero, List.set_cons_succ])
    | (refine wpAnyH_ready (rs := [9]) (by kernel_rfl) (by simp) (AllReadyH.cons (by simp only [List.getElem?_toArray, List.getElem?_cons_succ, List.getElem?_cons_zero]; rfl) (fun K hK => ?_) AllReadyH.nil)
       go_simp
       first
         | (go_at_call 13; refine (exit_any x ⟨pd, some ⟨b, o, none⟩, pac, pk, pkc, pw, pwc⟩ (roomOf x k) d HR.out.2 hd _ (H.out.d.ex.below (D1.out.b.trans (hHeld.1.mono D1.out.b.size)) (Nat.le_refl _))).mono ?_; rintro e w9 ⟨rfl, hb2⟩; rw [HT.out.1, HT.out.2.1, HT.out.2.2])
       try go_wp2_with fail
       refine hK.out _ _ (by (first | (exact ⟨bdrew1 (Below.refl _ _), D1.out.a.cell, c1⟩) | (exact ⟨below_call hHeld.1 hHeld.1.size hb2, fun j => ((below_call hHeld.1 hHeld.1.size hb2).cell (p := ⟨w.heap.size, j, none⟩) hl1).trans (D1.out.a.cell j), cell_call hHeld.2.2 hb2⟩) | (exact hHeld))) (fun hHeld => ?_)
       clear hK K
       try simp only [Act.put, List.setIfInBounds_toArray, List.set_cons_zero, List.set_cons_succ])
  first
    | (refine wpAnyH_take (i := 10) (v := undef) (by simp only [List.getElem?_toArray, List.getElem?_cons_succ, List.getElem?_cons_zero]; rfl) (by kernel_rfl) (by kernel_rfl) (by kernel_rfl) (fun _ _ _ h => h) (Or.inr ⟨by rfl, rfl⟩) (by assumption) ?_; try simp only [Act.put, List.setIfInBounds_toArray, List.set_cons_zero, List.set_cons_succ])
    | (refine wpAnyH_take (i := 10) (v := ?_) (by simp only [List.getElem?_toArray, List.getElem?_cons_succ, List.getElem?_cons_zero]; rfl) (by kernel_rfl) (by kernel_rfl) (by kernel_rfl) (fun _ _ _ h => h) (Or.inl ⟨by rfl, ?_⟩) (by assumption) ?_
       rotate_left
       · (intro ww hSw; (try dsimp only at hSw); go_simp; (try with_reducible rfl))
       try simp only [Act.put, List.setIfInBounds_toArray, List.set_cons_zero, List.set_cons_succ])
    | (refine wpAnyH_ready (rs := [10]) (by kernel_rfl) (by simp) (AllReadyH.cons (by simp only [List.getElem?_toArray, List.getElem?_cons_succ, List.getElem?_cons_zero]; rfl) (fun K hK => ?_) AllReadyH.nil)
       go_simp
       first
         | (go_at_call 13; refine (exit_any x ⟨pd, some ⟨b, o, none⟩, pac, pk, pkc, pw, pwc⟩ (roomOf x k) d HR.out.2 hd _ (H.out.d.ex.below (D1.out.b.trans (hHeld.1.mono D1.out.b.size)) (Nat.le_refl _))).mono ?_; rintro e w9 ⟨rfl, hb2⟩; rw [HT.out.1, HT.out.2.1, HT.out.2.2])
       try go_wp2_with fail
       refine hK.out _ _ (by (first | (exact ⟨bdrew1 (Below.refl _ _), D1.out.a.cell, c1⟩) | (exact ⟨below_call hHeld.1 hHeld.1.size hb2, fun j => ((below_call hHeld.1 hHeld.1.size hb2).cell (p := ⟨w.heap.size, j, none⟩) hl1).trans (D1.out.a.cell j), cell_call hHeld.2.2 hb2⟩) | (exact hHeld))) (fun hHeld => ?_)
       clear hK K
       try simp only [Act.put, List.setIfInBounds_toArray, List.set_cons_zero, List.set_cons_succ])
  first
    | (refine wpAnyH_take (i := 11) (v := undef) (by simp only [List.getElem?_toArray, List.getElem?_cons_succ, List.getElem?_cons_zero]; rfl) (by kernel_rfl) (by kernel_rfl) (by kernel_rfl) (fun _ _ _ h => h) (Or.inr ⟨by rfl, rfl⟩) (by assumption) ?_; try simp only [Act.put, List.setIfInBounds_toArray, List.set_cons_zero, List.set_cons_succ])
    | (refine wpAnyH_take (i := 11) (v := ?_) (by simp only [List.getElem?_toArray, List.getElem?_cons_succ, List.getElem?_cons_zero]; rfl) (by kernel_rfl) (by kernel_rfl) (by kernel_rfl) (fun _ _ _ h => h) (Or.inl ⟨by rfl, ?_⟩) (by assumption) ?_
       rotate_left
       · (intro ww hSw; (try dsimp only at hSw); go_simp; (try with_reducible rfl))
       try simp only [Act.put, List.setIfInBounds_toArray, List.set_cons_zero, List.set_cons_succ])
    | (refine wpAnyH_ready (rs := [11]) (by kernel_rfl) (by simp) (AllReadyH.cons (by simp only [List.getElem?_toArray, List.getElem?_cons_succ, List.getElem?_cons_zero]; rfl) (fun K hK => ?_) AllReadyH.nil)
       go_simp
       first
         | (go_at_call 13; refine (exit_any x ⟨pd, some ⟨b, o, none⟩, pac, pk, pkc, pw, pwc⟩ (roomOf x k) d HR.out.2 hd _ (H.out.d.ex.below (D1.out.b.trans (hHeld.1.mono D1.out.b.size)) (Nat.le_refl _))).mono ?_; rintro e w9 ⟨rfl, hb2⟩; rw [HT.out.1, HT.out.2.1, HT.out.2.2])
       try go_wp2_with fail
       refine hK.out _ _ (by (first | (exact ⟨bdrew1 (Below.refl _ _), D1.out.a.cell, c1⟩) | (exact ⟨below_call hHeld.1 hHeld.1.size hb2, fun j => ((below_call hHeld.1 hHeld.1.size hb2).cell (p := ⟨w.heap.size, j, none⟩) hl1).trans (D1.out.a.cell j), cell_call hHeld.2.2 hb2⟩) | (exact hHeld))) (fun hHeld => ?_)
       clear hK K
       try simp only [Act.put, List.setIfInBounds_toArray, List.set_cons_zero, List.set_cons_succ])
  first
    | (refine wpAnyH_take (i := 12) (v := undef) (by simp only [List.getElem?_toArray, List.getElem?_cons_succ, List.getElem?_cons_zero]; rfl) (by kernel_rfl) (by kernel_rfl) (by kernel_rfl) (fun _ _ _ h => h) (Or.inr ⟨by rfl, rfl⟩) (by assumption) ?_; try simp only [Act.put, List.setIfInBounds_toArray, List.set_cons_zero, List.set_cons_succ])
    | (refine wpAnyH_take (i := 12) (v := ?_) (by simp only [List.getElem?_toArray, List.getElem?_cons_succ, List.getElem?_cons_zero]; rfl) (by kernel_rfl) (by kernel_rfl) (by kernel_rfl) (fun _ _ _ h => h) (Or.inl ⟨by rfl, ?_⟩) (by assumption) ?_
       rotate_left
       · (intro ww hSw; (try dsimp only at hSw); go_simp; (try with_reducible rfl))
       try simp only [Act.put, List.setIfInBounds_toArray, List.set_cons_zero, List.set_cons_succ])
    | (refine wpAnyH_ready (rs := [12]) (by kernel_rfl) (by simp) (AllReadyH.cons (by simp only [List.getElem?_toArray, List.getElem?_cons_succ, List.getElem?_cons_zero]; rfl) (fun K hK => ?_) AllReadyH.nil)
       go_simp
       first
         | (go_at_call 13; refine (exit_any x ⟨pd, some ⟨b, o, none⟩, pac, pk, pkc, pw, pwc⟩ (roomOf x k) d HR.out.2 hd _ (H.out.d.ex.below (D1.out.b.trans (hHeld.1.mono D1.out.b.size)) (Nat.le_refl _))).mono ?_; rintro e w9 ⟨rfl, hb2⟩; rw [HT.out.1, HT.out.2.1, HT.out.2.2])
       try go_wp2_with fail
       refine hK.out _ _ (by (first | (exact ⟨bdrew1 (Below.refl _ _), D1.out.a.cell, c1⟩) | (exact ⟨below_call hHeld.1 hHeld.1.size hb2, fun j => ((below_call hHeld.1 hHeld.1.size hb2).cell (p := ⟨w.heap.size, j, none⟩) hl1).trans (D1.out.a.cell j), cell_call hHeld.2.2 hb2⟩) | (exact hHeld))) (fun hHeld => ?_)
       clear hK K
       try simp only [Act.put, List.setIfInBounds_toArray, List.set_cons_zero, List.set_cons_succ])
  refine wpAnyH_done (by kernel_rfl) ?_ _
  refine NoPanic.normal ?_
  have D2 := Lib.hid (D1.out.call hHeld.1)
  clear hHeld hl1 c1
  have hc1 := D2.out.a.cell
  have hl1 := D2.out.a.lt
  go_wp2_with fail
  refine (copy_any x ⟨pd, some ⟨b, o, none⟩, pac, pk, pkc, pw, pwc⟩ _ (H.out.below D2.out.b (Nat.le_refl _)) (right_fewW HX.out)).mono ?_
  rintro e w3 ⟨⟨qd, qa, qac, qk, qkc, qw, qwc⟩, rfl, ho, b3⟩
  obtain ⟨g, hqa, hb1, hb2, cA, fA, hput⟩ := ho.putAt hk
  simp only at hqa
  subst hqa
  have D3 := Lib.hid (D2.out.call b3)
  have hs1 := D2.out.size
  have n1 : w.heap.size + 1 ≠ g := by omega
  have n2 : g ≠ w.heap.size + 1 := by omega
  have HB3 := Lib.hid hb1
  have HP := Lib.hid (hput t)
  clear hc1 hl1 ho hput b3
  have hc2 := D3.out.r.cell
  have hz2 := D3.out.r.frozen
  have hs2 := D3.out.r.lt
  have hlg := hb2
  go_wp2_with fail
  refine bodyPost_ret (v := .tuple #[.agg #[.slice qd.ex x.d.exits.length qd.exc, .slice qd.pl x.d.players.length qd.plc, .slice qd.co x.d.coins.length qd.coc, .slice qd.it x.d.items.length qd.itc, .slice qd.bo x.d.boxes.length qd.boc, .int .i64 x.d.room, .int .i64 x.d.player, .int .i64 x.d.box, .slice (some ⟨g, 0, none⟩) x.at_.length qac, .slice qk x.coins.length qkc, .slice qw x.wher.length qwc], .int .i64 t, .int .i64 0]) (by simp [results, Try.results20, go_sem, hc2, hs2]) rfl ⟨⟨qd, some ⟨g, 0, none⟩, qac, qk, qkc, qw, qwc⟩, rfl, ?_, ?_⟩
  · refine WorldOwn.alloc' (WorldOwn.less (n := w9.heap.size) ?_ (by omega)) _
    iterate 11 refine WorldOwn.set (q := w.heap.size + 1) ?_ (by omega) _ _
    exact HP.out
  · refine Below.alloc ?_ (by simp [World.setCell]; omega) _
    iterate 11 refine Below.setCell ?_ (by show w.heap.size ≤ w.heap.size + 1; omega) _
    refine Below.setCell ?_ (by show w.heap.size ≤ g; omega) _
    exact D3.out.b
end Go.Proofs.Ytkhjmgedamndhaa
