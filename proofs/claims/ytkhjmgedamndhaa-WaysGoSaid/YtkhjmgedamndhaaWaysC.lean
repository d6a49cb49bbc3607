/- ways: who goes, and is pushed: whole. -/
import Derived.Test.YtkhjmgedamndhaaRows
import Derived.Test.YtkhjmgedamndhaaKit
import Derived.Test.YtkhjmgedamndhaaStrs
import Derived.Test.YtkhjmgedamndhaaCoin
import Derived.Test.YtkhjmgedamndhaaBlk
import Derived.Test.YtkhjmgedamndhaaHolds
import Derived.Test.YtkhjmgedamndhaaWorldMath
import Derived.Test.YtkhjmgedamndhaaWorldAt
import Derived.Test.YtkhjmgedamndhaaDescNest
import Derived.Test.YtkhjmgedamndhaaDescRight
import Derived.Test.YtkhjmgedamndhaaDescCopy
import Derived.Test.YtkhjmgedamndhaaDescCopy2
import Derived.Test.YtkhjmgedamndhaaDescStore
import Derived.Test.YtkhjmgedamndhaaDescAs
import Derived.Test.YtkhjmgedamndhaaWaysMath
import Derived.Test.YtkhjmgedamndhaaWaysA
import Derived.Test.YtkhjmgedamndhaaWaysB
import Derived.Deep.QuietTactic
import Derived.BigQuiet
import Derived.Deep.RegionHeld3
import Derived.WalkKit
import Derived.ProofKit
import Derived.OpenShut
import Derived.IntWalk
namespace Go.Proofs.Ytkhjmgedamndhaa
open Go.ChangeShapes Go.WideShapes Go.ChangeAt Go.RowKit
set_option linter.unusedVariables false
open Go.RowKit
/-- What is answered: a world that stays, or a new one. -/
def Went (n : Nat) (W : World) (p q : Wp) (x : Wd) (R : Wd × Int × Int) : Prop := (¬ R.2.2 = 0 ∧ R.1 = x ∧ q = p) ∨ (R.2.2 = 0 ∧ WorldOwn n W q R.1)
theorem Went.call {n : Nat} {W W' : World} {p q : Wp} {x : Wd} {R : Wd × Int × Int} (h : Went n W p q x R) (hb : Below W.heap.size W W') : Went n W' p q x R := h.imp id (fun ⟨h1, h2⟩ => ⟨h1, h2.call hb⟩)
theorem Went.set {n : Nat} {W : World} {p q : Wp} {x : Wd} {R : Wd × Int × Int} (h : Went n W p q x R) {b : Nat} (hb : b < n) (i : Nat) (u : Value) : Went n (W.setCell ⟨b, i, none⟩ u) p q x R := h.imp id (fun ⟨h1, h2⟩ => ⟨h1, h2.set hb i u⟩)
theorem Went.less {n m : Nat} {W : World} {p q : Wp} {x : Wd} {R : Wd × Int × Int} (h : Went n W p q x R) (hm : m ≤ n) : Went m W p q x R := h.imp id (fun ⟨h1, h2⟩ => ⟨h1, h2.less hm⟩)
theorem Went.world {n : Nat} {W : World} {p q : Wp} {x : Wd} {R : Wd × Int × Int} (h : Went n W p q x R) (hw : WorldAt W p x) : WorldAt W q R.1 := by
  rcases h with ⟨_, h1, h2⟩ | ⟨_, h2⟩
  · rw [h1, h2]; exact hw
  · exact h2.world
/-- Who is sent by whom. -/
def sendW (x : Wd) (i : Nat) (q : Int) (d : Nat) : Wd × Int × Int := if (whoW x i q).2 = 0 then moveW x q.toNat d else (x, 0, (whoW x i q).2)
theorem who_yes {x : Wd} {i : Nat} {q : Int} (h : (whoW x i q).2 = 0) : ∃ k : Nat, q = k ∧ k < x.at_.length ∧ whoW x i q = ((k : Int), 0) := by
  unfold whoW at h ⊢
  split at h
  · simp at h
  · rename_i hb
    simp only [Bool.not_eq_false, inB_iff] at hb
    split at h
    · rename_i h2
      refine ⟨q.toNat, by omega, by omega, ?_⟩
      rw [if_neg (by simp only [Bool.not_eq_false, inB_iff]; exact hb), if_pos h2]
      simp; omega
    · simp at h
set_option maxRecDepth 100000 in
theorem send_any (x : Wd) (p : Wp) (d : Nat) (hd : d < 4) (n i : Nat) (q : Int) (w : World) (hx : rightW x = true) (h : WorldAt w p x) (hi : i < x.at_.length) (hg : GoerAt w n x p i q) : Calls Try.prog 20 #[.agg #[.slice p.d.ex x.d.exits.length p.d.exc, .slice p.d.pl x.d.players.length p.d.plc, .slice p.d.co x.d.coins.length p.d.coc, .slice p.d.it x.d.items.length p.d.itc, .slice p.d.bo x.d.boxes.length p.d.boc, .int .i64 x.d.room, .int .i64 x.d.player, .int .i64 x.d.box, .slice p.at_ x.at_.length p.atc, .slice p.co x.coins.length p.coc, .slice p.wh x.wher.length p.whc], .int .i64 (d : Int), .func (.func 31) #[] #[.pointer (some ⟨n + 2, 0, none⟩), .pointer (some ⟨n, 0, none⟩), .pointer (some ⟨n + 1, 0, none⟩)]] w fun e w' => ∃ q' : Wp, e = .returned (.tuple #[.agg #[.slice q'.d.ex x.d.exits.length q'.d.exc, .slice q'.d.pl x.d.players.length q'.d.plc, .slice q'.d.co x.d.coins.length q'.d.coc, .slice q'.d.it x.d.items.length q'.d.itc, .slice q'.d.bo x.d.boxes.length q'.d.boc, .int .i64 x.d.room, .int .i64 x.d.player, .int .i64 x.d.box, .slice q'.at_ x.at_.length q'.atc, .slice q'.co x.coins.length q'.coc, .slice q'.wh x.wher.length q'.whc], .int .i64 (sendW x i q d).2.1, .int .i64 (sendW x i q d).2.2]) ∧ Went w.heap.size w' p q' x (sendW x i q d) ∧ Below w.heap.size w w' := by
  by_cases h0 : (whoW x i q).2 = 0
  · obtain ⟨k, rfl, hk, he⟩ := who_yes h0
    have hr := room_at hx hk
    obtain ⟨b, o, ea, hb, hc⟩ := h.at_.at_ hk
    have c0 := hc k hk
    rw [hr.1] at c0
    obtain ⟨pd, pa, pac, pk, pkc, pw, pwc⟩ := p
    simp only at ea
    subst ea
    have hs : sendW x i k d = moveW x k d := by unfold sendW; rw [if_pos h0]; rfl
    rw [hs]
    by_cases ht : toW x (roomOf x k) d = -1
    · have hm : moveW x k d = (x, 0, 4) := by unfold moveW; rw [if_pos ht]
      rw [hm]
      exact (send_shut x pd b o pac pk pw pkc pwc d hd n i k w hx h c0 hi hk hg he ht).mono fun e w' ⟨h1, h2⟩ => ⟨_, h1, .inl ⟨by simp, rfl, rfl⟩, h2⟩
    · have hm : moveW x k d = (goW x k (toW x (roomOf x k) d), toW x (roomOf x k) d, 0) := by unfold moveW; rw [if_neg ht]
      rw [hm]
      exact (send_go x pd b o pac pk pw pkc pwc d hd n i k _ w hx h c0 hi hk hg he rfl ht).mono fun e w' ⟨q', h1, h2, h3⟩ => ⟨q', h1, .inr ⟨rfl, h2⟩, h3⟩
  · have hs : sendW x i q d = (x, 0, (whoW x i q).2) := by unfold sendW; rw [if_neg h0]
    rw [hs]
    exact (send_no x p d n i q w hx h hi hg h0).mono fun e w' ⟨h1, h2⟩ => ⟨p, h1, .inl ⟨h0, rfl, rfl⟩, h2⟩
theorem two_keep {w W : World} {A : Array Value} {t u : TypeId} {Z : Array Value} (h : Two t u w W A Z) : Below w.heap.size w W ∧ w.heap.size < W.heap.size ∧ (∀ i, W.cell? ⟨w.heap.size, i, none⟩ = A[i]?) ∧ w.heap.size + 1 < W.heap.size := ⟨h.b, h.a.lt, h.a.cell, h.r.lt⟩
theorem send_self {x : Wd} {i : Nat} (hi : i < x.at_.length) (d : Nat) : sendW x i i d = moveW x i d := by
  unfold sendW whoW
  rw [if_neg (show ¬ inB (i : Int) x.at_.length = false by simp [inB, hi]), if_pos (by simp)]
  simp
set_option maxRecDepth 100000 in
set_option maxHeartbeats 1000000 in
theorem move_any (x : Wd) (p : Wp) (i d : Nat) (hd : d < 4) (w : World) (hx : rightW x = true) (h : WorldAt w p x) (hi : i < x.at_.length) : Calls Try.prog 9 #[.agg #[.slice p.d.ex x.d.exits.length p.d.exc, .slice p.d.pl x.d.players.length p.d.plc, .slice p.d.co x.d.coins.length p.d.coc, .slice p.d.it x.d.items.length p.d.itc, .slice p.d.bo x.d.boxes.length p.d.boc, .int .i64 x.d.room, .int .i64 x.d.player, .int .i64 x.d.box, .slice p.at_ x.at_.length p.atc, .slice p.co x.coins.length p.coc, .slice p.wh x.wher.length p.whc], .int .i64 (i : Int), .int .i64 (d : Int)] w fun e w' => ∃ q : Wp, e = .returned (.tuple #[.agg #[.slice q.d.ex x.d.exits.length q.d.exc, .slice q.d.pl x.d.players.length q.d.plc, .slice q.d.co x.d.coins.length q.d.coc, .slice q.d.it x.d.items.length q.d.itc, .slice q.d.bo x.d.boxes.length q.d.boc, .int .i64 x.d.room, .int .i64 x.d.player, .int .i64 x.d.box, .slice q.at_ x.at_.length q.atc, .slice q.co x.coins.length q.coc, .slice q.wh x.wher.length q.whc], .int .i64 (moveW x i d).2.1, .int .i64 (moveW x i d).2.2]) ∧ Went w.heap.size w' p q x (moveW x i d) ∧ Below w.heap.size w w' := by
  have H := Lib.hid h
  have HX := Lib.hid hx
  have HS := Lib.hid (send_self hi d)
  clear h hx
  have C0 := Lib.hid (Two.start 29 29 w #[.slice p.d.ex x.d.exits.length p.d.exc, .slice p.d.pl x.d.players.length p.d.plc, .slice p.d.co x.d.coins.length p.d.coc, .slice p.d.it x.d.items.length p.d.itc, .slice p.d.bo x.d.boxes.length p.d.boc, .int .i64 x.d.room, .int .i64 x.d.player, .int .i64 x.d.box, .slice p.at_ x.at_.length p.atc, .slice p.co x.coins.length p.coc, .slice p.wh x.wher.length p.whc] #[.slice none 0 0, .slice none 0 0, .slice none 0 0, .slice none 0 0, .slice none 0 0, .int .i64 0, .int .i64 0, .int .i64 0, .slice none 0 0, .slice none 0 0, .slice none 0 0])
  obtain ⟨y, hy⟩ : ∃ y, y = moveW x i d := ⟨_, rfl⟩
  have HY := Lib.hid hy
  rw [← hy]
  clear hy
  go_enter Try.func9, Try.ntmps9
  go_wp2_with fail
  obtain ⟨n, hn⟩ : ∃ n, ((w.alloc (.cells #[.slice p.d.ex x.d.exits.length p.d.exc, .slice p.d.pl x.d.players.length p.d.plc, .slice p.d.co x.d.coins.length p.d.coc, .slice p.d.it x.d.items.length p.d.itc, .slice p.d.bo x.d.boxes.length p.d.boc, .int .i64 x.d.room, .int .i64 x.d.player, .int .i64 x.d.box, .slice p.at_ x.at_.length p.atc, .slice p.co x.coins.length p.coc, .slice p.wh x.wher.length p.whc] 29)).alloc (.cells #[.slice none 0 0, .slice none 0 0, .slice none 0 0, .slice none 0 0, .slice none 0 0, .int .i64 0, .int .i64 0, .int .i64 0, .slice none 0 0, .slice none 0 0, .slice none 0 0] 29)).drew.heap.size = n := ⟨_, rfl⟩
  have HN := Lib.hid hn
  clear hn
  refine wp_region_noPanic ?_
  refine wp_region_held_drew (S := (fun w' => Below w.heap.size w w' ∧ w.heap.size < w'.heap.size ∧ (∀ i, w'.cell? ⟨w.heap.size, i, none⟩ = (#[.slice p.d.ex x.d.exits.length p.d.exc, .slice p.d.pl x.d.players.length p.d.plc, .slice p.d.co x.d.coins.length p.d.coc, .slice p.d.it x.d.items.length p.d.itc, .slice p.d.bo x.d.boxes.length p.d.boc, .int .i64 x.d.room, .int .i64 x.d.player, .int .i64 x.d.box, .slice p.at_ x.at_.length p.atc, .slice p.co x.coins.length p.coc, .slice p.wh x.wher.length p.whc][i]? : Option Value)) ∧ w.heap.size + 1 < w'.heap.size)) (by kernel_rfl) (by (first | (with_reducible exact ⟨C0.out.drew.b, C0.out.drew.a.lt, C0.out.drew.a.cell, C0.out.drew.r.lt⟩) | (with_reducible exact ⟨D1.out.b, D1.out.a.lt, D1.out.a.cell, D1.out.r.lt⟩) | (with_reducible exact ⟨D2.out.b, D2.out.a.lt, D2.out.a.cell, D2.out.r.lt⟩) | (refine two_S (t := 29) (s := 29) (w := w) ?_; (iterate 11 with_reducible refine TwoE.set2 ?_ _ _); with_reducible exact TwoE.mk D2.out))) (fun hHeld => ?_)
  refine wpAnyH_take (i := 0) (v := ?_) (by simp only [List.getElem?_toArray, List.getElem?_cons_zero]; rfl) (by kernel_rfl) (by kernel_rfl) (by kernel_rfl) (fun _ _ _ h => h) (Or.inl ⟨by rfl, ?_⟩) (by assumption) ?_
  rotate_left
  · (intro ww hSw; (try dsimp only at hSw); go_simp; (try with_reducible rfl))
  try simp only [Act.put, List.setIfInBounds_toArray, List.set_cons_zero, List.set_cons_succ]
  refine wpAnyH_take (i := 1) (v := ?_) (by simp only [List.getElem?_toArray, List.getElem?_cons_succ, List.getElem?_cons_zero]; rfl) (by kernel_rfl) (by kernel_rfl) (by kernel_rfl) (fun _ _ _ h => h) (Or.inl ⟨by rfl, ?_⟩) (by assumption) ?_
  rotate_left
  · (intro ww hSw; (try dsimp only at hSw); go_simp; (try with_reducible rfl))
  try simp only [Act.put, List.setIfInBounds_toArray, List.set_cons_zero, List.set_cons_succ]
  refine wpAnyH_take (i := 2) (v := ?_) (by simp only [List.getElem?_toArray, List.getElem?_cons_succ, List.getElem?_cons_zero]; rfl) (by kernel_rfl) (by kernel_rfl) (by kernel_rfl) (fun _ _ _ h => h) (Or.inl ⟨by rfl, ?_⟩) (by assumption) ?_
  rotate_left
  · (intro ww hSw; (try dsimp only at hSw); go_simp; (try with_reducible rfl))
  try simp only [Act.put, List.setIfInBounds_toArray, List.set_cons_zero, List.set_cons_succ]
  refine wpAnyH_take (i := 3) (v := ?_) (by simp only [List.getElem?_toArray, List.getElem?_cons_succ, List.getElem?_cons_zero]; rfl) (by kernel_rfl) (by kernel_rfl) (by kernel_rfl) (fun _ _ _ h => h) (Or.inl ⟨by rfl, ?_⟩) (by assumption) ?_
  rotate_left
  · (intro ww hSw; (try dsimp only at hSw); go_simp; (try with_reducible rfl))
  try simp only [Act.put, List.setIfInBounds_toArray, List.set_cons_zero, List.set_cons_succ]
  refine wpAnyH_take (i := 4) (v := ?_) (by simp only [List.getElem?_toArray, List.getElem?_cons_succ, List.getElem?_cons_zero]; rfl) (by kernel_rfl) (by kernel_rfl) (by kernel_rfl) (fun _ _ _ h => h) (Or.inl ⟨by rfl, ?_⟩) (by assumption) ?_
  rotate_left
  · (intro ww hSw; (try dsimp only at hSw); go_simp; (try with_reducible rfl))
  try simp only [Act.put, List.setIfInBounds_toArray, List.set_cons_zero, List.set_cons_succ]
  refine wpAnyH_ready (rs := [5]) (by kernel_rfl) (by simp) (AllReadyH.cons (by simp only [List.getElem?_toArray, List.getElem?_cons_succ, List.getElem?_cons_zero]; rfl) (fun K hK => ?_) AllReadyH.nil)
  go_simp
  refine (goer_any x p i i n _ HN.out).mono ?_; rintro e w1 ⟨rfl, hg, hb1⟩; have D1 := Lib.hid (C0.out.drew.call hb1); have HG := Lib.hid hg; have B1 := Lib.hid hb1; clear hb1 hg
  try go_wp2_with fail
  refine hK.out _ _ (by (first | (with_reducible exact ⟨C0.out.drew.b, C0.out.drew.a.lt, C0.out.drew.a.cell, C0.out.drew.r.lt⟩) | (with_reducible exact ⟨D1.out.b, D1.out.a.lt, D1.out.a.cell, D1.out.r.lt⟩) | (with_reducible exact ⟨D2.out.b, D2.out.a.lt, D2.out.a.cell, D2.out.r.lt⟩) | (refine two_S (t := 29) (s := 29) (w := w) ?_; (iterate 11 with_reducible refine TwoE.set2 ?_ _ _); with_reducible exact TwoE.mk D2.out))) (fun hHeld => ?_)
  clear hK K
  try simp only [Act.put, List.setIfInBounds_toArray, List.set_cons_zero, List.set_cons_succ]
  refine wpAnyH_ready (rs := [6]) (by kernel_rfl) (by simp) (AllReadyH.cons (by simp only [List.getElem?_toArray, List.getElem?_cons_succ, List.getElem?_cons_zero]; rfl) (fun K hK => ?_) AllReadyH.nil)
  go_simp
  refine (send_any x p d hd _ i i _ HX.out (H.out.below D1.out.b (Nat.le_refl _)) hi HG.out).mono ?_; rintro e w2 ⟨⟨qd, qa, qac, qk, qkc, qw, qwc⟩, rfl, wn, hb2⟩; rw [HS.out, ← HY.out] at wn ⊢; have D2 := Lib.hid (D1.out.call hb2)
  try go_wp2_with fail
  refine hK.out _ _ (by (first | (with_reducible exact ⟨C0.out.drew.b, C0.out.drew.a.lt, C0.out.drew.a.cell, C0.out.drew.r.lt⟩) | (with_reducible exact ⟨D1.out.b, D1.out.a.lt, D1.out.a.cell, D1.out.r.lt⟩) | (with_reducible exact ⟨D2.out.b, D2.out.a.lt, D2.out.a.cell, D2.out.r.lt⟩) | (refine two_S (t := 29) (s := 29) (w := w) ?_; (iterate 11 with_reducible refine TwoE.set2 ?_ _ _); with_reducible exact TwoE.mk D2.out))) (fun hHeld => ?_)
  clear hK K
  try simp only [Act.put, List.setIfInBounds_toArray, List.set_cons_zero, List.set_cons_succ]
  have WN := Lib.hid wn
  have hc2 := D2.out.r.cell
  have hz2 := D2.out.r.frozen
  have hs2 := D2.out.r.lt
  clear wn hb2
  refine wpAnyH_take (i := 7) (v := ?_) (by simp only [List.getElem?_toArray, List.getElem?_cons_succ, List.getElem?_cons_zero]; rfl) (by kernel_rfl) (by kernel_rfl) (by kernel_rfl) (fun _ _ _ h => h) (Or.inl ⟨by rfl, ?_⟩) (by assumption) ?_
  rotate_left
  · (intro ww hSw; (try dsimp only at hSw); go_simp; (try with_reducible rfl))
  try simp only [Act.put, List.setIfInBounds_toArray, List.set_cons_zero, List.set_cons_succ]
  refine wpAnyH_take (i := 8) (v := ?_) (by simp only [List.getElem?_toArray, List.getElem?_cons_succ, List.getElem?_cons_zero]; rfl) (by kernel_rfl) (by kernel_rfl) (by kernel_rfl) (fun _ _ _ h => h) (Or.inl ⟨by rfl, ?_⟩) (by assumption) ?_
  rotate_left
  · (intro ww hSw; (try dsimp only at hSw); go_simp; (try with_reducible rfl))
  try simp only [Act.put, List.setIfInBounds_toArray, List.set_cons_zero, List.set_cons_succ]
  refine wpAnyH_take (i := 9) (v := ?_) (by simp only [List.getElem?_toArray, List.getElem?_cons_succ, List.getElem?_cons_zero]; rfl) (by kernel_rfl) (by kernel_rfl) (by kernel_rfl) (fun _ _ _ h => h) (Or.inl ⟨by rfl, ?_⟩) (by assumption) ?_
  rotate_left
  · (intro ww hSw; (try dsimp only at hSw); go_simp; (try with_reducible rfl))
  try simp only [Act.put, List.setIfInBounds_toArray, List.set_cons_zero, List.set_cons_succ]
  refine wpAnyH_ready (rs := [10]) (by kernel_rfl) (by simp) (AllReadyH.cons (by simp only [List.getElem?_toArray, List.getElem?_cons_succ, List.getElem?_cons_zero]; rfl) (fun K hK => ?_) AllReadyH.nil)
  go_simp
  try go_wp2_with fail
  refine hK.out _ _ (by (first | (with_reducible exact ⟨C0.out.drew.b, C0.out.drew.a.lt, C0.out.drew.a.cell, C0.out.drew.r.lt⟩) | (with_reducible exact ⟨D1.out.b, D1.out.a.lt, D1.out.a.cell, D1.out.r.lt⟩) | (with_reducible exact ⟨D2.out.b, D2.out.a.lt, D2.out.a.cell, D2.out.r.lt⟩) | (refine two_S (t := 29) (s := 29) (w := w) ?_; (iterate 11 with_reducible refine TwoE.set2 ?_ _ _); with_reducible exact TwoE.mk D2.out))) (fun hHeld => ?_)
  clear hK K
  try simp only [Act.put, List.setIfInBounds_toArray, List.set_cons_zero, List.set_cons_succ]
  refine wpAnyH_take (i := 11) (v := ?_) (by simp only [List.getElem?_toArray, List.getElem?_cons_succ, List.getElem?_cons_zero]; rfl) (by kernel_rfl) (by kernel_rfl) (by kernel_rfl) (fun _ _ _ h => h) (Or.inl ⟨by rfl, ?_⟩) (by assumption) ?_
  rotate_left
  · (intro ww hSw; (try dsimp only at hSw); go_simp; (try with_reducible rfl))
  try simp only [Act.put, List.setIfInBounds_toArray, List.set_cons_zero, List.set_cons_succ]
  refine wpAnyH_take (i := 12) (v := ?_) (by simp only [List.getElem?_toArray, List.getElem?_cons_succ, List.getElem?_cons_zero]; rfl) (by kernel_rfl) (by kernel_rfl) (by kernel_rfl) (fun _ _ _ h => h) (Or.inl ⟨by rfl, ?_⟩) (by assumption) ?_
  rotate_left
  · (intro ww hSw; (try dsimp only at hSw); go_simp; (try with_reducible rfl))
  try simp only [Act.put, List.setIfInBounds_toArray, List.set_cons_zero, List.set_cons_succ]
  refine wpAnyH_done (by kernel_rfl) ?_ _
  refine NoPanic.normal ?_
  go_wp2_with fail
  refine bodyPost_ret (v := .tuple #[.agg #[.slice qd.ex x.d.exits.length qd.exc, .slice qd.pl x.d.players.length qd.plc, .slice qd.co x.d.coins.length qd.coc, .slice qd.it x.d.items.length qd.itc, .slice qd.bo x.d.boxes.length qd.boc, .int .i64 x.d.room, .int .i64 x.d.player, .int .i64 x.d.box, .slice qa x.at_.length qac, .slice qk x.coins.length qkc, .slice qw x.wher.length qwc], .int .i64 y.2.1, .int .i64 y.2.2]) (by simp [results, Try.results9, go_sem, hc2]) rfl ⟨⟨qd, qa, qac, qk, qkc, qw, qwc⟩, rfl, ?_, ?_⟩
  · refine Went.less (n := w1.heap.size) ?_ (by have := D1.out.r.lt; omega)
    iterate 11 refine Went.set (b := w.heap.size + 1) ?_ D1.out.r.lt _ _
    exact WN.out
  · iterate 11 refine Below.setCell ?_ (by show w.heap.size ≤ w.heap.size + 1; omega) _
    exact D2.out.b
theorem push_send {x : Wd} {i : Nat} {q : Int} (hi : i < x.at_.length) (hq : ¬ q = i) (d : Nat) : sendW x i q d = pushW x i q d := by
  unfold sendW pushW whoW
  by_cases h1 : inB q x.at_.length = false
  · simp [h1]
  · simp only [if_neg h1, if_neg hq]
    by_cases h2 : roomOf x i = roomOf x q.toNat
    · simp [h2]
    · simp [h2]
theorem push_self {x : Wd} {i : Nat} (hi : i < x.at_.length) (d : Nat) : pushW x i i d = (x, 0, 12) := by
  unfold pushW
  rw [if_neg (by simp [inB, hi]), if_pos rfl]
set_option maxRecDepth 100000 in
theorem push_same (x : Wd) (p : Wp) (i d : Nat) (w : World) : Calls Try.prog 11 #[.agg #[.slice p.d.ex x.d.exits.length p.d.exc, .slice p.d.pl x.d.players.length p.d.plc, .slice p.d.co x.d.coins.length p.d.coc, .slice p.d.it x.d.items.length p.d.itc, .slice p.d.bo x.d.boxes.length p.d.boc, .int .i64 x.d.room, .int .i64 x.d.player, .int .i64 x.d.box, .slice p.at_ x.at_.length p.atc, .slice p.co x.coins.length p.coc, .slice p.wh x.wher.length p.whc], .int .i64 (i : Int), .int .i64 (i : Int), .int .i64 (d : Int)] w fun e w' => e = .returned (.tuple #[.agg #[.slice p.d.ex x.d.exits.length p.d.exc, .slice p.d.pl x.d.players.length p.d.plc, .slice p.d.co x.d.coins.length p.d.coc, .slice p.d.it x.d.items.length p.d.itc, .slice p.d.bo x.d.boxes.length p.d.boc, .int .i64 x.d.room, .int .i64 x.d.player, .int .i64 x.d.box, .slice p.at_ x.at_.length p.atc, .slice p.co x.coins.length p.coc, .slice p.wh x.wher.length p.whc], .int .i64 0, .int .i64 12]) ∧ Below w.heap.size w w' := by
  have C0 := Lib.hid (Two.start 29 29 w #[.slice p.d.ex x.d.exits.length p.d.exc, .slice p.d.pl x.d.players.length p.d.plc, .slice p.d.co x.d.coins.length p.d.coc, .slice p.d.it x.d.items.length p.d.itc, .slice p.d.bo x.d.boxes.length p.d.boc, .int .i64 x.d.room, .int .i64 x.d.player, .int .i64 x.d.box, .slice p.at_ x.at_.length p.atc, .slice p.co x.coins.length p.coc, .slice p.wh x.wher.length p.whc] #[.slice none 0 0, .slice none 0 0, .slice none 0 0, .slice none 0 0, .slice none 0 0, .int .i64 0, .int .i64 0, .int .i64 0, .slice none 0 0, .slice none 0 0, .slice none 0 0])
  have hc2 := C0.out.r.cell
  have hz2 := C0.out.r.frozen
  have hs2 := C0.out.r.lt
  go_enter Try.func11, Try.ntmps11
  go_wp2_with fail
  refine bodyPost_ret (v := .tuple #[.agg #[.slice p.d.ex x.d.exits.length p.d.exc, .slice p.d.pl x.d.players.length p.d.plc, .slice p.d.co x.d.coins.length p.d.coc, .slice p.d.it x.d.items.length p.d.itc, .slice p.d.bo x.d.boxes.length p.d.boc, .int .i64 x.d.room, .int .i64 x.d.player, .int .i64 x.d.box, .slice p.at_ x.at_.length p.atc, .slice p.co x.coins.length p.coc, .slice p.wh x.wher.length p.whc], .int .i64 0, .int .i64 12]) (by simp [results, Try.results11, go_sem]) rfl ⟨rfl, ?_⟩
  exact ((Below.refl _ _).alloc (Nat.le_refl _) _).alloc (by simp) _
set_option maxRecDepth 100000 in
set_option maxHeartbeats 1000000 in
theorem push_other (x : Wd) (p : Wp) (i : Nat) (q : Int) (d : Nat) (hd : d < 4) (hq : ¬ q = i) (w : World) (hx : rightW x = true) (h : WorldAt w p x) (hi : i < x.at_.length) : Calls Try.prog 11 #[.agg #[.slice p.d.ex x.d.exits.length p.d.exc, .slice p.d.pl x.d.players.length p.d.plc, .slice p.d.co x.d.coins.length p.d.coc, .slice p.d.it x.d.items.length p.d.itc, .slice p.d.bo x.d.boxes.length p.d.boc, .int .i64 x.d.room, .int .i64 x.d.player, .int .i64 x.d.box, .slice p.at_ x.at_.length p.atc, .slice p.co x.coins.length p.coc, .slice p.wh x.wher.length p.whc], .int .i64 (i : Int), .int .i64 q, .int .i64 (d : Int)] w fun e w' => ∃ q' : Wp, e = .returned (.tuple #[.agg #[.slice q'.d.ex x.d.exits.length q'.d.exc, .slice q'.d.pl x.d.players.length q'.d.plc, .slice q'.d.co x.d.coins.length q'.d.coc, .slice q'.d.it x.d.items.length q'.d.itc, .slice q'.d.bo x.d.boxes.length q'.d.boc, .int .i64 x.d.room, .int .i64 x.d.player, .int .i64 x.d.box, .slice q'.at_ x.at_.length q'.atc, .slice q'.co x.coins.length q'.coc, .slice q'.wh x.wher.length q'.whc], .int .i64 (pushW x i q d).2.1, .int .i64 (pushW x i q d).2.2]) ∧ Went w.heap.size w' p q' x (pushW x i q d) ∧ Below w.heap.size w w' := by
  have H := Lib.hid h
  have HX := Lib.hid hx
  have HS := Lib.hid (push_send hi hq d)
  have hne : (q == (i : Int)) = false := by simpa using hq
  clear h hx hq
  have C0 := Lib.hid (Two.start 29 29 w #[.slice p.d.ex x.d.exits.length p.d.exc, .slice p.d.pl x.d.players.length p.d.plc, .slice p.d.co x.d.coins.length p.d.coc, .slice p.d.it x.d.items.length p.d.itc, .slice p.d.bo x.d.boxes.length p.d.boc, .int .i64 x.d.room, .int .i64 x.d.player, .int .i64 x.d.box, .slice p.at_ x.at_.length p.atc, .slice p.co x.coins.length p.coc, .slice p.wh x.wher.length p.whc] #[.slice none 0 0, .slice none 0 0, .slice none 0 0, .slice none 0 0, .slice none 0 0, .int .i64 0, .int .i64 0, .int .i64 0, .slice none 0 0, .slice none 0 0, .slice none 0 0])
  obtain ⟨y, hy⟩ : ∃ y, y = pushW x i q d := ⟨_, rfl⟩
  have HY := Lib.hid hy
  rw [← hy]
  clear hy
  go_enter Try.func11, Try.ntmps11
  go_wp2_with fail
  obtain ⟨n, hn⟩ : ∃ n, ((w.alloc (.cells #[.slice p.d.ex x.d.exits.length p.d.exc, .slice p.d.pl x.d.players.length p.d.plc, .slice p.d.co x.d.coins.length p.d.coc, .slice p.d.it x.d.items.length p.d.itc, .slice p.d.bo x.d.boxes.length p.d.boc, .int .i64 x.d.room, .int .i64 x.d.player, .int .i64 x.d.box, .slice p.at_ x.at_.length p.atc, .slice p.co x.coins.length p.coc, .slice p.wh x.wher.length p.whc] 29)).alloc (.cells #[.slice none 0 0, .slice none 0 0, .slice none 0 0, .slice none 0 0, .slice none 0 0, .int .i64 0, .int .i64 0, .int .i64 0, .slice none 0 0, .slice none 0 0, .slice none 0 0] 29)).drew.heap.size = n := ⟨_, rfl⟩
  have HN := Lib.hid hn
  clear hn
  refine wp_region_noPanic ?_
  refine wp_region_held_drew (S := (fun w' => Below w.heap.size w w' ∧ w.heap.size < w'.heap.size ∧ (∀ i, w'.cell? ⟨w.heap.size, i, none⟩ = (#[.slice p.d.ex x.d.exits.length p.d.exc, .slice p.d.pl x.d.players.length p.d.plc, .slice p.d.co x.d.coins.length p.d.coc, .slice p.d.it x.d.items.length p.d.itc, .slice p.d.bo x.d.boxes.length p.d.boc, .int .i64 x.d.room, .int .i64 x.d.player, .int .i64 x.d.box, .slice p.at_ x.at_.length p.atc, .slice p.co x.coins.length p.coc, .slice p.wh x.wher.length p.whc][i]? : Option Value)) ∧ w.heap.size + 1 < w'.heap.size)) (by kernel_rfl) (by (first | (with_reducible exact ⟨C0.out.drew.b, C0.out.drew.a.lt, C0.out.drew.a.cell, C0.out.drew.r.lt⟩) | (with_reducible exact ⟨D1.out.b, D1.out.a.lt, D1.out.a.cell, D1.out.r.lt⟩) | (with_reducible exact ⟨D2.out.b, D2.out.a.lt, D2.out.a.cell, D2.out.r.lt⟩) | (refine two_S (t := 29) (s := 29) (w := w) ?_; (iterate 11 with_reducible refine TwoE.set2 ?_ _ _); with_reducible exact TwoE.mk D2.out))) (fun hHeld => ?_)
  refine wpAnyH_take (i := 0) (v := ?_) (by simp only [List.getElem?_toArray, List.getElem?_cons_zero]; rfl) (by kernel_rfl) (by kernel_rfl) (by kernel_rfl) (fun _ _ _ h => h) (Or.inl ⟨by rfl, ?_⟩) (by assumption) ?_
  rotate_left
  · (intro ww hSw; (try dsimp only at hSw); go_simp; (try with_reducible rfl))
  try simp only [Act.put, List.setIfInBounds_toArray, List.set_cons_zero, List.set_cons_succ]
  refine wpAnyH_take (i := 1) (v := ?_) (by simp only [List.getElem?_toArray, List.getElem?_cons_succ, List.getElem?_cons_zero]; rfl) (by kernel_rfl) (by kernel_rfl) (by kernel_rfl) (fun _ _ _ h => h) (Or.inl ⟨by rfl, ?_⟩) (by assumption) ?_
  rotate_left
  · (intro ww hSw; (try dsimp only at hSw); go_simp; (try with_reducible rfl))
  try simp only [Act.put, List.setIfInBounds_toArray, List.set_cons_zero, List.set_cons_succ]
  refine wpAnyH_take (i := 2) (v := ?_) (by simp only [List.getElem?_toArray, List.getElem?_cons_succ, List.getElem?_cons_zero]; rfl) (by kernel_rfl) (by kernel_rfl) (by kernel_rfl) (fun _ _ _ h => h) (Or.inl ⟨by rfl, ?_⟩) (by assumption) ?_
  rotate_left
  · (intro ww hSw; (try dsimp only at hSw); go_simp; (try with_reducible rfl))
  try simp only [Act.put, List.setIfInBounds_toArray, List.set_cons_zero, List.set_cons_succ]
  refine wpAnyH_take (i := 3) (v := ?_) (by simp only [List.getElem?_toArray, List.getElem?_cons_succ, List.getElem?_cons_zero]; rfl) (by kernel_rfl) (by kernel_rfl) (by kernel_rfl) (fun _ _ _ h => h) (Or.inl ⟨by rfl, ?_⟩) (by assumption) ?_
  rotate_left
  · (intro ww hSw; (try dsimp only at hSw); go_simp; (try with_reducible rfl))
  try simp only [Act.put, List.setIfInBounds_toArray, List.set_cons_zero, List.set_cons_succ]
  refine wpAnyH_take (i := 4) (v := ?_) (by simp only [List.getElem?_toArray, List.getElem?_cons_succ, List.getElem?_cons_zero]; rfl) (by kernel_rfl) (by kernel_rfl) (by kernel_rfl) (fun _ _ _ h => h) (Or.inl ⟨by rfl, ?_⟩) (by assumption) ?_
  rotate_left
  · (intro ww hSw; (try dsimp only at hSw); go_simp; (try with_reducible rfl))
  try simp only [Act.put, List.setIfInBounds_toArray, List.set_cons_zero, List.set_cons_succ]
  refine wpAnyH_ready (rs := [5]) (by kernel_rfl) (by simp) (AllReadyH.cons (by simp only [List.getElem?_toArray, List.getElem?_cons_succ, List.getElem?_cons_zero]; rfl) (fun K hK => ?_) AllReadyH.nil)
  go_simp
  refine (goer_any x p i q n _ HN.out).mono ?_; rintro e w1 ⟨rfl, hg, hb1⟩; have D1 := Lib.hid (C0.out.drew.call hb1); have HG := Lib.hid hg; have B1 := Lib.hid hb1; clear hb1 hg
  try go_wp2_with fail
  refine hK.out _ _ (by (first | (with_reducible exact ⟨C0.out.drew.b, C0.out.drew.a.lt, C0.out.drew.a.cell, C0.out.drew.r.lt⟩) | (with_reducible exact ⟨D1.out.b, D1.out.a.lt, D1.out.a.cell, D1.out.r.lt⟩) | (with_reducible exact ⟨D2.out.b, D2.out.a.lt, D2.out.a.cell, D2.out.r.lt⟩) | (refine two_S (t := 29) (s := 29) (w := w) ?_; (iterate 11 with_reducible refine TwoE.set2 ?_ _ _); with_reducible exact TwoE.mk D2.out))) (fun hHeld => ?_)
  clear hK K
  try simp only [Act.put, List.setIfInBounds_toArray, List.set_cons_zero, List.set_cons_succ]
  refine wpAnyH_ready (rs := [6]) (by kernel_rfl) (by simp) (AllReadyH.cons (by simp only [List.getElem?_toArray, List.getElem?_cons_succ, List.getElem?_cons_zero]; rfl) (fun K hK => ?_) AllReadyH.nil)
  go_simp
  refine (send_any x p d hd _ i q _ HX.out (H.out.below D1.out.b (Nat.le_refl _)) hi HG.out).mono ?_; rintro e w2 ⟨⟨qd, qa, qac, qk, qkc, qw, qwc⟩, rfl, wn, hb2⟩; rw [HS.out, ← HY.out] at wn ⊢; have D2 := Lib.hid (D1.out.call hb2)
  try go_wp2_with fail
  refine hK.out _ _ (by (first | (with_reducible exact ⟨C0.out.drew.b, C0.out.drew.a.lt, C0.out.drew.a.cell, C0.out.drew.r.lt⟩) | (with_reducible exact ⟨D1.out.b, D1.out.a.lt, D1.out.a.cell, D1.out.r.lt⟩) | (with_reducible exact ⟨D2.out.b, D2.out.a.lt, D2.out.a.cell, D2.out.r.lt⟩) | (refine two_S (t := 29) (s := 29) (w := w) ?_; (iterate 11 with_reducible refine TwoE.set2 ?_ _ _); with_reducible exact TwoE.mk D2.out))) (fun hHeld => ?_)
  clear hK K
  try simp only [Act.put, List.setIfInBounds_toArray, List.set_cons_zero, List.set_cons_succ]
  have WN := Lib.hid wn
  have hc2 := D2.out.r.cell
  have hz2 := D2.out.r.frozen
  have hs2 := D2.out.r.lt
  clear wn hb2
  refine wpAnyH_take (i := 7) (v := ?_) (by simp only [List.getElem?_toArray, List.getElem?_cons_succ, List.getElem?_cons_zero]; rfl) (by kernel_rfl) (by kernel_rfl) (by kernel_rfl) (fun _ _ _ h => h) (Or.inl ⟨by rfl, ?_⟩) (by assumption) ?_
  rotate_left
  · (intro ww hSw; (try dsimp only at hSw); go_simp; (try with_reducible rfl))
  try simp only [Act.put, List.setIfInBounds_toArray, List.set_cons_zero, List.set_cons_succ]
  refine wpAnyH_take (i := 8) (v := ?_) (by simp only [List.getElem?_toArray, List.getElem?_cons_succ, List.getElem?_cons_zero]; rfl) (by kernel_rfl) (by kernel_rfl) (by kernel_rfl) (fun _ _ _ h => h) (Or.inl ⟨by rfl, ?_⟩) (by assumption) ?_
  rotate_left
  · (intro ww hSw; (try dsimp only at hSw); go_simp; (try with_reducible rfl))
  try simp only [Act.put, List.setIfInBounds_toArray, List.set_cons_zero, List.set_cons_succ]
  refine wpAnyH_take (i := 9) (v := ?_) (by simp only [List.getElem?_toArray, List.getElem?_cons_succ, List.getElem?_cons_zero]; rfl) (by kernel_rfl) (by kernel_rfl) (by kernel_rfl) (fun _ _ _ h => h) (Or.inl ⟨by rfl, ?_⟩) (by assumption) ?_
  rotate_left
  · (intro ww hSw; (try dsimp only at hSw); go_simp; (try with_reducible rfl))
  try simp only [Act.put, List.setIfInBounds_toArray, List.set_cons_zero, List.set_cons_succ]
  refine wpAnyH_ready (rs := [10]) (by kernel_rfl) (by simp) (AllReadyH.cons (by simp only [List.getElem?_toArray, List.getElem?_cons_succ, List.getElem?_cons_zero]; rfl) (fun K hK => ?_) AllReadyH.nil)
  go_simp
  try go_wp2_with fail
  refine hK.out _ _ (by (first | (with_reducible exact ⟨C0.out.drew.b, C0.out.drew.a.lt, C0.out.drew.a.cell, C0.out.drew.r.lt⟩) | (with_reducible exact ⟨D1.out.b, D1.out.a.lt, D1.out.a.cell, D1.out.r.lt⟩) | (with_reducible exact ⟨D2.out.b, D2.out.a.lt, D2.out.a.cell, D2.out.r.lt⟩) | (refine two_S (t := 29) (s := 29) (w := w) ?_; (iterate 11 with_reducible refine TwoE.set2 ?_ _ _); with_reducible exact TwoE.mk D2.out))) (fun hHeld => ?_)
  clear hK K
  try simp only [Act.put, List.setIfInBounds_toArray, List.set_cons_zero, List.set_cons_succ]
  refine wpAnyH_take (i := 11) (v := ?_) (by simp only [List.getElem?_toArray, List.getElem?_cons_succ, List.getElem?_cons_zero]; rfl) (by kernel_rfl) (by kernel_rfl) (by kernel_rfl) (fun _ _ _ h => h) (Or.inl ⟨by rfl, ?_⟩) (by assumption) ?_
  rotate_left
  · (intro ww hSw; (try dsimp only at hSw); go_simp; (try with_reducible rfl))
  try simp only [Act.put, List.setIfInBounds_toArray, List.set_cons_zero, List.set_cons_succ]
  refine wpAnyH_take (i := 12) (v := ?_) (by simp only [List.getElem?_toArray, List.getElem?_cons_succ, List.getElem?_cons_zero]; rfl) (by kernel_rfl) (by kernel_rfl) (by kernel_rfl) (fun _ _ _ h => h) (Or.inl ⟨by rfl, ?_⟩) (by assumption) ?_
  rotate_left
  · (intro ww hSw; (try dsimp only at hSw); go_simp; (try with_reducible rfl))
  try simp only [Act.put, List.setIfInBounds_toArray, List.set_cons_zero, List.set_cons_succ]
  refine wpAnyH_done (by kernel_rfl) ?_ _
  refine NoPanic.normal ?_
  go_wp2_with fail
  refine bodyPost_ret (v := .tuple #[.agg #[.slice qd.ex x.d.exits.length qd.exc, .slice qd.pl x.d.players.length qd.plc, .slice qd.co x.d.coins.length qd.coc, .slice qd.it x.d.items.length qd.itc, .slice qd.bo x.d.boxes.length qd.boc, .int .i64 x.d.room, .int .i64 x.d.player, .int .i64 x.d.box, .slice qa x.at_.length qac, .slice qk x.coins.length qkc, .slice qw x.wher.length qwc], .int .i64 y.2.1, .int .i64 y.2.2]) (by simp [results, Try.results11, go_sem, hc2]) rfl ⟨⟨qd, qa, qac, qk, qkc, qw, qwc⟩, rfl, ?_, ?_⟩
  · refine Went.less (n := w1.heap.size) ?_ (by have := D1.out.r.lt; omega)
    iterate 11 refine Went.set (b := w.heap.size + 1) ?_ D1.out.r.lt _ _
    exact WN.out
  · iterate 11 refine Below.setCell ?_ (by show w.heap.size ≤ w.heap.size + 1; omega) _
    exact D2.out.b
theorem push_any (x : Wd) (p : Wp) (i : Nat) (q : Int) (d : Nat) (hd : d < 4) (w : World) (hx : rightW x = true) (h : WorldAt w p x) (hi : i < x.at_.length) : Calls Try.prog 11 #[.agg #[.slice p.d.ex x.d.exits.length p.d.exc, .slice p.d.pl x.d.players.length p.d.plc, .slice p.d.co x.d.coins.length p.d.coc, .slice p.d.it x.d.items.length p.d.itc, .slice p.d.bo x.d.boxes.length p.d.boc, .int .i64 x.d.room, .int .i64 x.d.player, .int .i64 x.d.box, .slice p.at_ x.at_.length p.atc, .slice p.co x.coins.length p.coc, .slice p.wh x.wher.length p.whc], .int .i64 (i : Int), .int .i64 q, .int .i64 (d : Int)] w fun e w' => ∃ q' : Wp, e = .returned (.tuple #[.agg #[.slice q'.d.ex x.d.exits.length q'.d.exc, .slice q'.d.pl x.d.players.length q'.d.plc, .slice q'.d.co x.d.coins.length q'.d.coc, .slice q'.d.it x.d.items.length q'.d.itc, .slice q'.d.bo x.d.boxes.length q'.d.boc, .int .i64 x.d.room, .int .i64 x.d.player, .int .i64 x.d.box, .slice q'.at_ x.at_.length q'.atc, .slice q'.co x.coins.length q'.coc, .slice q'.wh x.wher.length q'.whc], .int .i64 (pushW x i q d).2.1, .int .i64 (pushW x i q d).2.2]) ∧ Went w.heap.size w' p q' x (pushW x i q d) ∧ Below w.heap.size w w' := by
  by_cases hq : q = i
  · subst hq
    rw [push_self hi]
    exact (push_same x p i d w).mono fun e w' ⟨h1, h2⟩ => ⟨_, h1, .inl ⟨by simp, rfl, rfl⟩, h2⟩
  · exact push_other x p i q d hd hq w hx h hi
end Go.Proofs.Ytkhjmgedamndhaa
