/- desc.Copy: a world, each of its lists in memory of its own. -/
import Derived.Test.YtkhjmgedamndhaaRows
import Derived.Test.YtkhjmgedamndhaaKit
import Derived.Test.YtkhjmgedamndhaaStrs
import Derived.Test.YtkhjmgedamndhaaCoin
import Derived.Test.YtkhjmgedamndhaaBlk
import Derived.Test.YtkhjmgedamndhaaHolds
import Derived.Test.YtkhjmgedamndhaaWorldMath
import Derived.Test.YtkhjmgedamndhaaWorldAt
import Derived.Test.YtkhjmgedamndhaaDescClone
import Derived.Test.YtkhjmgedamndhaaDescCopy
import Derived.Deep.QuietTactic
import Derived.BigQuiet
import Derived.Deep.RegionHeld3
import Derived.WalkKit
import Derived.ProofKit
import Derived.OpenShut
import Derived.IntWalk
namespace Go.Proofs.Ytkhjmgedamndhaa
open Go.ChangeShapes Go.WideShapes Go.ChangeAt Go.RowKit
set_option linter.unusedVariables false
open Go.RowKit
/-- A world whose description's lists lie from block n on, ahead of its own: each of these in a block of its own, in this order. -/
structure WorldOwn (n : Nat) (W : World) (p : Wp) (x : Wd) : Prop where
  ex : ∃ m1 m2 m3 : Nat, n ≤ m1 ∧ m1 ≤ m2 ∧ m2 ≤ m3 ∧ m3 ≤ W.heap.size ∧ DescOwn n W p.d x.d ∧ (∀ q, (p.d.ex = some q ∨ p.d.pl = some q ∨ p.d.co = some q ∨ p.d.it = some q ∨ p.d.bo = some q) → q.block < m1) ∧
    OwnR 1 3 inC m1 W p.at_ x.at_ ∧ (∀ q, p.at_ = some q → q.block < m2) ∧ OwnR 1 3 inC m2 W p.co x.coins ∧ (∀ q, p.co = some q → q.block < m3) ∧ OwnR 2 57 plC m3 W p.wh x.wher
theorem WorldOwn.world {n : Nat} {W : World} {p : Wp} {x : Wd} (h : WorldOwn n W p x) : WorldAt W p x := by
  obtain ⟨m1, m2, m3, _, _, _, _, hd, _, ha, _, hc, _, hw⟩ := h.ex
  exact ⟨hd.desc, ints_row.2 ha.row, ints_row.2 hc.row, hw.row⟩
theorem WorldOwn.call {n : Nat} {W W' : World} {p : Wp} {x : Wd} (h : WorldOwn n W p x) (hb : Below W.heap.size W W') : WorldOwn n W' p x := by
  obtain ⟨m1, m2, m3, h1, h2, h3, h4, hd, hdm, ha, ham, hc, hcm, hw⟩ := h.ex
  exact ⟨m1, m2, m3, h1, h2, h3, Nat.le_trans h4 hb.size, hd.call hb, hdm, ha.call hb, ham, hc.call hb, hcm, hw.call hb⟩
theorem WorldOwn.less {n m : Nat} {W : World} {p : Wp} {x : Wd} (h : WorldOwn n W p x) (hm : m ≤ n) : WorldOwn m W p x := by
  obtain ⟨m1, m2, m3, h1, h2, h3, h4, hd, hr⟩ := h.ex
  exact ⟨m1, m2, m3, by omega, h2, h3, h4, ⟨hd.ex.less hm, hd.pl.less hm, hd.co.less hm, hd.it.less hm, hd.bo.less hm⟩, hr⟩
theorem OwnR.in_ {α : Type} {k : Nat} {e : TypeId} {enc : α → List Value} {n : Nat} {W : World} {a : Option Addr} {xs : List α} (h : OwnR k e enc n W a xs) {q : Addr} (hq : a = some q) : q.block < W.heap.size := by
  rcases h.2 with ⟨_, h⟩ | ⟨b, cs, h, _, hb, _⟩
  · rw [h] at hq; cases hq
  · rw [h] at hq; cases hq; exact hb.lt
def FewW (x : Wd) : Prop := FewD x.d ∧ x.at_.length ≤ 1000000 ∧ x.coins.length ≤ 1000000 ∧ x.wher.length ≤ 1000000
theorem world_own {n : Nat} {w1 w2 w3 w4 : World} {p : Wp} {x : Wd} (hn : n ≤ w1.heap.size) (hd : DescOwn n w1 p.d x.d) (ha : OwnR 1 3 inC w1.heap.size w2 p.at_ x.at_) (b2 : Below w1.heap.size w1 w2)
    (hc : OwnR 1 3 inC w2.heap.size w3 p.co x.coins) (b3 : Below w2.heap.size w2 w3) (hw : OwnR 2 57 plC w3.heap.size w4 p.wh x.wher) (b4 : Below w3.heap.size w3 w4) : WorldOwn n w4 p x := by
  refine ⟨w1.heap.size, w2.heap.size, w3.heap.size, hn, b2.size, b3.size, b4.size, ((hd.call b2).call b3).call b4, ?_, (ha.call b3).call b4, fun q hq => ha.in_ hq, hc.call b4, fun q hq => hc.in_ hq, hw⟩
  rintro q (h | h | h | h | h)
  · exact hd.ex.in_ h
  · exact hd.pl.in_ h
  · exact hd.co.in_ h
  · exact hd.it.in_ h
  · exact hd.bo.in_ h
theorem WorldOwn.keep {n : Nat} {W W' : World} {p : Wp} {x : Wd} (h : WorldOwn n W p x) (hs : W.heap.size ≤ W'.heap.size) (hb : ∀ b, n ≤ b → b < W.heap.size → W'.heap[b]? = W.heap[b]?) : WorldOwn n W' p x := by
  obtain ⟨m1, m2, m3, h1, h2, h3, h4, hd, hdm, ha, ham, hc, hcm, hw⟩ := h.ex
  exact ⟨m1, m2, m3, h1, h2, h3, Nat.le_trans h4 hs, hd.keep hb, hdm, ha.keep (fun b hn => hb b (by omega)), ham, hc.keep (fun b hn => hb b (by omega)), hcm, hw.keep (fun b hn => hb b (by omega))⟩
theorem WorldOwn.set {n : Nat} {W : World} {p : Wp} {x : Wd} (h : WorldOwn n W p x) {q : Nat} (hq : q < n) (i : Nat) (u : Value) : WorldOwn n (W.setCell ⟨q, i, none⟩ u) p x :=
  h.keep (by simp [World.setCell]) (fun b hn _ => Below.heap_setCell W _ u b (by show b ≠ q; omega))
def TwoE (t s : TypeId) (w v : World) (cs : Array Value) : Prop := ∃ z, Two t s w v cs z
theorem TwoE.mk {t s : TypeId} {w v : World} {cs z : Array Value} (h : Two t s w v cs z) : TwoE t s w v cs := ⟨z, h⟩
theorem TwoE.set2 {t s : TypeId} {w v : World} {cs : Array Value} (h : TwoE t s w v cs) (i : Nat) (u : Value) : TwoE t s w (v.setCell ⟨w.heap.size + 1, i, none⟩ u) cs := h.elim fun _ h => ⟨_, h.set2 i u⟩
theorem two_S {t s : TypeId} {w v : World} {cs : Array Value} (h : TwoE t s w v cs) : Below w.heap.size w v ∧ w.heap.size < v.heap.size ∧ (∀ i, v.cell? ⟨w.heap.size, i, none⟩ = cs[i]?) ∧ w.heap.size + 1 < v.heap.size := h.elim fun _ h => ⟨h.b, h.a.lt, h.a.cell, h.r.lt⟩
set_option maxRecDepth 100000 in
theorem copy_any (x : Wd) (p : Wp) (w : World) (h : WorldAt w p x) (hf : FewW x) :
    Calls Try.prog 30 #[.agg #[.slice p.d.ex x.d.exits.length p.d.exc, .slice p.d.pl x.d.players.length p.d.plc, .slice p.d.co x.d.coins.length p.d.coc, .slice p.d.it x.d.items.length p.d.itc, .slice p.d.bo x.d.boxes.length p.d.boc, .int .i64 x.d.room, .int .i64 x.d.player, .int .i64 x.d.box, .slice p.at_ x.at_.length p.atc, .slice p.co x.coins.length p.coc, .slice p.wh x.wher.length p.whc]] w fun e w' => ∃ p' : Wp, e = .returned (.agg #[.slice p'.d.ex x.d.exits.length p'.d.exc, .slice p'.d.pl x.d.players.length p'.d.plc, .slice p'.d.co x.d.coins.length p'.d.coc, .slice p'.d.it x.d.items.length p'.d.itc, .slice p'.d.bo x.d.boxes.length p'.d.boc, .int .i64 x.d.room, .int .i64 x.d.player, .int .i64 x.d.box, .slice p'.at_ x.at_.length p'.atc, .slice p'.co x.coins.length p'.coc, .slice p'.wh x.wher.length p'.whc]) ∧ WorldOwn w.heap.size w' p' x ∧ Below w.heap.size w w' := by
  have H := Lib.hid h
  have HF := Lib.hid hf
  clear h hf
  have C0 := Lib.hid (Two.start 29 29 w #[.slice p.d.ex x.d.exits.length p.d.exc, .slice p.d.pl x.d.players.length p.d.plc, .slice p.d.co x.d.coins.length p.d.coc, .slice p.d.it x.d.items.length p.d.itc, .slice p.d.bo x.d.boxes.length p.d.boc, .int .i64 x.d.room, .int .i64 x.d.player, .int .i64 x.d.box, .slice p.at_ x.at_.length p.atc, .slice p.co x.coins.length p.coc, .slice p.wh x.wher.length p.whc] #[.slice none 0 0, .slice none 0 0, .slice none 0 0, .slice none 0 0, .slice none 0 0, .int .i64 0, .int .i64 0, .int .i64 0, .slice none 0 0, .slice none 0 0, .slice none 0 0])
  go_enter Try.func30, Try.ntmps30
  go_wp2_with fail
  refine wp_region_noPanic ?_
  refine wp_region_held_drew (S := (fun w' => Below w.heap.size w w' ∧ w.heap.size < w'.heap.size ∧ (∀ i, w'.cell? ⟨w.heap.size, i, none⟩ = (#[.slice p.d.ex x.d.exits.length p.d.exc, .slice p.d.pl x.d.players.length p.d.plc, .slice p.d.co x.d.coins.length p.d.coc, .slice p.d.it x.d.items.length p.d.itc, .slice p.d.bo x.d.boxes.length p.d.boc, .int .i64 x.d.room, .int .i64 x.d.player, .int .i64 x.d.box, .slice p.at_ x.at_.length p.atc, .slice p.co x.coins.length p.coc, .slice p.wh x.wher.length p.whc][i]? : Option Value)) ∧ w.heap.size + 1 < w'.heap.size)) (by kernel_rfl) (by (first | (with_reducible exact ⟨C0.out.drew.b, C0.out.drew.a.lt, C0.out.drew.a.cell, C0.out.drew.r.lt⟩) | (with_reducible exact ⟨D1.out.b, D1.out.a.lt, D1.out.a.cell, D1.out.r.lt⟩) | (with_reducible exact ⟨D2.out.b, D2.out.a.lt, D2.out.a.cell, D2.out.r.lt⟩) | (with_reducible exact ⟨D3.out.b, D3.out.a.lt, D3.out.a.cell, D3.out.r.lt⟩) | (with_reducible exact ⟨D4.out.b, D4.out.a.lt, D4.out.a.cell, D4.out.r.lt⟩) | (refine two_S (t := 29) (s := 29) (w := w) ?_; (iterate 11 with_reducible refine TwoE.set2 ?_ _ _); with_reducible exact TwoE.mk D4.out))) (fun hHeld => ?_)
  refine wpAnyH_take (i := 0) (v := ?_) (by simp only [List.getElem?_toArray, List.getElem?_cons_zero]; rfl) (by kernel_rfl) (by kernel_rfl) (by kernel_rfl) (fun _ _ _ h => h) (Or.inl ⟨by rfl, ?_⟩) (by assumption) ?_
  rotate_left
  · (intro ww hSw; (try dsimp only at hSw); go_simp; (try with_reducible rfl))
  try simp only [Act.put, List.setIfInBounds_toArray, List.set_cons_zero, List.set_cons_succ]
  refine wpAnyH_take (i := 1) (v := ?_) (by simp only [List.getElem?_toArray, List.getElem?_cons_succ, List.getElem?_cons_zero]; rfl) (by kernel_rfl) (by kernel_rfl) (by kernel_rfl) (fun _ _ _ h => h) (Or.inl ⟨by rfl, ?_⟩) (by assumption) ?_
  rotate_left
  · (intro ww hSw; (try dsimp only at hSw); go_simp; (try with_reducible rfl))
  try simp only [Act.put, List.setIfInBounds_toArray, List.set_cons_zero, List.set_cons_succ]
  refine wpAnyH_take (i := 3) (v := ?_) (by simp only [List.getElem?_toArray, List.getElem?_cons_succ, List.getElem?_cons_zero]; rfl) (by kernel_rfl) (by kernel_rfl) (by kernel_rfl) (fun _ _ _ h => h) (Or.inl ⟨by rfl, ?_⟩) (by assumption) ?_
  rotate_left
  · (intro ww hSw; (try dsimp only at hSw); go_simp; (try with_reducible rfl))
  try simp only [Act.put, List.setIfInBounds_toArray, List.set_cons_zero, List.set_cons_succ]
  refine wpAnyH_take (i := 4) (v := ?_) (by simp only [List.getElem?_toArray, List.getElem?_cons_succ, List.getElem?_cons_zero]; rfl) (by kernel_rfl) (by kernel_rfl) (by kernel_rfl) (fun _ _ _ h => h) (Or.inl ⟨by rfl, ?_⟩) (by assumption) ?_
  rotate_left
  · (intro ww hSw; (try dsimp only at hSw); go_simp; (try with_reducible rfl))
  try simp only [Act.put, List.setIfInBounds_toArray, List.set_cons_zero, List.set_cons_succ]
  refine wpAnyH_take (i := 6) (v := ?_) (by simp only [List.getElem?_toArray, List.getElem?_cons_succ, List.getElem?_cons_zero]; rfl) (by kernel_rfl) (by kernel_rfl) (by kernel_rfl) (fun _ _ _ h => h) (Or.inl ⟨by rfl, ?_⟩) (by assumption) ?_
  rotate_left
  · (intro ww hSw; (try dsimp only at hSw); go_simp; (try with_reducible rfl))
  try simp only [Act.put, List.setIfInBounds_toArray, List.set_cons_zero, List.set_cons_succ]
  refine wpAnyH_take (i := 7) (v := ?_) (by simp only [List.getElem?_toArray, List.getElem?_cons_succ, List.getElem?_cons_zero]; rfl) (by kernel_rfl) (by kernel_rfl) (by kernel_rfl) (fun _ _ _ h => h) (Or.inl ⟨by rfl, ?_⟩) (by assumption) ?_
  rotate_left
  · (intro ww hSw; (try dsimp only at hSw); go_simp; (try with_reducible rfl))
  try simp only [Act.put, List.setIfInBounds_toArray, List.set_cons_zero, List.set_cons_succ]
  refine wpAnyH_take (i := 9) (v := ?_) (by simp only [List.getElem?_toArray, List.getElem?_cons_succ, List.getElem?_cons_zero]; rfl) (by kernel_rfl) (by kernel_rfl) (by kernel_rfl) (fun _ _ _ h => h) (Or.inl ⟨by rfl, ?_⟩) (by assumption) ?_
  rotate_left
  · (intro ww hSw; (try dsimp only at hSw); go_simp; (try with_reducible rfl))
  try simp only [Act.put, List.setIfInBounds_toArray, List.set_cons_zero, List.set_cons_succ]
  refine wpAnyH_take (i := 10) (v := ?_) (by simp only [List.getElem?_toArray, List.getElem?_cons_succ, List.getElem?_cons_zero]; rfl) (by kernel_rfl) (by kernel_rfl) (by kernel_rfl) (fun _ _ _ h => h) (Or.inl ⟨by rfl, ?_⟩) (by assumption) ?_
  rotate_left
  · (intro ww hSw; (try dsimp only at hSw); go_simp; (try with_reducible rfl))
  try simp only [Act.put, List.setIfInBounds_toArray, List.set_cons_zero, List.set_cons_succ]
  refine wpAnyH_ready (rs := [2]) (by kernel_rfl) (by simp) (AllReadyH.cons (by simp only [List.getElem?_toArray, List.getElem?_cons_succ, List.getElem?_cons_zero]; rfl) (fun K hK => ?_) AllReadyH.nil)
  go_simp
  refine (copydesc_any x.d p.d _ (H.out.d.below C0.out.drew.b (Nat.le_refl _)) HF.out.1).mono ?_; rintro e w1 ⟨q, rfl, od, hb1⟩; have D1 := Lib.hid (C0.out.drew.call hb1)
  try go_wp2_with fail
  refine hK.out _ _ (by (first | (with_reducible exact ⟨C0.out.drew.b, C0.out.drew.a.lt, C0.out.drew.a.cell, C0.out.drew.r.lt⟩) | (with_reducible exact ⟨D1.out.b, D1.out.a.lt, D1.out.a.cell, D1.out.r.lt⟩) | (with_reducible exact ⟨D2.out.b, D2.out.a.lt, D2.out.a.cell, D2.out.r.lt⟩) | (with_reducible exact ⟨D3.out.b, D3.out.a.lt, D3.out.a.cell, D3.out.r.lt⟩) | (with_reducible exact ⟨D4.out.b, D4.out.a.lt, D4.out.a.cell, D4.out.r.lt⟩) | (refine two_S (t := 29) (s := 29) (w := w) ?_; (iterate 11 with_reducible refine TwoE.set2 ?_ _ _); with_reducible exact TwoE.mk D4.out))) (fun hHeld => ?_)
  clear hK K
  try simp only [Act.put, List.setIfInBounds_toArray, List.set_cons_zero, List.set_cons_succ]
  refine wpAnyH_ready (rs := [5]) (by kernel_rfl) (by simp) (AllReadyH.cons (by simp only [List.getElem?_toArray, List.getElem?_cons_succ, List.getElem?_cons_zero]; rfl) (fun K hK => ?_) AllReadyH.nil)
  go_simp
  refine (clone_ints _ _ x.at_ _ (ints_row.1 (H.out.at_.below D1.out.b (Nat.le_refl _))) HF.out.2.1).mono ?_; rintro e w2 ⟨g1, c1, rfl, o1, hb2⟩; have D2 := Lib.hid (D1.out.call hb2)
  try go_wp2_with fail
  refine hK.out _ _ (by (first | (with_reducible exact ⟨C0.out.drew.b, C0.out.drew.a.lt, C0.out.drew.a.cell, C0.out.drew.r.lt⟩) | (with_reducible exact ⟨D1.out.b, D1.out.a.lt, D1.out.a.cell, D1.out.r.lt⟩) | (with_reducible exact ⟨D2.out.b, D2.out.a.lt, D2.out.a.cell, D2.out.r.lt⟩) | (with_reducible exact ⟨D3.out.b, D3.out.a.lt, D3.out.a.cell, D3.out.r.lt⟩) | (with_reducible exact ⟨D4.out.b, D4.out.a.lt, D4.out.a.cell, D4.out.r.lt⟩) | (refine two_S (t := 29) (s := 29) (w := w) ?_; (iterate 11 with_reducible refine TwoE.set2 ?_ _ _); with_reducible exact TwoE.mk D4.out))) (fun hHeld => ?_)
  clear hK K
  try simp only [Act.put, List.setIfInBounds_toArray, List.set_cons_zero, List.set_cons_succ]
  refine wpAnyH_ready (rs := [8]) (by kernel_rfl) (by simp) (AllReadyH.cons (by simp only [List.getElem?_toArray, List.getElem?_cons_succ, List.getElem?_cons_zero]; rfl) (fun K hK => ?_) AllReadyH.nil)
  go_simp
  refine (clone_ints _ _ x.coins _ (ints_row.1 (H.out.co.below D2.out.b (Nat.le_refl _))) HF.out.2.2.1).mono ?_; rintro e w3 ⟨g2, c2, rfl, o2, hb3⟩; have D3 := Lib.hid (D2.out.call hb3)
  try go_wp2_with fail
  refine hK.out _ _ (by (first | (with_reducible exact ⟨C0.out.drew.b, C0.out.drew.a.lt, C0.out.drew.a.cell, C0.out.drew.r.lt⟩) | (with_reducible exact ⟨D1.out.b, D1.out.a.lt, D1.out.a.cell, D1.out.r.lt⟩) | (with_reducible exact ⟨D2.out.b, D2.out.a.lt, D2.out.a.cell, D2.out.r.lt⟩) | (with_reducible exact ⟨D3.out.b, D3.out.a.lt, D3.out.a.cell, D3.out.r.lt⟩) | (with_reducible exact ⟨D4.out.b, D4.out.a.lt, D4.out.a.cell, D4.out.r.lt⟩) | (refine two_S (t := 29) (s := 29) (w := w) ?_; (iterate 11 with_reducible refine TwoE.set2 ?_ _ _); with_reducible exact TwoE.mk D4.out))) (fun hHeld => ?_)
  clear hK K
  try simp only [Act.put, List.setIfInBounds_toArray, List.set_cons_zero, List.set_cons_succ]
  refine wpAnyH_ready (rs := [11]) (by kernel_rfl) (by simp) (AllReadyH.cons (by simp only [List.getElem?_toArray, List.getElem?_cons_succ, List.getElem?_cons_zero]; rfl) (fun K hK => ?_) AllReadyH.nil)
  go_simp
  refine (clone_places _ _ x.wher _ (H.out.wh.below D3.out.b (Nat.le_refl _)) HF.out.2.2.2).mono ?_; rintro e w4 ⟨g3, c3, rfl, o3, hb4⟩; have D4 := Lib.hid (D3.out.call hb4)
  try go_wp2_with fail
  refine hK.out _ _ (by (first | (with_reducible exact ⟨C0.out.drew.b, C0.out.drew.a.lt, C0.out.drew.a.cell, C0.out.drew.r.lt⟩) | (with_reducible exact ⟨D1.out.b, D1.out.a.lt, D1.out.a.cell, D1.out.r.lt⟩) | (with_reducible exact ⟨D2.out.b, D2.out.a.lt, D2.out.a.cell, D2.out.r.lt⟩) | (with_reducible exact ⟨D3.out.b, D3.out.a.lt, D3.out.a.cell, D3.out.r.lt⟩) | (with_reducible exact ⟨D4.out.b, D4.out.a.lt, D4.out.a.cell, D4.out.r.lt⟩) | (refine two_S (t := 29) (s := 29) (w := w) ?_; (iterate 11 with_reducible refine TwoE.set2 ?_ _ _); with_reducible exact TwoE.mk D4.out))) (fun hHeld => ?_)
  clear hK K
  try simp only [Act.put, List.setIfInBounds_toArray, List.set_cons_zero, List.set_cons_succ]
  have O := Lib.hid (world_own (p := ⟨q, g1, c1, g2, c2, g3, c3⟩) (x := x) (show w.heap.size + 2 ≤ w1.heap.size from D1.out.size) (show DescOwn (w.heap.size + 2) w1 q x.d from ⟨od.ex.less C0.out.size, od.pl.less C0.out.size, od.co.less C0.out.size, od.it.less C0.out.size, od.bo.less C0.out.size⟩) o1 hb2 o2 hb3 o3 hb4)
  have hc2 := D4.out.r.cell
  have hz2 := D4.out.r.frozen
  have hs2 := D4.out.size
  clear od o1 o2 o3 hb1 hb2 hb3 hb4
  refine wpAnyH_take (i := 12) (v := ?_) (by simp only [List.getElem?_toArray, List.getElem?_cons_succ, List.getElem?_cons_zero]; rfl) (by kernel_rfl) (by kernel_rfl) (by kernel_rfl) (fun _ _ _ h => h) (Or.inl ⟨by rfl, ?_⟩) (by assumption) ?_
  rotate_left
  · (intro ww hSw; (try dsimp only at hSw); go_simp; (try with_reducible rfl))
  try simp only [Act.put, List.setIfInBounds_toArray, List.set_cons_zero, List.set_cons_succ]
  refine wpAnyH_ready (rs := [13]) (by kernel_rfl) (by simp) (AllReadyH.cons (by simp only [List.getElem?_toArray, List.getElem?_cons_succ, List.getElem?_cons_zero]; rfl) (fun K hK => ?_) AllReadyH.nil)
  go_simp
  try go_wp2_with fail
  refine hK.out _ _ (by (first | (with_reducible exact ⟨C0.out.drew.b, C0.out.drew.a.lt, C0.out.drew.a.cell, C0.out.drew.r.lt⟩) | (with_reducible exact ⟨D1.out.b, D1.out.a.lt, D1.out.a.cell, D1.out.r.lt⟩) | (with_reducible exact ⟨D2.out.b, D2.out.a.lt, D2.out.a.cell, D2.out.r.lt⟩) | (with_reducible exact ⟨D3.out.b, D3.out.a.lt, D3.out.a.cell, D3.out.r.lt⟩) | (with_reducible exact ⟨D4.out.b, D4.out.a.lt, D4.out.a.cell, D4.out.r.lt⟩) | (refine two_S (t := 29) (s := 29) (w := w) ?_; (iterate 11 with_reducible refine TwoE.set2 ?_ _ _); with_reducible exact TwoE.mk D4.out))) (fun hHeld => ?_)
  clear hK K
  try simp only [Act.put, List.setIfInBounds_toArray, List.set_cons_zero, List.set_cons_succ]
  refine wpAnyH_done (by kernel_rfl) ?_ _
  refine NoPanic.normal ?_
  go_wp2_with fail
  refine bodyPost_ret (v := .agg #[.slice q.ex x.d.exits.length q.exc, .slice q.pl x.d.players.length q.plc, .slice q.co x.d.coins.length q.coc, .slice q.it x.d.items.length q.itc, .slice q.bo x.d.boxes.length q.boc, .int .i64 x.d.room, .int .i64 x.d.player, .int .i64 x.d.box, .slice g1 x.at_.length c1, .slice g2 x.coins.length c2, .slice g3 x.wher.length c3]) (by simp [results, Try.results30, go_sem, hc2]) rfl ⟨⟨q, g1, c1, g2, c2, g3, c3⟩, rfl, ?_, ?_⟩
  · refine WorldOwn.less (n := w.heap.size + 2) ?_ (by omega)
    iterate 11 refine WorldOwn.set (q := w.heap.size + 1) ?_ (by omega) _ _
    exact O.out
  · iterate 11 refine Below.setCell ?_ (by show w.heap.size ≤ w.heap.size + 1; omega) _
    exact D4.out.b
end Go.Proofs.Ytkhjmgedamndhaa
