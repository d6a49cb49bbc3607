/- gifts: stores into one block leave a world's own lists; and what partners, bring say of lists of items. -/
import Derived.Test.YtcigbliilmonfaaRows
import Derived.Test.YtcigbliilmonfaaKit
import Derived.Test.YtcigbliilmonfaaGMem
import Derived.Test.YtcigbliilmonfaaCoin
import Derived.Test.YtcigbliilmonfaaGWorld
import Derived.Test.YtcigbliilmonfaaGCopy
import Derived.Test.YtcigbliilmonfaaGDescN
import Derived.Test.YtcigbliilmonfaaGRight
import Derived.Test.YtcigbliilmonfaaGRefD
import Derived.Test.YtcigbliilmonfaaGEq
import Derived.Test.YtcigbliilmonfaaGAs
import Derived.Test.YtcigbliilmonfaaGTreeL
import Derived.Test.YtcigbliilmonfaaGHoldA
import Derived.Test.YtcigbliilmonfaaGiftMath
import Derived.Test.YtcigbliilmonfaaGiftMath4
import Derived.Test.YtcigbliilmonfaaGiftA
import Derived.Test.YtcigbliilmonfaaGiftB
import Derived.Test.YtcigbliilmonfaaGiftRep
import Derived.Test.YtcigbliilmonfaaGiftC
import Derived.Deep.QuietTactic
import Derived.BigQuiet
import Derived.Deep.RegionHeld3
import Derived.WalkKit
import Derived.ProofKit
import Derived.OpenShut
import Derived.IntWalk
namespace Go.Proofs.Ytcigbliilmonfaa
open Go.ChangeShapes Go.WideShapes Go.ChangeAt Go.RowKit
set_option linter.unusedVariables false
open Go.RowKit
/-- Nothing but block N was written. -/
def OnlyN (N : Nat) (W W' : World) : Prop := W.heap.size ≤ W'.heap.size ∧ ∀ b, b ≠ N → b < W.heap.size → W'.heap[b]? = W.heap[b]?
theorem OnlyN.refl (N : Nat) (W : World) : OnlyN N W W := ⟨Nat.le_refl _, fun _ _ _ => rfl⟩
theorem OnlyN.set {N : Nat} {W W' : World} (h : OnlyN N W W') (i : Nat) (u : Value) : OnlyN N W (W'.setCell ⟨N, i, none⟩ u) :=
  ⟨by simpa [World.setCell] using h.1, fun b hb hl => (Below.heap_setCell W' _ u b (by show b ≠ N; exact hb)).trans (h.2 b hb hl)⟩
theorem OnlyN.drew {N : Nat} {W W' : World} (h : OnlyN N W W') : OnlyN N W W'.drew := h
theorem OwnR.only {α : Type} {k : Nat} {e t : TypeId} {enc : α → List Value} {n N : Nat} {W W' : World} {a : Option Addr} {xs : List α} {cs : Array Value} (h : OwnR k e enc n W a xs) (hN : Blk W N t cs) (hne : e ≠ t) (ho : OnlyN N W W') : OwnR k e enc n W' a xs := by
  obtain ⟨hl, h⟩ := h
  refine ⟨hl, h.imp id ?_⟩
  rintro ⟨b, cs', rfl, hn, hB, hc⟩
  refine ⟨b, cs', rfl, hn, (ho.2 b (fun e1 => ?_) hB.lt).trans hB, hc⟩
  subst e1
  unfold Blk at hN hB
  rw [hN] at hB
  simp only [Option.some.injEq, Obj.cells.injEq] at hB
  exact hne hB.2.1.symm
theorem WorldOwn.only {n N : Nat} {W W' : World} {p : Wp} {x : Wd} {cs : Array Value} (h : WorldOwn n W p x) (hN : Blk W N 29 cs) (ho : OnlyN N W W') : WorldOwn n W' p x := by
  obtain ⟨m1, m2, m3, h1, h2, h3, h4, hd, hdm, ha, ham, hc, hcm, hw⟩ := h.ex
  exact ⟨m1, m2, m3, h1, h2, h3, Nat.le_trans h4 ho.1, ⟨hd.ex.only hN (by decide) ho, hd.pl.only hN (by decide) ho, hd.co.only hN (by decide) ho, hd.it.only hN (by decide) ho, hd.bo.only hN (by decide) ho⟩, hdm, ha.only hN (by decide) ho, ham, hc.only hN (by decide) ho, hcm, hw.only hN (by decide) ho⟩
theorem WorldOwn.drew_ {n : Nat} {W : World} {p : Wp} {x : Wd} (h : WorldOwn n W p x) : WorldOwn n W.drew p x := h.call (bdrew1 (Below.refl _ _))
theorem Tri.far {t u s : TypeId} {w v : World} {cs ds z : Array Value} (h : Tri t u s w v cs ds z) {g : Nat} (hg : w.heap.size + 3 ≤ g) (i : Nat) (y : Value) : Tri t u s w (v.setCell ⟨g, i, none⟩ y) cs ds z :=
  ⟨h.a.far (by show w.heap.size ≠ g; omega) y, h.m.far (by show w.heap.size + 1 ≠ g; omega) y, h.r.far (by show w.heap.size + 2 ≠ g; omega) y, h.b.setCell (by show w.heap.size ≤ g; omega) y⟩
theorem tri_S1 {t u s : TypeId} {w v : World} {cs ds z : Array Value} (h : Tri t u s w v cs ds z) : Below w.heap.size w v ∧ (∀ j, v.cell? ⟨w.heap.size + 1, j, none⟩ = (ds[j]? : Option Value)) := ⟨h.b, h.m.cell⟩
def OffG (a b : Nat) (A B : Array Value) (W : World) : Prop := (∀ j, W.cell? ⟨a, j, none⟩ = (A[j]? : Option Value)) ∧ (∀ j, W.cell? ⟨b, j, none⟩ = (B[j]? : Option Value))
theorem OffG.set {a b r : Nat} {A B : Array Value} {W : World} (ha : a ≠ r) (hb : b ≠ r) (h : OffG a b A B W) (i : Nat) (u : Value) : OffG a b A B (W.setCell ⟨r, i, none⟩ u) :=
  ⟨fun j => (World.cell?_setCell_far _ _ _ _ (by simpa using Ne.symm ha)).trans (h.1 j), fun j => (World.cell?_setCell_far _ _ _ _ (by simpa using Ne.symm hb)).trans (h.2 j)⟩
theorem OffG.drew {a b : Nat} {A B : Array Value} {W : World} (h : OffG a b A B W) : OffG a b A B W.drew := h
/-- The coins of two players are written. -/
def coinsW (x : Wd) (i q : Nat) (a b : Int) : Wd := ⟨x.d, x.at_, (x.coins.set i a).set q b, x.wher⟩
theorem coinsW_shape (x : Wd) (i q : Nat) (a b : Int) : Shape x (coinsW x i q a b) := ⟨rfl, rfl, rfl, rfl, rfl, rfl, rfl, rfl, rfl, by simp [coinsW], rfl⟩
theorem coinsW_few {x : Wd} (h : FewW x) (i q : Nat) (a b : Int) : FewW (coinsW x i q a b) := ⟨h.1, h.2.1, by simpa [coinsW] using h.2.2.1, h.2.2.2⟩
theorem Shape.trans' {x y z : Wd} (s1 : Shape x y) (s2 : Shape y z) : Shape x z :=
  ⟨s2.ex.trans s1.ex, s2.pl.trans s1.pl, s2.co.trans s1.co, s2.it.trans s1.it, s2.bo.trans s1.bo, s2.r.trans s1.r, s2.p.trans s1.p, s2.b.trans s1.b, s2.at_.trans s1.at_, s2.c.trans s1.c, s2.w.trans s1.w⟩
theorem coins_trW (x : Wd) (i q : Nat) (gs ws : List Nat) (a b : Int) : setLW (setLW (coinsW x i q a b) gs ⟨1, (q : Int)⟩) ws ⟨1, (i : Int)⟩ = trW x i q gs ws a b := rfl
theorem partners_nat (x : Wd) (p : Wp) (i q : Nat) (kd di it bx pay fee : Int) (gs ws : List Nat) (ga wa : Option Addr) (gc wc : Nat) (w : World) (hx : rightW x = true) (h : WorldAt w p x) (hi : i < x.at_.length) (hg : IntsAt w ga (gs.map fun (k : Nat) => (k : Int))) (hw : IntsAt w wa (ws.map fun (k : Nat) => (k : Int))) :
    Calls Try.prog 28 #[.agg #[.slice p.d.ex x.d.exits.length p.d.exc, .slice p.d.pl x.d.players.length p.d.plc, .slice p.d.co x.d.coins.length p.d.coc, .slice p.d.it x.d.items.length p.d.itc, .slice p.d.bo x.d.boxes.length p.d.boc, .int .i64 x.d.room, .int .i64 x.d.player, .int .i64 x.d.box, .slice p.at_ x.at_.length p.atc, .slice p.co x.coins.length p.coc, .slice p.wh x.wher.length p.whc], .int .i64 (i : Int), .agg #[.int .i64 kd, .int .i64 di, .int .i64 it, .int .i64 bx, .int .i64 (q : Int), .slice ga gs.length gc, .int .i64 pay, .slice wa ws.length wc, .int .i64 fee]] w fun e w' => e = .returned (.int .i64 (partE x i q (gs.map fun (k : Nat) => (k : Int)) (ws.map fun (k : Nat) => (k : Int)))) ∧ Below w.heap.size w w' := by
  have h := partners_any x p.d p.at_ p.co p.wh p.atc p.coc p.whc i kd di it bx q pay fee (gs.map fun (k : Nat) => (k : Int)) (ws.map fun (k : Nat) => (k : Int)) ga wa gc wc w hx h.at_ hi hg hw
  rw [List.length_map, List.length_map] at h
  exact h
theorem gbring_as {x z : Wd} (hs : Shape x z) (p : Wp) (l : List Nat) (a : Option Addr) (c : Nat) (i : Nat) (w : World) (n : Nat) (hn : n ≤ w.heap.size) (h : WorldOwn n w p z) (hf : FewW z) (hi : IntsAt w a (l.map fun (k : Nat) => (k : Int))) (hl : ∀ k ∈ l, k < z.wher.length) :
    Calls Try.prog 32 #[.agg #[.slice p.d.ex x.d.exits.length p.d.exc, .slice p.d.pl x.d.players.length p.d.plc, .slice p.d.co x.d.coins.length p.d.coc, .slice p.d.it x.d.items.length p.d.itc, .slice p.d.bo x.d.boxes.length p.d.boc, .int .i64 x.d.room, .int .i64 x.d.player, .int .i64 x.d.box, .slice p.at_ x.at_.length p.atc, .slice p.co x.coins.length p.coc, .slice p.wh x.wher.length p.whc], .slice a l.length c, .agg #[.int .i64 1, .int .i64 (i : Int)]] w fun e w' => ∃ q : Wp, e = .returned (.agg #[.slice q.d.ex x.d.exits.length q.d.exc, .slice q.d.pl x.d.players.length q.d.plc, .slice q.d.co x.d.coins.length q.d.coc, .slice q.d.it x.d.items.length q.d.itc, .slice q.d.bo x.d.boxes.length q.d.boc, .int .i64 x.d.room, .int .i64 x.d.player, .int .i64 x.d.box, .slice q.at_ x.at_.length q.atc, .slice q.co x.coins.length q.coc, .slice q.wh x.wher.length q.whc]) ∧ WorldOwn n w' q (setLW z l ⟨1, (i : Int)⟩) ∧ Below w.heap.size w w' := by
  have := gbring_any z p l a c ⟨1, (i : Int)⟩ w n hn h hf hi hl
  simp only [hs.val] at this
  exact this
theorem coin_at {x : Wd} (hx : rightW x = true) {i : Nat} (hi : i < x.at_.length) : ∃ h : i < x.coins.length, x.coins[i] = coinOf x i ∧ 0 ≤ coinOf x i ∧ coinOf x i ≤ 1073741824 := by
  have h : i < x.coins.length := by rw [(right_lens hx).2.2.1]; exact hi
  have e : x.coins[i] = coinOf x i := by simp [coinOf, List.getD, List.getElem?_eq_getElem h]
  refine ⟨h, e, ?_⟩
  rw [← e]
  exact (right_in hx).2.1 _ (List.getElem_mem h)
end Go.Proofs.Ytcigbliilmonfaa
