/- Worlds whose lists lie elsewhere than in one block: a store into it leaves them. -/
import Derived.Test.YtkhjmgedamndhaaRows
import Derived.Test.YtkhjmgedamndhaaKit
import Derived.Test.YtkhjmgedamndhaaSlices
import Derived.Test.YtkhjmgedamndhaaStrs
import Derived.Test.YtkhjmgedamndhaaCoin
import Derived.Test.YtkhjmgedamndhaaBlk
import Derived.Test.YtkhjmgedamndhaaHolds
import Derived.Test.YtkhjmgedamndhaaWorldMath
import Derived.Test.YtkhjmgedamndhaaWorldAt
import Derived.Test.YtkhjmgedamndhaaDescNest
import Derived.Test.YtkhjmgedamndhaaDescRight
import Derived.Test.YtkhjmgedamndhaaDescCopy
import Derived.Test.YtkhjmgedamndhaaDescCopy2
import Derived.Test.YtkhjmgedamndhaaDescStore
import Derived.Test.YtkhjmgedamndhaaDescAs
import Derived.Test.YtkhjmgedamndhaaTreeMath
import Derived.Test.YtkhjmgedamndhaaTreeIs
import Derived.Test.YtkhjmgedamndhaaTreeArg
import Derived.Test.YtkhjmgedamndhaaWaysMath
import Derived.Test.YtkhjmgedamndhaaWaysA
import Derived.Test.YtkhjmgedamndhaaWaysB
import Derived.Test.YtkhjmgedamndhaaWaysC
import Derived.Test.YtkhjmgedamndhaaWaysAs
import Derived.WalkKit
import Derived.ProofKit
import Derived.OpenShut
import Derived.IntWalk
namespace Go.Proofs.Ytkhjmgedamndhaa
open Go.ChangeShapes Go.WideShapes Go.ChangeAt Go.RowKit
set_option linter.unusedVariables false
open Go.RowKit
def RowOff {α : Type} (b : Nat) (a : Option Addr) (xs : List α) : Prop := xs = [] ∨ ∀ r, a = some r → r.block ≠ b
theorem RowAt.off {α : Type} {k : Nat} {enc : α → List Value} {W : World} {a : Option Addr} {xs : List α} (h : RowAt k enc W a xs) {b : Nat} (ho : RowOff b a xs) (i : Nat) (u : Value) : RowAt k enc (W.setCell ⟨b, i, none⟩ u) a xs := by
  obtain ⟨hl, h⟩ := h
  refine ⟨hl, ?_⟩
  rcases ho with ho | ho
  · exact .inl ho
  rcases h with h | ⟨b', off, rfl, hb, hc⟩
  · exact .inl h
  · have hne : b' ≠ b := ho _ rfl
    exact .inr ⟨b', off, rfl, by simpa [World.setCell] using hb, fun j hj r hr => (World.cell?_setCell_far _ _ _ _ (by show b ≠ b'; exact fun e => hne e.symm)).trans (hc j hj r hr)⟩
theorem RowAt.out {α : Type} {k : Nat} {enc : α → List Value} {W : World} {a : Option Addr} {xs : List α} (h : RowAt k enc W a xs) {b : Nat} (hb : W.heap.size ≤ b) : RowOff b a xs := by
  rcases h.2 with h | ⟨b', off, rfl, h2, _⟩
  · exact .inl h
  · exact .inr fun r hr => by cases hr; show b' ≠ b; omega
theorem OwnR.off {α : Type} {k : Nat} {e : TypeId} {enc : α → List Value} {n : Nat} {W : World} {a : Option Addr} {xs : List α} (h : OwnR k e enc n W a xs) {b : Nat} (hb : b < n) : RowOff b a xs :=
  .inr fun r hr => by have := h.from_ hr; omega
structure WOff (b : Nat) (q : Wp) (y : Wd) : Prop where
  ex : RowOff b q.d.ex y.d.exits
  pl : RowOff b q.d.pl y.d.players
  co : RowOff b q.d.co y.d.coins
  it : RowOff b q.d.it y.d.items
  bo : RowOff b q.d.bo y.d.boxes
  at_ : RowOff b q.at_ y.at_
  cn : RowOff b q.co y.coins
  wh : RowOff b q.wh y.wher
theorem WorldAt.out {W : World} {q : Wp} {y : Wd} (h : WorldAt W q y) {b : Nat} (hb : W.heap.size ≤ b) : WOff b q y :=
  ⟨h.d.ex.out hb, (ints_row.1 h.d.pl).out hb, (ints_row.1 h.d.co).out hb, (ints_row.1 h.d.it).out hb, h.d.bo.out hb, (ints_row.1 h.at_).out hb, (ints_row.1 h.co).out hb, h.wh.out hb⟩
theorem WorldOwn.off {n : Nat} {W : World} {q : Wp} {y : Wd} (h : WorldOwn n W q y) {b : Nat} (hb : b < n) : WOff b q y := by
  obtain ⟨m1, m2, m3, h1, h2, h3, h4, hd, hdm, ha, ham, hc, hcm, hw⟩ := h.ex
  exact ⟨hd.ex.off hb, hd.pl.off hb, hd.co.off hb, hd.it.off hb, hd.bo.off hb, ha.off (by omega), hc.off (by omega), hw.off (by omega)⟩
theorem WorldAt.set {W : World} {q : Wp} {y : Wd} (h : WorldAt W q y) {b : Nat} (ho : WOff b q y) (i : Nat) (u : Value) : WorldAt (W.setCell ⟨b, i, none⟩ u) q y :=
  ⟨⟨h.d.ex.off ho.ex i u, ints_row.2 ((ints_row.1 h.d.pl).off ho.pl i u), ints_row.2 ((ints_row.1 h.d.co).off ho.co i u), ints_row.2 ((ints_row.1 h.d.it).off ho.it i u), h.d.bo.off ho.bo i u⟩, ints_row.2 ((ints_row.1 h.at_).off ho.at_ i u), ints_row.2 ((ints_row.1 h.co).off ho.cn i u), h.wh.off ho.wh i u⟩
/-- Eleven cells are written. -/
theorem blk_eleven {W : World} {b : Nat} {t : TypeId} {a0 a1 a2 a3 a4 a5 a6 a7 a8 a9 a10 : Value} (h : Blk W b t #[a0, a1, a2, a3, a4, a5, a6, a7, a8, a9, a10]) (v0 v1 v2 v3 v4 v5 v6 v7 v8 v9 v10 : Value) :
    Blk (((((((((((W.setCell ⟨b, 0, none⟩ v0).setCell ⟨b, 1, none⟩ v1).setCell ⟨b, 2, none⟩ v2).setCell ⟨b, 3, none⟩ v3).setCell ⟨b, 4, none⟩ v4).setCell ⟨b, 5, none⟩ v5).setCell ⟨b, 6, none⟩ v6).setCell ⟨b, 7, none⟩ v7).setCell ⟨b, 8, none⟩ v8).setCell ⟨b, 9, none⟩ v9).setCell ⟨b, 10, none⟩ v10) b t #[v0, v1, v2, v3, v4, v5, v6, v7, v8, v9, v10] := by
  have := ((((((((((h.set_ 0 v0).set_ 1 v1).set_ 2 v2).set_ 3 v3).set_ 4 v4).set_ 5 v5).set_ 6 v6).set_ 7 v7).set_ 8 v8).set_ 9 v9).set_ 10 v10
  simpa using this
theorem move_off {x u : Wd} (hs : Shape x u) (p : Wp) (i d : Nat) (hd : d < 4) (w : World) (hu : rightW u = true) (h : WorldAt w p u) (hi : i < u.at_.length) (y : Wd) (r e : Int) (hR : moveW u i d = (y, r, e)) : Calls Try.prog 9 #[.agg #[.slice p.d.ex x.d.exits.length p.d.exc, .slice p.d.pl x.d.players.length p.d.plc, .slice p.d.co x.d.coins.length p.d.coc, .slice p.d.it x.d.items.length p.d.itc, .slice p.d.bo x.d.boxes.length p.d.boc, .int .i64 x.d.room, .int .i64 x.d.player, .int .i64 x.d.box, .slice p.at_ x.at_.length p.atc, .slice p.co x.coins.length p.coc, .slice p.wh x.wher.length p.whc], .int .i64 (i : Int), .int .i64 (d : Int)] w fun e' w' => ∃ q : Wp, e' = .returned (.tuple #[.agg #[.slice q.d.ex x.d.exits.length q.d.exc, .slice q.d.pl x.d.players.length q.d.plc, .slice q.d.co x.d.coins.length q.d.coc, .slice q.d.it x.d.items.length q.d.itc, .slice q.d.bo x.d.boxes.length q.d.boc, .int .i64 x.d.room, .int .i64 x.d.player, .int .i64 x.d.box, .slice q.at_ x.at_.length q.atc, .slice q.co x.coins.length q.coc, .slice q.wh x.wher.length q.whc], .int .i64 r, .int .i64 e]) ∧ WorldAt w' q y ∧ (∀ b, b < w.heap.size → WOff b p u → WOff b q y) ∧ Below w.heap.size w w' := by
  have := move_any u p i d hd w hu h hi
  rw [hR, hs.val p] at this
  refine this.mono ?_
  rintro e' w' ⟨q, h1, h2, h3⟩
  rw [hs.val q] at h1
  refine ⟨q, h1, h2.world (h.call h3), fun b hb ho => ?_, h3⟩
  rcases h2 with ⟨_, e1, e2⟩ | ⟨_, e2⟩
  · simp only at e1; rw [e1, e2]; exact ho
  · exact e2.off hb
/-- The walk of ways under way: the player i is in some room, all else is as it was. -/
def Wan (x : Wd) (i b8 : Nat) (w : World) (A : Array Value) (wr : World) : Prop :=
  ∃ (q : Wp) (t : Nat), t < x.d.exits.length ∧ Holds w w.heap.size A wr ∧ Blk wr b8 29 #[.slice q.d.ex x.d.exits.length q.d.exc, .slice q.d.pl x.d.players.length q.d.plc, .slice q.d.co x.d.coins.length q.d.coc, .slice q.d.it x.d.items.length q.d.itc, .slice q.d.bo x.d.boxes.length q.d.boc, .int .i64 x.d.room, .int .i64 x.d.player, .int .i64 x.d.box, .slice q.at_ x.at_.length q.atc, .slice q.co x.coins.length q.coc, .slice q.wh x.wher.length q.whc] ∧ WorldAt wr q (goW x i t) ∧ WOff b8 q (goW x i t)
/-- Bytes that were handed in. -/
def U8At (W : World) (a : Option Addr) (xs : List Int) : Prop := xs = [] ∨ ∃ b off, a = some ⟨b, off, none⟩ ∧ b < W.heap.size ∧ ∀ i (hi : i < xs.length), W.cell? ⟨b, off + i, none⟩ = some (.int .u8 xs[i])
end Go.Proofs.Ytkhjmgedamndhaa
