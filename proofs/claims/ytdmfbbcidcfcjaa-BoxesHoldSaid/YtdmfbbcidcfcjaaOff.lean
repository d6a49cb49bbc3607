/- Worlds whose lists lie elsewhere than in one block: a store into it leaves them. Over whatever program. -/
import Derived.Test.YtdmfbbcidcfcjaaRows
import Derived.Test.YtdmfbbcidcfcjaaKit
import Derived.Test.YtdmfbbcidcfcjaaGMem
import Derived.Test.YtdmfbbcidcfcjaaCoin
import Derived.Test.YtdmfbbcidcfcjaaGWorld
import Derived.Test.YtdmfbbcidcfcjaaGDescN
import Derived.Test.YtdmfbbcidcfcjaaGRight
import Derived.Test.YtdmfbbcidcfcjaaGCopy
import Derived.Test.YtdmfbbcidcfcjaaGRefD
import Derived.Test.YtdmfbbcidcfcjaaGAs
import Derived.WalkKit
import Derived.ProofKit
import Derived.OpenShut
import Derived.IntWalk
namespace Go.Proofs.Ytdmfbbcidcfcjaa
open Go.ChangeShapes Go.WideShapes Go.ChangeAt Go.RowKit
set_option linter.unusedVariables false
open Go.RowKit
def RowOff {α : Type} (b : Nat) (a : Option Addr) (xs : List α) : Prop := xs = [] ∨ ∀ r, a = some r → r.block ≠ b
theorem RowAt.off {α : Type} {k : Nat} {enc : α → List Value} {W : World} {a : Option Addr} {xs : List α} (h : RowAt k enc W a xs) {b : Nat} (ho : RowOff b a xs) (i : Nat) (u : Value) : RowAt k enc (W.setCell ⟨b, i, none⟩ u) a xs := by
  obtain ⟨hl, h⟩ := h
  refine ⟨hl, ?_⟩
  rcases ho with ho | ho
  · exact .inl ho
  rcases h with h | ⟨b', off, rfl, hb, hc⟩
  · exact .inl h
  · have hne : b' ≠ b := ho _ rfl
    exact .inr ⟨b', off, rfl, by simpa [World.setCell] using hb, fun j hj r hr => (World.cell?_setCell_far _ _ _ _ (by show b ≠ b'; exact fun e => hne e.symm)).trans (hc j hj r hr)⟩
theorem RowAt.out {α : Type} {k : Nat} {enc : α → List Value} {W : World} {a : Option Addr} {xs : List α} (h : RowAt k enc W a xs) {b : Nat} (hb : W.heap.size ≤ b) : RowOff b a xs := by
  rcases h.2 with h | ⟨b', off, rfl, h2, _⟩
  · exact .inl h
  · exact .inr fun r hr => by cases hr; show b' ≠ b; omega
theorem OwnR.off {α : Type} {k : Nat} {e : TypeId} {enc : α → List Value} {n : Nat} {W : World} {a : Option Addr} {xs : List α} (h : OwnR k e enc n W a xs) {b : Nat} (hb : b < n) : RowOff b a xs :=
  .inr fun r hr => by have := h.from_ hr; omega
structure WOff (b : Nat) (q : Wp) (y : Wd) : Prop where
  ex : RowOff b q.d.ex y.d.exits
  pl : RowOff b q.d.pl y.d.players
  co : RowOff b q.d.co y.d.coins
  it : RowOff b q.d.it y.d.items
  bo : RowOff b q.d.bo y.d.boxes
  at_ : RowOff b q.at_ y.at_
  cn : RowOff b q.co y.coins
  wh : RowOff b q.wh y.wher
theorem WorldAt.out {W : World} {q : Wp} {y : Wd} (h : WorldAt W q y) {b : Nat} (hb : W.heap.size ≤ b) : WOff b q y :=
  ⟨h.d.ex.out hb, (ints_row.1 h.d.pl).out hb, (ints_row.1 h.d.co).out hb, (ints_row.1 h.d.it).out hb, h.d.bo.out hb, (ints_row.1 h.at_).out hb, (ints_row.1 h.co).out hb, h.wh.out hb⟩
theorem WorldOwn.off {n : Nat} {W : World} {q : Wp} {y : Wd} (h : WorldOwn n W q y) {b : Nat} (hb : b < n) : WOff b q y := by
  obtain ⟨m1, m2, m3, h1, h2, h3, h4, hd, hdm, ha, ham, hc, hcm, hw⟩ := h.ex
  exact ⟨hd.ex.off hb, hd.pl.off hb, hd.co.off hb, hd.it.off hb, hd.bo.off hb, ha.off (by omega), hc.off (by omega), hw.off (by omega)⟩
theorem WorldAt.set {W : World} {q : Wp} {y : Wd} (h : WorldAt W q y) {b : Nat} (ho : WOff b q y) (i : Nat) (u : Value) : WorldAt (W.setCell ⟨b, i, none⟩ u) q y :=
  ⟨⟨h.d.ex.off ho.ex i u, ints_row.2 ((ints_row.1 h.d.pl).off ho.pl i u), ints_row.2 ((ints_row.1 h.d.co).off ho.co i u), ints_row.2 ((ints_row.1 h.d.it).off ho.it i u), h.d.bo.off ho.bo i u⟩, ints_row.2 ((ints_row.1 h.at_).off ho.at_ i u), ints_row.2 ((ints_row.1 h.co).off ho.cn i u), h.wh.off ho.wh i u⟩
/-- Eleven cells are written. -/
theorem blk_eleven {W : World} {b : Nat} {t : TypeId} {a0 a1 a2 a3 a4 a5 a6 a7 a8 a9 a10 : Value} (h : Blk W b t #[a0, a1, a2, a3, a4, a5, a6, a7, a8, a9, a10]) (v0 v1 v2 v3 v4 v5 v6 v7 v8 v9 v10 : Value) :
    Blk (((((((((((W.setCell ⟨b, 0, none⟩ v0).setCell ⟨b, 1, none⟩ v1).setCell ⟨b, 2, none⟩ v2).setCell ⟨b, 3, none⟩ v3).setCell ⟨b, 4, none⟩ v4).setCell ⟨b, 5, none⟩ v5).setCell ⟨b, 6, none⟩ v6).setCell ⟨b, 7, none⟩ v7).setCell ⟨b, 8, none⟩ v8).setCell ⟨b, 9, none⟩ v9).setCell ⟨b, 10, none⟩ v10) b t #[v0, v1, v2, v3, v4, v5, v6, v7, v8, v9, v10] := by
  have := ((((((((((h.set_ 0 v0).set_ 1 v1).set_ 2 v2).set_ 3 v3).set_ 4 v4).set_ 5 v5).set_ 6 v6).set_ 7 v7).set_ 8 v8).set_ 9 v9).set_ 10 v10
  simpa using this
end Go.Proofs.Ytdmfbbcidcfcjaa
