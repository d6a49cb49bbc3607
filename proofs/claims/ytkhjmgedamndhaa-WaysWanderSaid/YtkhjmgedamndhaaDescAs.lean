/- Contracts over a value whose lists are as long as another world's. -/
import Derived.Test.YtkhjmgedamndhaaRows
import Derived.Test.YtkhjmgedamndhaaKit
import Derived.Test.YtkhjmgedamndhaaStrs
import Derived.Test.YtkhjmgedamndhaaCoin
import Derived.Test.YtkhjmgedamndhaaBlk
import Derived.Test.YtkhjmgedamndhaaHolds
import Derived.Test.YtkhjmgedamndhaaWorldMath
import Derived.Test.YtkhjmgedamndhaaWorldAt
import Derived.Test.YtkhjmgedamndhaaDescMay
import Derived.Test.YtkhjmgedamndhaaDescMay2
import Derived.Test.YtkhjmgedamndhaaDescRight
import Derived.Test.YtkhjmgedamndhaaDescCopy
import Derived.Test.YtkhjmgedamndhaaDescCopy2
import Derived.Test.YtkhjmgedamndhaaDescNew
import Derived.Test.YtkhjmgedamndhaaDescSame
import Derived.Test.YtkhjmgedamndhaaRefDescA
import Derived.Test.YtkhjmgedamndhaaRefMay
import Derived.Test.YtkhjmgedamndhaaRefRight
import Derived.Test.YtkhjmgedamndhaaRefSame
import Derived.Test.YtkhjmgedamndhaaRefCopied
import Derived.Test.YtkhjmgedamndhaaDescStore
import Derived.WalkKit
import Derived.ProofKit
import Derived.OpenShut
import Derived.IntWalk
namespace Go.Proofs.Ytkhjmgedamndhaa
open Go.ChangeShapes Go.WideShapes Go.ChangeAt Go.RowKit
set_option linter.unusedVariables false
open Go.RowKit
/-- Two worlds whose lists are as long as one another, and whose caps are the same: one value tells either. -/
structure Shape (x y : Wd) : Prop where
  ex : y.d.exits.length = x.d.exits.length
  pl : y.d.players.length = x.d.players.length
  co : y.d.coins.length = x.d.coins.length
  it : y.d.items.length = x.d.items.length
  bo : y.d.boxes.length = x.d.boxes.length
  r : y.d.room = x.d.room
  p : y.d.player = x.d.player
  b : y.d.box = x.d.box
  at_ : y.at_.length = x.at_.length
  c : y.coins.length = x.coins.length
  w : y.wher.length = x.wher.length
theorem Shape.refl (x : Wd) : Shape x x := ⟨rfl, rfl, rfl, rfl, rfl, rfl, rfl, rfl, rfl, rfl, rfl⟩
theorem Shape.val {x y : Wd} (h : Shape x y) (p : Wp) : (.agg #[.slice p.d.ex y.d.exits.length p.d.exc, .slice p.d.pl y.d.players.length p.d.plc, .slice p.d.co y.d.coins.length p.d.coc, .slice p.d.it y.d.items.length p.d.itc, .slice p.d.bo y.d.boxes.length p.d.boc, .int .i64 y.d.room, .int .i64 y.d.player, .int .i64 y.d.box, .slice p.at_ y.at_.length p.atc, .slice p.co y.coins.length p.coc, .slice p.wh y.wher.length p.whc] : Value) = .agg #[.slice p.d.ex x.d.exits.length p.d.exc, .slice p.d.pl x.d.players.length p.d.plc, .slice p.d.co x.d.coins.length p.d.coc, .slice p.d.it x.d.items.length p.d.itc, .slice p.d.bo x.d.boxes.length p.d.boc, .int .i64 x.d.room, .int .i64 x.d.player, .int .i64 x.d.box, .slice p.at_ x.at_.length p.atc, .slice p.co x.coins.length p.coc, .slice p.wh x.wher.length p.whc] := by
  rw [h.ex, h.pl, h.co, h.it, h.bo, h.r, h.p, h.b, h.at_, h.c, h.w]
theorem copy_as {x y : Wd} (hs : Shape x y) (p : Wp) (w : World) (h : WorldAt w p y) (hf : FewW y) :
    Calls Try.prog 30 #[.agg #[.slice p.d.ex x.d.exits.length p.d.exc, .slice p.d.pl x.d.players.length p.d.plc, .slice p.d.co x.d.coins.length p.d.coc, .slice p.d.it x.d.items.length p.d.itc, .slice p.d.bo x.d.boxes.length p.d.boc, .int .i64 x.d.room, .int .i64 x.d.player, .int .i64 x.d.box, .slice p.at_ x.at_.length p.atc, .slice p.co x.coins.length p.coc, .slice p.wh x.wher.length p.whc]] w fun e w' => ∃ p' : Wp, e = .returned (.agg #[.slice p'.d.ex x.d.exits.length p'.d.exc, .slice p'.d.pl x.d.players.length p'.d.plc, .slice p'.d.co x.d.coins.length p'.d.coc, .slice p'.d.it x.d.items.length p'.d.itc, .slice p'.d.bo x.d.boxes.length p'.d.boc, .int .i64 x.d.room, .int .i64 x.d.player, .int .i64 x.d.box, .slice p'.at_ x.at_.length p'.atc, .slice p'.co x.coins.length p'.coc, .slice p'.wh x.wher.length p'.whc]) ∧ WorldOwn w.heap.size w' p' y ∧ Below w.heap.size w w' := by
  have := copy_any y p w h hf
  rw [hs.val] at this
  refine this.mono fun e w' ⟨p', he, h1, h2⟩ => ⟨p', by rw [← hs.val]; exact he, h1, h2⟩
/-- What a right world's lists are. -/
theorem right_lens {x : Wd} (h : rightW x = true) : 0 < x.at_.length ∧ x.at_.length ≤ 6 ∧ x.coins.length = x.at_.length ∧ x.wher.length ≤ 16 ∧ x.d.items.length = x.wher.length ∧ mayD x.d = true := by
  simp only [rightW, Bool.and_eq_true] at h
  have hf := may_few h.1
  have h1 := h.2.1
  have h2 := h.2.2.1
  simp only [playersB, placesB, Bool.and_eq_true, decide_eq_true_eq] at h1 h2
  exact ⟨by omega, by omega, by omega, by omega, by omega, h.1⟩
/-- .. and what they hold. -/
theorem right_in {x : Wd} (h : rightW x = true) : (∀ n ∈ x.at_, 0 ≤ n ∧ n < x.d.exits.length) ∧ (∀ n ∈ x.coins, 0 ≤ n ∧ n ≤ 1073741824) ∧ ∀ p ∈ x.wher, placeB x.d p = true := by
  simp only [rightW, playersB, placesB, Bool.and_eq_true, decide_eq_true_eq, List.all_eq_true] at h
  exact ⟨(ofB_iff _ _).1 h.2.1.2.2.1, (pursesB_iff _).1 h.2.1.2.2.2, h.2.2.1.2⟩
theorem below_call {B : Nat} {V c c1 : World} (h : Below B V c) (hs : B ≤ c.heap.size) (hb : Below c.heap.size c c1) : Below B V c1 := h.trans (hb.mono hs)
theorem set_ne {xs : List Int} {k : Nat} {v : Int} (hk : k < xs.length) (h : v ≠ xs[k]) : ¬ xs.set k v = xs := by
  intro e
  have h2 : (xs.set k v)[k]? = xs[k]? := by rw [e]
  rw [List.getElem?_set_self hk, List.getElem?_eq_getElem hk] at h2
  exact h (Option.some.inj h2)
theorem setp_ne {xs : List Pl} {k : Nat} (hk : k < xs.length) : ¬ xs.set k ⟨xs[k].kind, xs[k].id + 1⟩ = xs := by
  intro e
  have h2 : (xs.set k ⟨xs[k].kind, xs[k].id + 1⟩)[k]? = xs[k]? := by rw [e]
  rw [List.getElem?_set_self hk, List.getElem?_eq_getElem hk] at h2
  have h3 := congrArg Pl.id (Option.some.inj h2)
  simp only at h3
  omega
theorem worldAt_drew {W : World} {q : Wp} {x : Wd} {b i : Nat} {u : Value} (h : WorldAt (W.setCell ⟨b, i, none⟩ u) q x) : WorldAt (W.drew.setCell ⟨b, i, none⟩ u) q x := ⟨⟨h.d.ex, h.d.pl, h.d.co, h.d.it, h.d.bo⟩, h.at_, h.co, h.wh⟩
end Go.Proofs.Ytkhjmgedamndhaa
