/- The document's own Others: are two worlds the same but for some items' places? And worlds of one shape held against one another. -/
import Derived.Test.YtojfichbnnfjpaaRows
import Derived.Test.YtojfichbnnfjpaaTk
import Derived.Test.YtojfichbnnfjpaaKit
import Derived.Test.YtojfichbnnfjpaaGMem
import Derived.Test.YtojfichbnnfjpaaCoin
import Derived.Test.YtojfichbnnfjpaaGWorld
import Derived.Test.YtojfichbnnfjpaaDescMay
import Derived.Test.YtojfichbnnfjpaaGDescN
import Derived.Test.YtojfichbnnfjpaaGRight
import Derived.Test.YtojfichbnnfjpaaGCopy
import Derived.Test.YtojfichbnnfjpaaGRefD
import Derived.Test.YtojfichbnnfjpaaGEq
import Derived.Test.YtojfichbnnfjpaaGAs
import Derived.Test.YtojfichbnnfjpaaGNew
import Derived.Test.YtojfichbnnfjpaaRefRight
import Derived.Test.YtojfichbnnfjpaaGHoldA
import Derived.Test.YtojfichbnnfjpaaHoldD
import Derived.Deep.QuietTactic
import Derived.BigQuiet
import Derived.Deep.RegionHeld3
import Derived.WalkKit
import Derived.ProofKit
import Derived.OpenShut
import Derived.IntWalk
namespace Go.Proofs.Ytojfichbnnfjpaa
open Go.ChangeShapes Go.WideShapes Go.ChangeAt Go.RowKit
set_option linter.unusedVariables false
open Go.RowKit
/-- Two values of one shape, the same or not. -/
theorem rsame_as {x y u v : Wd} (hs : Shape x y) (ht : Shape u v) (p q : Wp) (w : World) (h1 : WorldAt w p y) (h2 : WorldAt w q v) : Calls Try.prog 20 #[.agg #[.slice p.d.ex x.d.exits.length p.d.exc, .slice p.d.pl x.d.players.length p.d.plc, .slice p.d.co x.d.coins.length p.d.coc, .slice p.d.it x.d.items.length p.d.itc, .slice p.d.bo x.d.boxes.length p.d.boc, .int .i64 x.d.room, .int .i64 x.d.player, .int .i64 x.d.box, .slice p.at_ x.at_.length p.atc, .slice p.co x.coins.length p.coc, .slice p.wh x.wher.length p.whc], .agg #[.slice q.d.ex u.d.exits.length q.d.exc, .slice q.d.pl u.d.players.length q.d.plc, .slice q.d.co u.d.coins.length q.d.coc, .slice q.d.it u.d.items.length q.d.itc, .slice q.d.bo u.d.boxes.length q.d.boc, .int .i64 u.d.room, .int .i64 u.d.player, .int .i64 u.d.box, .slice q.at_ u.at_.length q.atc, .slice q.co u.coins.length q.coc, .slice q.wh u.wher.length q.whc]] w fun e w' => e = .returned (.bool (decide (y = v))) ∧ Below w.heap.size w w' := by
  have := refsame_any y v p q w h1 h2
  rwa [hs.val, ht.val] at this
theorem rsame_yes {x y u v : Wd} (hs : Shape x y) (ht : Shape u v) (he : y = v) (p q : Wp) (w : World) (h1 : WorldAt w p y) (h2 : WorldAt w q v) : Calls Try.prog 20 #[.agg #[.slice p.d.ex x.d.exits.length p.d.exc, .slice p.d.pl x.d.players.length p.d.plc, .slice p.d.co x.d.coins.length p.d.coc, .slice p.d.it x.d.items.length p.d.itc, .slice p.d.bo x.d.boxes.length p.d.boc, .int .i64 x.d.room, .int .i64 x.d.player, .int .i64 x.d.box, .slice p.at_ x.at_.length p.atc, .slice p.co x.coins.length p.coc, .slice p.wh x.wher.length p.whc], .agg #[.slice q.d.ex u.d.exits.length q.d.exc, .slice q.d.pl u.d.players.length q.d.plc, .slice q.d.co u.d.coins.length q.d.coc, .slice q.d.it u.d.items.length q.d.itc, .slice q.d.bo u.d.boxes.length q.d.boc, .int .i64 u.d.room, .int .i64 u.d.player, .int .i64 u.d.box, .slice q.at_ u.at_.length q.atc, .slice q.co u.coins.length q.coc, .slice q.wh u.wher.length q.whc]] w fun e w' => e = .returned (.bool true) ∧ Below w.heap.size w w' := by
  have := rsame_as hs ht p q w h1 h2
  rwa [decide_eq_true he] at this
theorem rright_as {x y : Wd} (hs : Shape x y) (p : Wp) (w : World) (h : WorldAt w p y) : Calls Try.prog 21 #[.agg #[.slice p.d.ex x.d.exits.length p.d.exc, .slice p.d.pl x.d.players.length p.d.plc, .slice p.d.co x.d.coins.length p.d.coc, .slice p.d.it x.d.items.length p.d.itc, .slice p.d.bo x.d.boxes.length p.d.boc, .int .i64 x.d.room, .int .i64 x.d.player, .int .i64 x.d.box, .slice p.at_ x.at_.length p.atc, .slice p.co x.coins.length p.coc, .slice p.wh x.wher.length p.whc]] w fun e w' => e = .returned (.bool (rightW y)) ∧ Below w.heap.size w w' := by
  have := refright_any y p w h
  rwa [hs.val] at this
/-- Some items laid where they lie in another world. -/
def putAll (x y : Wd) (L : List Nat) : Wd := L.foldl (fun z k => putW z k (plOf y.wher k)) x
theorem putAll_more (x y : Wd) (L : List Nat) {j : Nat} (hj : j < L.length) : putAll x y (L.take (j + 1)) = putW (putAll x y (L.take j)) L[j] (plOf y.wher L[j]) := by
  unfold putAll
  rw [List.take_succ_eq_append_getElem hj, List.foldl_append]
  rfl
theorem putAll_shape (x y : Wd) (L : List Nat) : Shape x (putAll x y L) := by
  unfold putAll
  induction L generalizing x with
  | nil => exact Shape.refl x
  | cons k L ih =>
    have s1 := putW_shape x k (plOf y.wher k)
    have s2 := ih (putW x k (plOf y.wher k))
    exact ⟨s2.ex.trans s1.ex, s2.pl.trans s1.pl, s2.co.trans s1.co, s2.it.trans s1.it, s2.bo.trans s1.bo, s2.r.trans s1.r, s2.p.trans s1.p, s2.b.trans s1.b, s2.at_.trans s1.at_, s2.c.trans s1.c, s2.w.trans s1.w⟩
theorem putAll_d (x y : Wd) (L : List Nat) : (putAll x y L).d = x.d := by
  unfold putAll
  induction L generalizing x with
  | nil => rfl
  | cons k L ih => exact ih (putW x k (plOf y.wher k))
theorem WhNew.world' {n : Nat} {w W : World} {p : Dp} {q : Wp} {x : Wd} (h : WhNew n W p q x) (hd : DescAt w p x.d) (hb : Below w.heap.size w W) : WorldAt W q x := by
  obtain ⟨rfl, m, _, h1, _, h2, _, h3⟩ := h
  exact ⟨hd.call hb, ints_row.2 h1.row, ints_row.2 h2.row, h3.row⟩
theorem far2 {W : World} {g i j : Nat} {u v : Value} {p : Addr} {z : Option Value} (h : W.cell? p = z) (hn : g ≠ p.block) : (((W.setCell ⟨g, i, none⟩ u).setCell ⟨g, j, none⟩ v).drew).cell? p = z :=
  ((World.cell?_setCell_far _ _ _ _ hn).trans (World.cell?_setCell_far _ _ _ _ hn)).trans h
theorem WhOwn.drew {n : Nat} {W : World} {p : Dp} {q : Wp} {x : Wd} (h : WhOwn n W p q x) : WhOwn n W.drew p q x := h.call (bdrew1 (Below.refl _ _))
end Go.Proofs.Ytojfichbnnfjpaa
