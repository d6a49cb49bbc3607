/- Two worlds of one shape, by the document's own Same and Right; places laid one by one: plain mathematics. -/
import Derived.Test.YtgmkcddgkgcbbaaGreatGAs
namespace Go.Proofs.YtgmkcddgkgcbbaaGreat
open Go.ChangeShapes Go.WideShapes Go.ChangeAt Go.RowKit
set_option linter.unusedVariables false
open Go.RowKit
/-- Two values of one shape, the same or not. -/
theorem rsame_as {x y u v : Wd} (hs : Shape x y) (ht : Shape u v) (p q : Wp) (w : World) (h1 : WorldAt w p y) (h2 : WorldAt w q v) : Calls Tryz.prog 10 #[.agg (wC x p), .agg (wC u q)] w fun e w' => e = .returned (.bool (decide (y = v))) ∧ Below w.heap.size w w' := by
 have := refsame_any y v p q w h1 h2
 rwa [hs.val, ht.val] at this
theorem rsame_yes {x y u v : Wd} (hs : Shape x y) (ht : Shape u v) (he : y = v) (p q : Wp) (w : World) (h1 : WorldAt w p y) (h2 : WorldAt w q v) : Calls Tryz.prog 10 #[.agg (wC x p), .agg (wC u q)] w fun e w' => e = .returned (.bool true) ∧ Below w.heap.size w w' := by
 have := rsame_as hs ht p q w h1 h2
 rwa [decide_eq_true he] at this
theorem rright_as {x y : Wd} (hs : Shape x y) (p : Wp) (w : World) (h : WorldAt w p y) : Calls Tryz.prog 12 #[.agg (wC x p)] w fun e w' => e = .returned (.bool (rightW y)) ∧ Below w.heap.size w w' := by
 have := refright_any y p w h
 rwa [hs.val] at this
/-- Some items laid where they lie in another world. -/
def putAll (x y : Wd) (L : List Nat) : Wd := L.foldl (fun z k => putW z k (plOf y.wher k)) x
theorem putAll_more (x y : Wd) (L : List Nat) {j : Nat} (hj : j < L.length) : putAll x y (L.take (j + 1)) = putW (putAll x y (L.take j)) L[j] (plOf y.wher L[j]) := by
 unfold putAll
 rw [List.take_succ_eq_append_getElem hj, List.foldl_append]
 rfl
theorem putAll_shape (x y : Wd) (L : List Nat) : Shape x (putAll x y L) := by
 unfold putAll
 induction L generalizing x with
 | nil => exact Shape.refl x
 | cons k L ih =>
   have s1 := putW_shape x k (plOf y.wher k)
   have s2 := ih (putW x k (plOf y.wher k))
   exact ⟨s2.ex.trans s1.ex, s2.pl.trans s1.pl, s2.co.trans s1.co, s2.it.trans s1.it, s2.bo.trans s1.bo, s2.r.trans s1.r, s2.p.trans s1.p, s2.b.trans s1.b, s2.at_.trans s1.at_, s2.c.trans s1.c, s2.w.trans s1.w⟩
theorem putAll_d (x y : Wd) (L : List Nat) : (putAll x y L).d = x.d := by
 unfold putAll
 induction L generalizing x with
 | nil => rfl
 | cons k L ih => exact ih (putW x k (plOf y.wher k))
end Go.Proofs.YtgmkcddgkgcbbaaGreat
