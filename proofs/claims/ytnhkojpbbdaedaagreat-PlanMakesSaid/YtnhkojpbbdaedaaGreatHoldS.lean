/- Two worlds of one shape, by the document's own Same and Right; places laid one by one: plain mathematics. -/
import Derived.Test.YtnhkojpbbdaedaaGreatGAs
namespace Go.Proofs.YtnhkojpbbdaedaaGreat
open Go.ChangeShapes Go.WideShapes Go.ChangeAt Go.RowKit
set_option linter.unusedVariables false
open Go.RowKit
theorem Ab5 {x y u v:Wd} (hs:Am x y) (ht:Am u v) (p q:Wp) (w:World) (h1:Ab w p y) (h2:Ab w q v):Calls Tryz.prog 11 #[.agg (wC x p),.agg (wC u q)] w fun e w'=>e=.returned (.bool (decide (y=v)))∧Below w.heap.size w w':=by
 have:=Nr y v p q w h1 h2
 rwa [hs.val,ht.val] at this
theorem Cx {x y u v:Wd} (hs:Am x y) (ht:Am u v) (he:y=v) (p q:Wp) (w:World) (h1:Ab w p y) (h2:Ab w q v):Calls Tryz.prog 11 #[.agg (wC x p),.agg (wC u q)] w fun e w'=>e=.returned (.bool true)∧Below w.heap.size w w':=by
 have:=Ab5 hs ht p q w h1 h2
 rwa [decide_eq_true he] at this
theorem Mt {x y:Wd} (hs:Am x y) (p:Wp) (w:World) (h:Ab w p y):Calls Tryz.prog 6 #[.agg (wC x p)] w fun e w'=>e=.returned (.bool (Ai y))∧Below w.heap.size w w':=by
 have:=Ef y p w h
 rwa [hs.val] at this
def putAll (x y:Wd) (L:List Nat):Wd:=L.foldl (fun z k=>putW z k (plOf y.wher k)) x
theorem Cn8 (x y:Wd) (L:List Nat) {j:Nat} (hj:j<L.length):putAll x y (L.take (j+1))=putW (putAll x y (L.take j)) L[j] (plOf y.wher L[j]):=by
 unfold putAll
 rw [List.take_succ_eq_append_getElem hj,List.foldl_append]
 rfl
theorem Aa8 (x y:Wd) (L:List Nat):Am x (putAll x y L):=by
 unfold putAll
 induction L generalizing x with
 | nil=>exact Am.refl x
 | cons k L ih =>
   have s1:=Db x k (plOf y.wher k)
   have s2:=ih (putW x k (plOf y.wher k))
   exact ⟨s2.ex.trans s1.ex,s2.pl.trans s1.pl,s2.co.trans s1.co,s2.it.trans s1.it,s2.bo.trans s1.bo,s2.r.trans s1.r,s2.p.trans s1.p,s2.b.trans s1.b,s2.at_.trans s1.at_,s2.c.trans s1.c,s2.w.trans s1.w⟩
theorem Cn9 (x y:Wd) (L:List Nat):(putAll x y L).d=x.d:=by
 unfold putAll
 induction L generalizing x with
 | nil=>rfl
 | cons k L ih=>exact ih (putW x k (plOf y.wher k))
end Go.Proofs.YtnhkojpbbdaedaaGreat
