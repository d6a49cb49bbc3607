/- The document's own Others: are two worlds the same but for some items' places? And worlds of one shape held against one another. -/
import Derived.Test.YtenpcndoilcjcaaGHoldR
import Derived.Test.YtenpcndoilcjcaaHoldS
namespace Go.Proofs.Ytenpcndoilcjcaa
open Go.ChangeShapes Go.WideShapes Go.ChangeAt Go.RowKit
set_option linter.unusedVariables false
open Go.RowKit
theorem Jh.world' {n:Nat} {w W:World} {p:Dp} {q:Wp} {x:Wd} (h:Jh n W p q x) (hd:Ce w p x.d) (hb:Below w.heap.size w W):Ab W q x:=by
 obtain ⟨rfl,m,_,h1,_,h2,_,h3⟩:=h
 exact ⟨hd.call hb,Av.2 h1.row,Av.2 h2.row,h3.row⟩
theorem far2 {W:World} {g i j:Nat} {u v:Value} {p:Addr} {z:Option Value} (h:W.cell? p=z) (hn:g≠p.block):(((W.setCell ⟨g,i,none⟩ u).setCell ⟨g,j,none⟩ v).drew).cell? p=z :=
 ((World.cell?_setCell_far _ _ _ _ hn).trans (World.cell?_setCell_far _ _ _ _ hn)).trans h
theorem Cc.drew {n:Nat} {W:World} {p:Dp} {q:Wp} {x:Wd} (h:Cc n W p q x):Cc n W.drew p q x:=h.call (Af (Below.refl _ _))
end Go.Proofs.Ytenpcndoilcjcaa
