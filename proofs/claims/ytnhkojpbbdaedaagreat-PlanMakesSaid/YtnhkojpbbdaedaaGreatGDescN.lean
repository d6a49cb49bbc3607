/- desc.areNested: has the way up from each place an end? A closure that calls itself. -/
import Derived.Test.YtnhkojpbbdaedaaGreatTk
import Derived.Test.YtnhkojpbbdaedaaGreatGWorld
namespace Go.Proofs.YtnhkojpbbdaedaaGreat
open Go.ChangeShapes Go.WideShapes Go.ChangeAt Go.RowKit
set_option linter.unusedVariables false
section
def Zh (ps:List Pl):Prop:=∀p∈ps,p.kind=2→0≤p.id∧p.id<ps.length
theorem Ad {w w1:World} {p:Addr} {v:Value} (h:w.cell? p=some v) (hb:Below w.heap.size w w1):w1.cell? p=some v:=by
 refine (hb.cell ?_).trans h
 apply Decidable.byContradiction;intro hn
 have e:w.heap[p.block]?=none:=by simp;omega
 simp [World.cell?,e] at h
theorem Af {B:Nat} {a w:World} (h:Below B a w):Below B a w.drew:=⟨h.os,h.tape,h.output,h.size,h.block⟩
theorem Bo3 {ps:List Pl} {p:Pl} (h0:0≤p.id) (h1:p.id<ps.length):par ps p=ps[p.id.toNat]'(by omega):=by
 simp [par,List.getD,List.getElem?_eq_getElem (show p.id.toNat<ps.length by omega)]
end
section
theorem Ex2 {w:World} {p:Addr} {v:Value} (h:w.cell? p=some v):p.block<w.heap.size:=by
 apply Decidable.byContradiction;intro hn
 have e:w.heap[p.block]?=none:=by simp;omega
 simp [World.cell?,e] at h
end
end Go.Proofs.YtnhkojpbbdaedaaGreat
