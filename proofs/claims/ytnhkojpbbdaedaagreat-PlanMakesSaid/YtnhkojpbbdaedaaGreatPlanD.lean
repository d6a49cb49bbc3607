/- Worlds as plan answers them: each list that isn't the description's is new memory. -/
import Derived.Test.YtnhkojpbbdaedaaGreatPlanS
import Derived.Test.YtnhkojpbbdaedaaGreatPlanF
namespace Go.Proofs.YtnhkojpbbdaedaaGreat
open Go.ChangeShapes Go.WideShapes Go.ChangeAt Go.RowKit
set_option linter.unusedVariables false
open Go.RowKit
structure PNew (n:Nat) (W:World) (pd:Dp) (q:Wp) (y:Wd):Prop where
 d:q.d=pd∨Fz n W q.d y.d
 at_:OwnR 1 3 inC n W q.at_ y.at_
 co:OwnR 1 3 inC n W q.co y.coins
 wh:OwnR 2 48 plC n W q.wh y.wher
 w:Ab W q y
theorem PNew.call {n:Nat} {W W':World} {pd:Dp} {q:Wp} {y:Wd} (h:PNew n W pd q y) (hb:Below W.heap.size W W'):PNew n W' pd q y:=⟨h.d.imp id fun h2=>h2.call hb,h.at_.call hb,h.co.call hb,h.wh.call hb,h.w.call hb⟩
theorem Fz.lessd {n m:Nat} {W:World} {p:Dp} {d:Ds} (h:Fz n W p d) (hm:m≤n):Fz m W p d:=⟨h.ex.less hm,h.pl.less hm,h.co.less hm,h.it.less hm,h.bo.less hm⟩
theorem PNew.less {n m:Nat} {W:World} {pd:Dp} {q:Wp} {y:Wd} (h:PNew n W pd q y) (hm:m≤n):PNew m W pd q y:=⟨h.d.imp id fun h2=>h2.lessd hm,h.at_.less hm,h.co.less hm,h.wh.less hm,h.w⟩
theorem Cc.pnew {n:Nat} {w W:World} {p:Dp} {q:Wp} {y:Wd} (h:Cc n W p q y) (hd:Ce w p y.d) (hb:Below w.heap.size w W):PNew n W p q y:=by
 have hw:=h.new.worldn hd hb
 obtain ⟨h0,m1,m2,k1,k2,ha,-,hc,-,hwh⟩:=h
 exact ⟨.inl h0,ha,hc.less k1,hwh.less (by omega),hw⟩
theorem Dt.wrc {n:Nat} {W:World} {a:Option Addr} {m c:Nat} {l:List Wr} (h:Dt 5 50 wrC n W (.slice a m c) l):WrcAt W a c l:=by
 obtain ⟨a2,c2,e,ho⟩:=h.own wrC_len
 obtain ⟨rfl,-,rfl⟩:a=a2∧m=l.length∧c=c2:=by simpa using e
 refine ⟨ho.row,?_⟩
 rcases h.2 with ⟨e0,h0⟩|⟨g,c3,cur,e0,hg,hh,hc,hm,hsz,htk⟩
 ·obtain ⟨-,-,rfl⟩:a=none∧m=0∧c=0:=by simpa using e0
  simp [h0,maxLen]
 ·obtain ⟨-,-,rfl⟩:a=some ⟨g,0,none⟩∧m=l.length∧c=c3:=by simpa using e0
  exact ⟨hc,hm⟩
def FromQ (w:World) (L:List Wr) (e:Ending) (w':World):Prop:=∃(a:Option Addr) (c:Nat),e=.returned (.slice a L.length c)∧WrcAt w' a c L∧Below w.heap.size w w'
def WorldQ (w:World) (x:Wd) (pd:Dp) (y:Wd) (e:Ending) (w':World):Prop:=∃q:Wp,e=.returned (.agg (wC x q))∧PNew w.heap.size w' pd q y∧Below w.heap.size w w'
end Go.Proofs.YtnhkojpbbdaedaaGreat
