/- The document's own All: changes, one by one; Same: lists of changes. -/
import Derived.Test.YtnhkojpbbdaedaaGreatPlanA
import Derived.StillTailTactics
namespace Go.Proofs.YtnhkojpbbdaedaaGreat
open Go.ChangeShapes Go.WideShapes Go.ChangeAt Go.RowKit
set_option linter.unusedVariables false
open Go.RowKit
theorem OwnR.ty {α:Type} {k:Nat} {e t:TypeId} {enc:α→List Value} {n m:Nat} {W:World} {a:Option Addr} {xs:List α} {cs:Array Value} (h:OwnR k e enc n W a xs) (hN:Blk W m t cs) (hne:e≠t) (i:Nat) (u:Value):OwnR k e enc n (W.setCell ⟨m,i,none⟩ u) a xs:=by
 refine h.far (fun q hq hm=>?_) i u
 rcases h.2 with ⟨_,h2⟩|⟨b,bs,h2,_,hb,_⟩
 ·rw [h2] at hq;cases hq
 ·rw [h2] at hq;cases hq
  simp only at hm
  subst hm
  have:=hb.symm.trans hN
  simp at this
  exact hne this.2
theorem Cc.ty {n m:Nat} {W:World} {p:Dp} {q:Wp} {x:Wd} {t:TypeId} {cs:Array Value} (h:Cc n W p q x) (hN:Blk W m t cs) (h1:3≠t) (h2:48≠t) (i:Nat) (u:Value):Cc n (W.setCell ⟨m,i,none⟩ u) p q x:=by
 obtain ⟨h0,m1,m2,k1,k2,ha,la,hc,lc,hw⟩:=h
 exact ⟨h0,m1,m2,k1,k2,ha.ty hN h1 i u,la,hc.ty hN h1 i u,lc,hw.ty hN h2 i u⟩
theorem Like.shape {x y:Wd} (h:Like x y):Am x y:=⟨by rw [h.d],by rw [h.d],by rw [h.d],by rw [h.d],by rw [h.d],by rw [h.d],by rw [h.d],by rw [h.d],h.al,h.cl,h.wl⟩
theorem Like.few {x y:Wd} (h:Like x y) (hf:FewW x):FewW y:=by
 unfold FewW at hf ⊢
 rw [h.d,h.al,h.cl,h.wl]
 exact hf
theorem Like.may {x y:Wd} (h:Like x y) (c:Wr):mayX y c=mayX x c:=by unfold mayX;rw [h.al,h.cl,h.wl]
theorem blk_world {W:World} {m:Nat} {t:TypeId} {cs:Array Value} (h:Blk W m t cs) (hz:cs.size=11) (u0 u1 u2 u3 u4 u5 u6 u7 u8 u9 u10:Value) :
 Blk (((((((((((W.setCell ⟨m,0,none⟩ u0).setCell ⟨m,1,none⟩ u1).setCell ⟨m,2,none⟩ u2).setCell ⟨m,3,none⟩ u3).setCell ⟨m,4,none⟩ u4).setCell ⟨m,5,none⟩ u5).setCell ⟨m,6,none⟩ u6).setCell ⟨m,7,none⟩ u7).setCell ⟨m,8,none⟩ u8).setCell ⟨m,9,none⟩ u9).setCell ⟨m,10,none⟩ u10) m t #[u0,u1,u2,u3,u4,u5,u6,u7,u8,u9,u10]:=by
 obtain ⟨L⟩:=cs
 have hz2:L.length=11:=by simpa using hz
 match L,hz2 with
 | [a0,a1,a2,a3,a4,a5,a6,a7,a8,a9,a10],_ =>
   have h2:=(((((((((((h.set_ 0 u0).set_ 1 u1).set_ 2 u2).set_ 3 u3).set_ 4 u4).set_ 5 u5).set_ 6 u6).set_ 7 u7).set_ 8 u8).set_ 9 u9).set_ 10 u10)
   simp only [List.setIfInBounds_toArray,List.set_cons_zero,List.set_cons_succ] at h2
   exact h2
theorem gen_pl {P:Program} {c:Code} {K:Exit→Act→World→Prop} {a:Act} {W:World} (F:World→Prop) (hF:F W) (h:∀V,F V→Code.wp P c K a V):Code.wp P c K a W:=h W hF
def AllR (x:Wd) (p:Wp) (l:List Wr) (w:World) (m k:Nat) (q:Wp) (W:World):Prop :=
 Blk W m 29 (wC x q)∧Blk W (w.heap.size+1) 29 zC∧Cc (w.heap.size+2) W p.d q (allP x (l.take k))∧Below w.heap.size w W∧w.heap.size+2≤m
theorem Jh.worldn {n:Nat} {w W:World} {p:Dp} {q:Wp} {x:Wd} (h:Jh n W p q x) (hd:Ce w p x.d) (hb:Below w.heap.size w W):Ab W q x:=by
 obtain ⟨rfl,m,_,h1,_,h2,_,h3⟩:=h
 exact ⟨hd.call hb,Av.2 h1.row,Av.2 h2.row,h3.row⟩
theorem AllR.call {x:Wd} {p:Wp} {l:List Wr} {w W W':World} {m k:Nat} {q:Wp} (h:AllR x p l w m k q W) (hb:Below W.heap.size W W'):AllR x p l w m k q W' :=
 ⟨h.1.call hb,h.2.1.call hb,h.2.2.1.call hb,bl h.2.2.2.1 hb,h.2.2.2.2⟩
theorem AllR.world {x:Wd} {p:Wp} {l:List Wr} {w W:World} {m k:Nat} {q:Wp} (h:AllR x p l w m k q W) (hw:Ab w p x):Ab W q (allP x (l.take k)) :=
 h.2.2.1.new.worldn (by rw [(Gw8 _ _).d];exact hw.d) h.2.2.2.1
theorem AllR.size {x:Wd} {p:Wp} {l:List Wr} {w W:World} {m k:Nat} {q:Wp} (h:AllR x p l w m k q W):w.heap.size+2≤W.heap.size:=h.2.1.lt
theorem put_world {x y:Wd} {pd:Dp} {w W:World} {m:Nat} {q q2:Wp} (h1:Blk W m 29 (wC x q)) (h2:Blk W (w.heap.size+1) 29 zC) (ho:Cc (w.heap.size+2) W pd q2 y) (h4:Below w.heap.size w W) (h5:w.heap.size+2≤m) :
 Blk ((((((((((((W.setCell ⟨m,0,none⟩ (.slice q2.d.ex x.d.exits.length q2.d.exc)).setCell ⟨m,1,none⟩ (.slice q2.d.pl x.d.players.length q2.d.plc)).setCell ⟨m,2,none⟩ (.slice q2.d.co x.d.coins.length q2.d.coc)).setCell ⟨m,3,none⟩ (.slice q2.d.it x.d.items.length q2.d.itc)).setCell ⟨m,4,none⟩ (.slice q2.d.bo x.d.boxes.length q2.d.boc)).setCell ⟨m,5,none⟩ (.int .i64 x.d.room)).setCell ⟨m,6,none⟩ (.int .i64 x.d.player)).setCell ⟨m,7,none⟩ (.int .i64 x.d.box)).setCell ⟨m,8,none⟩ (.slice q2.at_ x.at_.length q2.atc)).setCell ⟨m,9,none⟩ (.slice q2.co x.coins.length q2.coc)).setCell ⟨m,10,none⟩ (.slice q2.wh x.wher.length q2.whc))) m 29 (wC x q2)∧Blk ((((((((((((W.setCell ⟨m,0,none⟩ (.slice q2.d.ex x.d.exits.length q2.d.exc)).setCell ⟨m,1,none⟩ (.slice q2.d.pl x.d.players.length q2.d.plc)).setCell ⟨m,2,none⟩ (.slice q2.d.co x.d.coins.length q2.d.coc)).setCell ⟨m,3,none⟩ (.slice q2.d.it x.d.items.length q2.d.itc)).setCell ⟨m,4,none⟩ (.slice q2.d.bo x.d.boxes.length q2.d.boc)).setCell ⟨m,5,none⟩ (.int .i64 x.d.room)).setCell ⟨m,6,none⟩ (.int .i64 x.d.player)).setCell ⟨m,7,none⟩ (.int .i64 x.d.box)).setCell ⟨m,8,none⟩ (.slice q2.at_ x.at_.length q2.atc)).setCell ⟨m,9,none⟩ (.slice q2.co x.coins.length q2.coc)).setCell ⟨m,10,none⟩ (.slice q2.wh x.wher.length q2.whc))) (w.heap.size+1) 29 zC∧Cc (w.heap.size+2) ((((((((((((W.setCell ⟨m,0,none⟩ (.slice q2.d.ex x.d.exits.length q2.d.exc)).setCell ⟨m,1,none⟩ (.slice q2.d.pl x.d.players.length q2.d.plc)).setCell ⟨m,2,none⟩ (.slice q2.d.co x.d.coins.length q2.d.coc)).setCell ⟨m,3,none⟩ (.slice q2.d.it x.d.items.length q2.d.itc)).setCell ⟨m,4,none⟩ (.slice q2.d.bo x.d.boxes.length q2.d.boc)).setCell ⟨m,5,none⟩ (.int .i64 x.d.room)).setCell ⟨m,6,none⟩ (.int .i64 x.d.player)).setCell ⟨m,7,none⟩ (.int .i64 x.d.box)).setCell ⟨m,8,none⟩ (.slice q2.at_ x.at_.length q2.atc)).setCell ⟨m,9,none⟩ (.slice q2.co x.coins.length q2.coc)).setCell ⟨m,10,none⟩ (.slice q2.wh x.wher.length q2.whc))) pd q2 y∧Below w.heap.size w ((((((((((((W.setCell ⟨m,0,none⟩ (.slice q2.d.ex x.d.exits.length q2.d.exc)).setCell ⟨m,1,none⟩ (.slice q2.d.pl x.d.players.length q2.d.plc)).setCell ⟨m,2,none⟩ (.slice q2.d.co x.d.coins.length q2.d.coc)).setCell ⟨m,3,none⟩ (.slice q2.d.it x.d.items.length q2.d.itc)).setCell ⟨m,4,none⟩ (.slice q2.d.bo x.d.boxes.length q2.d.boc)).setCell ⟨m,5,none⟩ (.int .i64 x.d.room)).setCell ⟨m,6,none⟩ (.int .i64 x.d.player)).setCell ⟨m,7,none⟩ (.int .i64 x.d.box)).setCell ⟨m,8,none⟩ (.slice q2.at_ x.at_.length q2.atc)).setCell ⟨m,9,none⟩ (.slice q2.co x.coins.length q2.coc)).setCell ⟨m,10,none⟩ (.slice q2.wh x.wher.length q2.whc))):=by
 refine ⟨blk_world h1 (by simp) _ _ _ _ _ _ _ _ _ _ _,?_,?_,?_⟩
 ·iterate 11 refine Blk.far ?_ (by show w.heap.size+1≠m;omega) _
  exact h2
 ·have t1:3≠29:=by decide
  have t2:48≠29:=by decide
  exact (((((((((((ho.ty h1 t1 t2 _ _).ty (h1.set_ _ _) t1 t2 _ _).ty ((h1.set_ _ _).set_ _ _) t1 t2 _ _).ty (((h1.set_ _ _).set_ _ _).set_ _ _) t1 t2 _ _).ty ((((h1.set_ _ _).set_ _ _).set_ _ _).set_ _ _) t1 t2 _ _).ty (((((h1.set_ _ _).set_ _ _).set_ _ _).set_ _ _).set_ _ _) t1 t2 _ _).ty ((((((h1.set_ _ _).set_ _ _).set_ _ _).set_ _ _).set_ _ _).set_ _ _) t1 t2 _ _).ty (((((((h1.set_ _ _).set_ _ _).set_ _ _).set_ _ _).set_ _ _).set_ _ _).set_ _ _) t1 t2 _ _).ty ((((((((h1.set_ _ _).set_ _ _).set_ _ _).set_ _ _).set_ _ _).set_ _ _).set_ _ _).set_ _ _) t1 t2 _ _).ty (((((((((h1.set_ _ _).set_ _ _).set_ _ _).set_ _ _).set_ _ _).set_ _ _).set_ _ _).set_ _ _).set_ _ _) t1 t2 _ _).ty ((((((((((h1.set_ _ _).set_ _ _).set_ _ _).set_ _ _).set_ _ _).set_ _ _).set_ _ _).set_ _ _).set_ _ _).set_ _ _) t1 t2 _ _)
 ·iterate 11 refine Below.setCell ?_ (by show w.heap.size≤m;omega) _
  exact h4
theorem AllR.put {x:Wd} {p:Wp} {l:List Wr} {w W:World} {m k:Nat} {q q2:Wp} (h:AllR x p l w m k q W) (ho:Cc (w.heap.size+2) W p.d q2 (allP x (l.take (k+1)))):AllR x p l w m (k+1) q2 ((((((((((((W.setCell ⟨m,0,none⟩ (.slice q2.d.ex x.d.exits.length q2.d.exc)).setCell ⟨m,1,none⟩ (.slice q2.d.pl x.d.players.length q2.d.plc)).setCell ⟨m,2,none⟩ (.slice q2.d.co x.d.coins.length q2.d.coc)).setCell ⟨m,3,none⟩ (.slice q2.d.it x.d.items.length q2.d.itc)).setCell ⟨m,4,none⟩ (.slice q2.d.bo x.d.boxes.length q2.d.boc)).setCell ⟨m,5,none⟩ (.int .i64 x.d.room)).setCell ⟨m,6,none⟩ (.int .i64 x.d.player)).setCell ⟨m,7,none⟩ (.int .i64 x.d.box)).setCell ⟨m,8,none⟩ (.slice q2.at_ x.at_.length q2.atc)).setCell ⟨m,9,none⟩ (.slice q2.co x.coins.length q2.coc)).setCell ⟨m,10,none⟩ (.slice q2.wh x.wher.length q2.whc))):=by
 obtain ⟨h1,h2,h3,h4,h5⟩:=h
 obtain ⟨g1,g2,g3,g4⟩:=put_world h1 h2 ho h4 h5 (q2:=q2)
 exact ⟨g1,g2,g3,g4,h5⟩
end Go.Proofs.YtnhkojpbbdaedaaGreat
