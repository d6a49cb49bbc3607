/- Changes, one by one: plain mathematics. -/
import Derived.Test.YtaeclpjofclbeaaDoorGWorld
namespace Go.Proofs.YtaeclpjofclbeaaDoor
open Go.ChangeShapes Go.WideShapes Go.ChangeAt Go.RowKit
set_option linter.unusedVariables false
open Go.RowKit
structure Wr where
 kind:Int
 id:Int
 num:Int
 pl:Pl
deriving DecidableEq
def doX (x:Wd) (c:Wr):Wd :=
 if c.kind=0 then ⟨x.d,x.at_.set c.id.toNat c.num,x.coins,x.wher⟩
 else if c.kind=1 then ⟨x.d,x.at_,x.coins.set c.id.toNat c.num,x.wher⟩
 else if c.kind=2 then ⟨x.d,x.at_,x.coins,x.wher.set c.id.toNat c.pl⟩
 else x
def allP (x:Wd) (l:List Wr):Wd:=l.foldl doX x
theorem allP_nil (x:Wd):allP x []=x:=rfl
theorem Ge5 (x:Wd) (c:Wr) (l:List Wr):allP x (c :: l)=allP (doX x c) l:=rfl
theorem Gg6 (x:Wd) (l m:List Wr):allP x (l++m)=allP (allP x l) m:=List.foldl_append
theorem allP_more (x:Wd) {l:List Wr} {k:Nat} (h:k<l.length):allP x (l.take (k+1))=doX (allP x (l.take k)) l[k]:=by
 rw [List.take_succ_eq_append_getElem h,Gg6];rfl
structure Like (x y:Wd):Prop where
 d:y.d=x.d
 al:y.at_.length=x.at_.length
 cl:y.coins.length=x.coins.length
 wl:y.wher.length=x.wher.length
theorem Like.refl (x:Wd):Like x x:=⟨rfl,rfl,rfl,rfl⟩
theorem Like.symm {x y:Wd} (h:Like x y):Like y x:=⟨h.d.symm,h.al.symm,h.cl.symm,h.wl.symm⟩
theorem Like.trans {x y z:Wd} (h:Like x y) (k:Like y z):Like x z:=⟨k.d.trans h.d,k.al.trans h.al,k.cl.trans h.cl,k.wl.trans h.wl⟩
theorem Hm5 (x:Wd) (c:Wr):Like x (doX x c):=by
 unfold doX
 split
 ·exact ⟨rfl,by simp,rfl,rfl⟩
 split
 ·exact ⟨rfl,rfl,by simp,rfl⟩
 split
 ·exact ⟨rfl,rfl,rfl,by simp⟩
 ·exact Like.refl x
theorem Gw8:∀(l:List Wr) (x:Wd),Like x (allP x l)
 | [],x=>Like.refl x
 | c :: l,x=>(Hm5 x c).trans (Gw8 l _)
def atG (x:Wd) (p:Nat):Int:=x.at_.getD p 0
def coG (x:Wd) (p:Nat):Int:=x.coins.getD p 0
def whG (x:Wd) (p:Nat):Pl:=x.wher.getD p ⟨0,0⟩
theorem like_ext {x y:Wd} (h:Like x y) (h1:∀p,p<x.at_.length→atG y p=atG x p) (h2:∀p,p<x.coins.length→coG y p=coG x p) (h3:∀p,p<x.wher.length→whG y p=whG x p):y=x:=by
 have e1:y.at_=x.at_:=List.ext_getElem h.al fun p p1 p2=>by have:=h1 p p2;simpa [atG,List.getD,p1,p2] using this
 have e2:y.coins=x.coins:=List.ext_getElem h.cl fun p p1 p2=>by have:=h2 p p2;simpa [coG,List.getD,p1,p2] using this
 have e3:y.wher=x.wher:=List.ext_getElem h.wl fun p p1 p2=>by have:=h3 p p2;simpa [whG,List.getD,p1,p2] using this
 have e0:=h.d
 obtain ⟨xd,xa,xc,xw⟩:=x
 obtain ⟨yd,ya,yc,yw⟩:=y
 simp only at e0 e1 e2 e3
 rw [e0,e1,e2,e3]
def Agr (y:Wd) (c:Wr):Prop :=
 (c.kind=0∧∃p:Nat,p<y.at_.length∧c.id=p∧c.num=atG y p)∨(c.kind=1∧∃p:Nat,p<y.coins.length∧c.id=p∧c.num=coG y p)∨(c.kind=2∧∃p:Nat,p<y.wher.length∧c.id=p∧c.pl=whG y p)
def hitB (l:List Wr) (k:Int) (p:Nat):Bool:=l.any fun c=>decide (c.kind=k)&&decide (c.id=(p:Int))
theorem Eo7 (l:List Wr) (k:Int) (p:Nat):hitB l k p=true↔∃c∈l,c.kind=k∧c.id=p:=by simp [hitB]
theorem Gu2 (c:Wr) (l:List Wr) (k:Int) (p:Nat):hitB (c :: l) k p=((decide (c.kind=k)&&decide (c.id=(p:Int)))||hitB l k p):=rfl
theorem Hk0 {l m:List Wr} (h:∀c,c∈l↔c∈m) (k:Int) (p:Nat):hitB l k p=hitB m k p:=by
 rw [Bool.eq_iff_iff,Eo7,Eo7]
 exact ⟨fun ⟨c,h1,h2⟩=>⟨c,(h c).1 h1,h2⟩,fun ⟨c,h1,h2⟩=>⟨c,(h c).2 h1,h2⟩⟩
theorem do_at {x y:Wd} (hL:Like x y) {c:Wr} (h:Agr y c):(∀p,p<x.at_.length→atG (doX x c) p=if c.kind=0∧c.id=p then atG y p else atG x p)∧(∀p,p<x.coins.length→coG (doX x c) p=if c.kind=1∧c.id=p then coG y p else coG x p)∧(∀p,p<x.wher.length→whG (doX x c) p=if c.kind=2∧c.id=p then whG y p else whG x p):=by
 obtain ⟨ck,ci,cn,cp⟩:=c
 rcases h with ⟨hk,q,hq,hi,hn⟩|⟨hk,q,hq,hi,hn⟩|⟨hk,q,hq,hi,hn⟩
 all_goals
  simp only at hk hi hn
  subst hk hi hn
  refine ⟨fun p hp=>?_,fun p hp=>?_,fun p hp=>?_⟩
  all_goals
   by_cases e:q=p
   ·subst e
    simp [doX,atG,coG,whG,List.getD,hp]
   ·have e2:¬(q:Int)=p:=by omega
    simp [doX,atG,coG,whG,List.getD,e,e2]
theorem Hl2:∀(l:List Wr) {x y:Wd},Like x y→(∀c∈l,Agr y c)→(∀p,p<x.at_.length→atG (allP x l) p=if hitB l 0 p=true then atG y p else atG x p)∧(∀p,p<x.coins.length→coG (allP x l) p=if hitB l 1 p=true then coG y p else coG x p)∧(∀p,p<x.wher.length→whG (allP x l) p=if hitB l 2 p=true then whG y p else whG x p)
 | [],x,y,_,_=>⟨fun _ _=>rfl,fun _ _=>rfl,fun _ _=>rfl⟩
 | c :: l,x,y,hL,h=>by
   have h1:=do_at hL (h c (by simp))
   have hD:=Hm5 x c
   have h2:=Hl2 l (hD.symm.trans hL) fun c hc=>h c (by simp [hc])
   refine ⟨fun p hp=>?_,fun p hp=>?_,fun p hp=>?_⟩
   ·rw [Ge5,h2.1 p (by rw [hD.al];exact hp),h1.1 p hp,Gu2]
    by_cases e1:hitB l 0 p=true<;>by_cases e2:c.kind=0∧c.id=p<;>simp [e1,e2]<;>(intro a b;exact absurd ⟨a,b⟩ e2)
   ·rw [Ge5,h2.2.1 p (by rw [hD.cl];exact hp),h1.2.1 p hp,Gu2]
    by_cases e1:hitB l 1 p=true<;>by_cases e2:c.kind=1∧c.id=p<;>simp [e1,e2]<;>(intro a b;exact absurd ⟨a,b⟩ e2)
   ·rw [Ge5,h2.2.2 p (by rw [hD.wl];exact hp),h1.2.2 p hp,Gu2]
    by_cases e1:hitB l 2 p=true<;>by_cases e2:c.kind=2∧c.id=p<;>simp [e1,e2]<;>(intro a b;exact absurd ⟨a,b⟩ e2)
def Fa7 (x y:Wd) (n:Nat):List Wr:=((List.range n).filter fun p=>!decide (atG x p=atG y p)).map fun (p:Nat)=>(⟨0,(p:Int),atG y p,⟨0,0⟩⟩:Wr)
def Eq3 (x y:Wd) (n:Nat):List Wr:=((List.range n).filter fun p=>!decide (coG x p=coG y p)).map fun (p:Nat)=>(⟨1,(p:Int),coG y p,⟨0,0⟩⟩:Wr)
def Eq2 (x y:Wd) (n:Nat):List Wr:=((List.range n).filter fun p=>!decide (whG x p=whG y p)).map fun (p:Nat)=>(⟨2,(p:Int),0,whG y p⟩:Wr)
def Ao3 (x y:Wd):List Wr:=Fa7 x y x.at_.length++(Eq3 x y x.coins.length++Eq2 x y x.wher.length)
theorem fromA_more (x y:Wd) (n:Nat):Fa7 x y (n+1)=if atG x n=atG y n then Fa7 x y n else Fa7 x y n++[⟨0,(n:Int),atG y n,⟨0,0⟩⟩]:=by
 unfold Fa7
 rw [List.range_succ,List.filter_append,List.map_append]
 by_cases e:atG x n=atG y n<;>simp [e]
theorem fromC_more (x y:Wd) (n:Nat):Eq3 x y (n+1)=if coG x n=coG y n then Eq3 x y n else Eq3 x y n++[⟨1,(n:Int),coG y n,⟨0,0⟩⟩]:=by
 unfold Eq3
 rw [List.range_succ,List.filter_append,List.map_append]
 by_cases e:coG x n=coG y n<;>simp [e]
theorem fromW_more (x y:Wd) (n:Nat):Eq2 x y (n+1)=if whG x n=whG y n then Eq2 x y n else Eq2 x y n++[⟨2,(n:Int),0,whG y n⟩]:=by
 unfold Eq2
 rw [List.range_succ,List.filter_append,List.map_append]
 by_cases e:whG x n=whG y n<;>simp [e]
theorem from_len (x y:Wd):(Ao3 x y).length≤x.at_.length+x.coins.length+x.wher.length:=by
 have h (f:Nat→Bool) (n:Nat):((List.range n).filter f).length≤n:=Nat.le_trans (List.length_filter_le _ _) (by simp)
 simp only [Ao3,Fa7,Eq3,Eq2,List.length_append,List.length_map]
 have h1:=h (fun p=>!decide (atG x p=atG y p)) x.at_.length
 have h2:=h (fun p=>!decide (coG x p=coG y p)) x.coins.length
 have h3:=h (fun p=>!decide (whG x p=whG y p)) x.wher.length
 omega
theorem Dc9 {x y:Wd} {c:Wr}:c∈Ao3 x y↔(∃p:Nat,p<x.at_.length∧¬atG x p=atG y p∧c=⟨0,(p:Int),atG y p,⟨0,0⟩⟩)∨(∃p:Nat,p<x.coins.length∧¬coG x p=coG y p∧c=⟨1,(p:Int),coG y p,⟨0,0⟩⟩)∨(∃p:Nat,p<x.wher.length∧¬whG x p=whG y p∧c=⟨2,(p:Int),0,whG y p⟩):=by
 simp only [Ao3,Fa7,Eq3,Eq2,List.mem_append,List.mem_map,List.mem_filter,List.mem_range,Bool.not_eq_true',decide_eq_false_iff_not]
 constructor
 ·rintro (⟨p,⟨h1,h2⟩,rfl⟩|⟨p,⟨h1,h2⟩,rfl⟩|⟨p,⟨h1,h2⟩,rfl⟩)
  ·exact .inl ⟨p,h1,h2,rfl⟩
  ·exact .inr (.inl ⟨p,h1,h2,rfl⟩)
  ·exact .inr (.inr ⟨p,h1,h2,rfl⟩)
 ·rintro (⟨p,h1,h2,rfl⟩|⟨p,h1,h2,rfl⟩|⟨p,h1,h2,rfl⟩)
  ·exact .inl ⟨p,⟨h1,h2⟩,rfl⟩
  ·exact .inr (.inl ⟨p,⟨h1,h2⟩,rfl⟩)
  ·exact .inr (.inr ⟨p,⟨h1,h2⟩,rfl⟩)
theorem Hh0 {x y:Wd} (hL:Like x y) {c:Wr} (h:c∈Ao3 x y):Agr y c:=by
 rcases Dc9.1 h with ⟨p,h1,_,rfl⟩|⟨p,h1,_,rfl⟩|⟨p,h1,_,rfl⟩
 ·exact .inl ⟨rfl,p,by rw [hL.al];exact h1,rfl,rfl⟩
 ·exact .inr (.inl ⟨rfl,p,by rw [hL.cl];exact h1,rfl,rfl⟩)
 ·exact .inr (.inr ⟨rfl,p,by rw [hL.wl];exact h1,rfl,rfl⟩)
theorem Gu5 {x y:Wd} (p:Nat):(p<x.at_.length→hitB (Ao3 x y) 0 p=!decide (atG x p=atG y p))∧(p<x.coins.length→hitB (Ao3 x y) 1 p=!decide (coG x p=coG y p))∧(p<x.wher.length→hitB (Ao3 x y) 2 p=!decide (whG x p=whG y p)):=by
 refine ⟨fun hp=>?_,fun hp=>?_,fun hp=>?_⟩
 all_goals
  rw [Bool.eq_iff_iff,Eo7,Bool.not_eq_true',decide_eq_false_iff_not]
  constructor
  ·rintro ⟨c,hc,hk,hi⟩
   rcases Dc9.1 hc with ⟨q,h1,h2,rfl⟩|⟨q,h1,h2,rfl⟩|⟨q,h1,h2,rfl⟩
   all_goals first
    | (simp at hk;done)
    | (simp only at hi
       have:q=p:=by omega
       subst this
       exact h2)
  ·intro h
   first
    | exact ⟨_,Dc9.2 (.inl ⟨p,hp,h,rfl⟩),rfl,rfl⟩
    | exact ⟨_,Dc9.2 (.inr (.inl ⟨p,hp,h,rfl⟩)),rfl,rfl⟩
    | exact ⟨_,Dc9.2 (.inr (.inr ⟨p,hp,h,rfl⟩)),rfl,rfl⟩
theorem all_from {x y z:Wd} (hL:Like x y) (hZ:Like x z) {l:List Wr} (hl:∀c,c∈l↔c∈Ao3 x y) (h1:∀p,p<x.at_.length→atG z p=atG x p∨atG z p=atG y p) (h2:∀p,p<x.coins.length→coG z p=coG x p∨coG z p=coG y p) (h3:∀p,p<x.wher.length→whG z p=whG x p∨whG z p=whG y p):allP z l=y:=by
 have hA:=Hl2 l (hZ.symm.trans hL) fun c hc=>Hh0 hL ((hl c).1 hc)
 refine like_ext ((hL.symm.trans hZ).trans (Gw8 l z)) (fun p hp=>?_) (fun p hp=>?_) (fun p hp=>?_)
 ·have hx:p<x.at_.length:=by rw [←hL.al];exact hp
  rw [hA.1 p (by rw [hZ.al];exact hx),Hk0 hl,(Gu5 p).1 hx]
  by_cases e:atG x p=atG y p
  ·rcases h1 p hx with h|h<;>simp [e,h]
  ·simp [e]
 ·have hx:p<x.coins.length:=by rw [←hL.cl];exact hp
  rw [hA.2.1 p (by rw [hZ.cl];exact hx),Hk0 hl,(Gu5 p).2.1 hx]
  by_cases e:coG x p=coG y p
  ·rcases h2 p hx with h|h<;>simp [e,h]
  ·simp [e]
 ·have hx:p<x.wher.length:=by rw [←hL.wl];exact hp
  rw [hA.2.2 p (by rw [hZ.wl];exact hx),Hk0 hl,(Gu5 p).2.2 hx]
  by_cases e:whG x p=whG y p
  ·rcases h3 p hx with h|h<;>simp [e,h]
  ·simp [e]
theorem all_makes {x y:Wd} (hL:Like x y):allP x (Ao3 x y)=y:=all_from hL (Like.refl x) (fun _=>Iff.rfl) (fun _ _=>.inl rfl) (fun _ _=>.inl rfl) (fun _ _=>.inl rfl)
theorem from_self (x:Wd):Ao3 x x=[]:=by
 simp [Ao3,Fa7,Eq3,Eq2]
theorem from_needed {x y:Wd} {c:Wr} (h:c∈Ao3 x y):¬doX x c=x:=by
 intro e
 rcases Dc9.1 h with ⟨p,h1,h2,rfl⟩|⟨p,h1,h2,rfl⟩|⟨p,h1,h2,rfl⟩
 ·have:=congrArg (fun w=>atG w p) e
  simp [doX,atG,List.getD,h1] at this
  exact h2 (by simp [atG,List.getD,h1,this])
 ·have:=congrArg (fun w=>coG w p) e
  simp [doX,coG,List.getD,h1] at this
  exact h2 (by simp [coG,List.getD,h1,this])
 ·have:=congrArg (fun w=>whG w p) e
  simp [doX,whG,List.getD,h1] at this
  exact h2 (by simp [whG,List.getD,h1,this])
theorem from_apart (x y:Wd):(Ao3 x y).Pairwise fun a b=>¬(a.kind=b.kind∧a.id=b.id):=by
 have rng:∀(f:Nat→Bool) (n:Nat) (g:Nat→Wr),(∀p,(g p).id=(p:Int))→(((List.range n).filter f).map g).Pairwise fun a b=>¬(a.kind=b.kind∧a.id=b.id):=fun f n g hg=>by
  rw [List.pairwise_map]
  refine (List.Pairwise.filter _ List.pairwise_lt_range).imp fun {a b} hab=>?_
  rintro ⟨_,h⟩
  rw [hg,hg] at h
  omega
 unfold Ao3
 rw [List.pairwise_append,List.pairwise_append]
 refine ⟨rng _ _ _ fun _=>rfl,⟨rng _ _ _ fun _=>rfl,rng _ _ _ fun _=>rfl,?_⟩,?_⟩
 ·intro a ha b hb
  simp only [Eq3,Eq2,List.mem_map] at ha hb
  obtain ⟨_,_,rfl⟩:=ha
  obtain ⟨_,_,rfl⟩:=hb
  simp
 ·intro a ha b hb
  simp only [Fa7,Eq3,Eq2,List.mem_append,List.mem_map] at ha hb
  obtain ⟨_,_,rfl⟩:=ha
  rcases hb with ⟨_,_,rfl⟩|⟨_,_,rfl⟩<;>simp
theorem from_back {x y:Wd} (hL:Like x y):(Ao3 y x).length=(Ao3 x y).length:=by
 simp only [Ao3,Fa7,Eq3,Eq2,List.length_append,List.length_map,hL.al,hL.cl,hL.wl]
 simp only [eq_comm]
theorem filter_range {f g:Nat→Bool} {n:Nat} (h:∀p,p<n→f p=g p):(List.range n).filter f=(List.range n).filter g:=List.filter_congr fun p hp=>h p (List.mem_range.1 hp)
theorem from_on {x y z:Wd} (hZ:Like x z) {l:List Wr} (hA:(∀p,p<x.at_.length→atG z p=if hitB l 0 p=true then atG y p else atG x p)∧(∀p,p<x.coins.length→coG z p=if hitB l 1 p=true then coG y p else coG x p)∧(∀p,p<x.wher.length→whG z p=if hitB l 2 p=true then whG y p else whG x p)):Ao3 z y=(Ao3 x y).filter fun c=>!hitB l c.kind c.id.toNat:=by
 have fm:∀(n:Nat) (f g:Nat→Bool) (k:Nat→Wr),(∀p,p<n→f p=(g p&&!hitB l (k p).kind (k p).id.toNat))→((List.range n).filter f).map k=(((List.range n).filter g).map k).filter fun c=>!hitB l c.kind c.id.toNat:=fun n f g k h=>by
  rw [List.filter_map,List.filter_filter]
  congr 1
  refine filter_range fun p hp=>?_
  rw [h p hp,Bool.and_comm];rfl
 unfold Ao3
 rw [List.filter_append,List.filter_append,hZ.al,hZ.cl,hZ.wl]
 congr 1
 ·refine fm _ _ _ _ fun p hp=>?_
  rw [hA.1 p hp]
  simp only [Int.toNat_natCast]
  cases hitB l 0 p<;>simp
 ·congr 1
  ·refine fm _ _ _ _ fun p hp=>?_
   rw [hA.2.1 p hp]
   simp only [Int.toNat_natCast]
   cases hitB l 1 p<;>simp
  ·refine fm _ _ _ _ fun p hp=>?_
   rw [hA.2.2 p hp]
   simp only [Int.toNat_natCast]
   cases hitB l 2 p<;>simp
theorem from_cut {x y:Wd} (hL:Like x y) (k:Nat):Ao3 (allP x ((Ao3 x y).take k)) y=(Ao3 x y).drop k∧allP (allP x ((Ao3 x y).take k)) ((Ao3 x y).drop k)=y:=by
 refine ⟨?_,by rw [←Gg6,List.take_append_drop];exact all_makes hL⟩
 have hA:=Hl2 ((Ao3 x y).take k) hL fun c hc=>Hh0 hL (List.mem_of_mem_take hc)
 rw [from_on (Gw8 _ x) hA]
 have hp:=from_apart x y
 have hid:∀c∈Ao3 x y,((c.id.toNat:Nat):Int)=c.id:=fun c hc=>by
  rcases Dc9.1 hc with ⟨p,_,_,rfl⟩|⟨p,_,_,rfl⟩|⟨p,_,_,rfl⟩<;>simp
 generalize Ao3 x y=l at *
 conv=>lhs;arg 2;rw [←List.take_append_drop k l]
 rw [←List.take_append_drop k l,List.pairwise_append] at hp
 rw [List.filter_append]
 have e1:(l.take k).filter (fun c=>!hitB (l.take k) c.kind c.id.toNat)=[]:=by
  rw [List.filter_eq_nil_iff]
  intro c hc
  have:hitB (l.take k) c.kind c.id.toNat=true:=by rw [Eo7];exact ⟨c,hc,rfl,(hid c (List.mem_of_mem_take hc)).symm⟩
  simp [this]
 have e2:(l.drop k).filter (fun c=>!hitB (l.take k) c.kind c.id.toNat)=l.drop k:=by
  rw [List.filter_eq_self]
  intro c hc
  have:hitB (l.take k) c.kind c.id.toNat=false:=by
   rw [Bool.eq_false_iff]
   intro h
   rw [Eo7] at h
   obtain ⟨b,hb,h1,h2⟩:=h
   rw [hid c (List.mem_of_mem_drop hc)] at h2
   exact hp.2.2 b hb c hc ⟨h1,h2⟩
  simp [this]
 rw [e1,e2,List.nil_append]
end Go.Proofs.YtaeclpjofclbeaaDoor
