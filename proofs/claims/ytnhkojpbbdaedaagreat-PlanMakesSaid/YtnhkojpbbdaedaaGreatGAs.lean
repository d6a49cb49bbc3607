/- Contracts over a value whose lists are as long as another world's. -/
import Derived.Test.YtnhkojpbbdaedaaGreatGNew
import Derived.Test.YtnhkojpbbdaedaaGreatRefRight
namespace Go.Proofs.YtnhkojpbbdaedaaGreat
open Go.ChangeShapes Go.WideShapes Go.ChangeAt Go.RowKit Go.Proofs.Tryz
set_option linter.unusedVariables false
section
structure Am (x y:Wd):Prop where
 ex:y.d.exits.length=x.d.exits.length
 pl:y.d.players.length=x.d.players.length
 co:y.d.coins.length=x.d.coins.length
 it:y.d.items.length=x.d.items.length
 bo:y.d.boxes.length=x.d.boxes.length
 r:y.d.room=x.d.room
 p:y.d.player=x.d.player
 b:y.d.box=x.d.box
 at_:y.at_.length=x.at_.length
 c:y.coins.length=x.coins.length
 w:y.wher.length=x.wher.length
theorem Am.refl (x:Wd):Am x x:=⟨rfl,rfl,rfl,rfl,rfl,rfl,rfl,rfl,rfl,rfl,rfl⟩
theorem Am.val {x y:Wd} (h:Am x y) (p:Wp):(.agg (wC y p):Value)=.agg (wC x p):=by
 try simp only [wC]
 rw [h.ex,h.pl,h.co,h.it,h.bo,h.r,h.p,h.b,h.at_,h.c,h.w]
theorem Fs6 {x y:Wd} (hs:Am x y) (p:Wp) (w:World) (h:Ab w p y) (hf:FewW y) :
 Calls prog 32 #[.agg (wC x p)] w fun e w'=>∃p':Wp,e=.returned (.agg (wC x p'))∧Ao w.heap.size w' p' y∧Below w.heap.size w w':=by
 have:=Gi y p w h hf
 rw [hs.val] at this
 refine this.mono fun e w' ⟨p',he,h1,h2⟩=>⟨p',by rw [←hs.val];exact he,h1,h2⟩
theorem Aj {x:Wd} (h:Ai x=true):0<x.at_.length∧x.at_.length≤6∧x.coins.length=x.at_.length∧x.wher.length≤16∧x.d.items.length=x.wher.length∧mayD x.d=true:=by
 simp only [Ai,Bool.and_eq_true] at h
 have hf:=Kv h.1
 have h1:=h.2.1
 have h2:=h.2.2.1
 simp only [Dr,Dv,Bool.and_eq_true,decide_eq_true_eq] at h1 h2
 exact ⟨by omega,by omega,by omega,by omega,by omega,h.1⟩
theorem Fb {x:Wd} (h:Ai x=true):(∀n∈x.at_,0≤n∧n<x.d.exits.length)∧(∀n∈x.coins,0≤n∧n≤1073741824)∧∀p∈x.wher,Cw x.d p=true:=by
 simp only [Ai,Dr,Dv,Bool.and_eq_true,decide_eq_true_eq,List.all_eq_true] at h
 exact ⟨(Ux _ _).1 h.2.1.2.2.1,(Wl _).1 h.2.1.2.2.2,h.2.2.1.2⟩
theorem Aa {B:Nat} {V c c1:World} (h:Below B V c) (hs:B≤c.heap.size) (hb:Below c.heap.size c c1):Below B V c1:=h.trans (hb.mono hs)
theorem Dm6 {xs:List Int} {k:Nat} {v:Int} (hk:k<xs.length) (h:v≠xs[k]):¬xs.set k v=xs:=by
 intro e
 have h2:(xs.set k v)[k]?=xs[k]?:=by rw [e]
 rw [List.getElem?_set_self hk,List.getElem?_eq_getElem hk] at h2
 exact h (Option.some.inj h2)
theorem Dz5 {xs:List Pl} {k:Nat} (hk:k<xs.length):¬xs.set k ⟨xs[k].kind,xs[k].id+1⟩=xs:=by
 intro e
 have h2:(xs.set k ⟨xs[k].kind,xs[k].id+1⟩)[k]?=xs[k]?:=by rw [e]
 rw [List.getElem?_set_self hk,List.getElem?_eq_getElem hk] at h2
 have h3:=congrArg Pl.id (Option.some.inj h2)
 simp only at h3
 omega
theorem Cs0 {W:World} {q:Wp} {x:Wd} {b i:Nat} {u:Value} (h:Ab (W.setCell ⟨b,i,none⟩ u) q x):Ab (W.drew.setCell ⟨b,i,none⟩ u) q x:=⟨⟨h.d.ex,h.d.pl,h.d.co,h.d.it,h.d.bo⟩,h.at_,h.co,h.wh⟩
end
section
def Cd0 (e:Ex):Nat→Int
 | 0=>e.n
 | 1=>e.e
 | 2=>e.s
 | _=>e.w
def toW (x:Wd) (r d:Nat):Int:=Cd0 (x.d.exits.getD r ⟨0,0,0,0⟩) d
def Ah (x:Wd) (i:Nat):Nat:=(x.at_.getD i 0).toNat
def goW (x:Wd) (i:Nat) (t:Int):Wd:=⟨x.d,x.at_.set i t,x.coins,x.wher⟩
def Ck (x:Wd) (i d:Nat):Wd × Int × Int:=if toW x (Ah x i) d=-1 then (x,0,4) else (goW x i (toW x (Ah x i) d),toW x (Ah x i) d,0)
def Eg (x:Wd) (i:Nat) (q:Int) (d:Nat):Wd × Int × Int :=
 if inB q x.at_.length=false then (x,0,3) else if q=i then (x,0,12) else if ¬Ah x i=Ah x q.toNat then (x,0,5) else Ck x q.toNat d
theorem Au1 (e:Ex) {d:Nat} (hd:d<4):(exC e)[d]?=some (.int .i64 (Cd0 e d)):=by
 obtain rfl|rfl|rfl|rfl:d=0∨d=1∨d=2∨d=3:=by omega
 all_goals rfl
theorem Tv {x:Wd} {r:Nat} (hr:r<x.d.exits.length) (d:Nat):Cd0 x.d.exits[r] d=toW x r d:=by
 simp [toW,List.getD,List.getElem?_eq_getElem hr]
theorem Vl {x:Wd} (h:Ai x=true) {r d:Nat} (hr:r<x.d.exits.length) (hd:d<4):toW x r d=-1∨(0≤toW x r d∧toW x r d<x.d.exits.length):=by
 have hm:=(Aj h).2.2.2.2.2
 simp only [mayD,Oy,Bool.and_eq_true,List.all_eq_true] at hm
 have he:=hm.1.2.2 _ (List.getElem_mem hr)
 simp only [exB,Bool.and_eq_true,Cs7] at he
 rw [←Tv hr]
 obtain rfl|rfl|rfl|rfl:d=0∨d=1∨d=2∨d=3:=by omega
 ·exact he.1
 ·exact he.2.1
 ·exact he.2.2.1
 ·exact he.2.2.2
theorem Bn {x:Wd} (h:Ai x=true) {i:Nat} (hi:i<x.at_.length):x.at_[i]=((Ah x i:Nat):Int)∧Ah x i<x.d.exits.length:=by
 have h1:=(Fb h).1 _ (List.getElem_mem hi)
 have e:x.at_.getD i 0=x.at_[i]:=by simp [List.getD,List.getElem?_eq_getElem hi]
 unfold Ah
 rw [e]
 exact ⟨by omega,by omega⟩
theorem Ox {x:Wd} (h:Ai x=true) {i:Nat} {t:Int} (ht:0≤t∧t<x.d.exits.length):Ai (goW x i t)=true:=by
 have h0:=(Fb h).1
 have h1:=h
 simp only [Ai,Dr,Bool.and_eq_true,decide_eq_true_eq] at h1 ⊢
 refine ⟨h1.1,⟨by simpa [goW] using h1.2.1.1,h1.2.1.2.1,?_,h1.2.1.2.2.2⟩,h1.2.2⟩
 rw [Ux]
 intro n hn
 rcases List.mem_or_eq_of_mem_set hn with hn|rfl
 ·exact h0 n hn
 ·exact ht
theorem Aq0 {x:Wd} (h:Ai x=true) {i d:Nat} (hi:i<x.at_.length) (hd:d<4):Ai (Ck x i d).1=true:=by
 unfold Ck
 split
 ·exact h
 ·exact Ox h ((Vl h (Bn h hi).2 hd).resolve_left (by assumption))
theorem Qi (x:Wd) (i d:Nat):Am x (Ck x i d).1:=by
 unfold Ck
 split
 ·exact Am.refl x
 ·exact ⟨rfl,rfl,rfl,rfl,rfl,rfl,rfl,rfl,by simp [goW],rfl,rfl⟩
theorem Qb (x:Wd) (i:Nat) (t:Int):Am x (goW x i t):=⟨rfl,rfl,rfl,rfl,rfl,rfl,rfl,rfl,by simp [goW],rfl,rfl⟩
theorem Ap7 (x:Wd) (i:Nat) (q:Int) (d:Nat):Am x (Eg x i q d).1:=by
 unfold Eg
 split
 ·exact Am.refl x
 ·split
  ·exact Am.refl x
  ·split
   ·exact Am.refl x
   ·exact Qi _ _ _
end
section
def isPl (x:Wd) (y:Pl):Bool:=decide (0≤y.id)&&((decide (y.kind=0)&&decide (y.id<x.d.exits.length))||((decide (y.kind=1)&&decide (y.id<x.at_.length))||(decide (y.kind=2)&&decide (y.id<x.wher.length))))
def Ba (x:Wd):Bool:=fewB x&&Ai x
end
section
open Go.RowKit Go.Deep Go.Joins
set_option maxRecDepth 100000 in
theorem Bq7 {H:Type} {enc:TypeId × Value→H} {W:World} {base:Nat} {v:Value} {d:DataW H} {ps:List MemPlace}
 (hv:Value.okWide prog W .any base 48 v) (h:DataW.Trod enc prog W 0 (fun _=>true) true 48 v d ps):∃y:Pl,v=.agg #[.int .i64 y.kind,.int .i64 y.id]:=by
 obtain ⟨cs,rfl,_⟩:=okWide_struct underlying48 hv
 obtain ⟨fuel,hf⟩:=h
 obtain ⟨y,he⟩:=Bb4 underlying48 underlying3 (by kernel_rfl) ⟨rfl,rfl⟩ ⟨rfl,rfl⟩ (by kernel_rfl) (show DataW.trod enc prog W 0 (fun _=>true) true fuel 48 cs.toList=some _ from hf)
 exact ⟨y,by rw [←Array.toArray_toList (xs:=cs),he];rfl⟩
theorem Bv {x:Wd} (h2:Ai x=true):Tr x.wher:=by
 have hl:=Aj h2
 have hin:=Fb h2
 have hp:=h2
 simp only [Ai,Dv,Sk,mayD,Iw,Ot,Bool.and_eq_true,decide_eq_true_eq,List.all_eq_true] at hp
 refine ⟨fun p hpm hk=>?_,fun p hpm=>?_⟩
 ·have h3:=hin.2.2 p hpm
  simp only [Cw,hk] at h3
  simp [inB] at h3
  omega
 ·exact hp.2.2.2.1 p hpm
structure Fit (x:Wd):Prop where
 few:fewB x=true
 right:Ai x=true
 tr:Tr x.wher
 len:x.wher.length≤16
 caps:∀q:Nat,q<3→0≤Cb x.d q∧Cb x.d q≤64
theorem Bl {x:Wd} (h:Ba x=true):Fit x:=by
 simp only [Ba,Bool.and_eq_true] at h
 obtain ⟨h1,h2⟩:=h
 have hl:=Aj h2
 have hp:=h2
 simp only [Ai,Dv,Sk,mayD,Iw,Ot,Bool.and_eq_true,decide_eq_true_eq,List.all_eq_true] at hp
 refine ⟨h1,h2,Bv h2,hl.2.2.2.1,fun q hq=>?_⟩
 ·have hc:=hp.1.2.2.1
  have c0:=hc x.d.room (by simp)
  have c1:=hc x.d.player (by simp)
  have c2:=hc x.d.box (by simp)
  simp only [capB,Bool.and_eq_true,decide_eq_true_eq] at c0 c1 c2
  obtain rfl|rfl|rfl:q=0∨q=1∨q=2:=by omega
  ·simpa [Cb] using c0
  ·simpa [Cb] using c1
  ·simpa [Cb] using c2
theorem Bc (m:Nat) (n:Nat):(m:Int)%(n:Int)=((m%n:Nat):Int):=by omega
theorem Ay (m:Nat) (n:Nat):(m:Int).tmod (n:Int)=((m%n:Nat):Int):=by rfl
theorem Xv (k i:Int) (W:World):(binOp .eql 48 (.agg #[.int .i64 k,.int .i64 i]) (.agg #[.int .i64 k,.int .i64 i])).run prog W=.ok (.bool true) W:=by
 have:=Ey k i k i W
 simpa using this
end
section
def putW (x:Wd) (k:Nat) (f:Pl):Wd:=⟨x.d,x.at_,x.coins,x.wher.set k f⟩
def roomI (x:Wd) (f:Pl):Int:=Cb x.d f.kind-((x.wher.count f:Nat):Int)
def Fa (x:Wd) (item:Int) (f g:Pl):Wd × Int :=
 if inB item x.wher.length=false then (x,3) else if ¬plOf x.wher item.toNat=f then (x,5) else if roomI x g=0 then (x,9) else (putW x item.toNat g,0)
def getW (x:Wd) (i:Nat) (item:Int):Wd × Int:=Fa x item ⟨0,(Ah x i:Int)⟩ ⟨1,(i:Int)⟩
def Nj (x:Wd) (i:Nat) (item:Int):Wd × Int:=Fa x item ⟨1,(i:Int)⟩ ⟨0,(Ah x i:Int)⟩
theorem Db (x:Wd) (k:Nat) (f:Pl):Am x (putW x k f):=⟨rfl,rfl,rfl,rfl,rfl,rfl,rfl,rfl,rfl,rfl,by simp [putW]⟩
theorem Zw (x:Wd) (k:Nat) (f g:Pl):putW (putW x k f) k g=putW x k g:=by simp [putW]
theorem Zv {x:Wd} {k:Nat} (hk:k<x.wher.length) {f:Pl} (h:plOf x.wher k=f):putW x k f=x:=by
 rw [Bo hk] at h
 subst h
 unfold putW
 rw [List.set_getElem_self]
theorem Qw (x:Wd) (item:Int) (f g:Pl):Am x (Fa x item f g).1:=by
 unfold Fa
 split
 ·exact Am.refl x
 ·split
  ·exact Am.refl x
  ·split
   ·exact Am.refl x
   ·exact Db _ _ _
theorem Uu (ps:List Pl) (n:Nat) {p:Pl} (h:¬p.kind=2):Gu ps n p=true:=by cases n<;>simp [Gu,h]
theorem Ac4 {ps:List Pl} {k:Nat} {f:Pl} (hf:¬f.kind=2):∀(n:Nat) (p:Pl),Gu ps n p=true→Gu (ps.set k f) n p=true
 | 0,_,h=>h
 | n+1,p,h=>by
   simp only [Gu,Bool.or_eq_true,decide_eq_true_eq] at h ⊢
   rcases h with h|h
   ·exact .inl h
   ·right
    unfold par at h ⊢
    by_cases e:p.id.toNat=k
    ·by_cases hk:k<ps.length
     ·rw [e,List.getD_eq_getElem?_getD,List.getElem?_set_self hk]
      exact Uu _ _ hf
     ·rw [List.set_eq_of_length_le (by omega)]
      exact h
    ·rw [List.getD_eq_getElem?_getD,List.getElem?_set_ne (fun h=>e h.symm),←List.getD_eq_getElem?_getD]
     exact Ac4 hf n _ h
theorem Jr {ps:List Pl} {k:Nat} (hk:k<ps.length) (f p:Pl):(ps.set k f).count p=ps.count p-(if ps[k]=p then 1 else 0)+(if f=p then 1 else 0):=by
 rw [List.count_set hk]
 simp only [beq_iff_eq]
theorem Az4 {ps:List Pl} {k:Nat} (hk:k<ps.length):1≤ps.count ps[k]:=List.count_pos_iff.2 (List.getElem_mem hk)
theorem Ru {x:Wd} (h:Ai x=true) {k:Nat} (hk:k<x.wher.length) {f:Pl} (hf:¬f.kind=2) (hp:Cw x.d f=true) (hr:0<roomI x f):Ai (putW x k f)=true:=by
 have h1:=h
 simp only [Ai,Bool.and_eq_true] at h1 ⊢
 obtain ⟨h2,h3,h4,h5,h6⟩:=h1
 refine ⟨h2,h3,?_,?_,?_⟩
 ·simp only [Dv,putW,Bool.and_eq_true,decide_eq_true_eq,List.all_eq_true,List.length_set] at h4 ⊢
  refine ⟨h4.1,fun p hpm=>?_⟩
  rcases List.mem_or_eq_of_mem_set hpm with hpm|rfl
  ·exact h4.2 p hpm
  ·exact hp
 ·simp only [Sk,putW,List.all_eq_true] at h5 ⊢
  intro p hpm
  rcases List.mem_or_eq_of_mem_set hpm with hpm|rfl
  ·exact Ac4 hf 4 p (h5 p hpm)
  ·exact Uu _ _ hf
 ·simp only [fitB,List.all_eq_true,decide_eq_true_eq] at h6
  unfold fitB
  rw [List.all_eq_true]
  intro p hpm
  refine decide_eq_true ?_
  show ((List.count p (x.wher.set k f):Nat):Int)≤Cb x.d p.kind
  rw [Jr hk]
  by_cases e:f=p
  ·subst e
   unfold roomI at hr
   rw [if_pos rfl]
   split<;>omega
  ·rw [if_neg e]
   have h7:=h6 p ((List.mem_or_eq_of_mem_set hpm).resolve_right (fun h=>e h.symm))
   split<;>omega
theorem Hz {x:Wd} (h:Ai x=true) {f:Pl} (hq:0≤f.kind∧f.kind<3):0≤roomI x f:=by
 have hm:=(Aj h).2.2.2.2.2
 simp only [mayD,Ot,Bool.and_eq_true,List.all_eq_true] at hm
 have hc:=hm.2.2.1
 have c0:=hc x.d.room (by simp)
 have c1:=hc x.d.player (by simp)
 have c2:=hc x.d.box (by simp)
 simp only [capB,Bool.and_eq_true,decide_eq_true_eq] at c0 c1 c2
 have hp:=h
 simp only [Ai,fitB,Bool.and_eq_true,List.all_eq_true,decide_eq_true_eq] at hp
 unfold roomI
 by_cases hm:f∈x.wher
 ·have:=hp.2.2.2.2 _ hm
  omega
 ·rw [List.count_eq_zero.2 hm]
  obtain ⟨fk,fi⟩:=f
  simp only at hq
  obtain rfl|rfl|rfl:fk=0∨fk=1∨fk=2:=by omega
  all_goals simp [Cb];omega
theorem Wz {x:Wd} {k:Nat} (hk:k<x.wher.length) {f g:Pl} (hf:plOf x.wher k=f) (hfg:¬g=f):roomI (putW x k g) f=roomI x f+1:=by
 rw [Bo hk] at hf
 have h1:=Az4 hk
 have h2:=Jr hk g f
 rw [hf] at h1 h2
 rw [if_pos rfl,if_neg hfg] at h2
 show Cb x.d f.kind-(((x.wher.set k g).count f:Nat):Int)=_
 unfold roomI
 omega
theorem Bt7 {x:Wd} (h:Ai x=true) {k:Nat} (hk:k<x.wher.length) {f g:Pl} (hq:0≤f.kind∧f.kind<3) (hfg:¬g=f) (hf:plOf x.wher k=f):Fa (putW x k g) k g f=(x,0):=by
 have e1:plOf (putW x k g).wher k=g:=by show plOf (x.wher.set k g) k=g;rw [Dk hk,if_pos rfl]
 have e2:=Wz hk hf hfg
 have e3:=Hz h hq
 have e4:inB (k:Int) (putW x k g).wher.length=true:=by
  show inB (k:Int) (x.wher.set k g).length=true
  simp [inB,hk]
 unfold Fa
 rw [e4]
 simp only [Bool.true_eq_false,if_false,Int.toNat_natCast]
 rw [e1,if_neg (by simp),if_neg (by omega),Zw,Zv hk hf]
theorem Ax8 {x:Wd} (h:Ai x=true) {i:Nat} (hi:i<x.at_.length):Cw x.d ⟨0,(Ah x i:Int)⟩=true:=by
 have:=(Bn h hi).2
 simp [Cw,inB];omega
theorem Jt {x:Wd} (h:Ai x=true) {i:Nat} (hi:i<x.at_.length):Cw x.d ⟨1,(i:Int)⟩=true:=by
 have h1:=h
 simp only [Ai,Dr,Bool.and_eq_true,decide_eq_true_eq] at h1
 have:=h1.2.1.1
 simp [Cw,inB];omega
theorem Ho (x:Wd) (item:Int) (f g:Pl) :
 (inB item x.wher.length=false∧Fa x item f g=(x,3)) ∨
 ∃k:Nat,item=k∧k<x.wher.length∧((¬plOf x.wher k=f∧Fa x item f g=(x,5))∨(plOf x.wher k=f∧roomI x g=0∧Fa x item f g=(x,9))∨(plOf x.wher k=f∧¬roomI x g=0∧Fa x item f g=(putW x k g,0))):=by
 unfold Fa
 by_cases h1:inB item x.wher.length=false
 ·exact .inl ⟨h1,by rw [if_pos h1]⟩
 ·right
  rw [if_neg h1]
  rw [Bool.not_eq_false,Bi] at h1
  refine ⟨item.toNat,by omega,by omega,?_⟩
  by_cases h2:plOf x.wher item.toNat=f
  ·rw [if_neg (by simpa using h2)]
   by_cases h3:roomI x g=0
   ·rw [if_pos h3];exact .inr (.inl ⟨h2,h3,rfl⟩)
   ·rw [if_neg h3];exact .inr (.inr ⟨h2,h3,rfl⟩)
  ·rw [if_pos h2];exact .inl ⟨h2,rfl⟩
theorem Ym {x:Wd} (h:Ai x=true) {item:Int} {f g:Pl} (hg:Cw x.d g=true) (hk:¬g.kind=2) (hq:0≤g.kind∧g.kind<3):Ai (Fa x item f g).1=true:=by
 rcases Ho x item f g with ⟨_,e⟩|⟨k,rfl,hl,⟨_,e⟩|⟨_,_,e⟩|⟨_,hr,e⟩⟩
 all_goals rw [e]
 ·exact h
 ·exact h
 ·exact h
 ·have:=Hz h hq
  exact Ru h hl hk hg (by omega)
end
section
theorem He8 {x y:Wd} (hf:Ba x=true) (hs:Am x y) (hr:Ai y=true):Ba y=true:=by
 simp only [Ba,Bool.and_eq_true] at hf ⊢
 refine ⟨?_,hr⟩
 have h1:=hf.1
 simp only [fewB] at h1 ⊢
 rw [hs.ex,hs.pl,hs.co,hs.it,hs.bo,hs.at_,hs.c,hs.w]
 exact h1
theorem As7 {x:Wd} (h:Ai x=true) {k:Nat} (hk:k<x.wher.length) {f:Pl} (hf:¬f.kind=2) (h2:Ai (putW x k f)=true) {n:Nat} (hn:n<x.wher.length):(wB x.wher n k=true→Bh (putW x k f).wher n=f)∧(wB x.wher n k=false→Bh (putW x k f).wher n=Bh x.wher n):=by
 have hm:=Bh4 (Bv h) hf (Bv h2) hk n hn
 exact ⟨fun h=>(hm.y h).1,fun h=>(hm.n h).1⟩
structure Gt (x:Wd) (i:Nat) (T:List Nat) (n:Nat) (y:Wd):Prop where
 right:Ai y=true
 shape:Am x y
 at_:y.at_=x.at_
 room:roomI y ⟨1,(i:Int)⟩=roomI x ⟨1,(i:Int)⟩-n
 rest:∀m (hm:m<T.length),n≤m→plOf y.wher T[m]=⟨0,(Ah x i:Int)⟩
theorem Bb6 {x y:Wd} (h:y.at_=x.at_) (i:Nat):Ah y i=Ah x i:=by unfold Ah;rw [h]
theorem Gt.start {x:Wd} (h:Ai x=true) {i:Nat} {T:List Nat} (hT:∀m (hm:m<T.length),plOf x.wher T[m]=⟨0,(Ah x i:Int)⟩):Gt x i T 0 x:=⟨h,Am.refl x,rfl,by simp,fun m hm _=>hT m hm⟩
theorem Gt.more {x:Wd} {i:Nat} {T:List Nat} {n:Nat} {y:Wd} (h:Gt x i T n y) (hi:i<x.at_.length) (hn:n<T.length) (hl:∀m (hm:m<T.length),T[m]<x.wher.length) (hup:T.Pairwise (·<·)) (hr:(n:Int)<roomI x ⟨1,(i:Int)⟩) :
 getW y i T[n]=(putW y T[n] ⟨1,(i:Int)⟩,0)∧Gt x i T (n+1) (putW y T[n] ⟨1,(i:Int)⟩):=by
 have hlt:T[n]<y.wher.length:=by rw [h.shape.w];exact hl n hn
 have hp:=h.rest n hn (Nat.le_refl _)
 have hiy:i<y.at_.length:=by rw [h.at_];exact hi
 have hrt:Ai (putW y T[n] ⟨1,(i:Int)⟩)=true:=Ru h.right hlt (by simp) (Jt h.right hiy) (by rw [h.room];omega)
 refine ⟨?_,hrt,?_,h.at_,?_,fun m hm hnm=>?_⟩
 ·unfold getW Fa
  rw [if_neg (by simp [inB];omega),Bb6 h.at_,if_neg (by simpa using hp),if_neg (by rw [h.room];omega)]
  simp
 ·have s1:=h.shape
  have s2:=Db y T[n] ⟨1,(i:Int)⟩
  exact ⟨s2.ex.trans s1.ex,s2.pl.trans s1.pl,s2.co.trans s1.co,s2.it.trans s1.it,s2.bo.trans s1.bo,s2.r.trans s1.r,s2.p.trans s1.p,s2.b.trans s1.b,s2.at_.trans s1.at_,s2.c.trans s1.c,s2.w.trans s1.w⟩
 ·have h1:=h.room
  have h2:=Jr hlt ⟨1,(i:Int)⟩ ⟨1,(i:Int)⟩
  rw [Bo hlt] at hp
  rw [hp,if_pos rfl,if_neg (by simp)] at h2
  unfold roomI at h1 ⊢
  have h3:(putW y T[n] ⟨1,(i:Int)⟩).wher.count ⟨1,(i:Int)⟩=y.wher.count ⟨1,(i:Int)⟩-0+1:=h2
  rw [h3]
  show Cb y.d _-_=_
  omega
 ·have hml:T[m]<y.wher.length:=by rw [h.shape.w];exact hl m hm
  show plOf (y.wher.set T[n] _) T[m]=_
  have hne:¬T[m]=T[n]:=by
   have:=(List.pairwise_iff_getElem.1 hup) n m hn hm (by omega)
   omega
  rw [Dk hml,if_neg hne]
  exact h.rest m hm (by omega)
theorem Gt.full {x:Wd} {i:Nat} {T:List Nat} {n:Nat} {y:Wd} (h:Gt x i T n y) (hl:∀m (hm:m<T.length),T[m]<x.wher.length) (hr:(n:Int)=roomI x ⟨1,(i:Int)⟩) {m:Nat} (hm:m<T.length) (hnm:n≤m):getW y i T[m]=(y,9):=by
 have hlt:T[m]<y.wher.length:=by rw [h.shape.w];exact hl m hm
 unfold getW Fa
 rw [if_neg (by simp [inB];omega),Bb6 h.at_,if_neg (by simpa using h.rest m hm hnm),if_pos (by rw [h.room];omega)]
theorem Du4 (y:Wd) {k:Nat} (hk:k<y.wher.length) (i j:Nat):getW (putW y k ⟨1,(i:Int)⟩) j k=(putW y k ⟨1,(i:Int)⟩,5):=by
 have e:plOf (putW y k ⟨1,(i:Int)⟩).wher k=⟨1,(i:Int)⟩:=by show plOf (y.wher.set k _) k=_;rw [Dk hk,if_pos rfl]
 unfold getW Fa
 rw [if_neg (by show ¬inB (k:Int) (y.wher.set k _).length=false;simp [inB,hk]),if_pos (by simp only [Int.toNat_natCast];rw [e];simp)]
def inL (ps:List Pl) (p:Pl):List Nat:=(List.range ps.length).filter fun i=>decide (plOf ps i=p)
theorem Gc8 (ps:List Pl) (p:Pl):inN ps ps.length p=(inL ps p).map fun (i:Nat)=>(i:Int):=rfl
theorem Eo4 {ps:List Pl} {p:Pl} {m:Nat} (hm:m<(inL ps p).length):(inL ps p)[m]<ps.length∧plOf ps (inL ps p)[m]=p:=by
 have:=List.getElem_mem hm
 unfold inL at this
 rw [List.mem_filter,List.mem_range] at this
 exact ⟨this.1,of_decide_eq_true this.2⟩
theorem Gc9 (ps:List Pl) (p:Pl):(inL ps p).Pairwise (·<·):=List.Pairwise.filter _ List.pairwise_lt_range
theorem Ew8 {x:Wd} {i k:Nat} (hk:k<x.wher.length):(getW x i k).2≠5↔plOf x.wher k=⟨0,(Ah x i:Int)⟩:=by
 unfold getW Fa
 rw [if_neg (by simp [inB,hk])]
 simp only [Int.toNat_natCast]
 by_cases h:plOf x.wher k=⟨0,(Ah x i:Int)⟩
 ·rw [if_neg (by simpa using h)]
  split<;>simp [h]
 ·rw [if_pos h];simp [h]
theorem Dv2 {x:Wd} {i k:Nat} (hk:k<x.wher.length):(Nj x i k).2≠5↔plOf x.wher k=⟨1,(i:Int)⟩:=by
 unfold Nj Fa
 rw [if_neg (by simp [inB,hk])]
 simp only [Int.toNat_natCast]
 by_cases h:plOf x.wher k=⟨1,(i:Int)⟩
 ·rw [if_neg (by simpa using h)]
  split<;>simp [h]
 ·rw [if_pos h];simp [h]
end
end Go.Proofs.YtnhkojpbbdaedaaGreat
