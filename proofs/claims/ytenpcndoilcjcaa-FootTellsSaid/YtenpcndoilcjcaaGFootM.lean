/- Footprints: what a command changes, and what it hangs on: plain mathematics. -/
import Derived.Test.YtenpcndoilcjcaaAtomMath2
import Derived.Test.YtenpcndoilcjcaaGKeysC
namespace Go.Proofs.Ytenpcndoilcjcaa
open Go.ChangeShapes Go.WideShapes Go.ChangeAt Go.RowKit
set_option linter.unusedVariables false
section
def Yb (x:Wd) (i:Nat) (c:Cm):List Pl :=
 [⟨0,(Ah x i:Int)⟩,⟨1,(i:Int)⟩]
   ++ ((if (c.kind=1∨c.kind=2)∧¬toW x (Ah x i) c.dir.toNat=-1 then [⟨0,toW x (Ah x i) c.dir.toNat⟩] else [])
   ++ (if (c.kind=2∨c.kind=7∨c.kind=8)∧inB c.who x.at_.length=true then [⟨1,c.who⟩] else []))
theorem Gd7 (x:Wd) (i:Nat) (c:Cm):(⟨0,(Ah x i:Int)⟩:Pl)∈Yb x i c:=by simp [Yb]
theorem Ew9 (x:Wd) (i:Nat) (c:Cm):(⟨1,(i:Int)⟩:Pl)∈Yb x i c:=by simp [Yb]
theorem foot_to {x:Wd} {i:Nat} {c:Cm} (h:c.kind=1∨c.kind=2) (h2:¬toW x (Ah x i) c.dir.toNat=-1):(⟨0,toW x (Ah x i) c.dir.toNat⟩:Pl)∈Yb x i c:=by simp [Yb,h,h2]
theorem foot_who {x:Wd} {i:Nat} {c:Cm} (h:c.kind=2∨c.kind=7∨c.kind=8) (h2:inB c.who x.at_.length=true):(⟨1,c.who⟩:Pl)∈Yb x i c:=by simp [Yb,h,h2]
def tgtF (F:Pl→Prop) (x:Wd) (g:Pl):Prop:=(¬g.kind=2∧F g)∨∃b,b<x.wher.length∧g=box b∧F (Bh x.wher b)
structure Under (F:Pl→Prop) (x y:Wd):Prop where
 d:y.d=x.d
 al:y.at_.length=x.at_.length
 cl:y.coins.length=x.coins.length
 wl:y.wher.length=x.wher.length
 pl:∀p:Nat,p<x.at_.length→¬Ah y p=Ah x p→F ⟨1,(p:Int)⟩∧F ⟨0,(Ah x p:Int)⟩∧F ⟨0,(Ah y p:Int)⟩
 co:∀p:Nat,p<x.coins.length→¬Al y p=Al x p→F ⟨1,(p:Int)⟩
 it:∀n:Nat,n<x.wher.length→¬plOf y.wher n=plOf x.wher n→F (Bh x.wher n)∧tgtF F x (plOf y.wher n)
structure View (F:Pl→Prop) (x y:Wd):Prop where
 d:y.d=x.d
 al:y.at_.length=x.at_.length
 cl:y.coins.length=x.coins.length
 wl:y.wher.length=x.wher.length
 pl:∀p:Nat,p<x.at_.length→F ⟨1,(p:Int)⟩→Ah y p=Ah x p
 co:∀p:Nat,p<x.coins.length→F ⟨1,(p:Int)⟩→Al y p=Al x p
 pres:∀p r:Nat,p<x.at_.length→F ⟨0,(r:Int)⟩→(Ah y p=r↔Ah x p=r)
 root:∀n:Nat,n<x.wher.length→(F (Bh y.wher n)↔F (Bh x.wher n))
 up:∀n:Nat,n<x.wher.length→F (Bh x.wher n)→upI y.wher n=upI x.wher n
theorem View.refl (F:Pl→Prop) (x:Wd):View F x x:=⟨rfl,rfl,rfl,rfl,fun _ _ _=>rfl,fun _ _ _=>rfl,fun _ _ _ _=>Iff.rfl,fun _ _=>Iff.rfl,fun _ _ _=>rfl⟩
theorem Under.refl (F:Pl→Prop) (x:Wd):Under F x x:=⟨rfl,rfl,rfl,rfl,fun _ _ h=>absurd rfl h,fun _ _ h=>absurd rfl h,fun _ _ h=>absurd rfl h⟩
section
variable {F G:Pl→Prop} {x y:Wd}
theorem Under.up_out (U:Under F x y) (hT:Tr x.wher) (hT2:Tr y.wher):∀n,n<x.wher.length→¬F (Bh x.wher n)→upI y.wher n=upI x.wher n:=by
 have same:∀n,n<x.wher.length→¬F (Bh x.wher n)→plOf y.wher n=plOf x.wher n:=fun n hn hF=>by
  apply Decidable.byContradiction
  intro h
  exact hF (U.it n hn h).1
 refine hT.ind (fun n hn hd hF=>?_) (fun n u hn hu he hup ih hF=>?_)
 ·have e:=same n hn hF
  rw [Nc hd,Nc (by rw [e];exact hd),e]
 ·have e:=same n hn hF
  rw [Et hup] at hF
  rw [(hT2.kid (by rw [U.wl];exact hn) (e.trans he)).1,hup,ih hF]
theorem Under.root_in (U:Under F x y) (hT:Tr x.wher) (hT2:Tr y.wher):∀n,n<y.wher.length→F (Bh x.wher n)→F (Bh y.wher n):=by
 refine hT2.ind (fun n hn hd hF=>?_) (fun n u hn hu he hup ih hF=>?_)
 ·rw [U.wl] at hn
  rw [Em hd]
  by_cases e:plOf y.wher n=plOf x.wher n
  ·rw [e] at hd ⊢
   rwa [Em hd] at hF
  ·rcases (U.it n hn e).2 with ⟨_,h⟩|⟨b,_,h,_⟩
   ·exact h
   ·rw [h] at hd;exact absurd rfl hd
 ·rw [U.wl] at hn
  rw [Et hup]
  by_cases e:plOf y.wher n=plOf x.wher n
  ·have:=(hT.kid hn (e.symm.trans he)).1
   rw [Et this] at hF
   exact ih hF
  ·rcases (U.it n hn e).2 with ⟨h,_⟩|⟨b,_,h,hb⟩
   ·rw [he] at h;exact absurd rfl h
   ·rw [he,Ay8] at h
    subst h
    exact ih hb
theorem Under.view (U:Under F x y) (hx:Ai x=true) (hy:Ai y=true) (hFG:∀k,F k→¬G k):View G x y:=by
 have hT:=Bv hx
 have hT2:=Bv hy
 refine ⟨U.d,U.al,U.cl,U.wl,fun p hp h=>?_,fun p hp h=>?_,fun p r hp h=>?_,fun n hn=>?_,fun n hn h=>U.up_out hT hT2 n hn fun h2=>hFG _ h2 h⟩
 ·apply Decidable.byContradiction
  intro hn
  exact hFG _ (U.pl p hp hn).1 h
 ·apply Decidable.byContradiction
  intro hn
  exact hFG _ (U.co p hp hn) h
 ·by_cases e:Ah y p=Ah x p
  ·rw [e]
  ·obtain ⟨_,h1,h2⟩:=U.pl p hp e
   constructor
   ·intro e2;rw [e2] at h2;exact absurd h (hFG _ h2)
   ·intro e2;rw [e2] at h1;exact absurd h (hFG _ h1)
 ·by_cases hF:F (Bh x.wher n)
  ·have h2:=U.root_in hT hT2 n (by rw [U.wl];exact hn) hF
   exact ⟨fun h=>absurd h (hFG _ h2),fun h=>absurd h (hFG _ hF)⟩
  ·have:=U.up_out hT hT2 n hn hF
   have e:Bh y.wher n=Bh x.wher n:=by unfold Bh;rw [this]
   rw [e]
theorem Hl4 (ps:List Pl) (n:Nat):(upI ps n).head?=some (plOf ps n):=by
 unfold upI
 simp only [upL]
 split<;>rfl
variable (V:View F x y)
include V
theorem View.plc {n:Nat} (hn:n<x.wher.length) (h:F (Bh x.wher n)):plOf y.wher n=plOf x.wher n:=by
 have:=congrArg List.head? (V.up n hn h)
 rw [Hl4,Hl4] at this
 exact Option.some.inj this
theorem View.rootE {n:Nat} (hn:n<x.wher.length) (h:F (Bh x.wher n)):Bh y.wher n=Bh x.wher n:=by unfold Bh;rw [V.up n hn h]
theorem View.rootK {n:Nat} (hn:n<x.wher.length) {k:Pl} (h:F k):Bh y.wher n=k↔Bh x.wher n=k:=by
 constructor
 ·intro e
  have h2:F (Bh x.wher n):=(V.root n hn).1 (by rw [e];exact h)
  rw [←V.rootE hn h2];exact e
 ·intro e
  rw [V.rootE hn (by rw [e];exact h)];exact e
theorem View.at_ (hx:Ai x=true) (hy:Ai y=true) {n:Nat} (hn:n<x.wher.length) {g:Pl} (hg:tgtF F x g):plOf y.wher n=g↔plOf x.wher n=g:=by
 have hT:=Bv hx
 have hT2:=Bv hy
 have key:F (Bh x.wher n)→(plOf y.wher n=g↔plOf x.wher n=g):=fun h=>by rw [V.plc hn h]
 rcases hg with ⟨hk,hF⟩|⟨b,hb,rfl,hF⟩
 ·constructor
  ·intro e
   refine (key ((V.root n hn).1 ?_)).1 e
   rw [Em (by rw [e];exact hk),e];exact hF
  ·intro e
   refine (key ?_).2 e
   rw [Em (by rw [e];exact hk),e];exact hF
 ·constructor
  ·intro e
   refine (key ((V.root n hn).1 ?_)).1 e
   rw [Et (hT2.kid (by rw [V.wl];exact hn) e).1]
   exact (V.root b hb).2 hF
  ·intro e
   refine (key ?_).2 e
   rw [Et (hT.kid hn e).1];exact hF
omit V in
theorem Gy6 {ps qs:List Pl} (hl:qs.length=ps.length) {g:Pl} (h:∀n,n<ps.length→(plOf qs n=g↔plOf ps n=g)):qs.count g=ps.count g:=by
 rw [←Bn7,←Bn7]
 unfold inN
 rw [hl,List.length_map,List.length_map]
 congr 1
 apply List.filter_congr
 intro n hn
 rw [List.mem_range] at hn
 simp only [h n hn]
theorem View.roomI (hx:Ai x=true) (hy:Ai y=true) {g:Pl} (hg:tgtF F x g):roomI y g=roomI x g:=by
 unfold Proofs.Ytenpcndoilcjcaa.roomI
 rw [V.d,Gy6 V.wl fun n hn=>V.at_ hx hy hn hg]
theorem View.dep {n:Nat} (hn:n<x.wher.length) (h:F (Bh x.wher n)):dep y.wher n=dep x.wher n:=by unfold Proofs.Ytenpcndoilcjcaa.dep;rw [V.up n hn h]
theorem View.wB {n:Nat} (hn:n<x.wher.length) (h:F (Bh x.wher n)) (j:Nat):wB y.wher n j=wB x.wher n j:=by unfold Proofs.Ytenpcndoilcjcaa.wB;rw [V.up n hn h]
theorem View.near {i n:Nat} (hi:i<x.at_.length) (hn:n<x.wher.length) (h0:F ⟨0,(Ah x i:Int)⟩) (h1:F ⟨1,(i:Int)⟩):De y i n=De x i n:=by
 simp only [De,V.pl i hi h1,V.rootK hn h0,V.rootK hn h1]
theorem View.hgt (hx:Ai x=true) (hy:Ai y=true) {n:Nat} (hn:n<x.wher.length) (h:F (Bh x.wher n)):hgt y.wher n=hgt x.wher n:=by
 have hT:=Bv hx
 have hT2:=Bv hy
 have hnear:∀a,a<x.wher.length→Proofs.Ytenpcndoilcjcaa.wB x.wher a n=true→F (Bh x.wher a):=fun a ha hw=>by rw [(hT.within n a ha hw).1];exact h
 have hnear2:∀a,a<x.wher.length→Proofs.Ytenpcndoilcjcaa.wB y.wher a n=true→F (Bh x.wher a):=fun a ha hw=>by
  refine (V.root a ha).1 ?_
  rw [(hT2.within n a (by rw [V.wl];exact ha) hw).1]
  exact (V.root n hn).2 h
 obtain ⟨a,ha,hwa,ea⟩:=hT.hgt_at hn
 obtain ⟨b,hb,hwb,eb⟩:=hT2.hgt_at (j:=n) (by rw [V.wl];exact hn)
 rw [V.wl] at hb
 have na:=hnear a ha hwa
 have nb:=hnear2 b hb hwb
 have l1:=hT2.hgt_le (i:=a) (j:=n) (by rw [V.wl];exact ha) (by rw [V.wB ha na];exact hwa)
 have l2:=hT.hgt_le (i:=b) (j:=n) hb (by rw [←V.wB hb nb];exact hwb)
 rw [V.dep ha na,V.dep hn h] at l1
 rw [V.dep hb nb,V.dep hn h] at eb
 omega
end
end
section
structure Acts {R:Type} (F:Pl→Prop) (x y:Wd) (X Y:Wd × R):Prop where
 res:Y.2=X.2
 pl:∀p:Nat,p<x.at_.length→F ⟨1,(p:Int)⟩→Ah Y.1 p=Ah X.1 p
 co:∀p:Nat,p<x.coins.length→F ⟨1,(p:Int)⟩→Al Y.1 p=Al X.1 p
 it:∀n:Nat,n<x.wher.length→F (Bh x.wher n)→plOf Y.1.wher n=plOf X.1.wher n
 un:Under F x X.1
theorem Hb9 (x:Wd) (i p:Nat) (t:Int) (hi:i<x.at_.length):Ah (goW x i t) p=if p=i then t.toNat else Ah x p:=by
 unfold Ah goW
 by_cases e:p=i
 ·subst e;simp [hi]
 ·have:¬i=p:=fun h=>e h.symm
  simp [List.getD,this,e]
section
variable {R:Type} {F:Pl→Prop} {x y:Wd} (V:View F x y)
include V
theorem Acts.stay (r:R):Acts F x y (x,r) (y,r):=⟨rfl,V.pl,V.co,fun _ hn h=>V.plc hn h,Under.refl F x⟩
theorem Acts.put (r:R) {k:Nat} {g:Pl} (hk:k<x.wher.length) (hF:F (Bh x.wher k)) (hg:tgtF F x g):Acts F x y (putW x k g,r) (putW y k g,r):=by
 refine ⟨rfl,V.pl,V.co,fun n hn h=>?_,⟨rfl,rfl,rfl,by simp [putW],fun _ _ h=>absurd rfl h,fun _ _ h=>absurd rfl h,fun n hn h=>?_⟩⟩
 ·show plOf (y.wher.set k g) n=plOf (x.wher.set k g) n
  rw [Dk (by rw [V.wl];exact hn),Dk hn]
  split
  ·rfl
  ·exact V.plc hn h
 ·have e:plOf (putW x k g).wher n=if n=k then g else plOf x.wher n:=Dk hn
  rw [e] at h ⊢
  by_cases hnk:n=k
  ·rw [if_pos hnk,hnk];exact ⟨hF,hg⟩
  ·rw [if_neg hnk] at h;exact absurd rfl h
theorem Acts.go (r:R) {i:Nat} {t:Int} (hi:i<x.at_.length) (h1:F ⟨1,(i:Int)⟩) (h2:F ⟨0,(Ah x i:Int)⟩) (h3:F ⟨0,t⟩) (ht:0≤t):Acts F x y (goW x i t,r) (goW y i t,r):=by
 refine ⟨rfl,fun p hp h=>?_,V.co,fun n hn h=>V.plc hn h,⟨rfl,by simp [goW],rfl,rfl,fun p hp h=>?_,fun _ _ h=>absurd rfl h,fun _ _ h=>absurd rfl h⟩⟩
 ·rw [Hb9 y i p t (by rw [V.al];exact hi),Hb9 x i p t hi]
  split
  ·rfl
  ·exact V.pl p hp h
 ·rw [Hb9 x i p t hi] at h ⊢
  by_cases e:p=i
  ·rw [if_pos e,e]
   refine ⟨h1,h2,?_⟩
   rw [show ((t.toNat:Nat):Int)=t by omega];exact h3
  ·rw [if_neg e] at h;exact absurd rfl h
theorem Gz6 (hx:Ai x=true) {i d:Nat} (hi:i<x.at_.length) (hd:d<4) (h1:F ⟨1,(i:Int)⟩) (h0:F ⟨0,(Ah x i:Int)⟩) (ht:¬toW x (Ah x i) d=-1→F ⟨0,toW x (Ah x i) d⟩):Acts F x y (Ck x i d) (Ck y i d):=by
 unfold Ck
 rw [V.pl i hi h1,show toW y (Ah x i) d=toW x (Ah x i) d by unfold toW;rw [V.d]]
 by_cases h:toW x (Ah x i) d=-1
 ·rw [if_pos h,if_pos h];exact .stay V _
 ·rw [if_neg h,if_neg h]
  have:=(Vl hx (Bn hx hi).2 hd).resolve_left h
  exact .go V _ hi h1 h0 (ht h) this.1
theorem acts_push (hx:Ai x=true) {i d:Nat} {q:Int} (hi:i<x.at_.length) (hd:d<4) (h1:F ⟨1,(i:Int)⟩) (h0:F ⟨0,(Ah x i:Int)⟩) (ht:¬toW x (Ah x i) d=-1→F ⟨0,toW x (Ah x i) d⟩) (hq:inB q x.at_.length=true→F ⟨1,q⟩):Acts F x y (Eg x i q d) (Eg y i q d):=by
 unfold Eg
 rw [V.al]
 by_cases hb:inB q x.at_.length=false
 ·rw [if_pos hb,if_pos hb];exact .stay V _
 ·rw [if_neg hb,if_neg hb]
  have hb2:inB q x.at_.length=true:=by simpa using hb
  by_cases hqi:q=i
  ·rw [if_pos hqi,if_pos hqi];exact .stay V _
  ·rw [if_neg hqi,if_neg hqi]
   have hF:=hq hb2
   rw [Bi] at hb2
   have hqn:((q.toNat:Nat):Int)=q:=by omega
   rw [←hqn] at hF
   rw [V.pl i hi h1,V.pl q.toNat (by omega) hF]
   by_cases hr:Ah x i=Ah x q.toNat
   ·have hn:¬¬Ah x i=Ah x q.toNat:=fun h=>h hr
    rw [if_neg hn,if_neg hn]
    rw [hr] at h0 ht
    exact Gz6 V hx (by omega) hd hF h0 ht
   ·rw [if_pos hr,if_pos hr];exact .stay V _
theorem Gz5 (hx:Ai x=true) (hy:Ai y=true) (item:Int) {f g:Pl} (hf:¬f.kind=2) (h1:F f) (hg:tgtF F x g):Acts F x y (Fa x item f g) (Fa y item f g):=by
 unfold Fa
 rw [V.wl]
 by_cases hb:inB item x.wher.length=false
 ·rw [if_pos hb,if_pos hb];exact .stay V _
 ·rw [if_neg hb,if_neg hb]
  have hb2:inB item x.wher.length=true:=by simpa using hb
  rw [Bi] at hb2
  have hk:item.toNat<x.wher.length:=by omega
  simp only [V.at_ hx hy hk (.inl ⟨hf,h1⟩),V.roomI hx hy hg]
  by_cases hp:plOf x.wher item.toNat=f
  ·have hn:¬¬plOf x.wher item.toNat=f:=fun h=>h hp
   rw [if_neg hn,if_neg hn]
   by_cases hr:roomI x g=0
   ·rw [if_pos hr,if_pos hr];exact .stay V _
   ·rw [if_neg hr,if_neg hr]
    exact .put V _ hk (by rw [Em (by rw [hp];exact hf),hp];exact h1) hg
  ·rw [if_pos hp,if_pos hp];exact .stay V _
omit V in
theorem Hm0 {i k:Nat} (h1:F ⟨1,(i:Int)⟩) (h0:F ⟨0,(Ah x i:Int)⟩) (h:De x i k=true):F (Bh x.wher k):=by
 simp only [De,Bool.or_eq_true,decide_eq_true_eq] at h
 rcases h with h|h
 ·rw [h];exact h0
 ·rw [h];exact h1
theorem acts_box (hx:Ai x=true) (hy:Ai y=true) {i:Nat} (hi:i<x.at_.length) (h1:F ⟨1,(i:Int)⟩) (h0:F ⟨0,(Ah x i:Int)⟩) (item b:Int):Acts F x y (boxW x i item b) (boxW y i item b):=by
 unfold boxW
 rw [V.wl]
 by_cases hb:inB item x.wher.length=false∨inB b x.wher.length=false
 ·rw [if_pos hb,if_pos hb];exact .stay V _
 ·rw [if_neg hb,if_neg hb]
  simp only [not_or,Bool.not_eq_false,Bi] at hb
  have hk:item.toNat<x.wher.length:=by omega
  have hbl:b.toNat<x.wher.length:=by omega
  simp only [V.at_ hx hy hk (.inl ⟨by simp,h1⟩),V.near hi hbl h0 h1,V.d]
  by_cases hp:¬plOf x.wher item.toNat=⟨1,(i:Int)⟩∨De x i b.toNat=false
  ·rw [if_pos hp,if_pos hp];exact .stay V _
  ·rw [if_neg hp,if_neg hp]
   simp only [not_or,Decidable.not_not,Bool.not_eq_false] at hp
   have hFb:=Hm0 h1 h0 hp.2
   have hFk:F (Bh x.wher item.toNat):=by rw [Em (by rw [hp.1];simp),hp.1];exact h1
   have hg:tgtF F x (box b.toNat):=.inr ⟨_,hbl,rfl,hFb⟩
   simp only [V.wB hbl hFb,V.dep hbl hFb,V.hgt hx hy hk hFk,V.roomI hx hy hg]
   by_cases c1:x.d.boxes.getD b.toNat false=false
   ·rw [if_pos c1,if_pos c1];exact .stay V _
   ·rw [if_neg c1,if_neg c1]
    by_cases c2:wB x.wher b.toNat item.toNat=true
    ·rw [if_pos c2,if_pos c2];exact .stay V _
    ·rw [if_neg c2,if_neg c2]
     by_cases c3:4<dep x.wher b.toNat+1+hgt x.wher item.toNat
     ·rw [if_pos c3,if_pos c3];exact .stay V _
     ·rw [if_neg c3,if_neg c3]
      by_cases c4:roomI x (box b.toNat)=0
      ·rw [if_pos c4,if_pos c4];exact .stay V _
      ·rw [if_neg c4,if_neg c4];exact .put V _ hk hFk hg
theorem acts_out (hx:Ai x=true) (hy:Ai y=true) {i:Nat} (hi:i<x.at_.length) (h1:F ⟨1,(i:Int)⟩) (h0:F ⟨0,(Ah x i:Int)⟩) (item b:Int):Acts F x y (outW x i item b) (outW y i item b):=by
 unfold outW
 rw [V.wl]
 by_cases hb:inB item x.wher.length=false∨inB b x.wher.length=false
 ·rw [if_pos hb,if_pos hb];exact .stay V _
 ·rw [if_neg hb,if_neg hb]
  simp only [not_or,Bool.not_eq_false,Bi] at hb
  have hk:item.toNat<x.wher.length:=by omega
  have hbl:b.toNat<x.wher.length:=by omega
  simp only [V.near hi hbl h0 h1,V.d,V.roomI hx hy (g:=⟨1,(i:Int)⟩) (.inl ⟨by simp,h1⟩)]
  by_cases hp:De x i b.toNat=false
  ·rw [if_pos hp,if_pos hp];exact .stay V _
  ·rw [if_neg hp,if_neg hp]
   have hFb:=Hm0 h1 h0 (show De x i b.toNat=true by simpa using hp)
   have hg:tgtF F x (box b.toNat):=.inr ⟨_,hbl,rfl,hFb⟩
   simp only [V.at_ hx hy hk hg]
   by_cases c1:x.d.boxes.getD b.toNat false=false
   ·rw [if_pos c1,if_pos c1];exact .stay V _
   ·rw [if_neg c1,if_neg c1]
    by_cases c2:plOf x.wher item.toNat=box b.toNat
    ·have hn:¬¬plOf x.wher item.toNat=box b.toNat:=fun h=>h c2
     rw [if_neg hn,if_neg hn]
     by_cases c4:roomI x ⟨1,(i:Int)⟩=0
     ·rw [if_pos c4,if_pos c4];exact .stay V _
     ·rw [if_neg c4,if_neg c4]
      exact .put V _ hk (by rw [Et ((Bv hx).kid hk c2).1];exact hFb) (.inl ⟨by simp,h1⟩)
    ·rw [if_pos c2,if_pos c2];exact .stay V _
theorem acts_give (hx:Ai x=true) (hy:Ai y=true) {i:Nat} (hi:i<x.at_.length) (h1:F ⟨1,(i:Int)⟩) (item:Int) {q:Int} (hq:inB q x.at_.length=true→F ⟨1,q⟩):Acts F x y (Jg x i item q) (Jg y i item q):=by
 unfold Jg
 rw [V.wl,V.al]
 by_cases hb:inB item x.wher.length=false∨inB q x.at_.length=false
 ·rw [if_pos hb,if_pos hb];exact .stay V _
 ·rw [if_neg hb,if_neg hb]
  simp only [not_or,Bool.not_eq_false] at hb
  have hF:=hq hb.2
  simp only [Bi] at hb
  have hk:item.toNat<x.wher.length:=by omega
  have hqn:((q.toNat:Nat):Int)=q:=by omega
  rw [←hqn] at hF
  have hg:tgtF F x ⟨1,(q.toNat:Int)⟩:=.inl ⟨by simp,hF⟩
  rw [V.pl i hi h1,V.pl q.toNat (by omega) hF]
  simp only [V.at_ hx hy hk (.inl ⟨by simp,h1⟩),V.roomI hx hy hg]
  by_cases c1:q=i
  ·rw [if_pos c1,if_pos c1];exact .stay V _
  ·rw [if_neg c1,if_neg c1]
   by_cases c2:¬Ah x i=Ah x q.toNat∨¬plOf x.wher item.toNat=⟨1,(i:Int)⟩
   ·rw [if_pos c2,if_pos c2];exact .stay V _
   ·rw [if_neg c2,if_neg c2]
    simp only [not_or,Decidable.not_not] at c2
    by_cases c3:roomI x ⟨1,(q.toNat:Int)⟩=0
    ·rw [if_pos c3,if_pos c3];exact .stay V _
    ·rw [if_neg c3,if_neg c3]
     exact .put V _ hk (by rw [Em (by rw [c2.2];simp),c2.2];exact h1) hg
theorem acts_trade (hx:Ai x=true) (hy:Ai y=true) {i:Nat} (hi:i<x.at_.length) (h1:F ⟨1,(i:Int)⟩) {q:Int} (hq:inB q x.at_.length=true→F ⟨1,q⟩) (gl wl:List Int) (pay fee:Int):Acts F x y (Ca x i q gl wl pay fee) (Ca y i q gl wl pay fee):=by
 have hcl:x.coins.length=x.at_.length:=(Aj hx).2.2.1
 unfold Ca
 rw [V.wl,V.al]
 by_cases hb:inB q x.at_.length=false
 ·rw [if_pos hb,if_pos hb];exact .stay V _
 ·rw [if_neg hb,if_neg hb]
  have hb2:inB q x.at_.length=true:=by simpa using hb
  have hF:=hq hb2
  simp only [Bi] at hb2
  have hqn:((q.toNat:Nat):Int)=q:=by omega
  have hql:q.toNat<x.at_.length:=by omega
  rw [←hqn] at hF
  by_cases c0:(gl++wl).all (fun k=>inB k x.wher.length)=false
  ·rw [if_pos c0,if_pos c0];exact .stay V _
  ·rw [if_neg c0,if_neg c0]
   have c0t:(gl++wl).all (fun k=>inB k x.wher.length)=true:=by simpa using c0
   rw [List.all_append,Bool.and_eq_true] at c0t
   obtain ⟨gs,rfl,hgs⟩:=Zl c0t.1
   obtain ⟨ws,rfl,hws⟩:=Zl c0t.2
   simp only [Bm3]
   generalize q.toNat=m at *
   rw [V.pl i hi h1,V.pl m hql hF,V.co i (by rw [hcl];exact hi) h1,V.co m (by rw [hcl];exact hql) hF]
   have hh:∀(j:Nat) (l:List Nat),F ⟨1,(j:Int)⟩→(∀k∈l,k<x.wher.length)→hasB y j l=hasB x j l:=fun j l hj hl=>by
    unfold hasB
    rw [Bool.eq_iff_iff,List.all_eq_true,List.all_eq_true]
    constructor
    ·intro h k hk;have:=h k hk;simp only [decide_eq_true_eq] at this ⊢;exact (V.at_ hx hy (hl k hk) (.inl ⟨by simp,hj⟩)).1 this
    ·intro h k hk;have:=h k hk;simp only [decide_eq_true_eq] at this ⊢;exact (V.at_ hx hy (hl k hk) (.inl ⟨by simp,hj⟩)).2 this
   have hr:∀j:Nat,F ⟨1,(j:Int)⟩→Proofs.Ytenpcndoilcjcaa.roomI (trN y i m gs ws) ⟨1,(j:Int)⟩=Proofs.Ytenpcndoilcjcaa.roomI (trN x i m gs ws) ⟨1,(j:Int)⟩:=fun j hj=>by
    unfold Proofs.Ytenpcndoilcjcaa.roomI
    show Cb y.d _-_=Cb x.d _-_
    rw [V.d]
    congr 2
    refine Gy6 (by simp [trN,Pm,V.wl]) fun n hn=>?_
    have hn2:n<x.wher.length:=by simpa [trN,Pm] using hn
    show plOf (trP y.wher i m gs ws) n=_↔plOf (trP x.wher i m gs ws) n=_
    rw [Cf2 hn2,Cf2 (by rw [V.wl];exact hn2)]
    split
    ·rfl
    ·split
     ·rfl
     ·exact V.at_ hx hy hn2 (.inl ⟨by simp,hj⟩)
   rw [hh i gs h1 hgs,hh m ws hF hws,hr i h1,hr m hF]
   by_cases c1:q=i
   ·rw [if_pos c1,if_pos c1];exact .stay V _
   ·rw [if_neg c1,if_neg c1]
    by_cases c2:¬Ah x i=Ah x m
    ·rw [if_pos c2,if_pos c2];exact .stay V _
    ·rw [if_neg c2,if_neg c2]
     split
     ·exact .stay V _
     ·split
      ·exact .stay V _
      ·rename_i c3 c4
       split
       ·exact .stay V _
       ·split
        ·exact .stay V _
        ·simp only [not_or,Bool.not_eq_false] at c4
         have hgi:∀k∈gs,plOf x.wher k=⟨1,(i:Int)⟩:=fun k hk=>by simpa using List.all_eq_true.1 c4.1 k hk
         have hwi:∀k∈ws,plOf x.wher k=⟨1,(m:Int)⟩:=fun k hk=>by simpa using List.all_eq_true.1 c4.2 k hk
         refine ⟨rfl,V.pl,fun p hp h=>?_,fun n hn h=>?_,⟨rfl,rfl,by simp [trW],by simp [trW,Pm],fun _ _ h=>absurd rfl h,fun p hp h=>?_,fun n hn h=>?_⟩⟩
         ·have e:=V.co p hp h
          unfold Al at e ⊢
          have hp2:p<y.coins.length:=by rw [V.cl];exact hp
          simp only [trW,List.getD,List.getElem?_set,List.length_set,V.cl] at e ⊢
          split
          ·rfl
          ·split
           ·rfl
           ·exact e
         ·show plOf (trP y.wher i m gs ws) n=plOf (trP x.wher i m gs ws) n
          rw [Cf2 hn,Cf2 (by rw [V.wl];exact hn),V.plc hn h]
         ·apply Classical.byContradiction
          intro hnF
          apply h
          have e1:¬m=p:=fun e=>hnF (by rw [←e];exact hF)
          have e2:¬i=p:=fun e=>hnF (by rw [←e];exact h1)
          unfold Al
          simp [trW,List.getD,e1,e2]
         ·have e:plOf (trW x i m gs ws (Dx (Al x i) (Al x m) pay fee) (Dw (Al x i) (Al x m) pay fee)).wher n=_:=Cf2 hn
          rw [e] at h ⊢
          by_cases k1:n∈ws
          ·rw [if_pos k1]
           refine ⟨?_,.inl ⟨by simp,h1⟩⟩
           rw [Em (by rw [hwi n k1];simp),hwi n k1];exact hF
          ·rw [if_neg k1] at h ⊢
           by_cases k2:n∈gs
           ·rw [if_pos k2]
            refine ⟨?_,.inl ⟨by simp,hF⟩⟩
            rw [Em (by rw [hgi n k2];simp),hgi n k2];exact h1
           ·rw [if_neg k2] at h;exact absurd rfl h
omit V in
theorem Acts.three {X Y:Wd × Int} (h:Acts F x y X Y):Acts F x y (X.1,(0:Int),X.2) (Y.1,(0:Int),Y.2):=⟨by show ((0:Int),Y.2)=(0,X.2);rw [h.res],h.pl,h.co,h.it,h.un⟩
theorem acts_act (hx:Ai x=true) (hy:Ai y=true) {i:Nat} (hi:i<x.at_.length) {c:Cm} (hd:c.dir<4) (hk:1≤c.kind∧c.kind≤8) (hF:∀k∈Yb x i c,F k):Acts F x y (actW x i c) (actW y i c):=by
 have h0:=hF _ (Gd7 x i c)
 have h1:=hF _ (Ew9 x i c)
 have ht:(c.kind=1∨c.kind=2)→¬toW x (Ah x i) c.dir.toNat=-1→F ⟨0,toW x (Ah x i) c.dir.toNat⟩:=fun h h2=>hF _ (foot_to h h2)
 have hq:(c.kind=2∨c.kind=7∨c.kind=8)→inB c.who x.at_.length=true→F ⟨1,c.who⟩:=fun h h2=>hF _ (foot_who h h2)
 unfold actW
 by_cases k1:c.kind=1
 ·rw [if_pos k1,if_pos k1];exact Gz6 V hx hi (by omega) h1 h0 (ht (.inl k1))
 rw [if_neg k1,if_neg k1]
 by_cases k2:c.kind=2
 ·rw [if_pos k2,if_pos k2];exact acts_push V hx hi (by omega) h1 h0 (ht (.inr k2)) (hq (.inl k2))
 rw [if_neg k2,if_neg k2]
 by_cases k3:c.kind=3
 ·rw [if_pos k3,if_pos k3]
  have:=(Gz5 V hx hy c.item (f:=⟨0,(Ah x i:Int)⟩) (g:=⟨1,(i:Int)⟩) (by simp) h0 (.inl ⟨by simp,h1⟩)).three
  unfold getW
  rwa [V.pl i hi h1]
 rw [if_neg k3,if_neg k3]
 by_cases k4:c.kind=4
 ·rw [if_pos k4,if_pos k4]
  have:=(Gz5 V hx hy c.item (f:=⟨1,(i:Int)⟩) (g:=⟨0,(Ah x i:Int)⟩) (by simp) h1 (.inl ⟨by simp,h0⟩)).three
  unfold Nj
  rwa [V.pl i hi h1]
 rw [if_neg k4,if_neg k4]
 by_cases k5:c.kind=5
 ·rw [if_pos k5,if_pos k5];exact (acts_box V hx hy hi h1 h0 _ _).three
 rw [if_neg k5,if_neg k5]
 by_cases k6:c.kind=6
 ·rw [if_pos k6,if_pos k6];exact (acts_out V hx hy hi h1 h0 _ _).three
 rw [if_neg k6,if_neg k6]
 by_cases k7:c.kind=7
 ·rw [if_pos k7,if_pos k7];exact (acts_give V hx hy hi h1 _ (hq (.inr (.inl k7)))).three
 rw [if_neg k7,if_neg k7]
 exact (acts_trade V hx hy hi h1 (hq (.inr (.inr (by omega)))) _ _ _ _).three
theorem Gj6 {p:Pl} (hp:F p):Bf y.wher y.wher.length p=Bf x.wher x.wher.length p:=by
 unfold Bf
 rw [V.wl]
 have e:(List.range x.wher.length).filter (fun i=>decide (Bh y.wher i=p))=(List.range x.wher.length).filter (fun i=>decide (Bh x.wher i=p)):=by
  apply List.filter_congr
  intro n hn
  rw [List.mem_range] at hn
  simp only [V.rootK hn hp]
 rw [e]
 apply List.map_congr_left
 intro n hn
 rw [List.mem_filter,List.mem_range,decide_eq_true_eq] at hn
 unfold Jz
 rw [V.plc hn.1 (by rw [hn.2];exact hp)]
theorem Dt4 {i:Nat} (hi:i<x.at_.length) (h1:F ⟨1,(i:Int)⟩) (h0:F ⟨0,(Ah x i:Int)⟩):Gh y i=Gh x i:=by
 unfold Gh Af9
 rw [V.pl i hi h1,V.al,Gj6 V h0]
 congr 1
 unfold Gw
 congr 1
 apply List.filter_congr
 intro n hn
 rw [List.mem_range] at hn
 simp only [V.pres n (Ah x i) hn h0]
theorem have_same (hx:Ai x=true) {i:Nat} (hi:i<x.at_.length) (h1:F ⟨1,(i:Int)⟩):Lh y i=Lh x i:=by
 have e:=V.co i (by rw [(Aj hx).2.2.1];exact hi) h1
 unfold Al at e
 unfold Lh ownN Qm
 rw [Gj6 V h1,e]
theorem Ed4 (hx:Ai x=true) (hy:Ai y=true) {i:Nat} (hi:i<x.at_.length) {c:Cm} (hF:∀k∈Yb x i c,F k):Acts F x y (doW x i c) (doW y i c):=by
 have h0:=hF _ (Gd7 x i c)
 have h1:=hF _ (Ew9 x i c)
 unfold doW
 by_cases hm:Ak c=false
 ·rw [if_pos hm,if_pos hm];exact .stay V _
 ·rw [if_neg hm,if_neg hm]
  have hmk:=Ak6 (c:=c) (by simpa using hm)
  by_cases k9:c.kind=9
  ·rw [if_pos k9,if_pos k9,Dt4 V hi h1 h0];exact .stay V _
  ·rw [if_neg k9,if_neg k9]
   by_cases k10:c.kind=10
   ·rw [if_pos k10,if_pos k10,have_same V hx hi h1];exact .stay V _
   ·rw [if_neg k10,if_neg k10]
    have A:=acts_act V hx hy hi hmk.2.2.2 (by omega) hF
    rw [A.res]
    by_cases he:(actW x i c).2.2=0
    ·rw [if_pos he,if_pos he]
     exact ⟨rfl,A.pl,A.co,A.it,A.un⟩
    ·rw [if_neg he,if_neg he];exact .stay V _
theorem Gy2 {i:Nat} (hi:i<x.at_.length) (c:Cm) (h1:F ⟨1,(i:Int)⟩):Yb y i c=Yb x i c:=by
 unfold Yb
 rw [V.pl i hi h1,V.al,show toW y (Ah x i) c.dir.toNat=toW x (Ah x i) c.dir.toNat by unfold toW;rw [V.d]]
end
theorem world_ext {x y:Wd} (hx:Ai x=true) (hy:Ai y=true) (hd:y.d=x.d) (ha:y.at_.length=x.at_.length) (hc:y.coins.length=x.coins.length) (hw:y.wher.length=x.wher.length)
 (h1:∀p,p<x.at_.length→Ah y p=Ah x p) (h2:∀p,p<x.coins.length→Al y p=Al x p) (h3:∀n,n<x.wher.length→plOf y.wher n=plOf x.wher n):y=x:=by
 have e1:y.at_=x.at_:=by
  apply List.ext_getElem ha
  intro p p1 p2
  rw [(Bn hy p1).1,(Bn hx p2).1,h1 p p2]
 have e2:y.coins=x.coins:=by
  apply List.ext_getElem hc
  intro p p1 p2
  have:=h2 p p2
  simpa [Al,List.getD,p1,p2] using this
 have e3:y.wher=x.wher:=Ct6 hw fun n hn=>h3 n (by rw [←hw];exact hn)
 obtain ⟨xd,xa,xc,xw⟩:=x
 obtain ⟨yd,ya,yc,yw⟩:=y
 simp only at hd e1 e2 e3
 rw [hd,e1,e2,e3]
theorem foot_apart {x:Wd} (hx:Ai x=true) {i k:Nat} (hi:i<x.at_.length) (hk:k<x.at_.length) {c d:Cm} (hdis:∀q∈Yb x i c,¬q∈Yb x k d) :
 (doW (doW x k d).1 i c).2=(doW x i c).2∧(doW (doW x i c).1 k d).2=(doW x k d).2∧(doW (doW x i c).1 k d).1=(doW (doW x k d).1 i c).1∧Yb (doW x i c).1 k d=Yb x k d∧Yb (doW x k d).1 i c=Yb x i c:=by
 have hdis2:∀q∈Yb x k d,¬q∈Yb x i c:=fun q h1 h2=>hdis q h2 h1
 have ha:=Sq hx hi c
 have hz:=Sq hx hk d
 have A0:=(Ed4 (View.refl (fun q=>q∈Yb x i c) x) hx hx hi (c:=c) fun q h=>h).un
 have Z0:=(Ed4 (View.refl (fun q=>q∈Yb x k d) x) hx hx hk (c:=d) fun q h=>h).un
 have VA:=A0.view hx ha hdis
 have VZ:=Z0.view hx hz hdis2
 have fA:=Gy2 VA hk d (Ew9 x k d)
 have fZ:=Gy2 VZ hi c (Ew9 x i c)
 have A1:=Ed4 VA hx ha hk (c:=d) fun q h=>h
 have Z1:=Ed4 VZ hx hz hi (c:=c) fun q h=>h
 have hia:i<(doW x k d).1.at_.length:=by rw [Z0.al];exact hi
 have hka:k<(doW x i c).1.at_.length:=by rw [A0.al];exact hk
 have hb:=Sq ha hka d
 have hy:=Sq hz hia c
 have B0:=(Ed4 (View.refl (fun q=>q∈Yb x k d) (doW x i c).1) ha ha hka (c:=d) fun q h=>by rwa [fA] at h).un
 have Y0:=(Ed4 (View.refl (fun q=>q∈Yb x i c) (doW x k d).1) hz hz hia (c:=c) fun q h=>by rwa [fZ] at h).un
 generalize hA:doW x i c=A at *
 generalize hZ:doW x k d=Z at *
 generalize hB:doW A.1 k d=B at *
 generalize hY:doW Z.1 i c=Y at *
 refine ⟨Z1.res,A1.res,?_,fA,fZ⟩
 refine world_ext hy hb (by rw [B0.d,A0.d,Y0.d,Z0.d]) (by rw [B0.al,A0.al,Y0.al,Z0.al]) (by rw [B0.cl,A0.cl,Y0.cl,Z0.cl]) (by rw [B0.wl,A0.wl,Y0.wl,Z0.wl]) (fun p hp=>?_) (fun p hp=>?_) (fun n hn=>?_)
 ·rw [Y0.al,Z0.al] at hp
  by_cases g1:(⟨1,(p:Int)⟩:Pl)∈Yb x k d
  ·rw [A1.pl p hp g1]
   apply Decidable.byContradiction
   intro hn
   exact hdis2 _ g1 (Y0.pl p (by rw [Z0.al];exact hp) (fun e=>hn e.symm)).1
  ·have e1:Ah B.1 p=Ah A.1 p:=by
    apply Decidable.byContradiction
    intro hn
    exact g1 (B0.pl p (by rw [A0.al];exact hp) hn).1
   by_cases g2:(⟨1,(p:Int)⟩:Pl)∈Yb x i c
   ·rw [e1,Z1.pl p hp g2]
   ·have e2:Ah A.1 p=Ah x p:=by
     apply Decidable.byContradiction
     intro hn
     exact g2 (A0.pl p hp hn).1
    have e3:Ah Z.1 p=Ah x p:=by
     apply Decidable.byContradiction
     intro hn
     exact g1 (Z0.pl p hp hn).1
    have e4:Ah Y.1 p=Ah Z.1 p:=by
     apply Decidable.byContradiction
     intro hn
     exact g2 (Y0.pl p (by rw [Z0.al];exact hp) hn).1
    rw [e1,e2,e4,e3]
 ·rw [Y0.cl,Z0.cl] at hp
  by_cases g1:(⟨1,(p:Int)⟩:Pl)∈Yb x k d
  ·rw [A1.co p hp g1]
   apply Decidable.byContradiction
   intro hn
   exact hdis2 _ g1 (Y0.co p (by rw [Z0.cl];exact hp) (fun e=>hn e.symm))
  ·have e1:Al B.1 p=Al A.1 p:=by
    apply Decidable.byContradiction
    intro hn
    exact g1 (B0.co p (by rw [A0.cl];exact hp) hn)
   by_cases g2:(⟨1,(p:Int)⟩:Pl)∈Yb x i c
   ·rw [e1,Z1.co p hp g2]
   ·have e2:Al A.1 p=Al x p:=by
     apply Decidable.byContradiction
     intro hn
     exact g2 (A0.co p hp hn)
    have e3:Al Z.1 p=Al x p:=by
     apply Decidable.byContradiction
     intro hn
     exact g1 (Z0.co p hp hn)
    have e4:Al Y.1 p=Al Z.1 p:=by
     apply Decidable.byContradiction
     intro hn
     exact g2 (Y0.co p (by rw [Z0.cl];exact hp) hn)
    rw [e1,e2,e4,e3]
 ·rw [Y0.wl,Z0.wl] at hn
  have hna:n<A.1.wher.length:=by rw [A0.wl];exact hn
  have hnz:n<Z.1.wher.length:=by rw [Z0.wl];exact hn
  by_cases g1:Bh x.wher n∈Yb x k d
  ·rw [A1.it n hn g1]
   apply Decidable.byContradiction
   intro hne
   have h1:=(Y0.it n hnz (fun e=>hne e.symm)).1
   have h2:=Z0.root_in (Bv hx) (Bv hz) n hnz g1
   exact hdis _ h1 h2
  ·have e1:plOf B.1.wher n=plOf A.1.wher n:=by
    apply Decidable.byContradiction
    intro hne
    exact g1 ((VA.root n hn).1 (B0.it n hna hne).1)
   by_cases g2:Bh x.wher n∈Yb x i c
   ·rw [e1,Z1.it n hn g2]
   ·have e2:plOf A.1.wher n=plOf x.wher n:=by
     apply Decidable.byContradiction
     intro hne
     exact g2 (A0.it n hn hne).1
    have e3:plOf Z.1.wher n=plOf x.wher n:=by
     apply Decidable.byContradiction
     intro hne
     exact g1 (Z0.it n hn hne).1
    have e4:plOf Y.1.wher n=plOf Z.1.wher n:=by
     apply Decidable.byContradiction
     intro hne
     exact g2 ((VZ.root n hn).1 (Y0.it n hnz hne).1)
    rw [e1,e2,e4,e3]
end
section
def Hk8 (l:List Pl) (x y:Wd):Bool :=
 ((List.range x.at_.length).all fun p=>(decide (x.at_.getD p 0=y.at_.getD p 0)&&decide (Al x p=Al y p))||decide ((⟨1,(p:Int)⟩:Pl)∈l))
   && ((List.range x.wher.length).all fun n=>decide (plOf x.wher n=plOf y.wher n)||(decide (Bh x.wher n∈l)&&decide (Bh y.wher n∈l)))
theorem Hm9 {x:Wd} (h:Ai x=true) {p:Nat} (hp:p<x.at_.length):x.at_.getD p 0=(Ah x p:Int):=by
 rw [←(Bn h hp).1];simp [List.getD,hp]
theorem under_cover {l:List Pl} {x y:Wd} (hx:Ai x=true) (hy:Ai y=true) (U:Under (fun k=>k∈l) x y):Hk8 l x y=true:=by
 unfold Hk8
 rw [Bool.and_eq_true,List.all_eq_true,List.all_eq_true]
 refine ⟨fun p hp=>?_,fun n hn=>?_⟩
 ·rw [List.mem_range] at hp
  have hp2:p<y.at_.length:=by rw [U.al];exact hp
  rw [Hm9 hx hp,Hm9 hy hp2]
  by_cases e1:Ah y p=Ah x p
  ·by_cases e2:Al y p=Al x p
   ·simp [e1,e2]
   ·have:=U.co p (by rw [(Aj hx).2.2.1];exact hp) e2
    simp [this]
  ·have:=(U.pl p hp e1).1
   simp [this]
 ·rw [List.mem_range] at hn
  by_cases e:plOf y.wher n=plOf x.wher n
  ·simp [e]
  ·have h1:=(U.it n hn e).1
   have h2:=U.root_in (Bv hx) (Bv hy) n (by rw [U.wl];exact hn) h1
   simp [h1,h2]
theorem Hh4 {x:Wd} (hx:Ai x=true) {i:Nat} (hi:i<x.at_.length) (c:Cm):Under (fun k=>k∈Yb x i c) x (doW x i c).1 :=
 (Ed4 (View.refl (fun q=>q∈Yb x i c) x) hx hx hi (c:=c) fun _ h=>h).un
theorem Under.more {F G:Pl→Prop} {x y:Wd} (U:Under F x y) (h:∀k,F k→G k):Under G x y :=
 ⟨U.d,U.al,U.cl,U.wl,fun p hp hn=>⟨h _ (U.pl p hp hn).1,h _ (U.pl p hp hn).2.1,h _ (U.pl p hp hn).2.2⟩,fun p hp hn=>h _ (U.co p hp hn),
   fun n hn hne=>⟨h _ (U.it n hn hne).1,(U.it n hn hne).2.imp (fun ⟨a,b⟩=>⟨a,h _ b⟩) (fun ⟨b,h1,h2,h3⟩=>⟨b,h1,h2,h _ h3⟩)⟩⟩
theorem foot_covers {x:Wd} (hx:Ai x=true) {i:Nat} (hi:i<x.at_.length) {c:Cm} {s:List Pl} (hs:Lm (Yb x i c) s):Hk8 s x (doW x i c).1=true :=
 under_cover hx (Sq hx hi c) ((Hh4 hx hi c).more fun k h=>(hs.mem k).2 h)
theorem foot_behind {x:Wd} (hx:Ai x=true) {i:Nat} (hi:i<x.at_.length) (c:Cm):(⟨0,(Ah (doW x i c).1 i:Int)⟩:Pl)∈Yb x i c:=by
 by_cases e:Ah (doW x i c).1 i=Ah x i
 ·rw [e];exact Gd7 x i c
 ·exact ((Hh4 hx hi c).pl i hi e).2.2
theorem foot_placed {x:Wd} (hx:Ai x=true) {i:Nat} (hi:i<x.at_.length) {c:Cm} (hd:0≤c.dir∧c.dir<4) {k:Pl} (hk:k∈Yb x i c):0≤Dy x.d.exits.length x.at_.length k:=by
 have hr:=(Bn hx hi).2
 have ht:=Vl hx hr (d:=c.dir.toNat) (by omega)
 simp only [Yb,List.mem_append,List.mem_cons,List.not_mem_nil,or_false] at hk
 rcases hk with (rfl|rfl)|hk|hk
 ·simp only [Dy];simp;omega
 ·simp only [Dy];simp;omega
 ·split at hk
  ·rename_i h
   rw [List.mem_singleton] at hk
   subst hk
   have:=ht.resolve_left h.2
   simp only [Dy];simp;omega
  ·simp at hk
 ·split at hk
  ·rename_i h
   rw [List.mem_singleton] at hk
   subst hk
   have:=h.2
   rw [Bi] at this
   simp only [Dy];simp;omega
  ·simp at hk
def Co1 (a:Int):Option Int→List Int
 | none=>[a]
 | some b=>if b=a then [a] else if b<a then [b,a] else [a,b]
theorem Cv8 (a:Int) (o:Option Int) (n:Int):n∈Co1 a o↔n=a∨o=some n:=by
 cases o with
 | none=>simp [Co1]
 | some b =>
   simp only [Co1]
   by_cases h:b=a
   ·rw [if_pos h];simp;intro e;omega
   ·rw [if_neg h]
    split<;>simp<;>constructor<;>intro hh<;>omega
theorem Hg7 (a:Int) (o:Option Int):(Co1 a o).Pairwise (·<·):=by
 cases o with
 | none=>simp [Co1]
 | some b =>
   simp only [Co1]
   by_cases h:b=a
   ·rw [if_pos h];simp
   ·rw [if_neg h]
    split<;>simp<;>omega
theorem Gb2 (a:Int) (o:Option Int):(Co1 a o).length=if o=none∨o=some a then 1 else 2:=by
 cases o with
 | none=>simp [Co1]
 | some b =>
   simp only [Co1]
   by_cases h:b=a
   ·simp [h]
   ·rw [if_neg h]
    split<;>simp [h]
def toO (x:Wd) (i:Nat) (c:Cm):Option Int:=if (c.kind=1∨c.kind=2)∧¬toW x (Ah x i) c.dir.toNat=-1 then some (toW x (Ah x i) c.dir.toNat) else none
def whoO (x:Wd) (c:Cm):Option Int:=if (c.kind=2∨c.kind=7∨c.kind=8)∧inB c.who x.at_.length=true then some c.who else none
def Fa8 (x:Wd) (i:Nat) (c:Cm):List Pl:=(Co1 (Ah x i) (toO x i c)).map (fun n=>(⟨0,n⟩:Pl))++(Co1 i (whoO x c)).map fun n=>(⟨1,n⟩:Pl)
theorem foot_mem (x:Wd) (i:Nat) (c:Cm) (k:Pl):k∈Yb x i c↔k=⟨0,(Ah x i:Int)⟩∨k=⟨1,(i:Int)⟩∨(k.kind=0∧toO x i c=some k.id)∨(k.kind=1∧whoO x c=some k.id):=by
 obtain ⟨kk,kn⟩:=k
 unfold Yb toO whoO
 simp only [List.mem_append,List.mem_cons,List.not_mem_nil,or_false]
 constructor
 ·rintro ((h|h)|h|h)
  ·exact .inl h
  ·exact .inr (.inl h)
  ·split at h
   ·rename_i hc
    rw [List.mem_singleton,Pl.mk.injEq] at h
    right;right;left
    rw [if_pos hc]
    exact ⟨h.1,by rw [h.2]⟩
   ·simp at h
  ·split at h
   ·rename_i hc
    rw [List.mem_singleton,Pl.mk.injEq] at h
    right;right;right
    rw [if_pos hc]
    exact ⟨h.1,by rw [h.2]⟩
   ·simp at h
 ·rintro (h|h|⟨h1,h2⟩|⟨h1,h2⟩)
  ·exact .inl (.inl h)
  ·exact .inl (.inr h)
  ·right;left
   split at h2
   ·rename_i hc
    rw [if_pos hc,List.mem_singleton,Pl.mk.injEq]
    exact ⟨h1,(Option.some.inj h2).symm⟩
   ·cases h2
  ·right;right
   split at h2
   ·rename_i hc
    rw [if_pos hc,List.mem_singleton,Pl.mk.injEq]
    exact ⟨h1,(Option.some.inj h2).symm⟩
   ·cases h2
theorem foot_sorted (x:Wd) (i:Nat) (c:Cm):Lm (Yb x i c) (Fa8 x i c):=by
 refine ⟨?_,fun k=>?_⟩
 ·unfold Fa8
  rw [List.pairwise_append]
  refine ⟨?_,?_,?_⟩
  ·rw [List.pairwise_map]
   exact (Hg7 _ _).imp fun h=>by rw [Qa];exact .inr ⟨rfl,h⟩
  ·rw [List.pairwise_map]
   exact (Hg7 _ _).imp fun h=>by rw [Qa];exact .inr ⟨rfl,h⟩
  ·intro a ha b hb
   rw [List.mem_map] at ha hb
   obtain ⟨n,_,rfl⟩:=ha
   obtain ⟨m,_,rfl⟩:=hb
   rw [Qa];left;show (0:Int)<1;decide
 ·rw [foot_mem]
  obtain ⟨kk,kn⟩:=k
  unfold Fa8
  simp only [List.mem_append,List.mem_map,Pl.mk.injEq]
  constructor
  ·rintro (⟨n,hn,rfl,rfl⟩|⟨n,hn,rfl,rfl⟩)
   ·rw [Cv8] at hn
    rcases hn with rfl|hn
    ·exact .inl ⟨rfl,rfl⟩
    ·exact .inr (.inr (.inl ⟨rfl,hn⟩))
   ·rw [Cv8] at hn
    rcases hn with rfl|hn
    ·exact .inr (.inl ⟨rfl,rfl⟩)
    ·exact .inr (.inr (.inr ⟨rfl,hn⟩))
  ·rintro (⟨rfl,rfl⟩|⟨rfl,rfl⟩|⟨rfl,h⟩|⟨rfl,h⟩)
   ·exact .inl ⟨_,(Cv8 _ _ _).2 (.inl rfl),rfl,rfl⟩
   ·exact .inr ⟨_,(Cv8 _ _ _).2 (.inl rfl),rfl,rfl⟩
   ·exact .inl ⟨_,(Cv8 _ _ _).2 (.inr h),rfl,rfl⟩
   ·exact .inr ⟨_,(Cv8 _ _ _).2 (.inr h),rfl,rfl⟩
theorem Gu6 (x:Wd) (i:Nat) (c:Cm):(Fa8 x i c).countP (fun k=>decide (k.kind=0))=(Co1 (Ah x i) (toO x i c)).length:=by
 unfold Fa8
 rw [List.countP_append,List.countP_map,List.countP_map]
 have e1:(Co1 (Ah x i) (toO x i c)).countP ((fun k:Pl=>decide (k.kind=0)) ∘ fun n=>(⟨0,n⟩:Pl))=(Co1 (Ah x i) (toO x i c)).length:=List.countP_eq_length.2 fun _ _=>rfl
 have e2:(Co1 (i:Int) (whoO x c)).countP ((fun k:Pl=>decide (k.kind=0)) ∘ fun n=>(⟨1,n⟩:Pl))=0:=List.countP_eq_zero.2 fun _ _=>by simp
 rw [e1,e2];rfl
theorem foot_len (x:Wd) (i:Nat) (c:Cm):(Fa8 x i c).length=(Co1 (Ah x i) (toO x i c)).length+(Co1 i (whoO x c)).length:=by
 simp [Fa8]
theorem foot_few {x:Wd} {i:Nat} {c:Cm} (h0:0≤c.who) {s:List Pl} (hs:Lm (Yb x i c) s) :
 let r:=s.countP (fun k=>decide (k.kind=0))
 let q:=s.length-r
 1≤r∧r≤2∧(r=1∨c.kind=1∨c.kind=2)∧1≤q∧q≤2∧(q=2↔((c.kind=2∨c.kind=7∨c.kind=8)∧c.who<x.at_.length∧¬c.who=i)):=by
 have e:=hs.same (foot_sorted x i c)
 subst e
 intro r q
 have hr:r=if toO x i c=none∨toO x i c=some (Ah x i:Int) then 1 else 2:=by show (Fa8 x i c).countP _=_;rw [Gu6,Gb2]
 have hq:q=if whoO x c=none∨whoO x c=some (i:Int) then 1 else 2:=by show (Fa8 x i c).length-(Fa8 x i c).countP _=_;rw [Gu6,foot_len,Gb2,Gb2];omega
 refine ⟨by rw [hr];split<;>omega,by rw [hr];split<;>omega,?_,by rw [hq];split<;>omega,by rw [hq];split<;>omega,?_⟩
 ·rw [hr]
  by_cases hk:c.kind=1∨c.kind=2
  ·exact .inr hk
  ·left
   have:toO x i c=none:=by unfold toO;rw [if_neg (fun h=>hk h.1)]
   rw [if_pos (.inl this)]
 ·rw [hq]
  unfold whoO
  by_cases hc:(c.kind=2∨c.kind=7∨c.kind=8)∧inB c.who x.at_.length=true
  ·rw [if_pos hc]
   have h2:=hc.2
   rw [Bi] at h2
   by_cases hw:c.who=i
   ·rw [if_pos (.inr (by rw [hw]))]
    constructor
    ·intro h;omega
    ·intro h;exact absurd hw h.2.2
   ·rw [if_neg (by simp [hw])]
    exact ⟨fun _=>⟨hc.1,h2.2,hw⟩,fun _=>rfl⟩
  ·rw [if_neg hc,if_pos (.inl rfl)]
   constructor
   ·intro h;omega
   ·rintro ⟨h1,h2,_⟩
    exact absurd ⟨h1,by rw [Bi];exact ⟨h0,h2⟩⟩ hc
end
section
def difTo {α:Type} [DecidableEq α] (xs ys:List α) (n:Nat):List Nat:=(List.range n).filter fun i=>decide (¬xs[i]?=ys[i]?)
section
variable {α:Type} [DecidableEq α] {xs ys:List α} {n:Nat}
theorem difTo_same (h:xs[n]?=ys[n]?):difTo xs ys (n+1)=difTo xs ys n:=by simp [difTo,List.range_succ,List.filter_append,h]
theorem difTo_more (h:¬xs[n]?=ys[n]?):difTo xs ys (n+1)=difTo xs ys n++[n]:=by simp [difTo,List.range_succ,List.filter_append,h]
theorem difTo_step:difTo xs ys n <+: difTo xs ys (n+1):=by
 by_cases h:xs[n]?=ys[n]?
 ·rw [difTo_same h];exact List.prefix_refl _
 ·rw [difTo_more h];exact List.prefix_append _ _
theorem difTo_pre:∀{m:Nat},n≤m→difTo xs ys n <+: difTo xs ys m
 | 0,h=>by rw [Nat.le_zero.1 h];exact List.prefix_refl _
 | m+1,h=>by
   by_cases e:n=m+1
   ·rw [e];exact List.prefix_refl _
   ·exact (difTo_pre (by omega)).trans difTo_step
theorem difTo_mem {k:Nat}:k∈difTo xs ys n↔k<n∧¬xs[k]?=ys[k]?:=by simp [difTo]
theorem difTo_len:(difTo xs ys n).length≤n:=by
 have:=List.length_filter_le (fun i=>decide (¬xs[i]?=ys[i]?)) (List.range n)
 simpa [difTo] using this
end
def difL {α:Type} [DecidableEq α] (xs ys:List α):List Nat:=difTo xs ys xs.length
theorem difL_len {α:Type} [DecidableEq α] (xs ys:List α):(difL xs ys).length≤xs.length:=difTo_len
theorem difL_mem {α:Type} [DecidableEq α] {xs ys:List α} {k:Nat}:k∈difL xs ys↔k<xs.length∧¬xs[k]?=ys[k]?:=difTo_mem
end
section
def meK (n:Nat):List Pl:=[⟨1,(n:Int)⟩]
def rtK (x y:Wd) (n:Nat):List Pl:=[Bh x.wher n,Bh y.wher n]
def needL (x y:Wd):List Pl:=(difL x.at_ y.at_).flatMap meK++(difL x.coins y.coins).flatMap meK++(difL x.wher y.wher).flatMap (rtK x y)
theorem len_flat2 {α:Type} (f:Nat→List α) (h:∀n,(f n).length=2) (l:List Nat):(l.flatMap f).length=2*l.length:=by
 induction l with
 | nil=>rfl
 | cons a l ih=>rw [List.flatMap_cons,List.length_append,ih,h,List.length_cons];omega
theorem len_flat1 {α:Type} (f:Nat→List α) (h:∀n,(f n).length=1) (l:List Nat):(l.flatMap f).length=l.length:=by
 induction l with
 | nil=>rfl
 | cons a l ih=>rw [List.flatMap_cons,List.length_append,ih,h,List.length_cons];omega
theorem needL_len (x y:Wd):(needL x y).length≤x.at_.length+x.coins.length+2*x.wher.length:=by
 have h1:=difL_len x.at_ y.at_
 have h2:=difL_len x.coins y.coins
 have h3:=difL_len x.wher y.wher
 simp only [needL,List.length_append,len_flat1 meK (fun _=>rfl),len_flat2 (rtK x y) (fun _=>rfl)]
 omega
theorem getD_same {α:Type} (z:α) {xs ys:List α} {k:Nat} (h1:k<xs.length) (h2:k<ys.length):xs[k]?=ys[k]?↔xs.getD k z=ys.getD k z:=by
 simp [List.getD,h1,h2]
theorem pl_same {xs ys:List Pl} {k:Nat} (h1:k<xs.length) (h2:k<ys.length):xs[k]?=ys[k]?↔plOf xs k=plOf ys k:=getD_same _ h1 h2
theorem cover_need (l:List Pl) {x y:Wd} (h1:y.at_.length=x.at_.length) (h2:y.coins.length=x.coins.length) (h3:x.coins.length=x.at_.length) (h4:y.wher.length=x.wher.length):(needL x y).all (fun k=>decide (k∈l))=Hk8 l x y:=by
 rw [Bool.eq_iff_iff]
 unfold Hk8 needL
 simp only [List.all_append,Bool.and_eq_true,List.all_eq_true,decide_eq_true_eq,List.mem_flatMap,List.mem_range,Bool.or_eq_true,rtK,List.mem_cons,List.not_mem_nil,or_false,meK]
 constructor
 ·rintro ⟨⟨ha,hc⟩,hw⟩
  refine ⟨fun p hp=>?_,fun n hn=>?_⟩
  ·by_cases e1:x.at_.getD p 0=y.at_.getD p 0
   ·by_cases e2:Al x p=Al y p
    ·exact .inl ⟨e1,e2⟩
    ·exact .inr (hc _ ⟨p,difL_mem.2 ⟨by omega,fun e=>e2 ((getD_same 0 (by omega) (by omega)).1 e)⟩,rfl⟩)
   ·exact .inr (ha _ ⟨p,difL_mem.2 ⟨hp,fun e=>e1 ((getD_same 0 hp (by omega)).1 e)⟩,rfl⟩)
  ·by_cases e:plOf x.wher n=plOf y.wher n
   ·exact .inl e
   ·have hm:n∈difL x.wher y.wher:=difL_mem.2 ⟨hn,fun e2=>e ((pl_same hn (by omega)).1 e2)⟩
    exact .inr ⟨hw _ ⟨n,hm,.inl rfl⟩,hw _ ⟨n,hm,.inr rfl⟩⟩
 ·rintro ⟨hp,hw⟩
  refine ⟨⟨?_,?_⟩,?_⟩
  ·rintro k ⟨n,hn,rfl⟩
   rw [difL_mem] at hn
   rcases hp n hn.1 with h|h
   ·exact absurd ((getD_same 0 hn.1 (by omega)).2 h.1) hn.2
   ·exact h
  ·rintro k ⟨n,hn,rfl⟩
   rw [difL_mem] at hn
   rcases hp n (by omega) with h|h
   ·exact absurd ((getD_same 0 hn.1 (by omega)).2 h.2) hn.2
   ·exact h
  ·rintro k ⟨n,hn,hk⟩
   rw [difL_mem] at hn
   rcases hw n hn.1 with h|h
   ·exact absurd ((pl_same hn.1 (by omega)).2 h) hn.2
   ·rcases hk with rfl|rfl
    ·exact h.1
    ·exact h.2
end
end Go.Proofs.Ytenpcndoilcjcaa
