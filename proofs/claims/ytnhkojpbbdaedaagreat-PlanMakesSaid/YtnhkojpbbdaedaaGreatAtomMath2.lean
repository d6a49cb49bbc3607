/- What is answered may be; who looks behind a command sees what it did: plain mathematics. -/
import Derived.Test.YtnhkojpbbdaedaaGreatAtomMath
namespace Go.Proofs.YtnhkojpbbdaedaaGreat
open Go.ChangeShapes Go.WideShapes Go.ChangeAt Go.RowKit
set_option linter.unusedVariables false
open Go.RowKit
theorem Dk0 {e:Int} (h:0<e∧e≤13):Di (errR e)=true:=by
 have h0:¬e=0:=by omega
 rw [Bk7]
 unfold Bn1
 rw [if_neg (by show ¬(e<0∨13<e);omega),if_pos (show (errR e).err≠0 from h0)]
 exact Pg _
theorem Gs7 {k r:Int} (hk:1≤k∧k≤8) (hr:(k=1∨k=2)∧0≤r∧r≤1073741824∨r=0):Di (okR k r)=true:=by
 have ho:okN r=true:=by simp only [okN,Bool.and_eq_true,decide_eq_true_eq];omega
 rw [Bk7]
 unfold Bn1
 rw [if_neg (show ¬((okR k r).err<0∨13<(okR k r).err) by simp [okR]),if_neg (show ¬(okR k r).err≠0 by simp [okR]),
  if_neg (show ¬((okR k r).kind<1∨10<(okR k r).kind∨okN (okR k r).room=false∨okN (okR k r).coins=false∨16<(okR k r).players.length∨16<(okR k r).items.length) by show ¬(k<1∨10<k∨okN r=false∨okN 0=false∨16<0∨16<0);rw [ho,show okN 0=true from rfl];simp;omega),
  if_neg (show ¬areB (okR k r).players=false by simp [okR,areB]),if_neg (show ¬(okR k r).items.all snB=false by simp [okR])]
 show ((roomB k||decide (r=0))&&(decide (k=9)||decide ((0:Nat)=0))&&(decide (9≤k)||decide ((0:Nat)=0))&&(decide (k=10)||decide ((0:Int)=0)))=true
 simp [roomB]
 omega
theorem Cm3 (x:Wd) (item:Int) (f g:Pl):0≤(Fa x item f g).2∧(Fa x item f g).2≤13:=by
 unfold Fa
 split
 ·simp
 split
 ·simp
 split
 ·simp
 ·simp
theorem Bv4 {x:Wd} (h:Ai x=true) {i d:Nat} (hi:i<x.at_.length) (hd:d<4):0≤(Ck x i d).2.2∧(Ck x i d).2.2≤13∧0≤(Ck x i d).2.1∧(Ck x i d).2.1≤1073741824:=by
 have h1:=Vl h (Bn h hi).2 hd
 have h2:=(Bl8 h).1
 unfold Ck
 split
 ·simp
 ·simp only
  omega
theorem Dr8 {x:Wd} (h:Ai x=true) {i:Nat} {q:Int} {d:Nat} (hd:d<4):0≤(Eg x i q d).2.2∧(Eg x i q d).2.2≤13∧0≤(Eg x i q d).2.1∧(Eg x i q d).2.1≤1073741824:=by
 unfold Eg
 split
 ·simp
 ·rename_i h1
  split
  ·simp
  split
  ·simp
  have h2:inB q x.at_.length=true:=by simpa using h1
  rw [Bi] at h2
  exact Bv4 h (by omega) hd
theorem Fu3 (x:Wd) (i:Nat) (item b:Int):0≤(boxW x i item b).2∧(boxW x i item b).2≤13:=by
 rcases Qc x i item b with ⟨_,e⟩|⟨k,c,_,_,_,_,⟨_,e⟩|⟨_,⟨_,e⟩|⟨_,⟨_,e⟩|⟨_,⟨_,e⟩|⟨_,⟨_,e⟩|⟨_,e⟩⟩⟩⟩⟩⟩
 all_goals
  rw [e]
  simp
theorem Fn7 (x:Wd) (i:Nat) (item b:Int):0≤(outW x i item b).2∧(outW x i item b).2≤13:=by
 rcases Rc x i item b with ⟨_,e⟩|⟨k,c,_,_,_,_,⟨_,e⟩|⟨_,⟨_,e⟩|⟨_,⟨_,e⟩|⟨_,⟨_,e⟩|⟨_,e⟩⟩⟩⟩⟩
 all_goals
  rw [e]
  simp
theorem Eg2 (a b p f:Int):0≤Cg a b p f∧Cg a b p f≤13:=by
 unfold Cg
 split
 ·exact ⟨by omega,by omega⟩
 split
 ·exact ⟨by omega,by omega⟩
 split
 ·exact ⟨by omega,by omega⟩
 ·exact ⟨by omega,by omega⟩
theorem Bt4 (x:Wd) (i:Nat) (q:Int) (gl wl:List Int) (pay fee:Int):0≤(Ca x i q gl wl pay fee).2∧(Ca x i q gl wl pay fee).2≤13:=by
 unfold Ca
 split
 ·simp
 split
 ·simp
 split
 ·simp
 split
 ·simp
 split
 ·simp
 split
 ·simp
 split
 ·simp
 split
 ·exact Eg2 _ _ _ _
 ·simp
theorem Eu0 {x:Wd} (h:Ai x=true) {i:Nat} (hi:i<x.at_.length) {c:Cm} (hd:c.dir<4):(0≤(actW x i c).2.2∧(actW x i c).2.2≤13)∧((c.kind=1∨c.kind=2)∧0≤(actW x i c).2.1∧(actW x i c).2.1≤1073741824∨(actW x i c).2.1=0):=by
 unfold actW
 split
 ·rename_i k1
  obtain ⟨h1,h2,h3,h4⟩:=Bv4 h hi (d:=c.dir.toNat) (by omega)
  exact ⟨⟨h1,h2⟩,.inl ⟨.inl k1,h3,h4⟩⟩
 split
 ·rename_i k2
  obtain ⟨h1,h2,h3,h4⟩:=Dr8 h (i:=i) (q:=c.who) (d:=c.dir.toNat) (by omega)
  exact ⟨⟨h1,h2⟩,.inl ⟨.inr k2,h3,h4⟩⟩
 split
 ·exact ⟨Cm3 _ _ _ _,.inr rfl⟩
 split
 ·exact ⟨Cm3 _ _ _ _,.inr rfl⟩
 split
 ·exact ⟨Fu3 _ _ _ _,.inr rfl⟩
 split
 ·exact ⟨Fn7 _ _ _ _,.inr rfl⟩
 split
 ·refine ⟨?_,.inr rfl⟩
  show 0≤(Jg x i c.item c.who).2∧(Jg x i c.item c.who).2≤13
  rw [Xj h hi];exact Bt4 _ _ _ _ _ _ _
 ·exact ⟨Bt4 _ _ _ _ _ _ _,.inr rfl⟩
theorem Ak6 {c:Cm} (h:Ak c=true):1≤c.kind∧c.kind≤10∧0≤c.dir∧c.dir<4:=by
 have h2:mayB c=true:=by rw [Ej];exact h
 simp only [mayB,Gn,Co,Cq,Bool.and_eq_true,decide_eq_true_eq] at h2
 omega
theorem Gv1 {x:Wd} (h:Ai x=true) {i:Nat} (hi:i<x.at_.length) (c:Cm):Di (doW x i c).2=true:=by
 unfold doW
 split
 ·exact Dk0 (by omega)
 rename_i hm
 have hk:=Ak6 (show Ak c=true by simpa using hm)
 split
 ·exact Dd0 h hi
 split
 ·exact Dd1 h hi
 obtain ⟨h1,h2⟩:=Eu0 h hi hk.2.2.2
 split
 ·exact Gs7 (by omega) h2
 ·exact Dk0 (by omega)
theorem Sq {x:Wd} (h:Ai x=true) {i:Nat} (hi:i<x.at_.length) (c:Cm):Ai (doW x i c).1=true:=by
 unfold doW
 split
 ·exact h
 rename_i hm
 have hk:=Ak6 (show Ak c=true by simpa using hm)
 split
 ·exact h
 split
 ·exact h
 split
 ·exact Bx0 h hi hk.2.2.2
 ·exact h
theorem Rh (x:Wd) (i:Nat) (c:Cm):Am x (doW x i c).1:=by
 unfold doW
 split
 ·exact Am.refl x
 split
 ·exact Am.refl x
 split
 ·exact Am.refl x
 split
 ·exact Dx3 _ _ _
 ·exact Am.refl x
theorem Gu9 {x:Wd} (h:Ai x=true) {i:Nat} (hi:i<x.at_.length) (c:Cm):(doW x i c).1.d=x.d∧(doW x i c).1.coins.sum=x.coins.sum:=by
 unfold doW
 split
 ·exact ⟨rfl,rfl⟩
 split
 ·exact ⟨rfl,rfl⟩
 split
 ·exact ⟨rfl,rfl⟩
 split
 ·exact Fv1 h hi c
 ·exact ⟨rfl,rfl⟩
theorem Er3 {x:Wd} {i:Nat} {c:Cm} (h:¬(doW x i c).2.err=0∨c.kind=9∨c.kind=10):(doW x i c).1=x:=by
 unfold doW at h ⊢
 split
 ·rfl
 rename_i hm
 rw [if_neg hm] at h
 split
 ·rfl
 rename_i h9
 rw [if_neg h9] at h
 split
 ·rfl
 rename_i h10
 rw [if_neg h10] at h
 split
 ·rename_i he
  rw [if_pos he] at h
  rcases h with h|h|h
  ·exact absurd rfl h
  ·exact absurd h h9
  ·exact absurd h h10
 ·rfl
theorem Fr9 {x:Wd} {i:Nat} {c:Cm} (h:(doW x i c).2.err=0):(doW x i c).2.kind=c.kind:=by
 unfold doW at h ⊢
 split
 ·rename_i hm
  rw [if_pos hm] at h
  simp [errR] at h
 rename_i hm
 rw [if_neg hm] at h
 split
 ·rename_i h9;rw [h9];rfl
 rename_i h9
 rw [if_neg h9] at h
 split
 ·rename_i h10;rw [h10];rfl
 rename_i h10
 rw [if_neg h10] at h
 split
 ·rfl
 ·rename_i he
  rw [if_neg he] at h
  exact absurd h he
theorem Wh (ps:List Pl) (p:Pl) (m:Nat):∀n,(Bf ps n p).count (Jz ps m)=if m<n∧Bh ps m=p then 1 else 0
 | 0=>by simp [Bf]
 | n+1=>by
   have ih:=Wh ps p m n
   have hne:∀k,¬k=m→¬Jz ps k=Jz ps m:=fun k hk h=>by
    have:(k:Int)=(m:Int):=congrArg Sn.item h
    omega
   by_cases h:Bh ps n=p
   ·rw [Qv h,List.count_append,ih]
    by_cases hm:n=m
    ·subst hm
     rw [if_neg (by omega),if_pos ⟨by omega,h⟩]
     simp
    ·rw [List.count_eq_zero.2 (by rw [List.mem_singleton];exact fun e=>hne n hm e.symm)]
     by_cases h2:m<n∧Bh ps m=p
     ·rw [if_pos h2,if_pos ⟨by omega,h2.2⟩]
     ·rw [if_neg h2,if_neg (fun h3=>h2 ⟨by omega,h3.2⟩)]
   ·rw [Ua h,ih]
    by_cases h2:m<n∧Bh ps m=p
    ·rw [if_pos h2,if_pos ⟨by omega,h2.2⟩]
    ·rw [if_neg h2,if_neg (fun h3=>h2 ⟨by
      apply Decidable.byContradiction
      intro h4
      have:m=n:=by omega
      rw [this] at h3
      exact h h3.2,h3.2⟩)]
theorem Ek2 {x:Wd} {k:Nat} (hk:k<x.wher.length) (g:Pl):plOf (putW x k g).wher k=g:=by
 show plOf (x.wher.set k g) k=g
 rw [Dk hk,if_pos rfl]
theorem Bg7 {x:Wd} {k:Nat} (hk:k<x.wher.length) {g:Pl} (hg:¬g.kind=2):(Bf (putW x k g).wher (putW x k g).wher.length g).count ⟨(k:Int),g.kind,g.id⟩=1:=by
 have e:=Ek2 hk g
 have h:=Wh (putW x k g).wher g k (putW x k g).wher.length
 have e2:Jz (putW x k g).wher k=⟨(k:Int),g.kind,g.id⟩:=by unfold Jz;rw [e]
 rw [e2] at h
 rw [h,if_pos ⟨by rw [(Db x k g).w];exact hk,by rw [Em (by rw [e];exact hg),e]⟩]
theorem Gl5 {x y:Wd} {i:Nat} {item:Int} (h:getW x i item=(y,0)):(ownN y i).count ⟨item,1,(i:Int)⟩=1:=by
 rcases Ho x item ⟨0,(Ah x i:Int)⟩ ⟨1,(i:Int)⟩ with ⟨_,e⟩|⟨k,rfl,hk,⟨_,e⟩|⟨_,_,e⟩|⟨_,_,e⟩⟩
 ·exact absurd ((congrArg Prod.snd e).symm.trans (congrArg Prod.snd h)) (by simp)
 ·exact absurd ((congrArg Prod.snd e).symm.trans (congrArg Prod.snd h)) (by simp)
 ·exact absurd ((congrArg Prod.snd e).symm.trans (congrArg Prod.snd h)) (by simp)
 ·have:putW x k ⟨1,(i:Int)⟩=y:=(congrArg Prod.fst e).symm.trans (congrArg Prod.fst h)
  subst this
  exact Bg7 hk (g:=⟨1,(i:Int)⟩) (by simp)
theorem Fx5 {x y:Wd} {i:Nat} {item:Int} (h:Nj x i item=(y,0)):(Af9 y i).count ⟨item,0,(Ah y i:Int)⟩=1:=by
 rcases Ho x item ⟨1,(i:Int)⟩ ⟨0,(Ah x i:Int)⟩ with ⟨_,e⟩|⟨k,rfl,hk,⟨_,e⟩|⟨_,_,e⟩|⟨_,_,e⟩⟩
 ·exact absurd ((congrArg Prod.snd e).symm.trans (congrArg Prod.snd h)) (by simp)
 ·exact absurd ((congrArg Prod.snd e).symm.trans (congrArg Prod.snd h)) (by simp)
 ·exact absurd ((congrArg Prod.snd e).symm.trans (congrArg Prod.snd h)) (by simp)
 ·have:putW x k ⟨0,(Ah x i:Int)⟩=y:=(congrArg Prod.fst e).symm.trans (congrArg Prod.fst h)
  subst this
  exact Bg7 hk (g:=⟨0,(Ah x i:Int)⟩) (by simp)
theorem Fx4 {x y:Wd} (hx:Ai x=true) {i:Nat} {item b:Int} (h:outW x i item b=(y,0)):(ownN y i).count ⟨item,1,(i:Int)⟩=1:=by
 rcases Rc x i item b with ⟨_,e⟩|⟨k,c,rfl,rfl,hk,hc,_⟩
 ·exact absurd ((congrArg Prod.snd e).symm.trans (congrArg Prod.snd h)) (by simp)
 ·obtain ⟨_,e⟩:=Xx hx (i:=i) (k:=k) (c:=c) (by rw [h])
  have:putW x k ⟨1,(i:Int)⟩=y:=(congrArg Prod.fst e).symm.trans (congrArg Prod.fst h)
  subst this
  exact Bg7 hk (g:=⟨1,(i:Int)⟩) (by simp)
theorem Gl4 {x y:Wd} (hx:Ai x=true) {i:Nat} {item b:Int} (h:boxW x i item b=(y,0)):(ownN y i++Af9 y i).count ⟨item,2,b⟩=1:=by
 rcases Qc x i item b with ⟨_,e⟩|⟨k,c,rfl,rfl,hk,hc,hr⟩
 ·exact absurd ((congrArg Prod.snd e).symm.trans (congrArg Prod.snd h)) (by simp)
 ·have hn:De x i c=true:=by
   rcases hr with ⟨_,e⟩|⟨h2,_⟩
   ·exact absurd ((congrArg Prod.snd e).symm.trans (congrArg Prod.snd h)) (by simp)
   ·exact h2.2
  obtain ⟨hB,e⟩:=Ao8 hx (i:=i) (k:=k) (c:=c) (by rw [h])
  have:putW x k (box c)=y:=(congrArg Prod.fst e).symm.trans (congrArg Prod.fst h)
  subst this
  obtain ⟨hr1,_,_⟩:=hB.root hx
  have ek:Jz (putW x k (box c)).wher k=⟨(k:Int),2,(c:Int)⟩:=by unfold Jz;rw [Ek2 hk];rfl
  have hl:k<(putW x k (box c)).wher.length:=by rw [(Db x k (box c)).w];exact hk
  rw [List.count_append,←ek]
  unfold ownN Af9
  rw [Wh,Wh,hr1,show Ah (putW x k (box c)) i=Ah x i from rfl]
  simp only [De,Bool.or_eq_true,decide_eq_true_eq] at hn
  rcases hn with hn|hn
  ·rw [hn,if_neg (by simp),if_pos ⟨hl,rfl⟩]
  ·rw [hn,if_pos ⟨hl,rfl⟩,if_neg (by simp)]
theorem Ev4 {x y:Wd} {i d:Nat} (hi:i<x.at_.length) {r:Int} (hx:Ai x=true) (hd:d<4) (h:Ck x i d=(y,r,0)):(Ah y i:Int)=r:=by
 unfold Ck at h
 have h1:=Vl hx (Bn hx hi).2 hd
 split at h
 ·exact absurd (congrArg (fun q=>q.2.2) h) (by simp)
 ·rename_i h2
  have e1:=congrArg (fun q=>q.1) h
  have e2:=congrArg (fun q=>q.2.1) h
  simp only at e1 e2
  rw [←e1,←e2]
  have:Ah (goW x i (toW x (Ah x i) d)) i=(toW x (Ah x i) d).toNat:=by simp [Ah,goW,List.getD,hi]
  rw [this]
  omega
end Go.Proofs.YtnhkojpbbdaedaaGreat
