/- Commands, done at once: plain mathematics. -/
import Derived.Test.YtnhkojpbbdaedaaGreatGCmdR
import Derived.Test.YtnhkojpbbdaedaaGreatGBoxM
import Derived.Test.YtnhkojpbbdaedaaGreatGiftMath5
import Derived.Test.YtnhkojpbbdaedaaGreatGSightC
namespace Go.Proofs.YtnhkojpbbdaedaaGreat
open Go.ChangeShapes Go.WideShapes Go.ChangeAt Go.RowKit
set_option linter.unusedVariables false
open Go.RowKit
def actW (x:Wd) (i:Nat) (c:Cm):Wd × Int × Int :=
 if c.kind=1 then Ck x i c.dir.toNat
 else if c.kind=2 then Eg x i c.who c.dir.toNat
 else if c.kind=3 then ((getW x i c.item).1,0,(getW x i c.item).2)
 else if c.kind=4 then ((Nj x i c.item).1,0,(Nj x i c.item).2)
 else if c.kind=5 then ((boxW x i c.item c.box).1,0,(boxW x i c.item c.box).2)
 else if c.kind=6 then ((outW x i c.item c.box).1,0,(outW x i c.item c.box).2)
 else if c.kind=7 then ((Jg x i c.item c.who).1,0,(Jg x i c.item c.who).2)
 else ((Ca x i c.who c.gives c.wants c.pay c.fee).1,0,(Ca x i c.who c.gives c.wants c.pay c.fee).2)
def errR (e:Int):Rp:=⟨e,0,0,[],[],0⟩
def okR (k r:Int):Rp:=⟨0,k,r,[],[],0⟩
def doW (x:Wd) (i:Nat) (c:Cm):Wd × Rp :=
 if Ak c=false then (x,errR 2)
 else if c.kind=9 then (x,Gh x i)
 else if c.kind=10 then (x,Lh x i)
 else if (actW x i c).2.2=0 then ((actW x i c).1,okR c.kind (actW x i c).2.1) else (x,errR (actW x i c).2.2)
theorem Bb0 {x:Wd} {i:Nat} {c:Cm} (h:¬(actW x i c).2.2=0):(actW x i c).1=x:=by
 unfold actW at h ⊢
 split at h
 ·rename_i h1
  rw [if_pos h1]
  unfold Ck at h ⊢
  split
  ·rfl
  ·rename_i h2
   rw [if_neg h2] at h
   simp at h
 ·rename_i h1
  rw [if_neg h1]
  split at h
  ·rename_i h2
   rw [if_pos h2]
   unfold Eg Ck at h ⊢
   split
   ·rfl
   ·rename_i h3
    rw [if_neg h3] at h
    split
    ·rfl
    ·rename_i h4
     rw [if_neg h4] at h
     split
     ·rfl
     ·rename_i h5
      rw [if_neg h5] at h
      split
      ·rfl
      ·rename_i h6
       rw [if_neg h6] at h
       simp at h
  ·rename_i h2
   rw [if_neg h2]
   split at h
   ·rename_i h3
    rw [if_pos h3]
    rcases Ho x c.item ⟨0,(Ah x i:Int)⟩ ⟨1,(i:Int)⟩ with ⟨_,e⟩|⟨k,_,_,⟨_,e⟩|⟨_,_,e⟩|⟨_,_,e⟩⟩
    ·show (Fa _ _ _ _).1=x
     rw [e]
    ·show (Fa _ _ _ _).1=x
     rw [e]
    ·show (Fa _ _ _ _).1=x
     rw [e]
    ·exact absurd (congrArg Prod.snd e) h
   ·rename_i h3
    rw [if_neg h3]
    split at h
    ·rename_i h4
     rw [if_pos h4]
     rcases Ho x c.item ⟨1,(i:Int)⟩ ⟨0,(Ah x i:Int)⟩ with ⟨_,e⟩|⟨k,_,_,⟨_,e⟩|⟨_,_,e⟩|⟨_,_,e⟩⟩
     ·show (Fa _ _ _ _).1=x
      rw [e]
     ·show (Fa _ _ _ _).1=x
      rw [e]
     ·show (Fa _ _ _ _).1=x
      rw [e]
     ·exact absurd (congrArg Prod.snd e) h
    ·rename_i h4
     rw [if_neg h4]
     split at h
     ·rename_i h5
      rw [if_pos h5]
      rcases Qc x i c.item c.box with ⟨_,e⟩|⟨k,b,_,_,_,_,⟨_,e⟩|⟨_,⟨_,e⟩|⟨_,⟨_,e⟩|⟨_,⟨_,e⟩|⟨_,⟨_,e⟩|⟨_,e⟩⟩⟩⟩⟩⟩
      all_goals first|(show (boxW _ _ _ _).1=x;rw [e];done)|exact absurd (congrArg Prod.snd e) h
     ·rename_i h5
      rw [if_neg h5]
      split at h
      ·rename_i h6
       rw [if_pos h6]
       rcases Rc x i c.item c.box with ⟨_,e⟩|⟨k,b,_,_,_,_,⟨_,e⟩|⟨_,⟨_,e⟩|⟨_,⟨_,e⟩|⟨_,⟨_,e⟩|⟨_,e⟩⟩⟩⟩⟩
       all_goals first|(show (outW _ _ _ _).1=x;rw [e];done)|exact absurd (congrArg Prod.snd e) h
      ·rename_i h6
       rw [if_neg h6]
       split at h
       ·rename_i h7
        rw [if_pos h7]
        exact Aq2 (e:=(Jg x i c.item c.who).2) rfl h
       ·rename_i h7
        rw [if_neg h7]
        exact Au6 h
theorem Dx3 (x:Wd) (i:Nat) (c:Cm):Am x (actW x i c).1:=by
 unfold actW
 split
 ·exact Qi _ _ _
 split
 ·exact Ap7 _ _ _ _
 split
 ·exact Qw _ _ _ _
 split
 ·exact Qw _ _ _ _
 split
 ·exact Am2 _ _ _ _
 split
 ·exact Bl2 _ _ _ _
 split
 ·exact Bs0 _ _ _ _
 ·exact Am8 _ _ _ _ _ _ _
theorem Ca4 {x:Wd} (h:Ai x=true) {i:Nat} {q:Int} {d:Nat} (hd:d<4):Ai (Eg x i q d).1=true:=by
 unfold Eg
 split
 ·exact h
 ·rename_i h1
  split
  ·exact h
  ·split
   ·exact h
   ·have h2:inB q x.at_.length=true:=by simpa using h1
    rw [Bi] at h2
    exact Aq0 h (by omega) hd
theorem Cq6 {x:Wd} (h:Ai x=true) {i:Nat} {item b:Int}:Ai (boxW x i item b).1=true:=by
 rcases Qc x i item b with ⟨_,e⟩|⟨k,c,rfl,rfl,hk,hc,hr⟩
 ·rw [e];exact h
 by_cases he:(boxW x i k c).2=0
 ·obtain ⟨hb,e⟩:=Ao8 h he
  rw [e]
  exact hb.right h
 ·have:(boxW x i k c).1=x:=by
   rcases hr with ⟨_,e⟩|⟨_,⟨_,e⟩|⟨_,⟨_,e⟩|⟨_,⟨_,e⟩|⟨_,⟨_,e⟩|⟨_,e⟩⟩⟩⟩⟩
   all_goals first|(rw [e];done)|exact absurd (congrArg Prod.snd e) he
  rw [this];exact h
theorem Co4 {x:Wd} (h:Ai x=true) {i:Nat} (hi:i<x.at_.length) {item b:Int}:Ai (outW x i item b).1=true:=by
 rcases Rc x i item b with ⟨_,e⟩|⟨k,c,rfl,rfl,hk,hc,hr⟩
 ·rw [e];exact h
 by_cases he:(outW x i k c).2=0
 ·obtain ⟨hb,e⟩:=Xx h he
  rw [e]
  exact hb.right h hi
 ·have:(outW x i k c).1=x:=by
   rcases hr with ⟨_,e⟩|⟨_,⟨_,e⟩|⟨_,⟨_,e⟩|⟨_,⟨_,e⟩|⟨_,e⟩⟩⟩⟩
   all_goals first|(rw [e];done)|exact absurd (congrArg Prod.snd e) he
  rw [this];exact h
theorem Bx0 {x:Wd} (h:Ai x=true) {i:Nat} (hi:i<x.at_.length) {c:Cm} (hd:c.dir<4):Ai (actW x i c).1=true:=by
 unfold actW
 split
 ·exact Aq0 h hi (by omega)
 split
 ·exact Ca4 h (by omega)
 split
 ·exact Ym h (Jt h hi) (by simp) (by simp)
 split
 ·exact Ym h (Ax8 h hi) (by simp) (by simp)
 split
 ·exact Cq6 h
 split
 ·exact Co4 h hi
 split
 ·obtain ⟨⟨y,e⟩,hR⟩:∃R,Jg x i c.item c.who=R:=⟨_,rfl⟩
  rw [hR]
  by_cases he:e=0
  ·subst he
   obtain ⟨_,_,_,_,_,_,_,hy,_⟩:=De1 h hi hR
   exact hy
  ·rw [Aq2 hR he];exact h
 ·obtain ⟨⟨y,e⟩,hR⟩:∃R,Ca x i c.who c.gives c.wants c.pay c.fee=R:=⟨_,rfl⟩
  rw [hR]
  by_cases he:e=0
  ·subst he
   obtain ⟨_,_,_,_,_,_,_,_,hy,_⟩:=Az8 h hi hR
   exact hy
  ·rw [Aa5 hR he];exact h
theorem Wo (x:Wd) (item:Int) (f g:Pl):(Fa x item f g).1.d=x.d∧(Fa x item f g).1.coins=x.coins∧(Fa x item f g).1.at_=x.at_:=by
 unfold Fa
 split
 ·exact ⟨rfl,rfl,rfl⟩
 split
 ·exact ⟨rfl,rfl,rfl⟩
 split
 ·exact ⟨rfl,rfl,rfl⟩
 ·exact ⟨rfl,rfl,rfl⟩
theorem As9 (x:Wd) (i d:Nat):(Ck x i d).1.d=x.d∧(Ck x i d).1.coins=x.coins∧(Ck x i d).1.wher=x.wher:=by
 unfold Ck
 split<;>exact ⟨rfl,rfl,rfl⟩
theorem Bu9 (x:Wd) (i:Nat) (q:Int) (d:Nat):(Eg x i q d).1.d=x.d∧(Eg x i q d).1.coins=x.coins∧(Eg x i q d).1.wher=x.wher:=by
 unfold Eg
 split
 ·exact ⟨rfl,rfl,rfl⟩
 split
 ·exact ⟨rfl,rfl,rfl⟩
 split
 ·exact ⟨rfl,rfl,rfl⟩
 ·exact As9 _ _ _
theorem Cq7 (x:Wd) (i:Nat) (item b:Int):(boxW x i item b).1.d=x.d∧(boxW x i item b).1.coins=x.coins∧(boxW x i item b).1.at_=x.at_:=by
 unfold boxW
 repeat (first|(split;(exact ⟨rfl,rfl,rfl⟩))|exact ⟨rfl,rfl,rfl⟩)
theorem Co5 (x:Wd) (i:Nat) (item b:Int):(outW x i item b).1.d=x.d∧(outW x i item b).1.coins=x.coins∧(outW x i item b).1.at_=x.at_:=by
 unfold outW
 repeat (first|(split;(exact ⟨rfl,rfl,rfl⟩))|exact ⟨rfl,rfl,rfl⟩)
theorem Fv1 {x:Wd} (h:Ai x=true) {i:Nat} (hi:i<x.at_.length) (c:Cm):(actW x i c).1.d=x.d∧(actW x i c).1.coins.sum=x.coins.sum:=by
 have tr:∀q gl wl pay fee,(Ca x i q gl wl pay fee).1.d=x.d∧(Ca x i q gl wl pay fee).1.coins.sum=x.coins.sum:=by
  intro q gl wl pay fee
  obtain ⟨⟨y,e⟩,hR⟩:∃R,Ca x i q gl wl pay fee=R:=⟨_,rfl⟩
  rw [hR]
  by_cases he:e=0
  ·subst he
   obtain ⟨_,_,_,_,_,_,_,hy,_,hs,_⟩:=Az8 h hi hR
   exact ⟨by rw [hy];rfl,hs⟩
  ·rw [Aa5 hR he];exact ⟨rfl,rfl⟩
 unfold actW
 split
 ·exact ⟨(As9 _ _ _).1,by rw [(As9 _ _ _).2.1]⟩
 split
 ·exact ⟨(Bu9 _ _ _ _).1,by rw [(Bu9 _ _ _ _).2.1]⟩
 split
 ·exact ⟨(Wo _ _ _ _).1,by show (Fa _ _ _ _).1.coins.sum=_;rw [(Wo _ _ _ _).2.1]⟩
 split
 ·exact ⟨(Wo _ _ _ _).1,by show (Fa _ _ _ _).1.coins.sum=_;rw [(Wo _ _ _ _).2.1]⟩
 split
 ·exact ⟨(Cq7 _ _ _ _).1,by show (boxW _ _ _ _).1.coins.sum=_;rw [(Cq7 _ _ _ _).2.1]⟩
 split
 ·exact ⟨(Co5 _ _ _ _).1,by show (outW _ _ _ _).1.coins.sum=_;rw [(Co5 _ _ _ _).2.1]⟩
 split
 ·rw [Xj h hi];exact tr _ _ _ _ _
 ·exact tr _ _ _ _ _
end Go.Proofs.YtnhkojpbbdaedaaGreat
