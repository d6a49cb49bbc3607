/- What is put in, and taken out: plain mathematics. -/
import Derived.Test.YtnhkojpbbdaedaaGreatGAs
namespace Go.Proofs.YtnhkojpbbdaedaaGreat
open Go.ChangeShapes Go.WideShapes Go.ChangeAt Go.RowKit
set_option linter.unusedVariables false
section
def depN (ps:List Pl) (k b n:Nat):Nat:=if wB ps n k=true then dep ps n-dep ps k+dep ps b+1 else dep ps n
section
variable {ps:List Pl} (hT:Tr ps) {k b:Nat} (hk:k<ps.length) (hb:b<ps.length) (hw:wB ps b k=false)
include hT hk hb hw
omit hk hb hw in
theorem Dl2:∀n,n<ps.length→wB ps n k=false→∀j,dep ps n≤j→dpt (ps.set k (box b)) j (plOf (ps.set k (box b)) n)=some (dep ps n):=by
 refine hT.ind (fun n hn hd hwn j hj=>?_) (fun n m hn hm he hu ih hwn j hj=>?_)
 ·have hnk:¬n=k:=fun e=>by rw [e,Eh] at hwn;cases hwn
  rw [Dk hn,if_neg hnk,Nt hd]
  cases j<;>simp [dpt,hd]
 ·have hnk:¬n=k:=fun e=>by rw [e,Eh] at hwn;cases hwn
  rw [Ig k hu] at hwn
  simp only [Bool.or_eq_false_iff] at hwn
  rw [Gf hu] at hj ⊢
  obtain ⟨j',rfl⟩:∃j',j=j'+1:=⟨j-1,by omega⟩
  rw [Dk hn,if_neg hnk,he]
  have e:par (ps.set k (box b)) (box m)=plOf (ps.set k (box b)) m:=rfl
  simp only [dpt,e]
  rw [ih hwn.2 j' (by omega)]
  simp [box]
theorem Gu8:∀n,n<ps.length→wB ps n k=true→∀j,dep ps n-dep ps k+dep ps b+1≤j→dpt (ps.set k (box b)) j (plOf (ps.set k (box b)) n)=some (dep ps n-dep ps k+dep ps b+1):=by
 have key:∀j,dep ps k-dep ps k+dep ps b+1≤j→dpt (ps.set k (box b)) j (plOf (ps.set k (box b)) k)=some (dep ps k-dep ps k+dep ps b+1):=by
  intro j hj
  obtain ⟨j',rfl⟩:∃j',j=j'+1:=⟨j-1,by omega⟩
  rw [Dk hk,if_pos rfl]
  have e:par (ps.set k (box b)) (box b)=plOf (ps.set k (box b)) b:=rfl
  simp only [dpt,e]
  rw [Dl2 hT b hb hw j' (by omega)]
  simp [box]
 refine hT.ind (fun n hn hd hwn=>?_) (fun n m hn hm he hu ih hwn j hj=>?_)
 ·rw [Ku k hd,decide_eq_true_eq] at hwn
  subst hwn
  exact key
 ·by_cases hnk:n=k
  ·subst hnk;exact key j hj
  ·rw [Ig k hu] at hwn
   simp only [Bool.or_eq_true,decide_eq_true_eq,hnk,false_or] at hwn
   have h1:=(hT.within k m hm hwn).2.1
   rw [Gf hu] at hj ⊢
   obtain ⟨j',rfl⟩:∃j',j=j'+1:=⟨j-1,by omega⟩
   rw [Dk hn,if_neg hnk,he]
   have e:par (ps.set k (box b)) (box m)=plOf (ps.set k (box b)) m:=rfl
   simp only [dpt,e]
   rw [ih hwn j' (by omega)]
   simp [box];omega
theorem Dl1 {n:Nat} (hn:n<ps.length) {j:Nat} (hj:depN ps k b n≤j):dpt (ps.set k (box b)) j (plOf (ps.set k (box b)) n)=some (depN ps k b n):=by
 unfold depN at hj ⊢
 by_cases h:wB ps n k=true
 ·rw [if_pos h] at hj ⊢;exact Gu8 hT hk hb hw n hn h j hj
 ·rw [if_neg h] at hj ⊢;exact Dl2 hT n hn (by simpa using h) j hj
omit hk hw in
theorem Dl3 {n:Nat} (hn:n<ps.length):depN ps k b n≤9:=by
 have h1:=hT.dep4 hn
 have h2:=hT.dep4 hb
 unfold depN
 split<;>omega
theorem Dv5 {n:Nat} (hn:n<ps.length):Ir (ps.set k (box b)) (plOf (ps.set k (box b)) n)=depN ps k b n:=by
 have:=Dl3 hT hb hn (k:=k)
 unfold Ir
 rw [Dl1 hT hk hb hw hn (by omega)]
 rfl
omit hb hw in
theorem Cq3:(∃n,n<ps.length∧4<depN ps k b n)↔4<dep ps b+1+hgt ps k:=by
 constructor
 ·rintro ⟨n,hn,h⟩
  unfold depN at h
  by_cases hwn:wB ps n k=true
  ·rw [if_pos hwn] at h
   have:=hT.hgt_le hn hwn
   omega
  ·rw [if_neg hwn] at h
   have:=hT.dep4 hn
   omega
 ·intro h
  obtain ⟨n,hn,hwn,e⟩:=hT.hgt_at hk
  refine ⟨n,hn,?_⟩
  unfold depN
  rw [if_pos hwn,e]
  omega
theorem Ek0 (hd:dep ps b+1+hgt ps k≤4):Tr (ps.set k (box b)):=by
 refine ⟨fun p hp h2=>?_,fun p hp=>?_⟩
 ·rw [List.length_set]
  rcases List.mem_or_eq_of_mem_set hp with hp|rfl
  ·exact hT.ids p hp h2
  ·simp only [box];omega
 ·obtain ⟨n,hn,rfl⟩:=List.getElem_of_mem hp
  have hn2:n<ps.length:=by simpa using hn
  rw [←Bo hn,Vy]
  have h4:depN ps k b n≤4:=by
   apply Decidable.byContradiction
   intro h
   have:=(Cq3 (b:=b) hT hk).1 ⟨n,hn2,by omega⟩
   omega
  rw [Dl1 hT hk hb hw hn2 h4]
  rfl
theorem Bu7 (hd:dep ps b+1+hgt ps k≤4):∀n,n<ps.length→wB (ps.set k (box b)) n k=wB ps n k∧Bh (ps.set k (box b)) n=if wB ps n k=true then Bh ps b else Bh ps n:=by
 have hT2:=Ek0 hT hk hb hw hd
 have out:∀n,n<ps.length→wB ps n k=false→wB (ps.set k (box b)) n k=false∧Bh (ps.set k (box b)) n=Bh ps n:=by
  refine hT.ind (fun n hn hdl hwn=>?_) (fun n m hn hm he hu ih hwn=>?_)
  ·have hnk:¬n=k:=fun e=>by rw [e,Eh] at hwn;cases hwn
   have e:plOf (ps.set k (box b)) n=plOf ps n:=by rw [Dk hn,if_neg hnk]
   have hl:¬(plOf (ps.set k (box b)) n).kind=2:=by rw [e];exact hdl
   exact ⟨by rw [Ku k hl];simpa using hnk,by rw [Em hl,Em hdl,e]⟩
  ·have hnk:¬n=k:=fun e=>by rw [e,Eh] at hwn;cases hwn
   have e:plOf (ps.set k (box b)) n=box m:=by rw [Dk hn,if_neg hnk,he]
   obtain ⟨hu2,_⟩:=hT2.kid (by simpa using hn) e
   rw [Ig k hu] at hwn
   simp only [Bool.or_eq_false_iff] at hwn
   obtain ⟨h1,h2⟩:=ih hwn.2
   exact ⟨by rw [Ig k hu2,h1];simpa using hnk,by rw [Et hu2,Et hu,h2]⟩
 have key:Bh (ps.set k (box b)) k=Bh ps b:=by
  have e:plOf (ps.set k (box b)) k=box b:=by rw [Dk hk,if_pos rfl]
  obtain ⟨hu2,_⟩:=hT2.kid (by simpa using hk) e
  rw [Et hu2,(out b hb hw).2]
 have inn:∀n,n<ps.length→wB ps n k=true→wB (ps.set k (box b)) n k=true∧Bh (ps.set k (box b)) n=Bh ps b:=by
  refine hT.ind (fun n hn hdl hwn=>?_) (fun n m hn hm he hu ih hwn=>?_)
  ·rw [Ku k hdl,decide_eq_true_eq] at hwn
   subst hwn
   exact ⟨Eh _ _,key⟩
  ·by_cases hnk:n=k
   ·subst hnk;exact ⟨Eh _ _,key⟩
   ·have e:plOf (ps.set k (box b)) n=box m:=by rw [Dk hn,if_neg hnk,he]
    obtain ⟨hu2,_⟩:=hT2.kid (by simpa using hn) e
    rw [Ig k hu] at hwn
    simp only [Bool.or_eq_true,decide_eq_true_eq,hnk,false_or] at hwn
    obtain ⟨h1,h2⟩:=ih hwn
    exact ⟨by rw [Ig k hu2,h1];simp,by rw [Et hu2,h2]⟩
 intro n hn
 by_cases h:wB ps n k=true
 ·rw [if_pos h,h];exact inn n hn h
 ·rw [if_neg h]
  have h':wB ps n k=false:=by simpa using h
  rw [h'];exact out n hn h'
end
def De (x:Wd) (i k:Nat):Bool:=decide (Bh x.wher k=⟨0,(Ah x i:Int)⟩)||decide (Bh x.wher k=⟨1,(i:Int)⟩)
def boxW (x:Wd) (i:Nat) (item b:Int):Wd × Int :=
 if inB item x.wher.length=false∨inB b x.wher.length=false then (x,3)
 else if ¬plOf x.wher item.toNat=⟨1,(i:Int)⟩∨De x i b.toNat=false then (x,5)
 else if x.d.boxes.getD b.toNat false=false then (x,6)
 else if wB x.wher b.toNat item.toNat=true then (x,7)
 else if 4<dep x.wher b.toNat+1+hgt x.wher item.toNat then (x,8)
 else if roomI x (box b.toNat)=0 then (x,9)
 else (putW x item.toNat (box b.toNat),0)
def outW (x:Wd) (i:Nat) (item b:Int):Wd × Int :=
 if inB item x.wher.length=false∨inB b x.wher.length=false then (x,3)
 else if De x i b.toNat=false then (x,5)
 else if x.d.boxes.getD b.toNat false=false then (x,6)
 else if ¬plOf x.wher item.toNat=box b.toNat then (x,5)
 else if roomI x ⟨1,(i:Int)⟩=0 then (x,9)
 else (putW x item.toNat ⟨1,(i:Int)⟩,0)
theorem Dv9 {x:Wd} (h:Ai x=true) {k b:Nat} (hk:k<x.wher.length) (hb:b<x.wher.length) (hx:x.d.boxes.getD b false=true) (hw:wB x.wher b k=false) (hd:dep x.wher b+1+hgt x.wher k≤4) (hr:0<roomI x (box b)):Ai (putW x k (box b))=true:=by
 have hT:=Bv h
 have hT2:=Ek0 hT hk hb hw hd
 have hbl:x.d.boxes.length=x.wher.length:=by
  have hm:=(Aj h).2.2.2.2
  have h2:=hm.2
  simp only [mayD,Iw,Bool.and_eq_true,decide_eq_true_eq] at h2
  have:=h2.2.2.2.2.1
  omega
 have h1:=h
 simp only [Ai,Bool.and_eq_true] at h1 ⊢
 obtain ⟨h2,h3,h4,h5,h6⟩:=h1
 refine ⟨h2,h3,?_,?_,?_⟩
 ·simp only [Dv,putW,Bool.and_eq_true,decide_eq_true_eq,List.all_eq_true,List.length_set] at h4 ⊢
  refine ⟨h4.1,fun p hpm=>?_⟩
  rcases List.mem_or_eq_of_mem_set hpm with hpm|rfl
  ·exact h4.2 p hpm
  ·simp only [Cw,box,Int.toNat_natCast,hx,inB]
   simp;omega
 ·simp only [Sk,putW,List.all_eq_true]
  exact hT2.ends
 ·simp only [fitB,List.all_eq_true,decide_eq_true_eq] at h6
  unfold fitB
  rw [List.all_eq_true]
  intro p hpm
  refine decide_eq_true ?_
  show ((List.count p (x.wher.set k (box b)):Nat):Int)≤Cb x.d p.kind
  rw [Jr hk]
  by_cases e:box b=p
  ·subst e
   unfold roomI at hr
   rw [if_pos rfl]
   split<;>omega
  ·rw [if_neg e]
   have h7:=h6 p ((List.mem_or_eq_of_mem_set hpm).resolve_right (fun h=>e h.symm))
   split<;>omega
end
section
theorem Ae3 {b i:Nat}:¬box b=⟨1,(i:Int)⟩:=fun h=>by simp [box] at h
theorem Qc (x:Wd) (i:Nat) (item b:Int) :
 ((inB item x.wher.length=false∨inB b x.wher.length=false)∧boxW x i item b=(x,3)) ∨
 ∃k c:Nat,item=k∧b=c∧k<x.wher.length∧c<x.wher.length ∧
  (((¬plOf x.wher k=⟨1,(i:Int)⟩∨De x i c=false)∧boxW x i item b=(x,5)) ∨
   ((plOf x.wher k=⟨1,(i:Int)⟩∧De x i c=true) ∧
    ((x.d.boxes.getD c false=false∧boxW x i item b=(x,6)) ∨
     (x.d.boxes.getD c false=true ∧
      ((wB x.wher c k=true∧boxW x i item b=(x,7)) ∨
       (wB x.wher c k=false ∧
        ((4<dep x.wher c+1+hgt x.wher k∧boxW x i item b=(x,8)) ∨
         (dep x.wher c+1+hgt x.wher k≤4 ∧
          ((roomI x (box c)=0∧boxW x i item b=(x,9))∨(¬roomI x (box c)=0∧boxW x i item b=(putW x k (box c),0))))))))))) :=by
 unfold boxW
 by_cases h1:inB item x.wher.length=false∨inB b x.wher.length=false
 ·exact .inl ⟨h1,by rw [if_pos h1]⟩
 right
 rw [if_neg h1]
 simp only [not_or,Bool.not_eq_false,Bi] at h1
 refine ⟨item.toNat,b.toNat,by omega,by omega,by omega,by omega,?_⟩
 by_cases h2:¬plOf x.wher item.toNat=⟨1,(i:Int)⟩∨De x i b.toNat=false
 ·exact .inl ⟨h2,by rw [if_pos h2]⟩
 refine .inr ⟨by simpa [not_or] using h2,?_⟩
 rw [if_neg h2]
 by_cases h3:x.d.boxes.getD b.toNat false=false
 ·exact .inl ⟨h3,by rw [if_pos h3]⟩
 refine .inr ⟨by simpa using h3,?_⟩
 rw [if_neg h3]
 by_cases h4:wB x.wher b.toNat item.toNat=true
 ·exact .inl ⟨h4,by rw [if_pos h4]⟩
 refine .inr ⟨by simpa using h4,?_⟩
 rw [if_neg h4]
 by_cases h5:4<dep x.wher b.toNat+1+hgt x.wher item.toNat
 ·exact .inl ⟨h5,by rw [if_pos h5]⟩
 refine .inr ⟨by omega,?_⟩
 rw [if_neg h5]
 by_cases h6:roomI x (box b.toNat)=0
 ·exact .inl ⟨h6,by rw [if_pos h6]⟩
 ·exact .inr ⟨h6,by rw [if_neg h6]⟩
theorem Rc (x:Wd) (i:Nat) (item b:Int) :
 ((inB item x.wher.length=false∨inB b x.wher.length=false)∧outW x i item b=(x,3)) ∨
 ∃k c:Nat,item=k∧b=c∧k<x.wher.length∧c<x.wher.length ∧
  ((De x i c=false∧outW x i item b=(x,5)) ∨
   (De x i c=true ∧
    ((x.d.boxes.getD c false=false∧outW x i item b=(x,6)) ∨
     (x.d.boxes.getD c false=true ∧
      ((¬plOf x.wher k=box c∧outW x i item b=(x,5)) ∨
       (plOf x.wher k=box c ∧
        ((roomI x ⟨1,(i:Int)⟩=0∧outW x i item b=(x,9))∨(¬roomI x ⟨1,(i:Int)⟩=0∧outW x i item b=(putW x k ⟨1,(i:Int)⟩,0))))))))):=by
 unfold outW
 by_cases h1:inB item x.wher.length=false∨inB b x.wher.length=false
 ·exact .inl ⟨h1,by rw [if_pos h1]⟩
 right
 rw [if_neg h1]
 simp only [not_or,Bool.not_eq_false,Bi] at h1
 refine ⟨item.toNat,b.toNat,by omega,by omega,by omega,by omega,?_⟩
 by_cases h2:De x i b.toNat=false
 ·exact .inl ⟨h2,by rw [if_pos h2]⟩
 refine .inr ⟨by simpa using h2,?_⟩
 rw [if_neg h2]
 by_cases h3:x.d.boxes.getD b.toNat false=false
 ·exact .inl ⟨h3,by rw [if_pos h3]⟩
 refine .inr ⟨by simpa using h3,?_⟩
 rw [if_neg h3]
 by_cases h4:plOf x.wher item.toNat=box b.toNat
 ·refine .inr ⟨h4,?_⟩
  rw [if_neg (by simpa using h4)]
  by_cases h5:roomI x ⟨1,(i:Int)⟩=0
  ·exact .inl ⟨h5,by rw [if_pos h5]⟩
  ·exact .inr ⟨h5,by rw [if_neg h5]⟩
 ·exact .inl ⟨h4,by rw [if_pos h4]⟩
theorem Am2 (x:Wd) (i:Nat) (item b:Int):Am x (boxW x i item b).1:=by
 unfold boxW
 repeat' split
 all_goals first|exact Am.refl x|exact Db _ _ _
theorem Bl2 (x:Wd) (i:Nat) (item b:Int):Am x (outW x i item b).1:=by
 unfold outW
 repeat' split
 all_goals first|exact Am.refl x|exact Db _ _ _
theorem Ab7 {x:Wd} (h:Ai x=true) (b:Nat):0≤roomI x (box b):=Hz h (by simp [box])
structure Ko (x:Wd) (i k c:Nat):Prop where
 ltk:k<x.wher.length
 ltc:c<x.wher.length
 at_:plOf x.wher k=⟨1,(i:Int)⟩
 near:De x i c=true
 bx:x.d.boxes.getD c false=true
 w:wB x.wher c k=false
 d:dep x.wher c+1+hgt x.wher k≤4
 r:0<roomI x (box c)
theorem Ao8 {x:Wd} (h:Ai x=true) {i k c:Nat} (he:(boxW x i k c).2=0):Ko x i k c∧boxW x i k c=(putW x k (box c),0):=by
 rcases Qc x i k c with ⟨_,e⟩|⟨k',c',hk',hc',hk,hc,⟨_,e⟩|⟨⟨h1,h2⟩,⟨_,e⟩|⟨h3,⟨_,e⟩|⟨h4,⟨_,e⟩|⟨h5,⟨_,e⟩|⟨h6,e⟩⟩⟩⟩⟩⟩
 all_goals try (rw [e] at he;simp at he;done)
 obtain rfl:k=k':=by omega
 obtain rfl:c=c':=by omega
 have:=Ab7 h c
 exact ⟨⟨hk,hc,h1,h2,h3,h4,h5,by omega⟩,e⟩
theorem Ko.right {x:Wd} {i k c:Nat} (h:Ko x i k c) (hx:Ai x=true):Ai (putW x k (box c))=true:=Dv9 hx h.ltk h.ltc h.bx h.w h.d h.r
theorem Ko.root {x:Wd} {i k c:Nat} (h:Ko x i k c) (hx:Ai x=true):Bh (putW x k (box c)).wher k=Bh x.wher c∧wB (putW x k (box c)).wher k c=true∧Bh (putW x k (box c)).wher c=Bh x.wher c:=by
 have hT:=Bv hx
 have h1:=Bu7 hT h.ltk h.ltc h.w h.d k h.ltk
 have h2:=Bu7 hT h.ltk h.ltc h.w h.d c h.ltc
 rw [if_pos (Eh _ _)] at h1
 rw [if_neg (by rw [h.w];simp)] at h2
 refine ⟨h1.2,?_,h2.2⟩
 have e:plOf (putW x k (box c)).wher k=box c:=by show plOf (x.wher.set k (box c)) k=_;rw [Dk h.ltk,if_pos rfl]
 obtain ⟨hu,_⟩:=(Bv (h.right hx)).kid (show k<(putW x k (box c)).wher.length by show k<(x.wher.set k _).length;simpa using h.ltk) e
 rw [Ig c hu,Eh]
 simp
theorem Ko.back {x:Wd} {i k c:Nat} (h:Ko x i k c) (hx:Ai x=true):outW (putW x k (box c)) i k c=(x,0):=by
 have hr:=h.root hx
 have hl:(putW x k (box c)).wher.length=x.wher.length:=by show (x.wher.set k _).length=_;simp
 have e:plOf (putW x k (box c)).wher k=box c:=by show plOf (x.wher.set k (box c)) k=_;rw [Dk h.ltk,if_pos rfl]
 have hn:De (putW x k (box c)) i c=true:=by
  have:=h.near
  unfold De at this ⊢
  rw [hr.2.2]
  exact this
 have h2:=Wz h.ltk h.at_ (fun e=>Ae3 e:¬box c=⟨1,(i:Int)⟩)
 have h3:=Hz hx (f:=⟨1,(i:Int)⟩) (by simp)
 have hbx:(putW x k (box c)).d.boxes.getD c false=true:=h.bx
 unfold outW
 rw [if_neg (by rw [hl];simp [inB,h.ltk,h.ltc])]
 simp only [Int.toNat_natCast]
 rw [if_neg (by rw [hn];simp),if_neg (by rw [hbx];simp),if_neg (by simpa using e),if_neg (by omega),Zw,Zv h.ltk h.at_]
theorem Dq7 {x:Wd} {k:Nat} (hk:k<x.wher.length) {f:Pl} (hf:¬plOf x.wher k=f):roomI (putW x k f) f=roomI x f-1:=by
 rw [Bo hk] at hf
 have h2:=Jr hk f f
 rw [if_neg hf,if_pos rfl] at h2
 show Cb x.d f.kind-(((x.wher.set k f).count f:Nat):Int)=_
 unfold roomI
 omega
theorem Ko.rooms {x:Wd} {i k c:Nat} (h:Ko x i k c):roomI (putW x k (box c)) ⟨1,(i:Int)⟩=roomI x ⟨1,(i:Int)⟩+1∧roomI (putW x k (box c)) (box c)=roomI x (box c)-1 :=
 ⟨Wz h.ltk h.at_ (fun e=>Ae3 e),Dq7 h.ltk (by rw [h.at_];exact fun e=>Ae3 e.symm)⟩
structure Bm1 (x:Wd) (i k c:Nat):Prop where
 ltk:k<x.wher.length
 ltc:c<x.wher.length
 at_:plOf x.wher k=box c
 near:De x i c=true
 bx:x.d.boxes.getD c false=true
 r:0<roomI x ⟨1,(i:Int)⟩
theorem Xx {x:Wd} (h:Ai x=true) {i k c:Nat} (he:(outW x i k c).2=0):Bm1 x i k c∧outW x i k c=(putW x k ⟨1,(i:Int)⟩,0):=by
 rcases Rc x i k c with ⟨_,e⟩|⟨k',c',hk',hc',hk,hc,⟨_,e⟩|⟨h1,⟨_,e⟩|⟨h2,⟨_,e⟩|⟨h3,⟨_,e⟩|⟨h4,e⟩⟩⟩⟩⟩
 all_goals try (rw [e] at he;simp at he;done)
 obtain rfl:k=k':=by omega
 obtain rfl:c=c':=by omega
 have:=Hz h (f:=⟨1,(i:Int)⟩) (by simp)
 exact ⟨⟨hk,hc,h3,h1,h2,by omega⟩,e⟩
theorem Bm1.right {x:Wd} {i k c:Nat} (h:Bm1 x i k c) (hx:Ai x=true) (hi:i<x.at_.length):Ai (putW x k ⟨1,(i:Int)⟩)=true:=Ru hx h.ltk (by simp) (Jt hx hi) h.r
theorem Bm1.within {x:Wd} {i k c:Nat} (h:Bm1 x i k c) (hx:Ai x=true):wB x.wher k c=true∧Bh x.wher k=Bh x.wher c:=by
 obtain ⟨hu,_⟩:=(Bv hx).kid h.ltk h.at_
 exact ⟨by rw [Ig c hu,Eh];simp,Et hu⟩
theorem Aw1 {x:Wd} {i k c:Nat} (h:Ko x i k c) (h2:Bm1 x i k c):False:=Ae3 (h2.at_.symm.trans h.at_)
theorem Ds9 {x:Wd} (hx:Ai x=true) (i:Nat) {k j:Nat} (hk:k<x.wher.length) (e:plOf x.wher k=box j):De x i k=De x i j:=by
 obtain ⟨hu,_⟩:=(Bv hx).kid hk e
 unfold De
 rw [Et hu]
theorem Cv9 {x:Wd} (i:Nat) {k:Nat} (e:¬(plOf x.wher k).kind=2):De x i k=(decide (plOf x.wher k=⟨0,(Ah x i:Int)⟩)||decide (plOf x.wher k=⟨1,(i:Int)⟩)):=by
 unfold De
 rw [Em e]
end
end Go.Proofs.YtnhkojpbbdaedaaGreat
