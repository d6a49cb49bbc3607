/- How often each item was counted, place by place: plain mathematics. -/
import Derived.Test.YtnhkojpbbdaedaaGreatGCmdN
import Derived.Test.YtnhkojpbbdaedaaGreatTreeUnder
namespace Go.Proofs.YtnhkojpbbdaedaaGreat
open Go.ChangeShapes Go.WideShapes Go.ChangeAt Go.RowKit Go.Proofs.Tryz
set_option linter.unusedVariables false
set_option maxHeartbeats 1000000
set_option maxRecDepth 100000
section
def uI (ps:List Pl) (p:Pl):List Nat:=(List.range ps.length).filter fun i=>decide (Bh ps i=p)
theorem Am6 (ps:List Pl) (p:Pl):Bf ps ps.length p=(uI ps p).map (Jz ps):=rfl
theorem Yl (ps:List Pl) (p:Pl):(Bf ps ps.length p).length=(uI ps p).length:=by rw [Am6,List.length_map]
theorem Ar5 {ps:List Pl} {p:Pl} {j:Nat} (h:j<(uI ps p).length):(uI ps p)[j]<ps.length∧Bh ps (uI ps p)[j]=p:=by
 have hm:=List.getElem_mem h
 generalize (uI ps p)[j]=z at hm
 unfold uI at hm
 rw [List.mem_filter,List.mem_range,decide_eq_true_eq] at hm
 exact hm
theorem Dy2 (ps:List Pl) (p:Pl):(uI ps p).Pairwise (·<·):=List.Pairwise.filter _ List.pairwise_lt_range
theorem Ee1 {ps:List Pl} {p:Pl} {i j:Nat} (hij:i<j) (h:j<(uI ps p).length):(uI ps p)[i]'(by omega)<(uI ps p)[j]:=List.pairwise_iff_getElem.1 (Dy2 ps p) i j (by omega) h hij
theorem Fc8 {ps:List Pl} {p:Pl} {i:Nat} (hi:i<ps.length):i∈uI ps p↔Bh ps i=p:=by simp [uI,hi]
def bef (k n:Nat) (p:Pl):Bool:=decide (p.kind<(k:Int))||(decide (p.kind=(k:Int))&&decide (p.id<(n:Int)))
def dn (ps:List Pl) (k n j i:Nat):Bool:=bef k n (Bh ps i)||((uI ps ⟨(k:Int),(n:Int)⟩).take j).contains i
def tA (ps:List Pl) (k n j:Nat):Array Value:=((List.range ps.length).map fun i=>Value.int .i64 (if dn ps k n j i then 1 else 0)).toArray
theorem Zr {ps:List Pl} {k n j i:Nat} (hi:i<ps.length):(tA ps k n j)[i]?=some (.int .i64 (if dn ps k n j i then 1 else 0)):=by simp [tA,hi]
theorem Bo8 {ps:List Pl} {k n j k' n' j':Nat} (h:∀i,i<ps.length→dn ps k n j i=dn ps k' n' j' i):tA ps k n j=tA ps k' n' j':=by
 unfold tA
 congr 1
 apply List.map_congr_left
 intro i hi
 rw [h i (List.mem_range.1 hi)]
theorem De9 {ps:List Pl} {k n j:Nat} (h:j<(uI ps ⟨(k:Int),(n:Int)⟩).length):dn ps k n j (uI ps ⟨(k:Int),(n:Int)⟩)[j]=false:=by
 have hr:=(Ar5 h).2
 simp only [dn,hr,bef,Bool.or_eq_false_iff,Bool.and_eq_false_iff,decide_eq_false_iff_not]
 refine ⟨⟨by simp,.inr (by simp)⟩,?_⟩
 rw [Bool.eq_false_iff]
 intro hc
 have hm:=List.contains_iff_mem.1 hc
 obtain ⟨i,hi,e⟩:=List.getElem_of_mem hm
 rw [List.length_take] at hi
 rw [List.getElem_take] at e
 have:=Ee1 (ps:=ps) (p:=⟨(k:Int),(n:Int)⟩) (i:=i) (j:=j) (by omega) h
 omega
theorem Cl2 {ps:List Pl} {k n j:Nat} (h:j<(uI ps ⟨(k:Int),(n:Int)⟩).length) (i:Nat):dn ps k n (j+1) i=(dn ps k n j i||decide (i=(uI ps ⟨(k:Int),(n:Int)⟩)[j])):=by
 simp only [dn,Bool.or_assoc]
 congr 1
 rw [List.take_succ_eq_append_getElem h,Bool.eq_iff_iff,Bool.or_eq_true,List.contains_iff_mem,List.contains_iff_mem,List.mem_append,List.mem_singleton,decide_eq_true_eq]
theorem Dh9 {ps:List Pl} {k n j:Nat} (h:j<(uI ps ⟨(k:Int),(n:Int)⟩).length):(tA ps k n j).setIfInBounds (uI ps ⟨(k:Int),(n:Int)⟩)[j] (.int .i64 1)=tA ps k n (j+1):=by
 apply Array.ext
 ·simp [tA]
 ·intro i h1 h2
  have hi:i<ps.length:=by simpa [tA] using h2
  have h3:i<(tA ps k n j).size:=by simpa [tA] using hi
  have g1:=Zr (ps:=ps) (k:=k) (n:=n) (j:=j) hi
  have g2:=Zr (ps:=ps) (k:=k) (n:=n) (j:=j+1) hi
  rw [Array.getElem?_eq_getElem h2] at g2
  rw [Array.getElem?_eq_getElem h3] at g1
  rw [Option.some.inj g2,Cl2 h i]
  by_cases he:(uI ps ⟨(k:Int),(n:Int)⟩)[j]=i
  ·rw [Array.getElem_setIfInBounds h3,if_pos he]
   simp [he]
  ·rw [Array.getElem_setIfInBounds h3,if_neg he,Option.some.inj g1]
   have:¬i=(uI ps ⟨(k:Int),(n:Int)⟩)[j]:=fun h=>he h.symm
   simp [this]
theorem Cy0 (ps:List Pl) (k n:Nat):tA ps k n (uI ps ⟨(k:Int),(n:Int)⟩).length=tA ps k (n+1) 0:=by
 refine Bo8 fun i hi=>?_
 simp only [dn,List.take_length,List.take_zero]
 rw [Bool.eq_iff_iff]
 simp only [Bool.or_eq_true,List.contains_iff_mem,Fc8 hi,bef,Bool.and_eq_true,decide_eq_true_eq,List.not_mem_nil,or_false]
 generalize Bh ps i=r
 obtain ⟨rk,ri⟩:=r
 simp only [Pl.mk.injEq]
 omega
def Zg (x:Wd):Prop:=∀i,i<x.wher.length→∃m:Nat,(Bh x.wher i=⟨0,(m:Int)⟩∧m<x.d.exits.length)∨(Bh x.wher i=⟨1,(m:Int)⟩∧m<x.at_.length)
theorem Ei1 {x:Wd} (h:Fit x):Zg x:=by
 have hin:=Fb h.right
 have hl:=Aj h.right
 have hp:=h.right
 simp only [Ai,Dr,Bool.and_eq_true,decide_eq_true_eq] at hp
 refine h.tr.ind (fun i hi hk=>?_) (fun i j hi hj he hu ih=>?_)
 ·rw [Em hk]
  have h3:=hin.2.2 _ (Ny hi)
  generalize plOf x.wher i=z at *
  obtain ⟨zk,zi⟩:=z
  simp only [Cw] at h3
  by_cases e0:zk=0
  ·subst e0
   simp [inB] at h3
   exact ⟨zi.toNat,.inl ⟨by simp;omega,by omega⟩⟩
  ·by_cases e1:zk=1
   ·subst e1
    simp [inB] at h3
    exact ⟨zi.toNat,.inr ⟨by simp;omega,by omega⟩⟩
   ·rw [if_neg e0,if_neg e1,if_neg hk] at h3
    cases h3
 ·rw [Et hu];exact ih
theorem Dp5 {x:Wd} (h:Zg x):zc x.wher.length=tA x.wher 0 0 0:=by
 apply Array.ext
 ·simp [tA,zc]
 ·intro i h1 h2
  have hi:i<x.wher.length:=by simpa [tA] using h2
  have g2:=Zr (ps:=x.wher) (k:=0) (n:=0) (j:=0) hi
  rw [Array.getElem?_eq_getElem h2] at g2
  rw [Option.some.inj g2]
  have:dn x.wher 0 0 0 i=false:=by
   obtain ⟨m,h|h⟩:=h i hi<;>simp [dn,bef,h.1]
  rw [this]
  simp [zc]
theorem Eg1 {x:Wd} (h:Zg x):tA x.wher 0 x.d.exits.length 0=tA x.wher 1 0 0:=by
 refine Bo8 fun i hi=>?_
 obtain ⟨m,h|h⟩:=h i hi<;>simp [dn,bef,h.1]
 exact h.2
theorem Eg0 {x:Wd} (h:Zg x):tA x.wher 1 x.at_.length 0=tA x.wher 2 0 0:=by
 refine Bo8 fun i hi=>?_
 obtain ⟨m,h|h⟩:=h i hi<;>simp [dn,bef,h.1]
 exact h.2
theorem Fw6 {x:Wd} (h:Zg x) {i:Nat} (hi:i<x.wher.length):(tA x.wher 2 0 0)[i]?=some (.int .i64 1):=by
 rw [Zr hi]
 obtain ⟨m,h|h⟩:=h i hi<;>simp [dn,bef,h.1]
theorem Cn0 {x:Wd} (h:Fit x) {q:Nat} (hq:q<3) (i:Int):¬Cb x.d q-((x.wher.count ⟨(q:Int),i⟩:Nat):Int)<0:=by
 have hc:=h.caps q hq
 have hp:=h.right
 simp only [Ai,fitB,Bool.and_eq_true,List.all_eq_true,decide_eq_true_eq] at hp
 by_cases hm:(⟨(q:Int),i⟩:Pl)∈x.wher
 ·have:=hp.2.2.2.2 _ hm
  simp only at this
  omega
 ·rw [List.count_eq_zero.2 hm]
  simp;omega
end
section
def Gw (x:Wd) (m r:Nat):List Int:=((List.range m).filter fun i=>decide (Ah x i=r)).map fun (i:Nat)=>(i:Int)
theorem As8 {x:Wd} {m r:Nat} (h:Ah x m=r):Gw x (m+1) r=Gw x m r++[(m:Int)]:=by simp [Gw,List.range_succ,h]
theorem Bg8 {x:Wd} {m r:Nat} (h:¬Ah x m=r):Gw x (m+1) r=Gw x m r:=by simp [Gw,List.range_succ,h]
theorem Uc (x:Wd) (m r:Nat):(Gw x m r).length≤m:=by
 have:=List.length_filter_le (fun i=>decide (Ah x i=r)) (List.range m)
 simpa [Gw] using this
theorem Ek6 {x:Wd} {m r i:Nat}:(i:Int)∈Gw x m r↔i<m∧Ah x i=r:=by
 simp only [Gw,List.mem_map,List.mem_filter,List.mem_range,decide_eq_true_eq]
 constructor
 ·rintro ⟨j,⟨h1,h2⟩,e⟩
  obtain rfl:j=i:=by omega
  exact ⟨h1,h2⟩
 ·rintro ⟨h1,h2⟩
  exact ⟨i,⟨h1,h2⟩,rfl⟩
theorem Bn3 {x:Wd} {m r j:Nat} (h:j<(Gw x m r).length):∃i:Nat,(Gw x m r)[j]=i∧i<m∧Ah x i=r:=by
 have hm:=List.getElem_mem h
 generalize (Gw x m r)[j]=z at hm
 simp only [Gw,List.mem_map,List.mem_filter,List.mem_range,decide_eq_true_eq] at hm
 obtain ⟨i,⟨h1,h2⟩,e⟩:=hm
 exact ⟨i,e.symm,h1,h2⟩
def Qg (x:Wd) (m n:Nat):Nat:=((List.range m).filter fun i=>decide (Ah x i<n)).length
theorem Dh8 (x:Wd) (m:Nat):Qg x m 0=0:=by simp [Qg]
theorem Bc9 (x:Wd) (n:Nat):∀m,Qg x m (n+1)=Qg x m n+(Gw x m n).length
 | 0=>by simp [Qg,Gw]
 | m+1=>by
   have ih:=Bc9 x n m
   have e:∀k,Qg x (m+1) k=Qg x m k+if Ah x m<k then 1 else 0:=fun k=>by
    unfold Qg
    rw [List.range_succ,List.filter_append,List.length_append]
    by_cases h:Ah x m<k<;>simp [h]
   rw [e,e,ih]
   by_cases h:Ah x m=n
   ·rw [As8 h,List.length_append,if_pos (by omega),if_neg (by omega)]
    simp only [List.length_cons,List.length_nil]
    omega
   ·rw [Bg8 h]
    by_cases h2:Ah x m<n
    ·rw [if_pos (by omega),if_pos h2];omega
    ·rw [if_neg (by omega),if_neg h2];omega
theorem Cf3 {x:Wd} (h:Ai x=true):∀m,m≤x.at_.length→Qg x m x.d.exits.length=m
 | 0,_=>by simp [Qg]
 | m+1,hm=>by
   have ih:=Cf3 h m (by omega)
   have h1:=(Bn h (i:=m) (by omega)).2
   unfold Qg at ih ⊢
   rw [List.range_succ,List.filter_append,List.length_append,ih]
   simp [h1]
def dnS (ps:List Pl) (S:Pl→Bool) (k n j i:Nat):Bool:=S (Bh ps i)&&dn ps k n j i
def tS (ps:List Pl) (S:Pl→Bool) (k n j:Nat):Array Value:=((List.range ps.length).map fun i=>Value.int .i64 (if dnS ps S k n j i then 1 else 0)).toArray
theorem Bd0 {ps:List Pl} {S:Pl→Bool} {k n j i:Nat} (hi:i<ps.length):(tS ps S k n j)[i]?=some (.int .i64 (if dnS ps S k n j i then 1 else 0)):=by simp [tS,hi]
theorem Cx9 {ps:List Pl} {S:Pl→Bool} {k n j k' n' j':Nat} (h:∀i,i<ps.length→dnS ps S k n j i=dnS ps S k' n' j' i):tS ps S k n j=tS ps S k' n' j':=by
 unfold tS
 congr 1
 apply List.map_congr_left
 intro i hi
 rw [h i (List.mem_range.1 hi)]
theorem Gk1 {ps:List Pl} {S:Pl→Bool} {k n j:Nat} (h:j<(uI ps ⟨(k:Int),(n:Int)⟩).length):(tS ps S k n j)[(uI ps ⟨(k:Int),(n:Int)⟩)[j]]?=some (.int .i64 0):=by
 rw [Bd0 (Ar5 h).1,dnS,De9 h,Bool.and_false]
 rfl
theorem Fl0 {ps:List Pl} {S:Pl→Bool} {k n j:Nat} (hS:S ⟨(k:Int),(n:Int)⟩=true) (h:j<(uI ps ⟨(k:Int),(n:Int)⟩).length):(tS ps S k n j).setIfInBounds (uI ps ⟨(k:Int),(n:Int)⟩)[j] (.int .i64 1)=tS ps S k n (j+1):=by
 apply Array.ext
 ·simp [tS]
 ·intro i h1 h2
  have hi:i<ps.length:=by simpa [tS] using h2
  have h3:i<(tS ps S k n j).size:=by simpa [tS] using hi
  have g1:=Bd0 (ps:=ps) (S:=S) (k:=k) (n:=n) (j:=j) hi
  have g2:=Bd0 (ps:=ps) (S:=S) (k:=k) (n:=n) (j:=j+1) hi
  rw [Array.getElem?_eq_getElem h2] at g2
  rw [Array.getElem?_eq_getElem h3] at g1
  rw [Option.some.inj g2,dnS,Cl2 h i]
  by_cases he:(uI ps ⟨(k:Int),(n:Int)⟩)[j]=i
  ·rw [Array.getElem_setIfInBounds h3,if_pos he]
   have hr:Bh ps i=⟨(k:Int),(n:Int)⟩:=by rw [←he];exact (Ar5 h).2
   simp [he,hr,hS]
  ·rw [Array.getElem_setIfInBounds h3,if_neg he,Option.some.inj g1,dnS]
   have:¬i=(uI ps ⟨(k:Int),(n:Int)⟩)[j]:=fun h=>he h.symm
   simp [this]
theorem Fd2 (ps:List Pl) (S:Pl→Bool) (k n:Nat):tS ps S k n (uI ps ⟨(k:Int),(n:Int)⟩).length=tS ps S k (n+1) 0:=by
 refine Cx9 fun i hi=>?_
 have h:=congrArg (fun (A:Array Value)=>A[i]?) (Cy0 ps k n)
 simp only [Zr hi] at h
 have h2:dn ps k n (uI ps ⟨(k:Int),(n:Int)⟩).length i=dn ps k (n+1) 0 i:=by
  cases h3:dn ps k n (uI ps ⟨(k:Int),(n:Int)⟩).length i<;>cases h4:dn ps k (n+1) 0 i<;>simp [h3,h4] at h ⊢
 rw [dnS,dnS,h2]
theorem Fl2 {ps:List Pl} {S:Pl→Bool} {k n:Nat} (hS:S ⟨(k:Int),(n:Int)⟩=false):tS ps S k n 0=tS ps S k (n+1) 0:=by
 refine Cx9 fun i hi=>?_
 simp only [dnS,dn,List.take_zero,bef]
 generalize Bh ps i=r
 obtain ⟨rk,ri⟩:=r
 by_cases e:(⟨rk,ri⟩:Pl)=⟨(k:Int),(n:Int)⟩
 ·rw [e,hS];simp
 ·have:decide (ri<(n:Int))=decide (ri<((n+1:Nat):Int))∨¬rk=(k:Int):=by
   by_cases h1:rk=(k:Int)
   ·left
    rw [decide_eq_decide]
    simp only [h1,Pl.mk.injEq,true_and] at e
    omega
   ·exact .inr h1
  rcases this with h|h
  ·rw [h]
  ·simp [h]
theorem Fl1 {x:Wd} (S:Pl→Bool) (h:Zg x):zc x.wher.length=tS x.wher S 0 0 0:=by
 apply Array.ext
 ·simp [tS,zc]
 ·intro i h1 h2
  have hi:i<x.wher.length:=by simpa [tS] using h2
  have g2:=Bd0 (ps:=x.wher) (S:=S) (k:=0) (n:=0) (j:=0) hi
  rw [Array.getElem?_eq_getElem h2] at g2
  rw [Option.some.inj g2]
  have:dnS x.wher S 0 0 0 i=false:=by
   obtain ⟨m,h|h⟩:=h i hi<;>simp [dnS,dn,bef,h.1]
  rw [this]
  simp [zc]
theorem Gg9 {x:Wd} (S:Pl→Bool) (h:Zg x):tS x.wher S 0 x.d.exits.length 0=tS x.wher S 1 0 0:=by
 refine Cx9 fun i hi=>?_
 obtain ⟨m,h|h⟩:=h i hi<;>simp [dnS,dn,bef,h.1]
 intro _;exact h.2
theorem Ha4 {ps:List Pl} {S:Pl→Bool} {k n j i:Nat} (hi:i<ps.length):∃v:Nat,(tS ps S k n j)[i]?=some (.int .i64 v)∧v≤1:=by
 rw [Bd0 hi]
 cases dnS ps S k n j i
 ·exact ⟨0,rfl,by omega⟩
 ·exact ⟨1,rfl,by omega⟩
def Af9 (x:Wd) (i:Nat):List Sn:=Bf x.wher x.wher.length ⟨0,(Ah x i:Int)⟩
def ownN (x:Wd) (i:Nat):List Sn:=Bf x.wher x.wher.length ⟨1,(i:Int)⟩
theorem Cv4 {ps:List Pl} (hT:Tr ps) {p:Pl} {s:Sn} (hs:s∈Bf ps ps.length p) (hb:s.kind=2):∃t∈Bf ps ps.length p,t.item=s.id:=by
 simp only [Bf,List.mem_map,List.mem_filter,List.mem_range,decide_eq_true_eq] at hs ⊢
 obtain ⟨n,⟨hn,hr⟩,rfl⟩:=hs
 have hk:(plOf ps n).kind=2:=hb
 have hid:=hT.ids _ (Ny hn) hk
 obtain ⟨j,hj⟩:∃j:Nat,(plOf ps n).id=j:=⟨(plOf ps n).id.toNat,by omega⟩
 have he:plOf ps n=box j:=by
  rcases hp:plOf ps n with ⟨a,b⟩
  rw [hp] at hk hj
  simp only at hk hj
  rw [hk,hj];rfl
 obtain ⟨hu,_⟩:=hT.kid hn he
 have hjl:j<ps.length:=by have:=hid.2;rw [hj] at this;omega
 exact ⟨Jz ps j,⟨j,⟨hjl,by rw [←Et hu];exact hr⟩,rfl⟩,by show (j:Int)=(plOf ps n).id;rw [hj]⟩
theorem De0 {x:Wd} (h:Ai x=true) {k:Nat} (hk:k<x.wher.length) {f g:Pl} (hg:¬g.kind=2) (hfg:¬f=g) (hp:plOf x.wher k=f) (hf:¬f.kind=2) (h2:Ai (putW x k g)=true) :
 (Bf x.wher x.wher.length f).length+(Bf x.wher x.wher.length g).length=(Bf (putW x k g).wher x.wher.length f).length+(Bf (putW x k g).wher x.wher.length g).length ∧
 (Bf (putW x k g).wher x.wher.length f).length<(Bf x.wher x.wher.length f).length:=by
 have hT:=Bv h
 have hr:Bh x.wher k=f:=by rw [Em (by rw [hp];exact hf),hp]
 have key:∀m,m≤x.wher.length →
  (Bf x.wher m f).length+(Bf x.wher m g).length=(Bf (putW x k g).wher m f).length+(Bf (putW x k g).wher m g).length ∧
  (Bf (putW x k g).wher m f).length+(if k<m then 1 else 0)≤(Bf x.wher m f).length:=by
  intro m
  induction m with
  | zero=>intro _;simp [Bf]
  | succ m ih =>
    intro hm
    obtain ⟨i1,i2⟩:=ih (by omega)
    have e:=As7 h hk hg h2 (n:=m) (by omega)
    have st:∀(ps:List Pl) (p:Pl),(Bf ps (m+1) p).length=(Bf ps m p).length+if Bh ps m=p then 1 else 0:=fun ps p=>by
     by_cases h:Bh ps m=p
     ·rw [Qv h,if_pos h];simp
     ·rw [Ua h,if_neg h];simp
    rw [st,st,st,st]
    cases hw:wB x.wher m k
    ·rw [e.2 hw]
     have hmk:¬m=k:=fun e=>by rw [e,Eh] at hw;cases hw
     refine ⟨by omega,?_⟩
     have c1:(if k<m+1 then 1 else 0)=if k<m then 1 else 0:=by
      by_cases hkm:k<m
      ·rw [if_pos hkm,if_pos (by omega)]
      ·rw [if_neg hkm,if_neg (by omega)]
     rw [c1]
     omega
    ·rw [e.1 hw]
     have hrm:Bh x.wher m=f:=by rw [(hT.within k m (by omega) hw).1,hr]
     rw [hrm,if_pos rfl,if_neg hfg,if_neg (fun e=>hfg e.symm),if_pos rfl]
     refine ⟨by omega,?_⟩
     have c1:(if k<m+1 then 1 else 0)≤(if k<m then 1 else 0)+1:=by
      by_cases hkm:k<m
      ·rw [if_pos hkm,if_pos (by omega)];omega
      ·rw [if_neg hkm];split<;>omega
     omega
 have:=key x.wher.length (Nat.le_refl _)
 refine ⟨this.1,?_⟩
 have h3:=this.2
 rw [if_pos hk] at h3
 omega
end
section
theorem Aa7 (x:Wd) (p:Wp) (r:Nat) (w:World) (hx:Ai x=true) (h:Ae w p.at_ x.at_):Calls prog 95 #[.agg #[.slice p.d.ex x.d.exits.length p.d.exc,.slice p.d.pl x.d.players.length p.d.plc,.slice p.d.co x.d.coins.length p.d.coc,.slice p.d.it x.d.items.length p.d.itc,.slice p.d.bo x.d.boxes.length p.d.boc,.int .i64 x.d.room,.int .i64 x.d.player,.int .i64 x.d.box,.slice p.at_ x.at_.length p.atc,.slice p.co x.coins.length p.coc,.slice p.wh x.wher.length p.whc],.int .i64 (r:Int)] w fun e w'=>∃a cap,e=.returned (.slice a (Gw x x.at_.length r).length cap)∧OwnR 1 3 inC w.heap.size w' a (Gw x x.at_.length r)∧Below w.heap.size w w':=by
 have hl6:=(Aj hx).2.1
 have H:=Lib.hid h
 have HX:=Lib.hid hx
 clear h hx
 have HP:=Lib.hid (Ac.new w #[.slice p.d.ex x.d.exits.length p.d.exc,.slice p.d.pl x.d.players.length p.d.plc,.slice p.d.co x.d.coins.length p.d.coc,.slice p.d.it x.d.items.length p.d.itc,.slice p.d.bo x.d.boxes.length p.d.boc,.int .i64 x.d.room,.int .i64 x.d.player,.int .i64 x.d.box,.slice p.at_ x.at_.length p.atc,.slice p.co x.coins.length p.coc,.slice p.wh x.wher.length p.whc] 29)
 generalize p.at_=pa at *
 go_enter func95,ntmps95
 go_wp2_with fail
 go_loopw [5,10] (fun v i wr=>∃k:Nat,k≤x.at_.length∧i=.int .i64 k∧Dt 1 3 inC (w.heap.size+1) wr v (Gw x k r)∧Ac w w.heap.size #[.slice p.d.ex x.d.exits.length p.d.exc,.slice p.d.pl x.d.players.length p.d.plc,.slice p.d.co x.d.coins.length p.d.coc,.slice p.d.it x.d.items.length p.d.itc,.slice p.d.bo x.d.boxes.length p.d.boc,.int .i64 x.d.room,.int .i64 x.d.player,.int .i64 x.d.box,.slice pa x.at_.length p.atc,.slice p.co x.coins.length p.coc,.slice p.wh x.wher.length p.whc] wr) (fun _ i _=>x.at_.length-(intOf i).toNat)
 case atStart=>exact ⟨0,Nat.zero_le _,rfl,Dt.nil _,HP.out⟩
 case round =>
  obtain ⟨k,hk,rfl,hR,h1⟩:=hrel
  have hc1:=h1.2.2
  have hl1:=h1.2.1
  have HR:=Lib.hid hR
  by_cases hlt:k<x.at_.length
  ·obtain ⟨b,o,hbo,hb,hcs⟩:=(H.out.below h1.1 (Nat.le_refl _)).at_ hlt
   have c0:=hcs k hlt
   rw [(Bn HX.out hlt).1] at c0
   have H1:=Lib.hid h1
   have HIL:=Lib.hid (Uc x k r)
   have hw:IntKind.i64.wrap ((k:Int)+1)=(k:Int)+1:=IntWalk.i64_in _ (by omega)
   clear H h1 hR hcs
   subst hbo
   by_cases he:Ah x k=r
   ·have HX2:=Lib.hid (As8 he)
    have hq:((Ah x k:Int)==(r:Int))=true:=by simp [he]
    generalize Ah x k=rk at *
    clear he
    obtain ⟨v3,W3,hr3,hg3,hb3⟩:=HR.out.one underlying23 Fj rfl (by decide) (by decide) Jl Py (k:Int) (by have:=HIL.out;omega) (by omega)
    have HRN:=Lib.hid (show (Builtin.append_ #[23,23] 23 #[_,.slice (some ⟨wr.heap.size,0,none⟩) 1 1]).run prog (wr.alloc (.cells #[.int .i64 k] 3))=.ok v3 W3 by simpa [inC] using hr3)
    have HG3:=Lib.hid hg3
    have HB3:=Lib.hid hb3
    clear hr3 hg3 hb3
    go_wp2_with (at_builtin;refine Bb rfl (.tmp 20) (.tmp 22) 23 rfl _ _ v3 W3 rfl rfl HRN.out ?_)
    go_roundw
    case rel=>exact ⟨k+1,by omega,by go_num,by rw [HX2.out];exact HG3.out,HR.out.holds H1.out HB3.out (by omega) (by omega)⟩
    case measure=>simp [intOf];omega
   ·have HX2:=Lib.hid (Bg8 he)
    have hq:((Ah x k:Int)==(r:Int))=false:=by simp;omega
    generalize Ah x k=rk at *
    clear he
    go_wp2_with fail
    go_roundw
    case rel=>exact ⟨k+1,by omega,by go_num,by rw [HX2.out];exact HR.out,H1.out⟩
    case measure=>simp [intOf];omega
  ·have hke:k=x.at_.length:=by omega
   subst hke
   have H1:=Lib.hid h1
   obtain ⟨q,cap,rfl,hO⟩:=hR.own Jl
   have HO:=Lib.hid (hO.less (m:=w.heap.size) (by omega))
   clear H h1 hR hO HR
   go_wp2_with fail
   go_ret
   exact ⟨_,_,rfl,HO.out,H1.out.1⟩
theorem An0 (x:Wd) (p:Wp) (i:Nat) (w:World) (hi:i<x.at_.length) (hk:i<x.coins.length):Calls prog 94 #[.agg #[.slice p.d.ex x.d.exits.length p.d.exc,.slice p.d.pl x.d.players.length p.d.plc,.slice p.d.co x.d.coins.length p.d.coc,.slice p.d.it x.d.items.length p.d.itc,.slice p.d.bo x.d.boxes.length p.d.boc,.int .i64 x.d.room,.int .i64 x.d.player,.int .i64 x.d.box,.slice p.at_ x.at_.length p.atc,.slice p.co x.coins.length p.coc,.slice p.wh x.wher.length p.whc],.int .i64 (i:Int)] w fun e w'=>e=.returned (.bool true)∧Below w.heap.size w w':=by
 have HP:=Lib.hid (Ac.new w #[.slice p.d.ex x.d.exits.length p.d.exc,.slice p.d.pl x.d.players.length p.d.plc,.slice p.d.co x.d.coins.length p.d.coc,.slice p.d.it x.d.items.length p.d.itc,.slice p.d.bo x.d.boxes.length p.d.boc,.int .i64 x.d.room,.int .i64 x.d.player,.int .i64 x.d.box,.slice p.at_ x.at_.length p.atc,.slice p.co x.coins.length p.coc,.slice p.wh x.wher.length p.whc] 29)
 have h0:(0:Int)≤(i:Int):=by omega
 have h1:(i:Int)<(x.at_.length:Int):=by omega
 have h2:(i:Int)<(x.coins.length:Int):=by omega
 clear hi hk
 go_enter func94,ntmps94
 go_wp2_with fail
 go_ret
 exact ⟨rfl,HP.out.1⟩
end
section
def Qm (x:Wd) (i:Nat):Int:=x.coins.getD i 0
def Gh (x:Wd) (i:Nat):Rp:=⟨0,9,Ah x i,Gw x x.at_.length (Ah x i),Af9 x i,0⟩
def Lh (x:Wd) (i:Nat):Rp:=⟨0,10,0,[],ownN x i,Qm x i⟩
structure NewR (n:Nat) (W:World) (pa ia:Option Addr) (r:Rp):Prop where
 pl:OwnR 1 3 inC n W pa r.players
 it:OwnR 3 148 seC n W ia r.items
section
variable {n:Nat} {W W':World} {pa ia:Option Addr} {r:Rp}
theorem NewR.call (h:NewR n W pa ia r) (hb:Below W.heap.size W W'):NewR n W' pa ia r:=⟨h.pl.call hb,h.it.call hb⟩
theorem NewR.less (h:NewR n W pa ia r) {m:Nat} (hm:m≤n):NewR m W pa ia r:=⟨h.pl.less hm,h.it.less hm⟩
theorem NewR.set (h:NewR n W pa ia r) {q:Nat} (hq:q<n) (i:Nat) (u:Value):NewR n (W.setCell ⟨q,i,none⟩ u) pa ia r:=⟨h.pl.set hq i u,h.it.set hq i u⟩
theorem NewR.ints (h:NewR n W pa ia r):Ae W pa r.players:=Av.2 h.pl.row
theorem NewR.sns (h:NewR n W pa ia r):Bd W ia r.items:=Uw h.it.row
end
theorem Aq8 {α:Type} (k:Nat) (e:TypeId) (enc:α→List Value) (n:Nat) (W:World):OwnR k e enc n W none ([]:List α):=⟨by simp,.inl ⟨rfl,rfl⟩⟩
theorem Xw {x:Wd} (hx:Ai x=true) {i:Nat} (hi:i<x.at_.length):∃h:i<x.coins.length,x.coins[i]=Qm x i:=by
 have hl:=Aj hx
 have h:i<x.coins.length:=by omega
 exact ⟨h,by simp [Qm,List.getD,List.getElem?_eq_getElem h]⟩
theorem and5 {a b c d e:Prop} (h:a∧b∧c∧d) (k:e):a∧b∧c∧d∧e:=⟨h.1,h.2.1,h.2.2.1,h.2.2.2,k⟩
theorem Eg9 (x:Wd) (pd:Dp) (b o pac:Nat) (pk pw:Option Addr) (pkc pwc:Nat) (i:Nat) (w:World) (hx:Ai x=true) (h:Ab w ⟨pd,some ⟨b,o,none⟩,pac,pk,pkc,pw,pwc⟩ x) (hi:i<x.at_.length):Calls prog 55 #[.agg (wC x ⟨pd,some ⟨b,o,none⟩,pac,pk,pkc,pw,pwc⟩),.int .i64 (i:Int)] w fun e w'=>∃qa ia qc ic,e=.returned (.agg #[.int .i64 0,.int .i64 9,.int .i64 (Ah x i:Int),.slice qa (Gw x x.at_.length (Ah x i)).length qc,.slice ia (Bf x.wher x.wher.length ⟨0,(Ah x i:Int)⟩).length ic,.int .i64 0])∧NewR w.heap.size w' qa ia (Gh x i)∧Below w.heap.size w w':=by
 obtain ⟨b',o',eb,hb,hcs⟩:=h.at_.at_ hi
 simp only [Option.some.injEq,Addr.mk.injEq,and_true] at eb
 obtain ⟨rfl,rfl⟩:=eb
 have c0:=hcs i hi
 rw [(Bn hx hi).1] at c0
 have hlen:=Aj hx
 have h6:=hlen.2.1
 have h7:x.at_.length=x.coins.length:=hlen.2.2.1.symm
 have HX:=Lib.hid hx
 have HT:=Lib.hid (Bv hx)
 have HWA:=Lib.hid h
 have HW16:=Lib.hid (show x.wher.length≤40 by have:=hlen.2.2.2.1;omega)
 have hi1:¬(x.at_.length:Int)≤(i:Int):=by omega
 have hi2:(x.at_.length≤i)=False:=by simp;omega
 have HI:=Lib.hid hi
 have HIK:=Lib.hid (show i<x.coins.length by omega)
 clear hlen h hx hcs hi h6 h7
 have C0:=Lib.hid (Two.start 29 38 w (wC x ⟨pd,some ⟨b,o,none⟩,pac,pk,pkc,pw,pwc⟩) #[.int .i64 0,.int .i64 0,.int .i64 0,.slice none 0 0,.slice none 0 0,.int .i64 0])
 have hWC:=@wC.eq_1
 go_enter func55,ntmps55
 go_wp2_with fail
 generalize (w.alloc (.cells (wC x ⟨pd,some ⟨b,o,none⟩,pac,pk,pkc,pw,pwc⟩) 29)).alloc (.cells #[.int .i64 0,.int .i64 0,.int .i64 0,.slice none 0 0,.slice none 0 0,.int .i64 0] 38)=V0 at *
 refine (An0 x ⟨pd,some ⟨b,o,none⟩,pac,pk,pkc,pw,pwc⟩ i _ HI.out HIK.out).mono ?_
 rintro e w1 ⟨rfl,b1⟩
 have C1:=Lib.hid (C0.out.call b1)
 clear C0 b1
 have hc1:=C1.out.a.cell
 have hl1:=C1.out.a.lt
 replace c0:=Ad c0 C1.out.b
 go_wp2_with fail
 clear hc1 hl1
 clear c0
 have D0:=Lib.hid C1.out.drew
 clear C1
 refine tkS (S:=(fun w'=>Below w.heap.size w w'∧w.heap.size<w'.heap.size∧(∀ii,w'.cell? ⟨w.heap.size,ii,none⟩=((wC x ⟨pd,some ⟨b,o,none⟩,pac,pk,pkc,pw,pwc⟩)[ii]?:Option Value))∧w.heap.size+1<w'.heap.size)) (by (first|(with_reducible exact ⟨D0.out.b,D0.out.a.lt,D0.out.a.cell,D0.out.r.lt⟩))) (fun hHeld=>?_)
 refine tkl [0,1,2,4,5,6] ?_
 iterate 6
  refine tW ?_
  try go_frame
 refine rdy1 3 (fun K hK=>?_)
 go_simp
 refine (Aa7 x ⟨pd,some ⟨b,o,none⟩,pac,pk,pkc,pw,pwc⟩ (Ah x i) _ HX.out (HWA.out.below D0.out.b (Nat.le_refl _)).at_).mono ?_;rintro e w2 ⟨qa,qc,rfl,g1,hb1⟩;have D1:=Lib.hid (D0.out.call hb1);have G1:=Lib.hid g1;clear hb1 g1
 try go_wp2_with fail
 refine hK.out _ _ (by (first|(with_reducible exact ⟨D1.out.b,D1.out.a.lt,D1.out.a.cell,D1.out.r.lt⟩))) (fun hHeld=>?_)
 clear hK K
 try go_frame
 refine rdy1 7 (fun K hK=>?_)
 go_simp
 refine (Ms x ⟨pd,some ⟨b,o,none⟩,pac,pk,pkc,pw,pwc⟩ ⟨0,(Ah x i:Int)⟩ HT.out _ (HWA.out.below D1.out.b (Nat.le_refl _)).wh HW16.out).mono ?_;rintro e w3 ⟨ia,ic,rfl,g2,hb2⟩;have D2:=Lib.hid (D1.out.call hb2);have Q1:=Lib.hid (G1.out.call hb2);have G2:=Lib.hid g2;have HB2:=Lib.hid hb2;clear hb2 g2
 try go_wp2_with fail
 refine hK.out _ _ (by (first|(with_reducible exact ⟨D2.out.b,D2.out.a.lt,D2.out.a.cell,D2.out.r.lt⟩))) (fun hHeld=>?_)
 clear hK K
 try go_frame
 refine tkl [8] (tW ?_)
 try go_frame
 obtain ⟨hc2,hz2,hs2⟩:=D2.out.r.all
 refine rdy1 9 (fun K hK=>?_)
 go_simp
 try go_wp2_with fail
 refine hK.out _ _ (by (first|(refine Ry (t:=29) (s:=38) (w:=w) ?_;(iterate 6 with_reducible refine TwoE.set2 ?_ _ _);with_reducible exact TwoE.mk D2.out))) (fun hHeld=>?_)
 clear hK K
 try go_frame
 refine tkD ?_
 go_wp2_with fail
 refine bodyPost_ret (v:=.agg #[.int .i64 0,.int .i64 9,.int .i64 (Ah x i:Int),.slice qa (Gw x x.at_.length (Ah x i)).length qc,.slice ia (Bf x.wher x.wher.length ⟨0,(Ah x i:Int)⟩).length ic,.int .i64 0]) (by simp [results,results55,go_sem,hc2]) rfl ⟨qa,ia,qc,ic,rfl,?_,?_⟩
 ·refine NewR.less (n:=w.heap.size+2) ?_ (by omega)
  iterate 6 refine NewR.set (q:=w.heap.size+1) ?_ (by omega) _ _
  exact ⟨Q1.out.less (by have:=D0.out.size;omega),G2.out.less (by have:=D1.out.size;omega)⟩
 ·iterate 6 refine bs_1 ?_
  exact D2.out.b
theorem Wq (x:Wd) (p:Wp) (i:Nat) (w:World) (hx:Ai x=true) (h:Ab w p x) (hi:i<x.at_.length) {R:Rp} (hR:Gh x i=R):Calls prog 55 #[.agg (wC x p),.int .i64 (i:Int)] w fun e w'=>∃qa ia qc ic,e=.returned (.agg #[.int .i64 R.err,.int .i64 R.kind,.int .i64 R.room,.slice qa R.players.length qc,.slice ia R.items.length ic,.int .i64 R.coins])∧NewR w.heap.size w' qa ia R∧Below w.heap.size w w':=by
 subst hR
 obtain ⟨pd,pa,pac,pk,pkc,pw,pwc⟩:=p
 obtain ⟨b,o,eb,-,-⟩:=h.at_.at_ hi
 simp only at eb
 subst eb
 exact Eg9 x pd b o pac pk pw pkc pwc i w hx h hi
theorem Fl5 (x:Wd) (pd:Dp) (b o pac kb ko pkc:Nat) (pw:Option Addr) (pwc:Nat) (i:Nat) (w:World) (hx:Ai x=true) (h:Ab w ⟨pd,some ⟨b,o,none⟩,pac,some ⟨kb,ko,none⟩,pkc,pw,pwc⟩ x) (hi:i<x.at_.length):Calls prog 56 #[.agg (wC x ⟨pd,some ⟨b,o,none⟩,pac,some ⟨kb,ko,none⟩,pkc,pw,pwc⟩),.int .i64 (i:Int)] w fun e w'=>∃qa ia qc ic,e=.returned (.agg #[.int .i64 0,.int .i64 10,.int .i64 0,.slice qa 0 qc,.slice ia (Bf x.wher x.wher.length ⟨1,(i:Int)⟩).length ic,.int .i64 (Qm x i)])∧NewR w.heap.size w' qa ia (Lh x i)∧Below w.heap.size w w':=by
 obtain ⟨hk,ek⟩:=Xw hx hi
 obtain ⟨b',o',eb,hb,hcs⟩:=h.co.at_ hk
 simp only [Option.some.injEq,Addr.mk.injEq,and_true] at eb
 obtain ⟨rfl,rfl⟩:=eb
 have c0:=hcs i hk
 rw [ek] at c0
 have hlen:=Aj hx
 have h6:=hlen.2.1
 have h7:x.at_.length=x.coins.length:=hlen.2.2.1.symm
 have HX:=Lib.hid hx
 have HT:=Lib.hid (Bv hx)
 have HWA:=Lib.hid h
 have HW16:=Lib.hid (show x.wher.length≤40 by have:=hlen.2.2.2.1;omega)
 have hi1:¬(x.coins.length:Int)≤(i:Int):=by omega
 have hi2:(x.coins.length≤i)=False:=by simp;omega
 have HI:=Lib.hid hi
 have HIK:=Lib.hid (show i<x.coins.length by omega)
 clear hlen h hx hcs hk ek hi h6 h7
 have C0:=Lib.hid (Two.start 29 38 w (wC x ⟨pd,some ⟨b,o,none⟩,pac,some ⟨kb,ko,none⟩,pkc,pw,pwc⟩) #[.int .i64 0,.int .i64 0,.int .i64 0,.slice none 0 0,.slice none 0 0,.int .i64 0])
 have hWC:=@wC.eq_1
 go_enter func56,ntmps56
 go_wp2_with fail
 generalize (w.alloc (.cells (wC x ⟨pd,some ⟨b,o,none⟩,pac,some ⟨kb,ko,none⟩,pkc,pw,pwc⟩) 29)).alloc (.cells #[.int .i64 0,.int .i64 0,.int .i64 0,.slice none 0 0,.slice none 0 0,.int .i64 0] 38)=V0 at *
 refine (An0 x ⟨pd,some ⟨b,o,none⟩,pac,some ⟨kb,ko,none⟩,pkc,pw,pwc⟩ i _ HI.out HIK.out).mono ?_
 rintro e w1 ⟨rfl,b1⟩
 have C1:=Lib.hid (C0.out.call b1)
 clear C0 b1
 have hc1:=C1.out.a.cell
 have hl1:=C1.out.a.lt
 replace c0:=Ad c0 C1.out.b
 go_wp2_with fail
 clear hc1 hl1
 have D0:=Lib.hid C1.out.drew
 clear C1
 replace c0:=Ad c0 (Af (Below.refl _ _))
 refine tkS (S:=(fun w'=>Below w.heap.size w w'∧w.heap.size<w'.heap.size∧(∀ii,w'.cell? ⟨w.heap.size,ii,none⟩=((wC x ⟨pd,some ⟨b,o,none⟩,pac,some ⟨kb,ko,none⟩,pkc,pw,pwc⟩)[ii]?:Option Value))∧w.heap.size+1<w'.heap.size∧w'.cell? ⟨kb,ko+i,none⟩=some (.int .i64 (Qm x i)))) (by (first|(with_reducible exact ⟨D0.out.b,D0.out.a.lt,D0.out.a.cell,D0.out.r.lt,c0⟩))) (fun hHeld=>?_)
 refine tkl [0,1,2,4,5,6,7,8] ?_
 iterate 8
  refine tW ?_
  try go_frame
 refine rdy1 3 (fun K hK=>?_)
 go_simp
 refine (Ms x ⟨pd,some ⟨b,o,none⟩,pac,some ⟨kb,ko,none⟩,pkc,pw,pwc⟩ ⟨1,(i:Int)⟩ HT.out _ (HWA.out.below D0.out.b (Nat.le_refl _)).wh HW16.out).mono ?_;rintro e w3 ⟨ia,ic,rfl,g2,hb2⟩;have D2:=Lib.hid (D0.out.call hb2);have G2:=Lib.hid g2;have HB2:=Lib.hid hb2;have c2:=Ad c0 hb2;clear hb2 g2
 try go_wp2_with fail
 refine hK.out _ _ (by (first|(with_reducible exact ⟨D2.out.b,D2.out.a.lt,D2.out.a.cell,D2.out.r.lt,c2⟩))) (fun hHeld=>?_)
 clear hK K
 try go_frame
 refine tkl [9] (tW ?_)
 try go_frame
 obtain ⟨hc2,hz2,hs2⟩:=D2.out.r.all
 refine rdy1 10 (fun K hK=>?_)
 go_simp
 try go_wp2_with fail
 refine hK.out _ _ (by (first|(refine and5 (Ry (t:=29) (s:=38) (w:=w) ?_) ?_;exact (by (iterate 6 with_reducible refine TwoE.set2 ?_ _ _);with_reducible exact TwoE.mk D2.out);(iterate 6 with_reducible refine (World.cell?_setCell_far _ _ _ _ (by show w.heap.size+1≠kb;omega)).trans ?_);with_reducible exact c2))) (fun hHeld=>?_)
 clear hK K
 try go_frame
 refine tkD ?_
 go_wp2_with fail
 refine bodyPost_ret (v:=.agg #[.int .i64 0,.int .i64 10,.int .i64 0,.slice none 0 0,.slice ia (Bf x.wher x.wher.length ⟨1,(i:Int)⟩).length ic,.int .i64 (Qm x i)]) (by simp [results,results56,go_sem,hc2]) rfl ⟨none,ia,0,ic,rfl,?_,?_⟩
 ·refine NewR.less (n:=w.heap.size+2) ?_ (by omega)
  iterate 6 refine NewR.set (q:=w.heap.size+1) ?_ (by omega) _ _
  exact ⟨Aq8 _ _ _ _ _,G2.out.less (by have:=D0.out.size;omega)⟩
 ·iterate 6 refine bs_1 ?_
  exact D2.out.b
theorem Aj5 (x:Wd) (p:Wp) (i:Nat) (w:World) (hx:Ai x=true) (h:Ab w p x) (hi:i<x.at_.length) {R:Rp} (hR:Lh x i=R):Calls prog 56 #[.agg (wC x p),.int .i64 (i:Int)] w fun e w'=>∃qa ia qc ic,e=.returned (.agg #[.int .i64 R.err,.int .i64 R.kind,.int .i64 R.room,.slice qa R.players.length qc,.slice ia R.items.length ic,.int .i64 R.coins])∧NewR w.heap.size w' qa ia R∧Below w.heap.size w w':=by
 subst hR
 obtain ⟨pd,pa,pac,pk,pkc,pw,pwc⟩:=p
 obtain ⟨b,o,eb,-,-⟩:=h.at_.at_ hi
 simp only at eb
 subst eb
 obtain ⟨hk,-⟩:=Xw hx hi
 obtain ⟨kb,ko,ek,-,-⟩:=h.co.at_ hk
 simp only at ek
 subst ek
 exact Fl5 x pd b o pac kb ko pkc pw pwc i w hx h hi
end
section
theorem Bl8 {x:Wd} (h:Ai x=true):x.d.exits.length≤8∧x.d.players.length≤6∧x.d.boxes.length≤16:=by
 have:=(Aj h).2.2.2.2.2
 simp only [mayD,Qp,Iw,Oy,Bool.and_eq_true,decide_eq_true_eq] at this
 omega
theorem Gs6 {x:Wd} (h:Ai x=true) {i:Nat} (hi:i<x.wher.length):snB (Jz x.wher i)=true:=by
 have h1:=(Fb h).2.2 _ (Ny hi)
 have h2:=Bl8 h
 have h3:=(Aj h).2.2.2.1
 obtain ⟨k,d,hp⟩:∃k d,plOf x.wher i=⟨k,d⟩:=⟨_,_,rfl⟩
 rw [hp] at h1
 simp only [Cw] at h1
 simp only [Jz,hp,snB,pkB,okN,Bool.and_eq_true,decide_eq_true_eq]
 by_cases k0:k=0
 ·rw [if_pos k0,Bi] at h1
  omega
 ·rw [if_neg k0] at h1
  by_cases k1:k=1
  ·rw [if_pos k1,Bi] at h1
   omega
  ·rw [if_neg k1] at h1
   by_cases k2:k=2
   ·rw [if_pos k2,Bool.and_eq_true,Bi] at h1
    omega
   ·rw [if_neg k2] at h1
    cases h1
theorem Bv5 {x:Wd} (h:Ai x=true) (p:Pl):itB (Bf x.wher x.wher.length p)=true:=by
 simp only [itB,Bool.and_eq_true,decide_eq_true_eq,List.all_eq_true]
 refine ⟨Nat.le_trans (Hd _ _ _) (Aj h).2.2.2.1,fun s hs=>?_⟩
 simp only [Bf,List.mem_map,List.mem_filter,List.mem_range] at hs
 obtain ⟨n,⟨hn,_⟩,rfl⟩:=hs
 exact Gs6 h hn
theorem Em7 {x:Wd} (h:Ai x=true) (r:Nat):plB (Gw x x.at_.length r)=true:=by
 have h6:=(Aj h).2.1
 simp only [plB,areB,Bool.and_eq_true,decide_eq_true_eq,List.all_eq_true]
 refine ⟨Nat.le_trans (Uc _ _ _) (by omega),fun n hn=>?_⟩
 simp only [Gw,List.mem_map,List.mem_filter,List.mem_range] at hn
 obtain ⟨m,⟨hm,_⟩,rfl⟩:=hn
 simp only [okN,Bool.and_eq_true,decide_eq_true_eq]
 omega
theorem Dd0 {x:Wd} (h:Ai x=true) {i:Nat} (hi:i<x.at_.length):Di (Gh x i)=true:=by
 have h1:=(Bn h hi).2
 have h2:=(Bl8 h).1
 have h3:=Bv5 h ⟨0,(Ah x i:Int)⟩
 have h4:=Em7 h (Ah x i)
 have e:ownR (Gh x i)=Gh x i:=by simp [ownR,Gh]
 simp only [Di,e,Pg,An1,Hq]
 simp only [Gh,Af9,areB,okN,List.all_cons,List.all_nil,h3,h4]
 simp
 omega
theorem Dd1 {x:Wd} (h:Ai x=true) {i:Nat} (hi:i<x.at_.length):Di (Lh x i)=true:=by
 obtain ⟨hk,ek⟩:=Xw h hi
 have h1:=(Fb h).2.1 _ (List.getElem_mem hk)
 rw [ek] at h1
 have h3:=Bv5 h ⟨1,(i:Int)⟩
 have e:ownR (Lh x i)=Lh x i:=by simp [ownR,Lh]
 simp only [Di,e,Pg,An1,Hq]
 simp only [Lh,ownN,areB,okN,plB,List.all_cons,List.all_nil,h3]
 simp
 omega
def sS (x:Wd) (p:Pl):Bool:=decide (p.kind=1)||decide (0<(Gw x x.at_.length p.id.toNat).length)
theorem Gh2 {x:Wd} {n:Nat} (h:0<(Gw x x.at_.length n).length):sS x ⟨((0:Nat):Int),(n:Int)⟩=true:=by
 simp only [sS,Int.toNat_natCast,Bool.or_eq_true,decide_eq_true_eq]
 exact .inr h
theorem Fm1 {x:Wd} {n:Nat} (h:¬0<(Gw x x.at_.length n).length):sS x ⟨((0:Nat):Int),(n:Int)⟩=false:=by
 simp only [sS,Int.toNat_natCast,Bool.or_eq_false_iff,decide_eq_false_iff_not]
 exact ⟨by simp,h⟩
theorem Ev5 (x:Wd) (n:Nat):sS x ⟨((1:Nat):Int),(n:Int)⟩=true:=by simp [sS]
def tK (x:Wd) (n k:Nat):Array Value:=if k=0 then tS x.wher (sS x) 0 n 0 else tS x.wher (sS x) 0 (n+1) 0
theorem Hl6 (x:Wd) (n:Nat):tK x n 0=tS x.wher (sS x) 0 n 0:=rfl
theorem Ha5 (x:Wd) (n:Nat):tK x n (Gw x x.at_.length n).length=tS x.wher (sS x) 0 (n+1) 0:=by
 unfold tK
 by_cases h:0<(Gw x x.at_.length n).length
 ·rw [if_neg (by omega)]
 ·rw [if_pos (by omega)]
  exact Fl2 (Fm1 h)
theorem Gh0 (x:Wd) {n k:Nat} (h:¬k=0):tK x n k=tK x n (k+1):=by
 unfold tK
 rw [if_neg h,if_neg (by omega)]
theorem Fl3 (x:Wd) (n:Nat):tS x.wher (sS x) 0 n (uI x.wher ⟨((0:Nat):Int),(n:Int)⟩).length=tK x n (0+1):=by
 unfold tK
 rw [if_neg (by omega)]
 exact Fd2 _ _ _ _
theorem Ew6 {x:Wd} {i k:Nat} (h:Ah x i=Ah x k):Gh x i=Gh x k:=by simp only [Gh,Af9,h]
end
end Go.Proofs.YtnhkojpbbdaedaaGreat
