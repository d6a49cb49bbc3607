/- Commands: whether they may be, and are the same: plain mathematics. -/
import Derived.Lib.ItoaNum
import Derived.Lib.Bytealg
import Derived.Test.YtaeclpjofclbeaaDoorGWorld
namespace Go.Proofs.YtaeclpjofclbeaaDoor
open Go.ChangeShapes Go.WideShapes Go.ChangeAt Go.RowKit
set_option linter.unusedVariables false
open Go.RowKit
structure Cm where
 kind:Int
 dir:Int
 item:Int
 box:Int
 who:Int
 gives:List Int
 pay:Int
 wants:List Int
 fee:Int
abbrev cC (c:Cm) (ga:Option Addr) (gc:Nat) (wa:Option Addr) (wc:Nat):Array Value:=#[.int .i64 c.kind,.int .i64 c.dir,.int .i64 c.item,.int .i64 c.box,.int .i64 c.who,.slice ga c.gives.length gc,.int .i64 c.pay,.slice wa c.wants.length wc,.int .i64 c.fee]
def okN (n:Int):Bool:=decide (0≤n)&&decide (n≤1073741824)
def Co (n:Int):Bool:=decide (1≤n)&&decide (n≤10)
def Cq (n:Int):Bool:=decide (0≤n)&&decide (n<4)
def areB (xs:List Int):Bool:=xs.all okN
def Uh (xs:List Int):Bool:=decide (xs.length≤16)&&areB xs
def Gn (c:Cm):Bool:=Cq c.dir&&areB [c.item,c.box,c.who,c.pay,c.fee]&&Uh c.gives&&Uh c.wants
def Qe (a b:Cm):Bool:=decide (a.kind=b.kind∧a.dir=b.dir∧a.item=b.item∧a.box=b.box∧a.who=b.who∧a.pay=b.pay∧a.fee=b.fee)
def Gg (a b:Cm):Bool:=Qe a b&&decide (a.gives=b.gives)&&decide (a.wants=b.wants)
def keep (k:Int) (ks:List Int) (n:Int):Int:=if k∈ks then n else 0
def Nf (k:Int) (xs:List Int):List Int:=if k=8 then xs else []
def ownC (c:Cm):Cm :=
 ⟨c.kind,keep c.kind [1,2] c.dir,keep c.kind [3,4,5,6,7] c.item,keep c.kind [5,6] c.box,keep c.kind [2,7,8] c.who,Nf c.kind c.gives,keep c.kind [8] c.pay,Nf c.kind c.wants,keep c.kind [8] c.fee⟩
def mayB (c:Cm):Bool:=Co c.kind&&Gn c&&Gg c (ownC c)
def Cf (n:Int) (has:Bool):Bool:=if has then okN n else decide (n=0)
def rowB (xs:List Int) (has:Bool):Bool:=if has then areB xs&&decide (xs.length≤16) else decide (xs.length=0)
def Dl (c:Cm):Bool:=Co c.kind&&Cq c.dir&&(decide (c.dir=0)||decide (c.kind≤2))
def has (k:Int) (ks:List Int):Bool:=decide (k∈ks)
def Ak (c:Cm):Bool :=
 Dl c&&Cf c.item (has c.kind [3,4,5,6,7])&&Cf c.box (has c.kind [5,6])&&Cf c.who (has c.kind [2,7,8])&&Cf c.pay (has c.kind [8])&&Cf c.fee (has c.kind [8])&&rowB c.gives (has c.kind [8])&&rowB c.wants (has c.kind [8])
theorem Zu (a b:Cm):Gg a b=true↔a=b:=by
 obtain ⟨a1,a2,a3,a4,a5,a6,a7,a8,a9⟩:=a
 obtain ⟨b1,b2,b3,b4,b5,b6,b7,b8,b9⟩:=b
 simp [Gg,Qe]
 constructor
 ·rintro ⟨⟨⟨rfl,rfl,rfl,rfl,rfl,rfl,rfl⟩,rfl⟩,rfl⟩;simp
 ·rintro ⟨rfl,rfl,rfl,rfl,rfl,rfl,rfl,rfl,rfl⟩;simp
theorem Bp0 (a:Cm):Gg a a=true:=(Zu a a).2 rfl
theorem Pj {k:Int} (h:Co k=true):k=1∨k=2∨k=3∨k=4∨k=5∨k=6∨k=7∨k=8∨k=9∨k=10:=by
 simp [Co] at h;omega
theorem Ej (c:Cm):mayB c=Ak c:=by
 cases hk:Co c.kind
 ·simp [mayB,Ak,Dl,hk]
 ·obtain ⟨k,a2,a3,a4,a5,a6,a7,a8,a9⟩:=c
  simp only at hk
  rw [Bool.eq_iff_iff]
  rcases Pj hk with rfl|rfl|rfl|rfl|rfl|rfl|rfl|rfl|rfl|rfl
  all_goals
   simp [mayB,Ak,Dl,Co,Gn,Gg,Qe,ownC,keep,Nf,Cf,rowB,has,areB,okN,Uh,Cq]
   by_cases e6:a6=[]<;>by_cases e8:a8=[]<;>(try subst e6)<;>(try subst e8)<;>first|(simp [*];omega)|grind
end Go.Proofs.YtaeclpjofclbeaaDoor
namespace Go.Proofs.YtaeclpjofclbeaaDoor
open Go.ChangeShapes Go.WideShapes Go.ChangeAt Go.RowKit
set_option linter.unusedVariables false
open Go.RowKit
def kindNames:List (List UInt8):=[[109,111,118,101],[112,117,115,104],[103,101,116],[100,114,111,112],[112,117,116],[116,97,107,101],[103,105,118,101],[116,114,97,100,101],[108,111,111,107],[111,119,110]]
def wayNames:List (List UInt8):=[[110,111,114,116,104],[101,97,115,116],[115,111,117,116,104],[119,101,115,116]]
def Aw (n:Int):List UInt8:=if 1≤n∧n≤10 then kindNames.getD (n-1).toNat [] else []
def Nl (n:Int):List UInt8:=if 0≤n∧n<4 then wayNames.getD n.toNat [] else []
def posN (ss:List (List UInt8)) (x:List UInt8):Nat:=ss.idxOf x
def Qq (x:List UInt8):Bool:=decide (x∈kindNames)
def Ct (x:List UInt8):Int:=if Qq x then (posN kindNames x:Int)+1 else 0
def dirB (x:List UInt8):Bool:=decide (x∈wayNames)
def dirN (x:List UInt8):Int:=if dirB x then (posN wayNames x:Int) else 0
theorem Bl0 {ss:List (List UInt8)} {k:Nat} (h:k<ss.length) (hn:ss.getD k [] ∉ ss.take k):posN ss (ss.getD k [])=k:=by
 unfold posN
 induction ss generalizing k with
 | nil=>simp at h
 | cons a ss ih =>
   cases k with
   | zero=>simp
   | succ k =>
     simp only [List.getD_cons_succ,List.take_succ_cons,List.mem_cons,not_or] at hn ⊢
     rw [List.idxOf_cons]
     have:=ih (k:=k) (by simpa using h) hn.2
     rw [this,show (a==ss.getD k [])=false by simpa using fun e=>hn.1 e.symm]
     rfl
theorem Bh6 {ss:List (List UInt8)} {k:Nat} (h:k<ss.length):ss.getD k []∈ss:=by
 simp [List.getD,List.getElem?_eq_getElem h]
theorem Yv {ss:List (List UInt8)} {k:Nat} {x:List UInt8} (h:k<ss.length) (h1:x ∉ ss.take k) (h2:¬ss.getD k []=x):x ∉ ss.take (k+1):=by
 rw [List.take_succ_eq_append_getElem h]
 simp [List.getD,List.getElem?_eq_getElem h] at h2
 simp only [List.mem_append,List.mem_singleton,not_or]
 exact ⟨h1,fun e=>h2 e.symm⟩
theorem Dd4 {k:Nat} (h:k<10) (hn:kindNames.getD k [] ∉ kindNames.take k):Ct (kindNames.getD k [])=(k:Int)+1∧Qq (kindNames.getD k [])=true:=by
 have hm:kindNames.getD k []∈kindNames:=Bh6 (by simpa [kindNames] using h)
 have hb:Qq (kindNames.getD k [])=true:=by unfold Qq;exact decide_eq_true hm
 exact ⟨by unfold Ct;rw [hb,Bl0 (by simpa [kindNames] using h) hn];rfl,hb⟩
theorem Ch4 {x:List UInt8} (h:x ∉ kindNames.take 10):Ct x=0∧Qq x=false:=by
 have hb:Qq x=false:=by unfold Qq;exact decide_eq_false h
 exact ⟨by unfold Ct;rw [hb];rfl,hb⟩
theorem Fs0 {k:Nat} (h:k<4) (hn:wayNames.getD k [] ∉ wayNames.take k):dirN (wayNames.getD k [])=(k:Int)∧dirB (wayNames.getD k [])=true:=by
 have hm:wayNames.getD k []∈wayNames:=Bh6 (by simpa [wayNames] using h)
 have hb:dirB (wayNames.getD k [])=true:=by unfold dirB;exact decide_eq_true hm
 exact ⟨by unfold dirN;rw [hb,Bl0 (by simpa [wayNames] using h) hn];rfl,hb⟩
theorem Er5 {x:List UInt8} (h:x ∉ wayNames.take 4):dirN x=0∧dirB x=false:=by
 have hb:dirB x=false:=by unfold dirB;exact decide_eq_false h
 exact ⟨by unfold dirN;rw [hb];rfl,hb⟩
theorem Cp0 {k:Nat} (h:k<10):Aw ((k:Int)+1)=kindNames.getD k []:=by
 unfold Aw;rw [if_pos (by omega)];congr 1;omega
theorem Eu6 {k:Nat} (h:k<4):Nl (k:Int)=wayNames.getD k []:=by
 unfold Nl;rw [if_pos (by omega)];rfl
theorem Bl4 {x:List UInt8} (h:Qq x=true):Aw (Ct x)=x:=by
 have hm:x∈kindNames:=of_decide_eq_true h
 simp only [kindNames,List.mem_cons,List.not_mem_nil,or_false] at hm
 rcases hm with rfl|rfl|rfl|rfl|rfl|rfl|rfl|rfl|rfl|rfl<;>decide
theorem Dy0 {x:List UInt8} (h:dirB x=true):Nl (dirN x)=x:=by
 have hm:x∈wayNames:=of_decide_eq_true h
 simp only [wayNames,List.mem_cons,List.not_mem_nil,or_false] at hm
 rcases hm with rfl|rfl|rfl|rfl<;>decide
theorem Ac1 (n:Int):(Aw n).length≤5:=by
 unfold Aw
 split
 ·rename_i h
  have:(n-1).toNat<10:=by omega
  generalize (n-1).toNat=k at *
  match k,this with
  | 0,_|1,_|2,_|3,_|4,_|5,_|6,_|7,_|8,_|9,_=>decide
 ·decide
theorem Eu5 (n:Int):(Nl n).length≤5:=by
 unfold Nl
 split
 ·rename_i h
  have:n.toNat<4:=by omega
  generalize n.toNat=k at *
  match k,this with
  | 0,_|1,_|2,_|3,_=>decide
 ·decide
end Go.Proofs.YtaeclpjofclbeaaDoor
namespace Go.Proofs.YtaeclpjofclbeaaDoor
def isD (c:UInt8):Bool:=decide (48≤c.toNat)&&decide (c.toNat≤57)
def dig (l:List UInt8):Bool:=l.all isD
def val (l:List UInt8):Nat:=l.foldl (fun a c=>10*a+(c.toNat-48)) 0
def Ie (l:List UInt8):Bool:=decide (1<l.length)&&(l[0]?==some 48)
def numB (l:List UInt8):Bool:=!l.isEmpty&&!Ie l&&dig l&&decide (val l≤1073741824)
def numN (l:List UInt8):Nat:=if numB l then val l else 0
theorem Oj (c:UInt8):isD c=true↔48≤c.toNat∧c.toNat≤57:=by simp [isD]
theorem Qk (l:List UInt8) (c:UInt8):val (l++[c])=10*val l+(c.toNat-48):=by simp [val]
theorem Qs (l:List UInt8) (c:UInt8):dig (l++[c])=(dig l&&isD c):=by simp [dig]
theorem Af2 (l r:List UInt8):dig (l++r)=(dig l&&dig r):=by simp [dig]
theorem Wx {α:Type} {P:List α→Prop} (h0:P []) (h1:∀l a,P l→P (l++[a])) (l:List α):P l:=by
 have:∀n (l:List α),l.length=n→P l:=by
  intro n
  induction n with
  | zero=>intro l h;rw [List.eq_nil_of_length_eq_zero h];exact h0
  | succ n ih =>
    intro l h
    have hne:l≠[]:=by intro e;subst e;simp at h
    rw [←List.dropLast_concat_getLast hne]
    exact h1 _ _ (ih _ (by simp [h]))
 exact this _ l rfl
theorem Ap2 (l r:List UInt8):val l≤val (l++r):=by
 induction r using Wx with
 | h0=>simp
 | h1 r c ih=>rw [←List.append_assoc,Qk];omega
theorem Cl9 (l:List UInt8) (k:Nat):val (l.take k)≤val l:=by
 have:=Ap2 (l.take k) (l.drop k);rwa [List.take_append_drop] at this
theorem Er7 {l:List UInt8} (h:dig l=true) (k:Nat):dig (l.take k)=true:=by
 have:=Af2 (l.take k) (l.drop k);rw [List.take_append_drop,h] at this;simp at this;exact this.1
theorem Cf1 (l:List UInt8) (h:dig l=true):val l<10 ^ l.length:=by
 induction l using Wx with
 | h0=>simp [val]
 | h1 l c ih =>
   rw [Qs,Bool.and_eq_true,Oj] at h
   have:=ih h.1
   rw [Qk,List.length_append,List.length_singleton,Nat.pow_succ];omega
theorem Bc6 (l:List UInt8) (h:dig l=true) (h0:l≠[]) (hz:l[0]?≠some 48):10 ^ (l.length-1)≤val l:=by
 induction l using Wx with
 | h0=>simp at h0
 | h1 l c ih =>
   rw [Qs,Bool.and_eq_true,Oj] at h
   rw [Qk]
   by_cases hl:l=[]
   ·subst hl
    have:c≠48:=by simpa using hz
    have:c.toNat≠48:=fun e=>this (UInt8.toNat_inj.1 (by rw [e];rfl))
    simp [val];omega
   ·have hp:0<l.length:=List.length_pos_iff.2 hl
    have:=ih h.1 hl (by rwa [List.getElem?_append_left hp] at hz)
    have e:(l++[c]).length-1=(l.length-1)+1:=by simp;omega
    rw [e,Nat.pow_succ];omega
theorem Qo (l:List UInt8):numB l=true↔l≠[]∧Ie l=false∧dig l=true∧val l≤1073741824:=by
 simp [numB,and_assoc]
theorem Eb6 (l:List UInt8):numN l≤1073741824:=by
 unfold numN;split
 ·next h=>exact ((Qo l).1 h).2.2.2
 ·omega
theorem Fv (l:List UInt8):Ie l=true↔1<l.length∧l[0]?=some 48:=by simp [Ie]
theorem Cu1 {l:List UInt8} (h:10<l.length):numB l=false:=by
 rw [Bool.eq_false_iff];intro hn
 obtain ⟨h0,hz,hd,hv⟩:=(Qo l).1 hn
 have hz':l[0]?≠some 48:=fun e=>by rw [(Fv l).2 ⟨by omega,e⟩] at hz;cases hz
 have:=Bc6 l hd h0 hz'
 have h2:10 ^ 10≤10 ^ (l.length-1):=Nat.pow_le_pow_right (by omega) (by omega)
 omega
theorem Cc1 {l:List UInt8} (h:dig l=true) (h0:l≠[]) (hv:val l=0):l[0]?=some 48:=by
 apply Decidable.byContradiction;intro hz
 have:=Bc6 l h h0 hz
 have:0<10 ^ (l.length-1):=Nat.pow_pos (by omega)
 omega
theorem Ol (n:Nat):dig (Lib.decDigits n)=true∧val (Lib.decDigits n)=n∧Lib.decDigits n≠[]∧(0<n→(Lib.decDigits n)[0]?≠some 48):=by
 induction n using Nat.strongRecOn with
 | ind n ih =>
   rw [Lib.decDigits]
   by_cases h:n<10
   ·rw [dif_pos h]
    have e:(UInt8.ofNat (48+n)).toNat=48+n:=by simp;omega
    refine ⟨by simp [dig,isD];omega,by simp [val];omega,by simp,fun h0=>?_⟩
    simp only [List.getElem?_cons_zero,ne_eq,Option.some.injEq]
    intro e2;rw [e2] at e;simp at e;omega
   ·rw [dif_neg h]
    obtain ⟨i1,i2,i3,i4⟩:=ih (n / 10) (by omega)
    have e:(UInt8.ofNat (48+n%10)).toNat=48+n%10:=by simp;omega
    refine ⟨by rw [Qs,i1,Bool.true_and,Oj,e];omega,by rw [Qk,i2,e];omega,by simp,fun _=>?_⟩
    rw [List.getElem?_append_left (List.length_pos_iff.2 i3)]
    exact i4 (by omega)
theorem Aw5 (n:Nat) (h:n<10):(Lib.decDigits n).length=1:=by rw [Lib.decDigits,dif_pos h];rfl
theorem Ah9 {n:Nat} (h:n≤1073741824):numB (Lib.decDigits n)=true:=by
 obtain ⟨i1,i2,i3,i4⟩:=Ol n
 refine (Qo _).2 ⟨i3,?_,i1,by omega⟩
 rw [Bool.eq_false_iff];intro hz
 obtain ⟨a,b⟩:=(Fv _).1 hz
 by_cases h0:0<n
 ·exact i4 h0 b
 ·have:=Aw5 n (by omega);omega
theorem Bj9 {n:Nat} (h:n≤1073741824):numN (Lib.decDigits n)=n:=by
 unfold numN;rw [if_pos (Ah9 h)];exact (Ol n).2.1
theorem Bc4 (l:List UInt8) (h0:l≠[]) (hz:Ie l=false) (hd:dig l=true):Lib.decDigits (val l)=l:=by
 induction l using Wx with
 | h0=>simp at h0
 | h1 l c ih =>
   have hd':=hd
   rw [Qs,Bool.and_eq_true,Oj] at hd'
   rw [Qk]
   by_cases hl:l=[]
   ·subst hl
    rw [Lib.decDigits,dif_pos (by simp [val];omega)]
    simp only [val,List.foldl_nil,List.nil_append,List.cons.injEq,and_true]
    exact UInt8.toNat_inj.1 (by simp;omega)
   ·have hp:0<l.length:=List.length_pos_iff.2 hl
    have hz1:l[0]?≠some 48:=fun e=>by
     rw [(Fv _).2 ⟨by simp;omega,by rw [List.getElem?_append_left hp];exact e⟩] at hz;cases hz
    have hz2:Ie l=false:=by rw [Bool.eq_false_iff];intro k;exact hz1 ((Fv l).1 k).2
    have hge:=Bc6 l hd'.1 hl hz1
    have:0<10 ^ (l.length-1):=Nat.pow_pos (by omega)
    rw [Lib.decDigits,dif_neg (by omega)]
    have e1:(10*val l+(c.toNat-48)) / 10=val l:=by omega
    have e2:(10*val l+(c.toNat-48))%10=c.toNat-48:=by omega
    rw [e1,e2,ih hl hz2 hd'.1]
    congr 2
    exact UInt8.toNat_inj.1 (by simp;omega)
theorem Am3 {l:List UInt8} (h:numB l=true):Lib.decDigits (numN l)=l:=by
 obtain ⟨a,b,c,d⟩:=(Qo l).1 h
 unfold numN;rw [if_pos h];exact Bc4 l a b c
def cuts:List UInt8→List (List UInt8)
 | []=>[[]]
 | c :: l=>if c=32 then [] :: cuts l else match cuts l with
   | []=>[[c]]
   | h :: t=>(c :: h) :: t
def full (x:List UInt8):Bool:=!x.isEmpty
def Aq (l:List UInt8):List (List UInt8):=(cuts l).filter full
def plain (x:List UInt8):Bool:=!x.isEmpty&&x.all (fun c=>c != 32)
def glue:List (List UInt8)→List UInt8
 | []=>[]
 | [x]=>x
 | x :: y :: r=>x++32 :: glue (y :: r)
def onto (c:UInt8):List (List UInt8)→List (List UInt8)
 | []=>[[c]]
 | h :: t=>(c :: h) :: t
theorem Uf (c:UInt8) (l:List UInt8):cuts (c :: l)=if c=32 then [] :: cuts l else onto c (cuts l):=by
 rw [cuts]
 split
 ·rfl
 ·cases cuts l<;>rfl
theorem Ab1 (l:List UInt8):cuts l≠[]:=by
 cases l with
 | nil=>simp [cuts]
 | cons c l=>unfold cuts;split;· simp
             split<;>simp
theorem Ay6 (x:List UInt8) (h:x.all (fun c=>c != 32)=true):cuts x=[x]:=by
 induction x with
 | nil=>rfl
 | cons c l ih =>
   simp only [List.all_cons,Bool.and_eq_true,bne_iff_ne,ne_eq] at h
   unfold cuts;rw [if_neg h.1,ih (by simpa using h.2)]
theorem Cd8 (x r:List UInt8) (h:x.all (fun c=>c != 32)=true):cuts (x++32 :: r)=x :: cuts r:=by
 induction x with
 | nil=>simp [cuts]
 | cons c l ih =>
   simp only [List.all_cons,Bool.and_eq_true,bne_iff_ne,ne_eq] at h
   rw [List.cons_append,Uf,if_neg h.1,ih (by simpa using h.2)];rfl
theorem Xp:Aq []=[]:=rfl
theorem Zp (r:List UInt8):Aq (32 :: r)=Aq r:=by simp [Aq,cuts,full]
theorem Uz (x r:List UInt8) (h:plain x=true) (hr:r=[]∨r[0]?=some 32):Aq (x++r)=x :: Aq r:=by
 simp only [plain,Bool.and_eq_true,Bool.not_eq_true'] at h
 rcases hr with rfl|hr
 ·rw [List.append_nil];simp only [Aq];rw [Ay6 x h.2];simp [full,h.1,cuts]
 ·obtain ⟨r',rfl⟩:∃r',r=32 :: r':=by cases r with
   | nil=>simp at hr
   | cons a b=>simp at hr;exact ⟨b,by rw [hr]⟩
  simp only [Aq];rw [Cd8 x r' h.2];simp [full,h.1,cuts]
theorem Dd8 (l:List UInt8) :
 (Lib.indexByte l 32=-1∧l.all (fun c=>c != 32)=true)∨(∃i:Nat,Lib.indexByte l 32=i∧i<l.length∧(l.take i).all (fun c=>c != 32)=true∧l=l.take i++32 :: l.drop (i+1)):=by
 induction l with
 | nil=>left;simp [Lib.indexByte]
 | cons b l ih =>
   unfold Lib.indexByte
   by_cases hb:b=32
   ·subst hb;right;exact ⟨0,by simp,by simp,by simp,by simp⟩
   ·rw [if_neg (by simpa using hb)]
    rcases ih with ⟨e,ha⟩|⟨i,e,hi,ha,hl⟩
    ·left;rw [e];simp at ha ⊢;exact ⟨hb,ha⟩
    ·right
     refine ⟨i+1,by rw [e,if_neg (by simp)];rfl,by simp;omega,?_,?_⟩
     ·simp at ha ⊢;exact ⟨hb,ha⟩
     ·simp only [List.take_succ_cons,List.cons_append,List.drop_succ_cons];rw [←hl]
theorem Bs3 (l:List UInt8):∀x∈cuts l,x.all (fun c=>c != 32)=true:=by
 induction l with
 | nil=>simp [cuts]
 | cons c l ih =>
   unfold cuts
   split
   ·intro x hx;simp at hx;rcases hx with rfl|hx
    ·rfl
    ·exact ih x hx
   ·next hc =>
    cases hq:cuts l with
    | nil=>exact absurd hq (Ab1 l)
    | cons h t =>
      rw [hq] at ih
      intro x hx;simp only [List.mem_cons] at hx
      rcases hx with rfl|hx
      ·have:=ih h (by simp);simp at this ⊢;exact ⟨hc,this⟩
      ·exact ih x (by simp [hx])
theorem Bc3 (l:List UInt8):∀x∈Aq l,plain x=true:=by
 intro x hx
 obtain ⟨h1,h2⟩:=List.mem_filter.1 hx
 simp only [plain,Bool.and_eq_true];exact ⟨h2,Bs3 l x h1⟩
theorem Af3 (a b:List UInt8):cuts (a++32 :: b)=cuts a++cuts b:=by
 induction a with
 | nil=>simp [cuts]
 | cons c l ih =>
   rw [List.cons_append,Uf,Uf]
   split
   ·rw [ih];rfl
   ·rw [ih]
    cases hq:cuts l with
    | nil=>exact absurd hq (Ab1 l)
    | cons h t=>rfl
theorem Aj2 (a b:List UInt8):Aq (a++32 :: b)=Aq a++Aq b:=by simp only [Aq,Af3,List.filter_append]
theorem Sz (ws:List (List UInt8)) (h:∀x∈ws,plain x=true):Aq (glue ws)=ws:=by
 induction ws with
 | nil=>rfl
 | cons x r ih =>
   cases r with
   | nil =>
     have:=Uz x [] (h x (by simp)) (.inl rfl)
     rw [List.append_nil] at this;simpa [glue,Xp] using this
   | cons y r =>
     have h1:=ih (fun z hz=>h z (by simp [hz]))
     show Aq (x++32 :: glue (y :: r))=_
     rw [Uz x _ (h x (by simp)) (.inr rfl),Zp,h1]
theorem Bj4 (a b:List UInt8):∃i x y t,cuts a=i++[x]∧cuts b=y :: t∧cuts (a++b)=i++(x++y) :: t:=by
 obtain ⟨y,t,hb⟩:∃y t,cuts b=y :: t:=by
  cases hq:cuts b with
  | nil=>exact absurd hq (Ab1 b)
  | cons y t=>exact ⟨y,t,rfl⟩
 induction a with
 | nil=>exact ⟨[],[],y,t,rfl,hb,by simpa using hb⟩
 | cons c l ih =>
   obtain ⟨i,x,y',t',h1,h2,h3⟩:=ih
   rw [hb] at h2;obtain ⟨rfl,rfl⟩:=List.cons.inj h2
   rw [List.cons_append]
   simp only [cuts]
   by_cases hc:c=32
   ·rw [if_pos hc,if_pos hc,h1,h3];exact ⟨[] :: i,x,y,t,rfl,hb,rfl⟩
   ·rw [if_neg hc,if_neg hc,h1,h3]
    cases i with
    | nil=>exact ⟨[],c :: x,y,t,rfl,hb,rfl⟩
    | cons z i=>exact ⟨(c :: z) :: i,x,y,t,rfl,hb,rfl⟩
theorem Af6 (a b:List UInt8):(Aq (a++b)).length=(Aq a).length+(Aq b).length ∨
 ((Aq (a++b)).length+1=(Aq a).length+(Aq b).length∧Aq a≠[]∧Aq b≠[]):=by
 obtain ⟨i,x,y,t,h1,h2,h3⟩:=Bj4 a b
 simp only [Aq,h1,h2,h3,List.filter_append,List.filter_cons,List.filter_nil]
 cases x with
 | nil =>
   left
   cases y<;>simp [full]<;>omega
 | cons p x =>
   cases y with
   | nil=>left;simp [full];omega
   | cons q y=>right;simp [full];omega
end Go.Proofs.YtaeclpjofclbeaaDoor
namespace Go.Proofs.YtaeclpjofclbeaaDoor
open Go.ChangeShapes Go.WideShapes Go.ChangeAt Go.RowKit
set_option linter.unusedVariables false
open Go.RowKit
structure Rp where
 err:Int
 kind:Int
 room:Int
 players:List Int
 items:List Sn
 coins:Int
deriving DecidableEq
def pkB (n:Int):Bool:=decide (0≤n)&&decide (n<3)
def snB (s:Sn):Bool:=pkB s.kind&&(okN s.item&&okN s.id)
def plB (xs:List Int):Bool:=decide (xs.length≤16)&&areB xs
def itB (xs:List Sn):Bool:=decide (xs.length≤16)&&xs.all snB
def Hq (r:Rp):Bool:=decide (0≤r.err)&&decide (r.err≤13)&&decide (0≤r.kind)&&decide (r.kind≤10)&&areB [r.room,r.coins]&&plB r.players&&itB r.items
def Lf:Rp:=⟨0,0,0,[],[],0⟩
def ownR (r:Rp):Rp :=
 if r.err≠0 then ⟨r.err,0,0,[],[],0⟩
 else if r.kind=1∨r.kind=2 then ⟨0,r.kind,r.room,[],[],0⟩
 else if r.kind=9 then ⟨0,r.kind,r.room,r.players,r.items,0⟩
 else if r.kind=10 then ⟨0,r.kind,0,[],r.items,r.coins⟩
 else ⟨0,r.kind,0,[],[],0⟩
def Gl (a b:Rp):Bool:=decide (a.err=b.err)&&decide (a.kind=b.kind)&&decide (a.room=b.room)&&decide (a.coins=b.coins)&&decide (a.players=b.players)&&decide (a.items=b.items)
def An1 (r:Rp):Bool:=decide (r.err≠0)||decide (r.kind≠0)
def Di (r:Rp):Bool:=An1 r&&(Hq r&&Gl r (ownR r))
theorem Kn (a b:Rp):Gl a b=true↔a=b:=by
 obtain ⟨a1,a2,a3,a4,a5,a6⟩:=a
 obtain ⟨b1,b2,b3,b4,b5,b6⟩:=b
 simp [Gl]
 constructor
 ·rintro ⟨⟨⟨⟨⟨rfl,rfl⟩,rfl⟩,rfl⟩,rfl⟩,rfl⟩;simp
 ·rintro ⟨rfl,rfl,rfl,rfl,rfl,rfl⟩;simp
theorem Pg (a:Rp):Gl a a=true:=(Kn a a).2 rfl
def roomB (k:Int):Bool:=decide (k=1)||decide (k=2)||decide (k=9)
def Bn1 (r:Rp):Bool :=
 if r.err<0∨13<r.err then false
 else if r.err≠0 then Gl r ⟨r.err,0,0,[],[],0⟩
 else if r.kind<1∨10<r.kind∨okN r.room=false∨okN r.coins=false∨16<r.players.length∨16<r.items.length then false
 else if areB r.players=false then false
 else if r.items.all snB=false then false
 else (roomB r.kind||decide (r.room=0))&&(decide (r.kind=9)||decide (r.players.length=0))&&(decide (9≤r.kind)||decide (r.items.length=0))&&(decide (r.kind=10)||decide (r.coins=0))
theorem Bk7 (r:Rp):Di r=Bn1 r:=by
 obtain ⟨e,k,m,ps,is,c⟩:=r
 rw [Bool.eq_iff_iff]
 unfold Di Bn1 An1
 by_cases h0:e<0∨13<e
 ·simp only [if_pos h0]
  simp [Hq];omega
 ·by_cases he:e=0
  ·subst he
   simp only [Kn,ownR,Hq,roomB,Bool.and_eq_true,Bool.or_eq_true,decide_eq_true_eq]
   by_cases k1:k=1
   ·subst k1;simp [okN,areB,plB,itB,List.length_eq_zero_iff];grind
   ·by_cases k2:k=2
    ·subst k2;simp [okN,areB,plB,itB,List.length_eq_zero_iff];grind
    ·by_cases k9:k=9
     ·subst k9;simp [okN,areB,plB,itB,List.length_eq_zero_iff];grind
     ·by_cases k10:k=10
      ·subst k10;simp [okN,areB,plB,itB,List.length_eq_zero_iff];grind
      ·simp [okN,areB,plB,itB,List.length_eq_zero_iff,k1,k2,k9,k10];grind
  ·rw [if_neg h0,if_pos he]
   constructor
   ·intro h
    simp only [Bool.and_eq_true] at h
    have:=h.2.2
    simpa [ownR,he] using this
   ·intro h
    obtain ⟨-,rfl,rfl,rfl,rfl,rfl⟩:=Rp.mk.inj ((Kn _ _).1 h)
    simp [ownR,he,Hq,okN,areB,plB,itB,Gl]
    omega
end Go.Proofs.YtaeclpjofclbeaaDoor
