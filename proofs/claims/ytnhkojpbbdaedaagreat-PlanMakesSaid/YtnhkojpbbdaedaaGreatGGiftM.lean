/- What is given, and traded: plain mathematics. -/
import Derived.Test.YtnhkojpbbdaedaaGreatGAs
namespace Go.Proofs.YtnhkojpbbdaedaaGreat
open Go.ChangeShapes Go.WideShapes Go.ChangeAt Go.RowKit
set_option linter.unusedVariables false
section
def setL (ps:List Pl) (l:List Nat) (f:Pl):List Pl:=l.foldl (fun ps k=>ps.set k f) ps
@[simp] theorem Cm5 (ps:List Pl) (f:Pl):setL ps [] f=ps:=rfl
theorem Xu (ps:List Pl) (k:Nat) (l:List Nat) (f:Pl):setL ps (k :: l) f=setL (ps.set k f) l f:=rfl
theorem Al9 (ps:List Pl) (l:List Nat) (k:Nat) (f:Pl):setL ps (l++[k]) f=(setL ps l f).set k f:=by simp [setL]
@[simp] theorem Eh4 (f:Pl):∀(l:List Nat) (ps:List Pl),(setL ps l f).length=ps.length
  | [],_=>rfl
  | k :: l,ps=>by rw [Xu,Eh4 f l];simp
theorem An4 (f:Pl):∀(l:List Nat) (ps:List Pl) (n:Nat),n<ps.length→plOf (setL ps l f) n=if n∈l then f else plOf ps n
 | [],_,_,_=>by simp
 | k :: l,ps,n,hn=>by
   rw [Xu,An4 f l _ n (by simpa using hn),Dk hn]
   by_cases h1:n∈l
   ·simp [h1]
   ·by_cases h2:n=k<;>simp [h1,h2]
theorem Ct6 {ps qs:List Pl} (hl:ps.length=qs.length) (h:∀n,n<ps.length→plOf ps n=plOf qs n):ps=qs:=by
 refine List.ext_getElem hl fun n h1 h2=>?_
 have:=h n h1
 rwa [Bo h1,Bo h2] at this
theorem Cm6 {f:Pl} {l:List Nat} {ps:List Pl} {p:Pl} (h:p∈setL ps l f):p=f∨p∈ps:=by
 obtain ⟨n,hn,rfl⟩:=List.getElem_of_mem h
 have hn2:n<ps.length:=by simpa using hn
 rw [←Bo hn,An4 f l ps n hn2]
 split
 ·exact .inl rfl
 ·exact .inr (Ny hn2)
theorem Ar8 {f:Pl} (hf:¬f.kind=2):∀(l:List Nat) (ps:List Pl) (n:Nat) (p:Pl),Gu ps n p=true→Gu (setL ps l f) n p=true
 | [],_,_,_,h=>h
 | k :: l,ps,n,p,h=>by rw [Xu];exact Ar8 hf l _ n p (Ac4 hf n p h)
theorem Aj6 {f p:Pl} (hp:¬f=p):∀(l:List Nat) (ps:List Pl),(∀k∈l,k<ps.length)→(setL ps l f).count p≤ps.count p
 | [],_,_=>Nat.le_refl _
 | k :: l,ps,h=>by
   rw [Xu]
   have h1:=Aj6 hp l (ps.set k f) (fun j hj=>by simpa using h j (List.mem_cons_of_mem _ hj))
   have h2:=Jr (h k (List.mem_cons_self ..)) f p
   rw [if_neg hp] at h2
   omega
theorem Ab4 {f g:Pl} (hfg:¬f=g):∀(l:List Nat) (ps:List Pl),l.Nodup→(∀k∈l,k<ps.length∧plOf ps k=f)→(setL ps l g).count g=ps.count g+l.length∧(setL ps l g).count f+l.length=ps.count f
 | [],_,_,_=>⟨by simp,by simp⟩
 | k :: l,ps,hnd,h=>by
   obtain ⟨hk,hp⟩:=h k (List.mem_cons_self ..)
   rw [List.nodup_cons] at hnd
   have ih:=Ab4 hfg l (ps.set k g) hnd.2 (fun j hj=>by
    obtain ⟨h1,h2⟩:=h j (List.mem_cons_of_mem _ hj)
    refine ⟨by simpa using h1,?_⟩
    rw [Dk h1,if_neg (fun e=>hnd.1 (by rw [←e];exact hj)),h2])
   rw [Bo hk] at hp
   have h1:=Jr hk g g
   have h2:=Jr hk g f
   have h3:=Az4 hk
   rw [hp] at h1 h2 h3
   rw [if_neg hfg,if_pos rfl] at h1
   rw [if_pos rfl,if_neg (fun e=>hfg e.symm)] at h2
   rw [Xu,List.length_cons]
   omega
def trP (ps:List Pl) (i q:Nat) (gs ws:List Nat):List Pl:=setL (setL ps gs ⟨1,(q:Int)⟩) ws ⟨1,(i:Int)⟩
theorem Pm (ps:List Pl) (i q:Nat) (gs ws:List Nat):(trP ps i q gs ws).length=ps.length:=by simp [trP]
theorem Cf2 {ps:List Pl} {i q:Nat} {gs ws:List Nat} {n:Nat} (hn:n<ps.length):plOf (trP ps i q gs ws) n=if n∈ws then ⟨1,(i:Int)⟩ else if n∈gs then ⟨1,(q:Int)⟩ else plOf ps n:=by
 unfold trP
 rw [An4 _ _ _ n (by simpa using hn),An4 _ _ _ n hn]
def trW (x:Wd) (i q:Nat) (gs ws:List Nat) (a b:Int):Wd:=⟨x.d,x.at_,(x.coins.set i a).set q b,trP x.wher i q gs ws⟩
def trN (x:Wd) (i q:Nat) (gs ws:List Nat):Wd:=⟨x.d,x.at_,x.coins,trP x.wher i q gs ws⟩
theorem Dp2 (x:Wd) (i q:Nat) (gs ws:List Nat) (a b:Int):Am x (trW x i q gs ws a b):=⟨rfl,rfl,rfl,rfl,rfl,rfl,rfl,rfl,rfl,by simp [trW],by simp [trW,Pm]⟩
def Al (x:Wd) (i:Nat):Int:=x.coins.getD i 0
def hasB (x:Wd) (i:Nat) (l:List Nat):Bool:=l.all fun k=>decide (plOf x.wher k=⟨1,(i:Int)⟩)
def Ca (x:Wd) (i:Nat) (q:Int) (gs ws:List Int) (pay fee:Int):Wd × Int :=
 if inB q x.at_.length=false then (x,3)
 else if (gs++ws).all (fun k=>inB k x.wher.length)=false then (x,3)
 else if q=i then (x,12)
 else if ¬Ah x i=Ah x q.toNat then (x,5)
 else if ¬(gs++ws).Nodup then (x,13)
 else if hasB x i (gs.map Int.toNat)=false∨hasB x q.toNat (ws.map Int.toNat)=false then (x,5)
 else if roomI (trN x i q.toNat (gs.map Int.toNat) (ws.map Int.toNat)) ⟨1,(i:Int)⟩<0∨roomI (trN x i q.toNat (gs.map Int.toNat) (ws.map Int.toNat)) ⟨1,(q.toNat:Int)⟩<0 then (x,9)
 else if ¬Cg (Al x i) (Al x q.toNat) pay fee=0 then (x,Cg (Al x i) (Al x q.toNat) pay fee)
 else (trW x i q.toNat (gs.map Int.toNat) (ws.map Int.toNat) (Dx (Al x i) (Al x q.toNat) pay fee) (Dw (Al x i) (Al x q.toNat) pay fee),0)
def Jg (x:Wd) (i:Nat) (item q:Int):Wd × Int :=
 if inB item x.wher.length=false∨inB q x.at_.length=false then (x,3)
 else if q=i then (x,12)
 else if ¬Ah x i=Ah x q.toNat∨¬plOf x.wher item.toNat=⟨1,(i:Int)⟩ then (x,5)
 else if roomI x ⟨1,(q.toNat:Int)⟩=0 then (x,9)
 else (putW x item.toNat ⟨1,(q.toNat:Int)⟩,0)
theorem Zl {l:List Int} {n:Nat} (h:l.all (fun k=>inB k n)=true):∃m:List Nat,l=m.map (fun (k:Nat)=>(k:Int))∧∀k∈m,k<n:=by
 refine ⟨l.map Int.toNat,?_,fun k hk=>?_⟩
 ·rw [List.map_map]
  conv=>lhs;rw [←List.map_id l]
  refine List.map_congr_left fun k hk=>?_
  have:=(Bi k n).1 (List.all_eq_true.1 h k hk)
  simp;omega
 ·obtain ⟨j,hj,rfl⟩:=List.mem_map.1 hk
  have:=(Bi j n).1 (List.all_eq_true.1 h j hj)
  omega
theorem Bm3 (m:List Nat):(m.map (fun (k:Nat)=>(k:Int))).map Int.toNat=m:=by
 rw [List.map_map]
 conv=>rhs;rw [←List.map_id m]
 exact List.map_congr_left fun k _=>by simp
theorem Yw (m:List Nat):(m.map (fun (k:Nat)=>(k:Int))).Nodup↔m.Nodup:=by
 constructor
 ·intro h;exact List.Pairwise.of_map _ (fun a b h e=>h (by rw [e])) h
 ·intro h;exact List.Pairwise.map _ (fun a b h e=>h (by omega)) h
structure Ou (x:Wd) (i q:Nat) (gs ws:List Nat) (pay fee:Int):Prop where
 lti:i<x.at_.length
 ltq:q<x.at_.length
 ne:¬q=i
 room:Ah x i=Ah x q
 ltg:∀k∈gs,k<x.wher.length∧plOf x.wher k=⟨1,(i:Int)⟩
 ltw:∀k∈ws,k<x.wher.length∧plOf x.wher k=⟨1,(q:Int)⟩
 nd:(gs++ws).Nodup
 ri:0≤roomI (trN x i q gs ws) ⟨1,(i:Int)⟩
 rq:0≤roomI (trN x i q gs ws) ⟨1,(q:Int)⟩
 p0:0≤pay
 f0:0≤fee
 pa:pay≤Al x i
 fb:fee≤Al x q
 ma:Al x i-pay+fee≤1073741824
 mb:Al x q-fee+pay≤1073741824
theorem Ad2 {a b pay fee:Int}:Cg a b pay fee=0↔(0≤pay∧0≤fee∧pay≤a∧fee≤b∧a-pay+fee≤1073741824∧b-fee+pay≤1073741824):=by
 unfold Cg
 constructor
 ·intro h
  split at h
  ·omega
  ·split at h
   ·omega
   ·split at h<;>omega
 ·intro h
  rw [if_neg (by omega),if_neg (by omega),if_pos (by omega)]
theorem Ou.eq {x:Wd} {i q:Nat} {gs ws:List Nat} {pay fee:Int} (h:Ou x i q gs ws pay fee) :
 Ca x i q (gs.map fun (k:Nat)=>(k:Int)) (ws.map fun (k:Nat)=>(k:Int)) pay fee=(trW x i q gs ws (Al x i-pay+fee) (Al x q-fee+pay),0):=by
 have he:Cg (Al x i) (Al x q) pay fee=0:=Ad2.2 ⟨h.p0,h.f0,h.pa,h.fb,h.ma,h.mb⟩
 have e1:Dx (Al x i) (Al x q) pay fee=Al x i-pay+fee:=by simp [Dx,he]
 have e2:Dw (Al x i) (Al x q) pay fee=Al x q-fee+pay:=by simp [Dw,he]
 have hl:=h.ltq
 unfold Ca
 rw [if_neg (by simp [inB,hl]),if_neg (by
  rw [←List.map_append]
  simp only [List.all_map,Bool.not_eq_false,List.all_eq_true,Function.comp_apply,Bi]
  intro k hk
  rcases List.mem_append.1 hk with hk|hk
  ·have:=(h.ltg k hk).1;omega
  ·have:=(h.ltw k hk).1;omega),if_neg (by have:=h.ne;omega)]
 simp only [Int.toNat_natCast,Bm3]
 rw [if_neg (by simpa using h.room),if_neg (by rw [←List.map_append,Yw];simpa using h.nd),if_neg (by
  simp only [hasB,not_or,Bool.not_eq_false,List.all_eq_true,decide_eq_true_eq]
  exact ⟨fun k hk=>(h.ltg k hk).2,fun k hk=>(h.ltw k hk).2⟩),if_neg (by have:=h.ri;have:=h.rq;omega),if_neg (by simpa using he),e1,e2]
theorem Do9 {x:Wd} {i:Nat} (hi:i<x.at_.length) {q:Int} {gl wl:List Int} {pay fee:Int} (he:(Ca x i q gl wl pay fee).2=0) :
 ∃(k:Nat) (gs ws:List Nat),q=k∧gl=gs.map (fun (k:Nat)=>(k:Int))∧wl=ws.map (fun (k:Nat)=>(k:Int))∧Ou x i k gs ws pay fee:=by
 unfold Ca at he
 split at he
 ·simp at he
 rename_i h1
 split at he
 ·simp at he
 rename_i h2
 split at he
 ·simp at he
 rename_i h3
 split at he
 ·simp at he
 rename_i h4
 split at he
 ·simp at he
 rename_i h5
 split at he
 ·simp at he
 rename_i h6
 split at he
 ·simp at he
 rename_i h7
 split at he
 ·rename_i h8;exact absurd he h8
 rename_i h8
 rw [Bool.not_eq_false,List.all_append,Bool.and_eq_true] at h2
 obtain ⟨gs,rfl,hg⟩:=Zl h2.1
 obtain ⟨ws,rfl,hw⟩:=Zl h2.2
 rw [Bool.not_eq_false,Bi] at h1
 obtain ⟨k,rfl⟩:∃k:Nat,q=k:=⟨q.toNat,by omega⟩
 simp only [Int.toNat_natCast,Bm3] at h4 h6 h7 h8
 simp only [hasB,not_or,Bool.not_eq_false,List.all_eq_true,decide_eq_true_eq] at h6
 obtain ⟨p0,f0,pa,fb,ma,mb⟩:=Ad2.1 (Decidable.not_not.1 h8)
 refine ⟨k,gs,ws,rfl,rfl,rfl,hi,by omega,by omega,Decidable.not_not.1 h4,fun j hj=>⟨hg j hj,h6.1 j hj⟩,fun j hj=>⟨hw j hj,h6.2 j hj⟩,?_,by omega,by omega,p0,f0,pa,fb,ma,mb⟩
 rw [←Yw,List.map_append]
 exact Decidable.not_not.1 h5
theorem Au6 {x:Wd} {i:Nat} {q:Int} {gl wl:List Int} {pay fee:Int} (he:¬(Ca x i q gl wl pay fee).2=0):(Ca x i q gl wl pay fee).1=x:=by
 unfold Ca at he ⊢
 repeat' split
 all_goals first|rfl|skip
 rename_i h1 h2 h3 h4 h5 h6 h7 h8
 rw [if_neg h1,if_neg h2,if_neg h3,if_neg h4,if_neg h5,if_neg h6,if_neg h7,if_neg h8] at he
 exact absurd rfl he
section
variable {x:Wd} {i q:Nat} {gs ws:List Nat} {pay fee:Int} (h:Ou x i q gs ws pay fee)
include h
theorem Ou.apart {k:Nat} (hk:k∈gs):¬k∈ws:=by
 intro hw
 have h1:=(h.ltg k hk).2
 have h2:=(h.ltw k hw).2
 rw [h1] at h2
 have:=h.ne
 simp only [Pl.mk.injEq,true_and] at h2
 omega
theorem Ou.at_ {n:Nat} (hn:n<x.wher.length):plOf (trP x.wher i q gs ws) n=if n∈gs then ⟨1,(q:Int)⟩ else if n∈ws then ⟨1,(i:Int)⟩ else plOf x.wher n:=by
 rw [Cf2 hn]
 by_cases h1:n∈gs
 ·rw [if_neg (h.apart h1),if_pos h1,if_pos h1]
 ·rw [if_neg h1,if_neg h1]
theorem Ou.others {n:Nat} (hn:n<x.wher.length) (h1:¬n∈gs) (h2:¬n∈ws):plOf (trP x.wher i q gs ws) n=plOf x.wher n:=by
 rw [h.at_ hn,if_neg h1,if_neg h2]
theorem Ou.right (hx:Ai x=true) {a b:Int} (ha:0≤a∧a≤1073741824) (hb:0≤b∧b≤1073741824):Ai (trW x i q gs ws a b)=true:=by
 have hin:=Fb hx
 have h1:=hx
 simp only [Ai,Bool.and_eq_true] at h1 ⊢
 obtain ⟨h2,h3,h4,h5,h6⟩:=h1
 have hmem:∀p∈trP x.wher i q gs ws,p=⟨1,(i:Int)⟩∨p=⟨1,(q:Int)⟩∨p∈x.wher:=by
  intro p hp
  rcases Cm6 hp with e|hp
  ·exact .inl e
  ·exact .inr (Cm6 hp)
 refine ⟨h2,?_,?_,?_,?_⟩
 ·simp only [Dr,Bool.and_eq_true,decide_eq_true_eq] at h3 ⊢
  refine ⟨h3.1,by simpa [trW] using h3.2.1,h3.2.2.1,?_⟩
  rw [Wl]
  intro n hn
  rcases List.mem_or_eq_of_mem_set hn with hn|rfl
  ·rcases List.mem_or_eq_of_mem_set hn with hn|rfl
   ·exact hin.2.1 n hn
   ·exact ha
  ·exact hb
 ·simp only [Dv,trW,Bool.and_eq_true,decide_eq_true_eq,List.all_eq_true,Pm] at h4 ⊢
  refine ⟨h4.1,fun p hpm=>?_⟩
  rcases hmem p hpm with rfl|rfl|hpm
  ·exact Jt hx h.lti
  ·exact Jt hx h.ltq
  ·exact h4.2 p hpm
 ·simp only [Sk,trW,List.all_eq_true] at h5 ⊢
  intro p hpm
  rcases hmem p hpm with rfl|rfl|hpm
  ·exact Uu _ _ (by simp)
  ·exact Uu _ _ (by simp)
  ·exact Ar8 (by simp) ws _ 4 p (Ar8 (by simp) gs _ 4 p (h5 p hpm))
 ·simp only [fitB,List.all_eq_true,decide_eq_true_eq] at h6
  unfold fitB
  rw [List.all_eq_true]
  intro p hpm
  refine decide_eq_true ?_
  show (((trP x.wher i q gs ws).count p:Nat):Int)≤Cb x.d p.kind
  have r1:=h.ri
  have r2:=h.rq
  unfold roomI at r1 r2
  change 0≤Cb x.d 1-(((trP x.wher i q gs ws).count ⟨1,(i:Int)⟩:Nat):Int) at r1
  change 0≤Cb x.d 1-(((trP x.wher i q gs ws).count ⟨1,(q:Int)⟩:Nat):Int) at r2
  by_cases e1:(⟨1,(i:Int)⟩:Pl)=p
  ·subst e1;show _≤Cb x.d 1;omega
  ·by_cases e2:(⟨1,(q:Int)⟩:Pl)=p
   ·subst e2;show _≤Cb x.d 1;omega
   ·have hp:p∈x.wher:=((hmem p hpm).resolve_left (fun e=>e1 e.symm)).resolve_left (fun e=>e2 e.symm)
    have c1:=Aj6 e1 ws (setL x.wher gs ⟨1,(q:Int)⟩) (fun k hk=>by simpa using (h.ltw k hk).1)
    have c2:=Aj6 e2 gs x.wher (fun k hk=>(h.ltg k hk).1)
    have c3:=h6 p hp
    unfold trP
    omega
theorem Ou.back (hx:Ai x=true):Ou (trW x i q gs ws (Al x i-pay+fee) (Al x q-fee+pay)) q i gs ws pay fee ∧
 trW (trW x i q gs ws (Al x i-pay+fee) (Al x q-fee+pay)) q i gs ws (Al x q) (Al x i)=x ∧
 Al (trW x i q gs ws (Al x i-pay+fee) (Al x q-fee+pay)) i=Al x i-pay+fee∧Al (trW x i q gs ws (Al x i-pay+fee) (Al x q-fee+pay)) q=Al x q-fee+pay:=by
 have hl:=Aj hx
 have hin:=Fb hx
 have li:i<x.coins.length:=by rw [hl.2.2.1];exact h.lti
 have lq:q<x.coins.length:=by rw [hl.2.2.1];exact h.ltq
 have hci:Al x i=x.coins[i]:=by simp [Al,List.getD,List.getElem?_eq_getElem li]
 have hcq:Al x q=x.coins[q]:=by simp [Al,List.getD,List.getElem?_eq_getElem lq]
 have bi:=hin.2.1 _ (List.getElem_mem li)
 have bq:=hin.2.1 _ (List.getElem_mem lq)
 rw [←hci] at bi
 rw [←hcq] at bq
 have k1:Al (trW x i q gs ws (Al x i-pay+fee) (Al x q-fee+pay)) i=Al x i-pay+fee:=by
  show ((x.coins.set i _).set q _).getD i 0=_
  rw [List.getD_eq_getElem?_getD,List.getElem?_set_ne (fun e=>h.ne e),List.getElem?_set_self li];rfl
 have k2:Al (trW x i q gs ws (Al x i-pay+fee) (Al x q-fee+pay)) q=Al x q-fee+pay:=by
  show ((x.coins.set i _).set q _).getD q 0=_
  rw [List.getD_eq_getElem?_getD,List.getElem?_set_self (by simpa using lq)];rfl
 have hb:trP (trP x.wher i q gs ws) q i gs ws=x.wher:=by
  refine Ct6 (by rw [Pm,Pm]) fun n hn=>?_
  rw [Pm,Pm] at hn
  rw [Cf2 (by rw [Pm];exact hn)]
  by_cases h1:n∈ws
  ·rw [if_pos h1,(h.ltw n h1).2]
  ·rw [if_neg h1]
   by_cases h2:n∈gs
   ·rw [if_pos h2,(h.ltg n h2).2]
   ·rw [if_neg h2,h.others hn h2 h1]
 have hN:trN (trW x i q gs ws (Al x i-pay+fee) (Al x q-fee+pay)) q i gs ws=⟨x.d,x.at_,(x.coins.set i (Al x i-pay+fee)).set q (Al x q-fee+pay),x.wher⟩:=by
  show Wd.mk _ _ _ (trP (trP x.wher i q gs ws) q i gs ws)=_
  rw [hb];rfl
 have p0:=h.p0
 have f0:=h.f0
 have pa:=h.pa
 have fb:=h.fb
 refine ⟨⟨h.ltq,h.lti,fun e=>h.ne e.symm,h.room.symm,fun k hk=>?_,fun k hk=>?_,h.nd,?_,?_,p0,f0,by omega,by omega,by omega,by omega⟩,?_,k1,k2⟩
 ·refine ⟨by show k<(trP _ _ _ _ _).length;rw [Pm];exact (h.ltg k hk).1,?_⟩
  show plOf (trP _ _ _ _ _) k=_
  rw [h.at_ (h.ltg k hk).1,if_pos hk]
 ·refine ⟨by show k<(trP _ _ _ _ _).length;rw [Pm];exact (h.ltw k hk).1,?_⟩
  show plOf (trP _ _ _ _ _) k=_
  rw [h.at_ (h.ltw k hk).1,if_neg (fun e=>h.apart e hk),if_pos hk]
 ·rw [hN];exact Hz hx (f:=⟨1,(q:Int)⟩) (by simp)
 ·rw [hN];exact Hz hx (f:=⟨1,(i:Int)⟩) (by simp)
 ·show Wd.mk x.d x.at_ (((((x.coins.set i _).set q _)).set q _).set i _) (trP (trP x.wher i q gs ws) q i gs ws)=x
  rw [hb,List.set_set,List.set_comm _ _ (fun e=>h.ne e.symm),List.set_set,hcq,List.set_getElem_self,hci,List.set_getElem_self]
end
theorem By8:∀(l:List Int) (i:Nat) (a:Int) (hi:i<l.length),(l.set i a).sum=l.sum-l[i]+a
 | n :: l,0,a,_=>by simp;omega
 | n :: l,i+1,a,hi=>by
   have:=By8 l i a (by simpa using hi)
   simp only [List.set_cons_succ,List.sum_cons,this,List.getElem_cons_succ];omega
theorem Ou.sum {x:Wd} {i q:Nat} {gs ws:List Nat} {pay fee:Int} (h:Ou x i q gs ws pay fee) (hx:Ai x=true):(trW x i q gs ws (Al x i-pay+fee) (Al x q-fee+pay)).coins.sum=x.coins.sum:=by
 have hl:=Aj hx
 have li:i<x.coins.length:=by rw [hl.2.2.1];exact h.lti
 have lq:q<x.coins.length:=by rw [hl.2.2.1];exact h.ltq
 have hci:Al x i=x.coins[i]:=by simp [Al,List.getD,List.getElem?_eq_getElem li]
 have hcq:Al x q=x.coins[q]:=by simp [Al,List.getD,List.getElem?_eq_getElem lq]
 show ((x.coins.set i _).set q _).sum=_
 rw [By8 _ _ _ (by simpa using lq),By8 _ _ _ li,List.getElem_set_ne (fun e=>h.ne e.symm)]
 omega
theorem Xj {x:Wd} (hx:Ai x=true) {i:Nat} (hi:i<x.at_.length) (item q:Int):Jg x i item q=Ca x i q [item] [] 0 0:=by
 unfold Jg Ca
 by_cases h1:inB q x.at_.length=false
 ·rw [if_pos (.inr h1),if_pos h1]
 rw [if_neg h1]
 by_cases h2:inB item x.wher.length=false
 ·rw [if_pos (.inl h2),if_pos (by simpa using h2)]
 have h2':¬([item]++([]:List Int)).all (fun k=>inB k x.wher.length)=false:=by simpa using h2
 rw [if_neg (by rintro (h|h)<;>contradiction),if_neg h2']
 by_cases h3:q=i
 ·rw [if_pos h3,if_pos h3]
 rw [if_neg h3,if_neg h3]
 rw [Bool.not_eq_false,Bi] at h1 h2
 obtain ⟨k,rfl⟩:∃k:Nat,q=k:=⟨q.toNat,by omega⟩
 obtain ⟨n,rfl⟩:∃n:Nat,item=n:=⟨item.toNat,by omega⟩
 have hk:k<x.at_.length:=by omega
 have hn:n<x.wher.length:=by omega
 simp only [Int.toNat_natCast,List.map_cons,List.map_nil,List.append_nil]
 by_cases h4:¬Ah x i=Ah x k
 ·rw [if_pos (.inl h4),if_pos h4]
 rw [Decidable.not_not] at h4
 rw [if_neg (by simpa using h4:¬¬Ah x i=Ah x k),if_neg (by simp:¬¬[(n:Int)].Nodup)]
 have hh:hasB x k []=true:=rfl
 by_cases h5:¬plOf x.wher n=⟨1,(i:Int)⟩
 ·rw [if_pos (.inr h5),if_pos (.inl (by simp [hasB,h5]))]
 rw [Decidable.not_not] at h5
 have h7:¬(¬Ah x i=Ah x k∨¬plOf x.wher n=⟨1,(i:Int)⟩):=by simp [h4,h5]
 have h8:¬(hasB x i [n]=false∨hasB x k []=false):=by simp [hasB,h5]
 rw [if_neg h7,if_neg h8]
 have hki:¬k=i:=fun e=>h3 (by rw [e])
 have e1:trN x i k [n] []=putW x n ⟨1,(k:Int)⟩:=rfl
 have r1:=Wz hn h5 (show ¬(⟨1,(k:Int)⟩:Pl)=⟨1,(i:Int)⟩ from fun e=>by simp only [Pl.mk.injEq,true_and] at e;omega)
 have r2:roomI (putW x n ⟨1,(k:Int)⟩) ⟨1,(k:Int)⟩=roomI x ⟨1,(k:Int)⟩-1:=by
  rw [Bo hn] at h5
  have h2:=Jr hn ⟨1,(k:Int)⟩ ⟨1,(k:Int)⟩
  rw [h5,if_neg (fun e=>by simp only [Pl.mk.injEq,true_and] at e;omega),if_pos rfl] at h2
  show Cb x.d 1-(((x.wher.set n _).count _:Nat):Int)=_
  unfold roomI
  show _=Cb x.d 1-_-1
  omega
 have n1:=Hz hx (f:=⟨1,(i:Int)⟩) (by simp)
 have n2:=Hz hx (f:=⟨1,(k:Int)⟩) (by simp)
 have hl:=Aj hx
 have hin:=Fb hx
 have li:i<x.coins.length:=by rw [hl.2.2.1];exact hi
 have lq:k<x.coins.length:=by rw [hl.2.2.1];exact hk
 have hci:Al x i=x.coins[i]:=by simp [Al,List.getD,List.getElem?_eq_getElem li]
 have hcq:Al x k=x.coins[k]:=by simp [Al,List.getD,List.getElem?_eq_getElem lq]
 have bi:=hin.2.1 _ (List.getElem_mem li)
 have bq:=hin.2.1 _ (List.getElem_mem lq)
 rw [e1]
 by_cases h6:roomI x ⟨1,(k:Int)⟩=0
 ·rw [if_pos h6,if_pos (.inr (by omega))]
 rw [if_neg h6,if_neg (by omega)]
 have hz:Cg (Al x i) (Al x k) 0 0=0:=Ad2.2 (by omega)
 rw [if_neg (by simpa using hz)]
 have ha:Dx (Al x i) (Al x k) 0 0=x.coins[i]:=by unfold Dx;rw [if_pos hz];omega
 have hb:Dw (Al x i) (Al x k) 0 0=x.coins[k]:=by unfold Dw;rw [if_pos hz];omega
 rw [ha,hb]
 show _=(Wd.mk x.d x.at_ ((x.coins.set i x.coins[i]).set k x.coins[k]) (x.wher.set n ⟨1,(k:Int)⟩),(0:Int))
 rw [List.set_getElem_self,List.set_getElem_self]
 rfl
end
section
def Tm (ps:List Pl) (i q:Nat) (gs ws:List Nat) (m:Nat):List Pl:=setL (setL ps (gs.take m) ⟨1,(q:Int)⟩) (ws.take (m-gs.length)) ⟨1,(i:Int)⟩
theorem Cy1 (ps:List Pl) (i q:Nat) (gs ws:List Nat):Tm ps i q gs ws 0=ps:=by simp [Tm]
theorem Ba0 (ps:List Pl) (i q:Nat) (gs ws:List Nat) (m:Nat):(Tm ps i q gs ws m).length=ps.length:=by simp [Tm]
theorem Cy3 {ps:List Pl} {i q:Nat} {gs ws:List Nat} {m:Nat} (h:m<gs.length):Tm ps i q gs ws (m+1)=(Tm ps i q gs ws m).set gs[m] ⟨1,(q:Int)⟩:=by
 unfold Tm
 rw [show m+1-gs.length=0 by omega,show m-gs.length=0 by omega,List.take_zero,Cm5,Cm5,List.take_succ_eq_append_getElem h,Al9]
theorem Cy2 {ps:List Pl} {i q:Nat} {gs ws:List Nat} {m:Nat} (h:gs.length≤m) (h2:m-gs.length<ws.length):Tm ps i q gs ws (m+1)=(Tm ps i q gs ws m).set ws[m-gs.length] ⟨1,(i:Int)⟩:=by
 unfold Tm
 rw [show m+1-gs.length=(m-gs.length)+1 by omega,List.take_succ_eq_append_getElem h2,Al9,List.take_of_length_le (by omega),List.take_of_length_le h]
theorem Dp7 (ps:List Pl) (i q:Nat) (gs ws:List Nat):Tm ps i q gs ws (gs++ws).length=trP ps i q gs ws:=by
 unfold Tm trP
 rw [List.length_append,List.take_of_length_le (by omega),List.take_of_length_le (by omega)]
theorem Es4 {gs ws:List Nat} {m:Nat} (h:m<(gs++ws).length):(m<gs.length∧∃h2:m<gs.length,(gs++ws)[m]=gs[m])∨(gs.length≤m∧∃h2:m-gs.length<ws.length,(gs++ws)[m]=ws[m-gs.length]):=by
 rw [List.length_append] at h
 by_cases h1:m<gs.length
 ·exact .inl ⟨h1,h1,List.getElem_append_left h1⟩
 ·exact .inr ⟨by omega,by omega,List.getElem_append_right (by omega)⟩
def hasN (x:Wd) (i q:Nat) (gs ws:List Nat) (m:Nat):Bool:=hasB x i (gs.take m)&&hasB x q (ws.take (m-gs.length))
theorem Du1 (x:Wd) (i q:Nat) (gs ws:List Nat):hasN x i q gs ws 0=true:=by simp [hasN,hasB]
theorem Ep2 (x:Wd) (i q:Nat) (gs ws:List Nat):hasN x i q gs ws (gs++ws).length=(hasB x i gs&&hasB x q ws):=by
 unfold hasN
 rw [List.length_append,List.take_of_length_le (by omega),List.take_of_length_le (by omega)]
theorem Du3 {x:Wd} {i q:Nat} {gs ws:List Nat} {m:Nat} (h:m<gs.length):hasN x i q gs ws (m+1)=(hasN x i q gs ws m&&decide (plOf x.wher gs[m]=⟨1,(i:Int)⟩)):=by
 unfold hasN
 rw [show m+1-gs.length=0 by omega,show m-gs.length=0 by omega,List.take_zero,List.take_succ_eq_append_getElem h]
 simp only [hasB,List.all_append,List.all_cons,List.all_nil,Bool.and_true]
theorem Du2 {x:Wd} {i q:Nat} {gs ws:List Nat} {m:Nat} (h:gs.length≤m) (h2:m-gs.length<ws.length):hasN x i q gs ws (m+1)=(hasN x i q gs ws m&&decide (plOf x.wher ws[m-gs.length]=⟨1,(q:Int)⟩)):=by
 unfold hasN
 rw [show m+1-gs.length=(m-gs.length)+1 by omega,List.take_succ_eq_append_getElem h2,List.take_of_length_le (by omega:gs.length≤m+1),List.take_of_length_le h]
 simp only [hasB,List.all_append,List.all_cons,List.all_nil,Bool.and_true,Bool.and_assoc]
theorem Br9 {x:Wd} {i q:Nat} {gs ws:List Nat} {m:Nat} (h:hasN x i q gs ws m=false):hasB x i gs=false∨hasB x q ws=false:=by
 unfold hasN at h
 rw [Bool.and_eq_false_iff] at h
 have sub:∀(p:Nat) (l:List Nat) (n:Nat),hasB x p (l.take n)=false→hasB x p l=false:=fun p l n h=>by
  rw [Bool.eq_false_iff] at h ⊢
  intro h2
  apply h
  unfold hasB at h2 ⊢
  rw [List.all_eq_true] at h2 ⊢
  exact fun k hk=>h2 k (List.mem_of_mem_take hk)
 exact h.imp (sub _ _ _) (sub _ _ _)
theorem Bh2 {l:List Nat} {m:Nat} (h:m<l.length):(l.take (m+1)).Nodup↔(l.take m).Nodup∧∀(k:Nat) (hk:k<l.length),k<m→¬l[m]=l[k]:=by
 rw [List.take_succ_eq_append_getElem h,List.nodup_append]
 constructor
 ·rintro ⟨h1,_,h3⟩
  refine ⟨h1,fun k hk hkm e=>?_⟩
  exact h3 l[k] (List.mem_take_iff_getElem.2 ⟨k,by omega,rfl⟩) l[m] (by simp) e.symm
 ·rintro ⟨h1,h2⟩
  refine ⟨h1,by simp,fun a ha b hb e=>?_⟩
  obtain ⟨k,hk,rfl⟩:=List.mem_take_iff_getElem.1 ha
  rw [List.mem_singleton] at hb
  subst hb
  exact h2 k (by omega) (by omega) e.symm
theorem Ds8 {l:List Nat} {m k:Nat} (hm:m<l.length) (hk:k<m) (e:l[m]=l[k]'(by omega)):¬l.Nodup:=fun h=>by
 have h2:(l.take (m+1)).Nodup:=h.sublist (List.take_sublist _ _)
 exact ((Bh2 hm).1 h2).2 k (by omega) hk e
theorem Xt (x:Wd) (i:Nat) (q:Int) (gl wl:List Int) (pay fee:Int) :
 ((inB q x.at_.length=false∨(gl++wl).all (fun k=>inB k x.wher.length)=false)∧Ca x i q gl wl pay fee=(x,3)) ∨
 ∃(k:Nat) (gs ws:List Nat),q=k∧gl=gs.map (fun (k:Nat)=>(k:Int))∧wl=ws.map (fun (k:Nat)=>(k:Int))∧k<x.at_.length∧(∀n∈gs,n<x.wher.length)∧(∀n∈ws,n<x.wher.length) ∧
  ((k=i∧Ca x i q gl wl pay fee=(x,12)) ∨
   (¬k=i ∧
    ((¬Ah x i=Ah x k∧Ca x i q gl wl pay fee=(x,5)) ∨
     (Ah x i=Ah x k ∧
      ((¬(gs++ws).Nodup∧Ca x i q gl wl pay fee=(x,13)) ∨
       ((gs++ws).Nodup ∧
        (((hasB x i gs&&hasB x k ws)=false∧Ca x i q gl wl pay fee=(x,5)) ∨
         ((hasB x i gs&&hasB x k ws)=true ∧
          (((roomI (trN x i k gs ws) ⟨1,(i:Int)⟩<0∨roomI (trN x i k gs ws) ⟨1,(k:Int)⟩<0)∧Ca x i q gl wl pay fee=(x,9)) ∨
           (¬(roomI (trN x i k gs ws) ⟨1,(i:Int)⟩<0∨roomI (trN x i k gs ws) ⟨1,(k:Int)⟩<0) ∧
            ((¬Cg (Al x i) (Al x k) pay fee=0∧Ca x i q gl wl pay fee=(x,Cg (Al x i) (Al x k) pay fee)) ∨
             (Cg (Al x i) (Al x k) pay fee=0∧Ca x i q gl wl pay fee=(trW x i k gs ws (Al x i-pay+fee) (Al x k-fee+pay),0))))))))))))):=by
 by_cases h1:inB q x.at_.length=false
 ·exact .inl ⟨.inl h1,by unfold Ca;rw [if_pos h1]⟩
 by_cases h2:(gl++wl).all (fun k=>inB k x.wher.length)=false
 ·exact .inl ⟨.inr h2,by unfold Ca;rw [if_neg h1,if_pos h2]⟩
 right
 have h2':=h2
 rw [Bool.not_eq_false,List.all_append,Bool.and_eq_true] at h2'
 obtain ⟨gs,rfl,hg⟩:=Zl h2'.1
 obtain ⟨ws,rfl,hw⟩:=Zl h2'.2
 have h1':=h1
 rw [Bool.not_eq_false,Bi] at h1'
 obtain ⟨k,rfl⟩:∃k:Nat,q=k:=⟨q.toNat,by omega⟩
 refine ⟨k,gs,ws,rfl,rfl,rfl,by omega,hg,hw,?_⟩
 unfold Ca
 rw [if_neg h1,if_neg h2]
 simp only [Int.toNat_natCast,Bm3,Int.ofNat_inj]
 by_cases h3:k=i
 ·exact .inl ⟨h3,by rw [if_pos h3]⟩
 refine .inr ⟨h3,?_⟩
 rw [if_neg h3]
 by_cases h4:Ah x i=Ah x k
 ·refine .inr ⟨h4,?_⟩
  rw [if_neg (fun h=>h h4)]
  rw [←List.map_append]
  simp only [Yw]
  by_cases h5:(gs++ws).Nodup
  ·refine .inr ⟨h5,?_⟩
   rw [if_neg (fun h=>h h5)]
   by_cases h6:hasB x i gs=false∨hasB x k ws=false
   ·exact .inl ⟨by rw [Bool.and_eq_false_iff];exact h6,by rw [if_pos h6]⟩
   ·refine .inr ⟨by simpa [not_or] using h6,?_⟩
    rw [if_neg h6]
    by_cases h7:roomI (trN x i k gs ws) ⟨1,(i:Int)⟩<0∨roomI (trN x i k gs ws) ⟨1,(k:Int)⟩<0
    ·exact .inl ⟨h7,by rw [if_pos h7]⟩
    ·refine .inr ⟨h7,?_⟩
     rw [if_neg h7]
     by_cases h8:Cg (Al x i) (Al x k) pay fee=0
     ·refine .inr ⟨h8,?_⟩
      rw [if_neg (fun h=>h h8)]
      unfold Dx Dw
      rw [if_pos h8,if_pos h8]
     ·exact .inl ⟨h8,by rw [if_pos h8]⟩
  ·exact .inl ⟨h5,by rw [if_pos h5]⟩
 ·exact .inl ⟨h4,by rw [if_pos h4]⟩
theorem Am8 (x:Wd) (i:Nat) (q:Int) (gl wl:List Int) (pay fee:Int):Am x (Ca x i q gl wl pay fee).1:=by
 unfold Ca
 repeat' split
 all_goals first|exact Am.refl x|exact Dp2 _ _ _ _ _ _ _
theorem Zy (x:Wd) (i:Nat) (item q:Int) :
 ((inB item x.wher.length=false∨inB q x.at_.length=false)∧Jg x i item q=(x,3)) ∨
 ∃k c:Nat,item=k∧q=c∧k<x.wher.length∧c<x.at_.length ∧
  ((c=i∧Jg x i item q=(x,12)) ∨
   (¬c=i ∧
    (((¬Ah x i=Ah x c∨¬plOf x.wher k=⟨1,(i:Int)⟩)∧Jg x i item q=(x,5)) ∨
     ((Ah x i=Ah x c∧plOf x.wher k=⟨1,(i:Int)⟩) ∧
      ((roomI x ⟨1,(c:Int)⟩=0∧Jg x i item q=(x,9))∨(¬roomI x ⟨1,(c:Int)⟩=0∧Jg x i item q=(putW x k ⟨1,(c:Int)⟩,0))))))):=by
 unfold Jg
 by_cases h1:inB item x.wher.length=false∨inB q x.at_.length=false
 ·exact .inl ⟨h1,by rw [if_pos h1]⟩
 right
 rw [if_neg h1]
 simp only [not_or,Bool.not_eq_false,Bi] at h1
 refine ⟨item.toNat,q.toNat,by omega,by omega,by omega,by omega,?_⟩
 by_cases h2:q=i
 ·exact .inl ⟨by omega,by rw [if_pos h2]⟩
 refine .inr ⟨by omega,?_⟩
 rw [if_neg h2]
 by_cases h3:¬Ah x i=Ah x q.toNat∨¬plOf x.wher item.toNat=⟨1,(i:Int)⟩
 ·exact .inl ⟨h3,by rw [if_pos h3]⟩
 refine .inr ⟨by simpa [not_or] using h3,?_⟩
 rw [if_neg h3]
 by_cases h4:roomI x ⟨1,(q.toNat:Int)⟩=0
 ·exact .inl ⟨h4,by rw [if_pos h4]⟩
 ·exact .inr ⟨h4,by rw [if_neg h4]⟩
theorem Bs0 (x:Wd) (i:Nat) (item q:Int):Am x (Jg x i item q).1:=by
 unfold Jg
 repeat' split
 all_goals first|exact Am.refl x|exact Db _ _ _
theorem Bc7 {x:Wd} (hx:Ai x=true) {i k:Nat} (hi:i<x.at_.length) (hk:k<x.at_.length) :
 (Ca x i k [] [] 0 0).1=x∧((Ca x i k [] [] 0 0).2=0↔¬i=k∧Ah x i=Ah x k):=by
 have hl:=Aj hx
 have hin:=Fb hx
 have li:i<x.coins.length:=by rw [hl.2.2.1];exact hi
 have lq:k<x.coins.length:=by rw [hl.2.2.1];exact hk
 have hci:Al x i=x.coins[i]:=by simp [Al,List.getD,List.getElem?_eq_getElem li]
 have hcq:Al x k=x.coins[k]:=by simp [Al,List.getD,List.getElem?_eq_getElem lq]
 have bi:=hin.2.1 _ (List.getElem_mem li)
 have bq:=hin.2.1 _ (List.getElem_mem lq)
 have hz:Cg (Al x i) (Al x k) 0 0=0:=Ad2.2 (by omega)
 have n1:=Hz hx (f:=⟨1,(i:Int)⟩) (by simp)
 have n2:=Hz hx (f:=⟨1,(k:Int)⟩) (by simp)
 have eW:trW x i k [] [] (Al x i-0+0) (Al x k-0+0)=x:=by
  show Wd.mk x.d x.at_ ((x.coins.set i _).set k _) x.wher=x
  rw [show Al x i-0+0=x.coins[i] by omega,show Al x k-0+0=x.coins[k] by omega,List.set_getElem_self,List.set_getElem_self]
 rcases Xt x i (k:Int) [] [] 0 0 with ⟨h1,e⟩|⟨k',gs,ws,h1,h2,h3,-,-,-,hr⟩
 ·exfalso
  rcases h1 with h1|h1
  ·simp [inB,hk] at h1
  ·simp at h1
 obtain rfl:k=k':=by omega
 obtain rfl:gs=[]:=by simpa using h2.symm
 obtain rfl:ws=[]:=by simpa using h3.symm
 have hN:trN x i k [] []=x:=rfl
 rw [hN] at hr
 rcases hr with ⟨h,e⟩|⟨h,⟨h4,e⟩|⟨h4,⟨h5,e⟩|⟨h5,⟨h6,e⟩|⟨h6,⟨h7,e⟩|⟨h7,⟨h8,e⟩|⟨h8,e⟩⟩⟩⟩⟩⟩
 ·rw [e];exact ⟨rfl,by simp;omega⟩
 ·rw [e];exact ⟨rfl,by simp;intro _;exact h4⟩
 ·exact absurd (by simp) h5
 ·simp [hasB] at h6
 ·omega
 ·exact absurd hz h8
 ·rw [e];exact ⟨eW,by simp;exact ⟨fun h9=>h h9.symm,h4⟩⟩
theorem Eu7 {x:Wd} (hx:Ai x=true) {i k:Nat} (hi:i<x.at_.length) (hk:k<x.at_.length) (hne:¬i=k) (hr:Ah x i=Ah x k) (pay:Int) (hp:0≤pay) :
 Ca x i k [] [] pay 0=if Al x i<pay then (x,10) else if 1073741824<Al x k+pay then (x,11) else (trW x i k [] [] (Al x i-pay) (Al x k+pay),0):=by
 have hl:=Aj hx
 have hin:=Fb hx
 have li:i<x.coins.length:=by rw [hl.2.2.1];exact hi
 have lq:k<x.coins.length:=by rw [hl.2.2.1];exact hk
 have hci:Al x i=x.coins[i]:=by simp [Al,List.getD,List.getElem?_eq_getElem li]
 have hcq:Al x k=x.coins[k]:=by simp [Al,List.getD,List.getElem?_eq_getElem lq]
 have bi:=hin.2.1 _ (List.getElem_mem li)
 have bq:=hin.2.1 _ (List.getElem_mem lq)
 rw [←hci] at bi
 rw [←hcq] at bq
 have n1:=Hz hx (f:=⟨1,(i:Int)⟩) (by simp)
 have n2:=Hz hx (f:=⟨1,(k:Int)⟩) (by simp)
 have hE:Cg (Al x i) (Al x k) pay 0=if Al x i<pay then 10 else if 1073741824<Al x k+pay then 11 else 0:=by
  unfold Cg
  rw [if_neg (by omega)]
  by_cases h1:Al x i<pay
  ·rw [if_pos (.inl h1),if_pos h1]
  ·rw [if_neg (by omega),if_neg h1]
   by_cases h2:1073741824<Al x k+pay
   ·rw [if_neg (by omega),if_pos h2]
   ·rw [if_pos (by omega),if_neg h2]
 rcases Xt x i (k:Int) [] [] pay 0 with ⟨h1,e⟩|⟨k',gs,ws,h1,h2,h3,-,-,-,hq⟩
 ·exfalso
  rcases h1 with h1|h1
  ·simp [inB,hk] at h1
  ·simp at h1
 obtain rfl:k=k':=by omega
 obtain rfl:gs=[]:=by simpa using h2.symm
 obtain rfl:ws=[]:=by simpa using h3.symm
 have hN:trN x i k [] []=x:=rfl
 rw [hN,hE] at hq
 rcases hq with ⟨h,e⟩|⟨h,⟨h4,e⟩|⟨h4,⟨h5,e⟩|⟨h5,⟨h6,e⟩|⟨h6,⟨h7,e⟩|⟨h7,⟨h8,e⟩|⟨h8,e⟩⟩⟩⟩⟩⟩
 ·exact absurd h.symm hne
 ·exact absurd hr h4
 ·exact absurd (by simp) h5
 ·simp [hasB] at h6
 ·omega
 ·rw [e]
  by_cases g1:Al x i<pay
  ·rw [if_pos g1,if_pos g1]
  ·rw [if_neg g1,if_neg g1] at *
   by_cases g2:1073741824<Al x k+pay
   ·rw [if_pos g2,if_pos g2]
   ·rw [if_neg g2] at h8;exact absurd rfl h8
 ·rw [e]
  by_cases g1:Al x i<pay
  ·rw [if_pos g1] at h8;exact absurd h8 (by decide)
  ·rw [if_neg g1] at h8 ⊢
   by_cases g2:1073741824<Al x k+pay
   ·rw [if_pos g2] at h8;exact absurd h8 (by decide)
   ·rw [if_neg g2,show Al x k-0+pay=Al x k+pay by omega,show Al x i-pay+0=Al x i-pay by omega]
end
section
theorem Do8 {x:Wd} {i q:Nat} {gs ws:List Nat} (hne:¬q=i) (hg:∀k∈gs,k<x.wher.length∧plOf x.wher k=⟨1,(i:Int)⟩) (hw:∀k∈ws,k<x.wher.length∧plOf x.wher k=⟨1,(q:Int)⟩) (hnd:(gs++ws).Nodup) :
 roomI (trN x i q gs ws) ⟨1,(i:Int)⟩=roomI x ⟨1,(i:Int)⟩-((ws.length:Int)-gs.length)∧roomI (trN x i q gs ws) ⟨1,(q:Int)⟩=roomI x ⟨1,(q:Int)⟩+((ws.length:Int)-gs.length):=by
 rw [List.nodup_append] at hnd
 have n1:¬(⟨1,(i:Int)⟩:Pl)=⟨1,(q:Int)⟩:=by simp only [Pl.mk.injEq,true_and];omega
 have n2:¬(⟨1,(q:Int)⟩:Pl)=⟨1,(i:Int)⟩:=fun e=>n1 e.symm
 obtain ⟨a1,a2⟩:=Ab4 n1 gs x.wher hnd.1 hg
 obtain ⟨b1,b2⟩:=Ab4 n2 ws (setL x.wher gs ⟨1,(q:Int)⟩) hnd.2.1 (fun k hk=>by
  refine ⟨by simpa using (hw k hk).1,?_⟩
  rw [An4 _ _ _ k (hw k hk).1]
  split
  ·rfl
  ·exact (hw k hk).2)
 unfold roomI
 show (Cb x.d 1-(((trP x.wher i q gs ws).count ⟨1,(i:Int)⟩:Nat):Int))=_∧(Cb x.d 1-(((trP x.wher i q gs ws).count ⟨1,(q:Int)⟩:Nat):Int))=_
 unfold trP
 show _=Cb x.d 1-_-_∧_=Cb x.d 1-_+_
 omega
def Tj (x:Wd) (i:Nat) (q:Int) (gl wl:List Int):Int :=
 if inB q x.at_.length=false∨(gl++wl).all (fun k=>inB k x.wher.length)=false then 3 else if q=i then 12 else if Ah x i=Ah x q.toNat then 0 else 5
def Xe (x:Wd) (i q:Nat) (gs ws:List Nat):Int :=
 if ¬(gs++ws).Nodup then 13 else if (hasB x i gs&&hasB x q ws)=false then 5 else if roomI x ⟨1,(i:Int)⟩<(ws.length:Int)-gs.length∨roomI x ⟨1,(q:Int)⟩ < -((ws.length:Int)-gs.length) then 9 else 0
theorem Dp1 (x:Wd) (i:Nat) (q:Int) (gl wl:List Int) (pay fee:Int) :
 (¬Tj x i q gl wl=0∧Ca x i q gl wl pay fee=(x,Tj x i q gl wl)) ∨
 ∃(k:Nat) (gs ws:List Nat),q=k∧gl=gs.map (fun (k:Nat)=>(k:Int))∧wl=ws.map (fun (k:Nat)=>(k:Int))∧k<x.at_.length∧(∀n∈gs,n<x.wher.length)∧(∀n∈ws,n<x.wher.length)∧¬k=i∧Tj x i q gl wl=0 ∧
  ((¬Xe x i k gs ws=0∧Ca x i q gl wl pay fee=(x,Xe x i k gs ws)) ∨
   (Xe x i k gs ws=0 ∧
    ((¬Cg (Al x i) (Al x k) pay fee=0∧Ca x i q gl wl pay fee=(x,Cg (Al x i) (Al x k) pay fee)) ∨
     (Cg (Al x i) (Al x k) pay fee=0∧Ca x i q gl wl pay fee=(trW x i k gs ws (Al x i-pay+fee) (Al x k-fee+pay),0))))):=by
 rcases Xt x i q gl wl pay fee with ⟨h1,e⟩|⟨k,gs,ws,rfl,rfl,rfl,hk,hg,hw,hr⟩
 ·left
  have:Tj x i q gl wl=3:=by unfold Tj;rw [if_pos h1]
  rw [this,e]
  exact ⟨by decide,rfl⟩
 have h3:¬(inB (k:Int) x.at_.length=false∨((gs.map fun (k:Nat)=>(k:Int))++ws.map fun (k:Nat)=>(k:Int)).all (fun k=>inB k x.wher.length)=false):=by
  rw [←List.map_append]
  simp only [not_or,Bool.not_eq_false,List.all_map,List.all_eq_true,Function.comp_apply,Bi]
  refine ⟨by omega,fun n hn=>?_⟩
  rcases List.mem_append.1 hn with hn|hn
  ·have:=hg n hn;omega
  ·have:=hw n hn;omega
 rcases hr with ⟨h,e⟩|⟨h,hr⟩
 ·left
  have:Tj x i k (gs.map fun (k:Nat)=>(k:Int)) (ws.map fun (k:Nat)=>(k:Int))=12:=by unfold Tj;rw [if_neg h3,if_pos (by omega)]
  rw [this,e]
  exact ⟨by decide,rfl⟩
 rcases hr with ⟨h4,e⟩|⟨h4,hr⟩
 ·left
  have:Tj x i k (gs.map fun (k:Nat)=>(k:Int)) (ws.map fun (k:Nat)=>(k:Int))=5:=by unfold Tj;rw [if_neg h3,if_neg (by omega),if_neg (by simpa using h4)]
  rw [this,e]
  exact ⟨by decide,rfl⟩
 right
 refine ⟨k,gs,ws,rfl,rfl,rfl,hk,hg,hw,h,by unfold Tj;rw [if_neg h3,if_neg (by omega),if_pos (by simpa using h4)],?_⟩
 rcases hr with ⟨h5,e⟩|⟨h5,hr⟩
 ·left
  have:Xe x i k gs ws=13:=by unfold Xe;rw [if_pos h5]
  rw [this,e]
  exact ⟨by decide,rfl⟩
 rcases hr with ⟨h6,e⟩|⟨h6,hr⟩
 ·left
  have:Xe x i k gs ws=5:=by unfold Xe;rw [if_neg (fun h=>h h5),if_pos h6]
  rw [this,e]
  exact ⟨by decide,rfl⟩
 have h6':=h6
 rw [Bool.and_eq_true] at h6'
 simp only [hasB,List.all_eq_true,decide_eq_true_eq] at h6'
 obtain ⟨r1,r2⟩:=Do8 h (fun n hn=>⟨hg n hn,h6'.1 n hn⟩) (fun n hn=>⟨hw n hn,h6'.2 n hn⟩) h5
 rw [r1,r2] at hr
 have h6n:¬(hasB x i gs&&hasB x k ws)=false:=by rw [h6];decide
 rcases hr with ⟨h7,e⟩|⟨h7,hr⟩
 ·left
  have:Xe x i k gs ws=9:=by unfold Xe;rw [if_neg (fun h=>h h5),if_neg h6n,if_pos (by omega)]
  rw [this,e]
  exact ⟨by decide,rfl⟩
 right
 exact ⟨by unfold Xe;rw [if_neg (fun h=>h h5),if_neg h6n,if_neg (by omega)],hr⟩
end
end Go.Proofs.YtnhkojpbbdaedaaGreat
