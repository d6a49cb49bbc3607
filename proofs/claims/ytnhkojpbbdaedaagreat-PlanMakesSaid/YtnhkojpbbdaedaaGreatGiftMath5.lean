/- What was given can be given back; what is refused stays. -/
import Derived.Test.YtnhkojpbbdaedaaGreatGiftMath3
namespace Go.Proofs.YtnhkojpbbdaedaaGreat
open Go.ChangeShapes Go.WideShapes Go.ChangeAt Go.RowKit
set_option linter.unusedVariables false
open Go.RowKit
theorem De1 {x y:Wd} (hx:Ai x=true) {i:Nat} (hi:i<x.at_.length) {item q:Int} (h:Jg x i item q=(y,0)) :
 ∃n k:Nat,item=n∧q=k∧n<x.wher.length∧k<x.at_.length∧Am x y∧Ai y=true∧Jg y k n i=(x,0)∧k<y.at_.length∧putAll x y [n]=y:=by
 rcases Zy x i item q with ⟨_,e⟩|⟨n,k,rfl,rfl,hn,hk,hr⟩
 ·rw [e] at h;simp at h
 rcases hr with ⟨_,e⟩|⟨hne,⟨_,e⟩|⟨⟨hroom,hpl⟩,⟨_,e⟩|⟨hf,e⟩⟩⟩
 ·rw [e] at h;simp at h
 ·rw [e] at h;simp at h
 ·rw [e] at h;simp at h
 rw [e] at h
 simp only [Prod.mk.injEq,and_true] at h
 subst h
 have hfg:¬(⟨1,(k:Int)⟩:Pl)=⟨1,(i:Int)⟩:=by simp only [Pl.mk.injEq,true_and];omega
 have n1:=Hz hx (f:=⟨1,(k:Int)⟩) (by simp)
 have n2:=Hz hx (f:=⟨1,(i:Int)⟩) (by simp)
 have hp:=Wz hn hpl hfg
 have e1:plOf (putW x n ⟨1,(k:Int)⟩).wher n=⟨1,(k:Int)⟩:=by show plOf (x.wher.set n _) n=_;rw [Dk hn,if_pos rfl]
 refine ⟨n,k,rfl,rfl,hn,hk,Db _ _ _,Ru hx hn (by simp) (Jt hx hk) (by omega),?_,hk,?_⟩
 ·rcases Zy (putW x n ⟨1,(k:Int)⟩) k n i with ⟨h1,_⟩|⟨n',i',en,ei,hn',hi',hr⟩
  ·exfalso
   rcases h1 with h1|h1
   ·rw [Bool.eq_false_iff] at h1;exact h1 ((Bi _ _).2 (by show 0≤(n:Int)∧(n:Int)<((x.wher.set n _).length:Int);rw [List.length_set];omega))
   ·rw [Bool.eq_false_iff] at h1;exact h1 ((Bi _ _).2 (by show 0≤(i:Int)∧(i:Int)<(x.at_.length:Int);omega))
  obtain rfl:n=n':=by omega
  obtain rfl:i=i':=by omega
  rcases hr with ⟨h1,_⟩|⟨_,⟨h1,_⟩|⟨_,⟨h1,_⟩|⟨_,e2⟩⟩⟩
  ·exact absurd h1.symm hne
  ·exfalso
   rcases h1 with h1|h1
   ·exact h1 hroom.symm
   ·exact h1 e1
  ·omega
  ·rw [e2,Zw,Zv hn hpl]
 ·show putW x n (plOf (putW x n ⟨1,(k:Int)⟩).wher n)=_
  rw [e1]
theorem Aq2 {x y:Wd} {i:Nat} {item q e:Int} (h:Jg x i item q=(y,e)) (he:¬e=0):y=x:=by
 rcases Zy x i item q with ⟨_,e1⟩|⟨n,k,rfl,rfl,hn,hk,hr⟩
 ·rw [e1] at h;exact (congrArg Prod.fst h).symm
 rcases hr with ⟨_,e1⟩|⟨hne,⟨_,e1⟩|⟨⟨hroom,hpl⟩,⟨_,e1⟩|⟨hf,e1⟩⟩⟩
 ·rw [e1] at h;exact (congrArg Prod.fst h).symm
 ·rw [e1] at h;exact (congrArg Prod.fst h).symm
 ·rw [e1] at h;exact (congrArg Prod.fst h).symm
 ·rw [e1] at h;exact absurd (congrArg Prod.snd h).symm he
theorem Az8 {x y:Wd} (hx:Ai x=true) {i:Nat} (hi:i<x.at_.length) {q:Int} {gl wl:List Int} {pay fee:Int} (h:Ca x i q gl wl pay fee=(y,0)) :
 ∃(k:Nat) (gs ws:List Nat),q=k∧gl=gs.map (fun (k:Nat)=>(k:Int))∧wl=ws.map (fun (k:Nat)=>(k:Int))∧Ou x i k gs ws pay fee∧y=trW x i k gs ws (Al x i-pay+fee) (Al x k-fee+pay)∧Ai y=true ∧
  y.coins.sum=x.coins.sum∧Ca y k i gl wl pay fee=(x,0)∧Al y i=Al x i-pay+fee∧(∀n,¬n=i→¬n=k→Al y n=Al x n)∧k<x.at_.length ∧
  putAll x ⟨y.d,y.at_,x.coins,y.wher⟩ (gs++ws)=⟨y.d,y.at_,x.coins,y.wher⟩∧(∀n∈gs++ws,n<x.wher.length):=by
 obtain ⟨k,gs,ws,rfl,rfl,rfl,T⟩:=Do9 hi (by rw [h])
 have e:=T.eq
 rw [h] at e
 simp only [Prod.mk.injEq,and_true] at e
 have hin:=Fb hx
 have hl:=Aj hx
 have li:i<x.coins.length:=by rw [hl.2.2.1];exact hi
 have lq:k<x.coins.length:=by rw [hl.2.2.1];exact T.ltq
 have hci:Al x i=x.coins[i]:=by simp [Al,List.getD,List.getElem?_eq_getElem li]
 have hcq:Al x k=x.coins[k]:=by simp [Al,List.getD,List.getElem?_eq_getElem lq]
 have bi:=hin.2.1 _ (List.getElem_mem li)
 have bq:=hin.2.1 _ (List.getElem_mem lq)
 rw [←hci] at bi
 rw [←hcq] at bq
 have h1:=T.p0;have h2:=T.f0;have h3:=T.pa;have h4:=T.fb;have h5:=T.ma;have h6:=T.mb
 obtain ⟨T2,e2,e3,e4⟩:=T.back hx
 refine ⟨k,gs,ws,rfl,rfl,rfl,T,e,?_,?_,?_,?_,?_,T.ltq,?_,?_⟩
 ·rw [e];exact T.right hx (by omega) (by omega)
 ·rw [e];exact T.sum hx
 ·subst e
  have e5:=T2.eq
  rw [e5,e3,e4]
  have f1:Al x k-fee+pay-pay+fee=Al x k:=by omega
  have f2:Al x i-pay+fee-fee+pay=Al x i:=by omega
  rw [f1,f2,e2]
 ·rw [e];exact e3
 ·intro n hn hk
  rw [e]
  show ((x.coins.set i _).set k _).getD n 0=x.coins.getD n 0
  have g:∀(l:List Int) (j:Nat) (u:Int),¬n=j→(l.set j u).getD n 0=l.getD n 0:=fun l j u h=>by
   simp [List.getD,List.getElem?_set_ne (fun e=>h e.symm)]
  rw [g _ _ _ hk,g _ _ _ hn]
 ·rw [e]
  exact T.putAll
 ·intro n hn
  rcases List.mem_append.1 hn with hn|hn
  ·exact (T.ltg n hn).1
  ·exact (T.ltw n hn).1
theorem Aa5 {x y:Wd} {i:Nat} {q e:Int} {gl wl:List Int} {pay fee:Int} (h:Ca x i q gl wl pay fee=(y,e)) (he:¬e=0):y=x:=by
 have:=Au6 (x:=x) (i:=i) (q:=q) (gl:=gl) (wl:=wl) (pay:=pay) (fee:=fee) (by rw [h];exact he)
 rw [h] at this
 exact this
end Go.Proofs.YtnhkojpbbdaedaaGreat
