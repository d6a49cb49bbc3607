/- Versions, as plain data: one more, and one more. Over whatever program. -/
import Derived.Test.YtchmbmkdceaboaaSlices
import Derived.Test.YtchmbmkdceaboaaMutexMath
namespace Go.Proofs.Ytchmbmkdceaboaa
open Go.ChangeShapes Go.WideShapes Go.ChangeAt Go.RowKit
set_option linter.unusedVariables false
open Go.RowKit
def upV (l:List Int) (p:Int):List Int:=if mplB l.length p then l.set p.toNat (Dt6 l p+1) else l
def upsV (l us:List Int):List Int:=us.foldl upV l
theorem Ha2 (l:List Int) (p:Int):(upV l p).length=l.length:=by unfold upV;split<;>simp
theorem Fk8:∀(us l:List Int),(upsV l us).length=l.length
 | [],_=>rfl
 | u :: us,l=>(Fk8 us (upV l u)).trans (Ha2 l u)
theorem upsV_more (l:List Int) {us:List Int} {k:Nat} (h:k<us.length):upsV l (us.take (k+1))=upV (upsV l (us.take k)) us[k]:=by
 unfold upsV
 rw [List.take_succ_eq_append_getElem h,List.foldl_append];rfl
theorem upV_at (l:List Int) (p:Int) (k:Nat) (hk:k<l.length):(upV l p).getD k 0=l.getD k 0+if p=k then 1 else 0:=by
 unfold upV
 by_cases hp:mplB l.length p=true
 ·obtain ⟨m,rfl,hm⟩:=Ea9 hp
  rw [if_pos hp,Ju hm]
  by_cases e:m=k
  ·subst e;simp [List.getD,hm]
  ·have e2:¬(m:Int)=k:=by omega
   simp [List.getD,e,e2]
 ·have e2:¬p=k:=fun e=>hp (by rw [e];exact Al6 hk)
  rw [if_neg hp,if_neg e2];omega
theorem Gg8:∀(us l:List Int) (k:Nat),k<l.length→(upsV l us).getD k 0=l.getD k 0+(us.count (k:Int):Nat)
 | [],l,k,_=>by simp [upsV]
 | u :: us,l,k,hk=>by
   show (upsV (upV l u) us).getD k 0=_
   rw [Gg8 us _ k (by rw [Ha2];exact hk),upV_at l u k hk,List.count_cons]
   by_cases e:u=k
   ·simp [e];omega
   ·have e2:(u==(k:Int))=false:=by simpa using e
    simp [e,e2]
theorem upsV_same {l us vs:List Int} (h:∀k:Nat,us.count (k:Int)=vs.count (k:Int)):upsV l us=upsV l vs:=by
 apply List.ext_getElem (by rw [Fk8,Fk8])
 intro k h1 h2
 have hk:k<l.length:=by rwa [Fk8] at h1
 have e1:=Gg8 us l k hk
 have e2:=Gg8 vs l k hk
 rw [h k,←e2] at e1
 simpa [List.getD,h1,h2] using e1
theorem Hl8:∀(l:List Int) (i:Nat) (a:Int) (hi:i<l.length),(l.set i a).sum=l.sum-l[i]+a
 | [],i,a,hi=>by simp at hi
 | x :: l,0,a,_=>by simp;omega
 | x :: l,i+1,a,hi=>by
   have:=Hl8 l i a (by simpa using hi)
   simp only [List.set_cons_succ,List.sum_cons,List.getElem_cons_succ,this];omega
theorem upV_sum (l:List Int) (p:Int):(upV l p).sum=l.sum+if mplB l.length p then 1 else 0:=by
 unfold upV
 by_cases hp:mplB l.length p=true
 ·obtain ⟨m,rfl,hm⟩:=Ea9 hp
  rw [if_pos hp,if_pos hp,Ju hm,Int.toNat_natCast,Hl8 l m _ hm];omega
 ·rw [if_neg hp,if_neg hp];omega
theorem upsV_sum:∀(us l:List Int),(upsV l us).sum=l.sum+(us.countP (fun p=>mplB l.length p):Nat)
 | [],l=>by simp [upsV]
 | u :: us,l=>by
   show (upsV (upV l u) us).sum=_
   rw [upsV_sum us,upV_sum,Ha2,List.countP_cons]
   cases mplB l.length u<;>simp;omega
theorem upsV_grows (us l:List Int) (k:Nat) (hk:k<l.length):l.getD k 0≤(upsV l us).getD k 0∧(upsV l us).getD k 0≤l.getD k 0+us.length:=by
 have:=Gg8 us l k hk
 have h2:=List.count_le_length (a:=(k:Int)) (l:=us)
 omega
theorem Gy5 (xs:List Int) (a:Int):((xs.count a:Nat):Int)=(xs.map fun x=>if x=a then (1:Int) else 0).sum:=by
 induction xs with
 | nil=>rfl
 | cons x xs ih =>
   rw [List.count_cons,List.map_cons,List.sum_cons,←ih]
   by_cases e:x=a
   ·simp [e];omega
   ·have e2:(x==a)=false:=by simpa using e
    simp [e,e2]
theorem rot_count (xs:List Int) (t:Nat) (a:Int):(rot xs t xs.length).count a=xs.count a:=by
 have h1:=Gy5 (rot xs t xs.length) a
 have h2:=Gy5 xs a
 have e:(rot xs t xs.length).map (fun x=>if x=a then (1:Int) else 0)=rot (xs.map fun x=>if x=a then (1:Int) else 0) t (xs.map fun x=>if x=a then (1:Int) else 0).length:=by
  apply List.ext_getElem
  ·simp [rot]
  ·intro i h3 h4
   have hi:i<xs.length:=by simpa [rot] using h3
   have hm:(i+t)%xs.length<xs.length:=Nat.mod_lt _ (by omega)
   simp [rot,List.getD,hm]
 rw [e,Gh3] at h1
 omega
theorem calm_iff (v:Int) (n:Nat):(v=v+n∧v%2=0)↔(n=0∧v%2=0):=by constructor<;>rintro ⟨h1,h2⟩<;>exact ⟨by omega,h2⟩
end Go.Proofs.Ytchmbmkdceaboaa
