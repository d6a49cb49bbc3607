/- Lists of locks, as plain data. Over whatever program. -/
import Derived.Test.YtchmbmkdceaboaaGMem
namespace Go.Proofs.Ytchmbmkdceaboaa
open Go.ChangeShapes Go.WideShapes Go.ChangeAt Go.RowKit
set_option linter.unusedVariables false
open Go.RowKit
def mplB (n:Nat) (p:Int):Bool:=decide (0≤p)&&decide (p<n)
def Dt6 (l:List Int) (p:Int):Int:=l.getD p.toNat 0
def Vg (l:List Int) (p:Int):Bool:=mplB l.length p&&Dt6 l p==0
def mhasB (l:List Int) (p s:Int):Bool:=mplB l.length p&&Dt6 l p==s+1
def Yy (l:List Int) (p:Int):Bool:=mplB l.length p&&decide (0<Dt6 l p)
def mtakeL (l:List Int) (p s:Int):List Int:=if Vg l p then l.set p.toNat (s+1) else l
def Zb (l:List Int) (p s:Int):List Int:=if mhasB l p s then l.set p.toNat 0 else l
def mownN (l:List Int) (s:Int) (k:Nat):List Int:=((List.range k).filter fun i=>l.getD i 0==s+1).map fun (i:Nat)=>(i:Int)
def Yj (l:List Int):Prop:=l.length≤100∧∀x∈l,0≤x∧x≤9223372036854775807
theorem Cf5 (l:List Int) (p s:Int):(mtakeL l p s).length=l.length:=by unfold mtakeL;split<;>simp
theorem Ci1 (l:List Int) (p s:Int):(Zb l p s).length=l.length:=by unfold Zb;split<;>simp
theorem Ea9 {n:Nat} {p:Int} (h:mplB n p=true):∃k:Nat,p=k∧k<n:=by
 simp [mplB] at h;exact ⟨p.toNat,by omega,by omega⟩
theorem Al6 {n k:Nat} (h:k<n):mplB n (k:Int)=true:=by simp [mplB];omega
theorem Ju {l:List Int} {k:Nat} (h:k<l.length):Dt6 l (k:Int)=l[k]:=by simp [Dt6,h]
theorem Ew2 {l:List Int} {s:Int} {k:Nat} (h:k<l.length):mownN l s (k+1)=if l[k]=s+1 then mownN l s k++[(k:Int)] else mownN l s k:=by
 unfold mownN
 have hg:(l.getD k 0==s+1)=decide (l[k]=s+1):=by simp [List.getD,h];rfl
 rw [List.range_succ,List.filter_append,List.map_append,List.filter_cons,hg]
 by_cases he:l[k]=s+1<;>simp [he]
theorem Dc2 (l:List Int) (s:Int) (k:Nat):(mownN l s k).length≤k:=by
 unfold mownN;rw [List.length_map];exact Nat.le_trans (List.length_filter_le _ _) (by simp)
theorem Cf8 {l:List Int} (h:Yj l) (k:Nat) {x:Int} (h0:0≤x) (h1:x≤9223372036854775807):Yj (l.set k x):=by
 refine ⟨by simpa using h.1,fun y hy=>?_⟩
 rcases List.mem_or_eq_of_mem_set hy with h2|h2
 ·exact h.2 y h2
 ·rw [h2];exact ⟨h0,h1⟩
theorem takeL_locks {l:List Int} (h:Yj l) (p:Int) {s:Int} (h0:0≤s) (h1:s≤1073741824):Yj (mtakeL l p s):=by
 unfold mtakeL;split
 ·exact Cf8 h _ (by omega) (by omega)
 ·exact h
theorem giveL_locks {l:List Int} (h:Yj l) (p s:Int):Yj (Zb l p s):=by
 unfold Zb;split
 ·exact Cf8 h _ (by omega) (by omega)
 ·exact h
theorem Gr7 {l:List Int} {s:Int} {p:Nat} (hp:p<l.length) (hn:l[p]≠s+1) (k:Nat) (hk:k≤l.length):(mownN (l.set p (s+1)) s k).length=(mownN l s k).length+if p<k then 1 else 0:=by
 induction k with
 | zero=>simp [mownN]
 | succ k ih =>
   have hk2:k<l.length:=by omega
   rw [Ew2 (show k<(l.set p (s+1)).length by simpa using hk2),Ew2 hk2,List.getElem_set]
   by_cases he:p=k
   ·subst he
    have hi:=ih (by omega)
    simp only [Nat.lt_irrefl,if_false,Nat.add_zero] at hi
    simp [hi,hn]
   ·have hi:=ih (by omega)
    rw [if_neg he]
    have e1:(p<k+1)=(p<k):=by simp;omega
    simp only [e1]
    split<;>simp [hi]<;>omega
end Go.Proofs.Ytchmbmkdceaboaa
