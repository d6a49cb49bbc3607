/- Slices of integers that come in, opened once for all; rotations of lists and their sums. Over whatever program. -/
import Derived.Test.YtnhkojpbbdaedaaKit
import Derived.WalkKit
import Derived.OpenShut
namespace Go.Proofs.Ytnhkojpbbdaedaa
open Go.ChangeShapes Go.WideShapes Go.ChangeAt Go.RowKit
section
variable {H:Type} {enc:TypeId × Value→H} {P:Program}
theorem Cv5 {W:World} {t e:TypeId} {k:IntKind} {base:Nat} {v:Value} {d:DataW H} {ps:List MemPlace} (ht:P.underlying t=some (.slice e)) (he:P.underlying e=some (.int k)) (hc:P.cellsOf e=1)
 (hv:Value.okWide P W .any base t v) (h:DataW.Trod enc P W 0 (fun _=>true) true t v d ps) :
 ∃(a:Option Addr) (cap:Nat) (xs:List Int),v=.slice a xs.length cap∧xs.length≤maxLen∧(∀n∈xs,(Lit.int k n).wf=true) ∧
  (xs=[]∨∃b off,a=some ⟨b,off,none⟩∧b<W.heap.size∧∀i (hi:i<xs.length),W.cell? ⟨b,off+i,none⟩=some (.int k xs[i])):=by
 obtain ⟨a0,len,cap,rfl⟩:=okWide_slice ht hv
 obtain ⟨fuel,hf⟩:=h
 rcases open_ints ht he hc hf with ⟨hcs,hx⟩|⟨a,len',cap',zs,hcs,_,hl,hm,hz,hx,hcell,hwz⟩
 ·simp [Value.cells] at hcs
  obtain ⟨rfl,rfl,rfl⟩:=hcs
  exact ⟨none,0,[],rfl,by simp,by simp,.inl rfl⟩
 ·simp [Value.cells] at hcs
  obtain ⟨rfl,rfl,rfl⟩:=hcs
  simp only [if_true] at hz
  have hlen:(zs.take len).length=len:=by simp;omega
  refine ⟨some a,cap,zs.take len,by rw [hlen],by omega,fun n hn=>hwz n (List.mem_of_mem_take hn),?_⟩
  by_cases h0:len=0
  ·left;subst h0;simp
  ·right
   obtain ⟨b,off,spot⟩:=a
   have h1:=hcell 0 (by omega)
   have hspot:spot=none:=by simpa [Addr.add] using World.cell?_spot h1
   subst hspot
   refine ⟨b,off,rfl,?_,fun i hi=>?_⟩
   ·apply Decidable.byContradiction;intro hb
    have e2:W.heap[b]?=none:=by simp;omega
    simp [World.cell?,Addr.add,e2] at h1
   ·have:=hcell i (by omega)
    rw [List.getElem_take]
    have ea:((⟨b,off,none⟩:Addr).add i)=⟨b,off+i,none⟩:=by
     by_cases hi0:i=0<;>simp [Addr.add,hi0]
    rw [ea] at this
    simpa [List.getD,List.getElem?_eq_getElem (show i<zs.length by omega)] using this
end
def rot (xs:List Int) (t k:Nat):List Int:=(List.range k).map fun i=>xs.getD ((i+t)%xs.length) 0
theorem Gn2 (xs:List Int) (t k:Nat):rot xs t (k+1)=rot xs t k++[xs.getD ((k+t)%xs.length) 0]:=by
 unfold rot;rw [List.range_succ,List.map_append];rfl
theorem Cz8 (xs:List Int) (t k:Nat):(rot xs t k).length=k:=by simp [rot]
theorem Cr5 (g:Nat→Int) (n:Nat):((List.range n).map fun i=>g (i+1)).sum+g 0=((List.range n).map g).sum+g n:=by
 induction n with
 | zero=>simp
 | succ n ih=>rw [List.range_succ,List.map_append,List.map_append,List.sum_append,List.sum_append];simp;omega
theorem Ea0 (xs:List Int) (t:Nat) (_h:0<xs.length):(rot xs (t+1) xs.length).sum=(rot xs t xs.length).sum:=by
 have:=Cr5 (fun i=>xs.getD ((i+t)%xs.length) 0) xs.length
 have e:(xs.length+t)%xs.length=(0+t)%xs.length:=by rw [Nat.zero_add,Nat.add_mod_left]
 simp only [e] at this
 have e2:(fun i=>xs.getD ((i+1+t)%xs.length) 0)=(fun i=>xs.getD ((i+(t+1))%xs.length) 0):=by
  funext i;rw [show i+1+t=i+(t+1) by omega]
 rw [e2] at this
 unfold rot
 omega
theorem Gn1 (xs:List Int):rot xs 0 xs.length=xs:=by
 apply List.ext_getElem
 ·simp [rot]
 ·intro i h1 h2
  simp [rot,Nat.mod_eq_of_lt h2,h2]
theorem Gh3 (xs:List Int) (t:Nat):(rot xs t xs.length).sum=xs.sum:=by
 by_cases h:0<xs.length
 ·induction t with
  | zero=>rw [Gn1]
  | succ t ih=>rw [Ea0 xs t h,ih]
 ·have:xs=[]:=List.eq_nil_of_length_eq_zero (by omega)
  subst this;simp [rot]
end Go.Proofs.Ytnhkojpbbdaedaa
