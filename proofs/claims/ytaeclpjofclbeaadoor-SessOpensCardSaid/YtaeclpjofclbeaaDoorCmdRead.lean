/- A command that was handed in: its fields, its lists. -/
import Derived.Test.YtaeclpjofclbeaaDoorGCmdN
namespace Go.Proofs.YtaeclpjofclbeaaDoor
open Go.ChangeShapes Go.WideShapes Go.ChangeAt Go.RowKit Go.Proofs.Tryd
set_option linter.unusedVariables false
open Go.RowKit Go.Deep Go.Joins
section
variable {H:Type} {enc:TypeId × Value→H} {P:Program}
theorem Ak2 {W:World} {t e:TypeId} {fuel:Nat} {v:Value} {x:DataW H × List MemPlace} (ht:P.underlying t=some (.slice e)) (he:P.underlying e=some (.int .i64)) (hc:P.cellsOf e=1)
 (hf:DataW.trod enc P W 0 (fun _=>true) true fuel t [v]=some x) :
 ∃(a:Option Addr) (cap:Nat) (xs:List Int),v=.slice a xs.length cap∧Ae W a xs∧(∀n∈xs,(Lit.int .i64 n).wf=true):=by
 rcases open_ints ht he hc hf with ⟨hcs,hx⟩|⟨a,len',cap',zs,hcs,_,hl,hm,hz,hx,hcell,hwz⟩
 ·simp at hcs
  subst hcs
  exact ⟨none,0,[],rfl,Ae.nil _ _,by simp⟩
 ·simp at hcs
  subst hcs
  simp only [if_true] at hz
  have hlen:(zs.take len').length=len':=by simp;omega
  refine ⟨some a,cap',zs.take len',by rw [hlen],⟨by omega,?_⟩,fun n hn=>hwz n (List.mem_of_mem_take hn)⟩
  by_cases h0:len'=0
  ·left;subst h0;simp
  ·right
   obtain ⟨b,off,spot⟩:=a
   have h1:=hcell 0 (by omega)
   have hspot:spot=none:=by simpa [Addr.add] using World.cell?_spot h1
   subst hspot
   refine ⟨b,off,rfl,?_,fun i hi=>?_⟩
   ·apply Decidable.byContradiction;intro hb
    have e2:W.heap[b]?=none:=by simp;omega
    simp [World.cell?,Addr.add,e2] at h1
   ·have:=hcell i (by omega)
    rw [List.getElem_take]
    have ea:((⟨b,off,none⟩:Addr).add i)=⟨b,off+i,none⟩:=by
     by_cases hi0:i=0<;>simp [Addr.add,hi0]
    rw [ea] at this
    simpa [List.getD,List.getElem?_eq_getElem (show i<zs.length by omega)] using this
end
theorem Cg8 {H:Type} {enc:TypeId × Value→H} {P:Program} {w:World} {base:Nat} {spare:Nat→Bool} {held:Bool} {r:Reach} {b0:Nat} {t:TypeId} {f0 f1 f2 f3 f4 f5 f6 f7 f8:Field} {v:Value} {d:DataW H} {p:List MemPlace} (hs:P.underlying t=some (.struct #[f0,f1,f2,f3,f4,f5,f6,f7,f8])) (hone:oneCellFields P #[f0,f1,f2,f3,f4,f5,f6,f7,f8]=true) (hC:P.cellsOf t=9)
 (hv:Value.okWide P w r b0 t v) (h:DataW.Trod enc P w base spare held t v d p) :
 ∃(v0 v1 v2 v3 v4 v5 v6 v7 v8:Value) (y0 y1 y2 y3 y4 y5 y6 y7 y8:DataW H × List MemPlace) (n:Nat),v=.agg #[v0,v1,v2,v3,v4,v5,v6,v7,v8]∧d=.agg [y0.1,y1.1,y2.1,y3.1,y4.1,y5.1,y6.1,y7.1,y8.1]∧p=y0.2++(y1.2++(y2.2++(y3.2++(y4.2++(y5.2++(y6.2++(y7.2++y8.2))))))) ∧
  DataW.trod enc P w base spare held n f0.type [v0]=some y0∧DataW.trod enc P w base spare held n f1.type [v1]=some y1∧DataW.trod enc P w base spare held n f2.type [v2]=some y2∧DataW.trod enc P w base spare held n f3.type [v3]=some y3∧DataW.trod enc P w base spare held n f4.type [v4]=some y4∧DataW.trod enc P w base spare held n f5.type [v5]=some y5∧DataW.trod enc P w base spare held n f6.type [v6]=some y6∧DataW.trod enc P w base spare held n f7.type [v7]=some y7∧DataW.trod enc P w base spare held n f8.type [v8]=some y8:=by
 obtain ⟨cs,rfl,hsz⟩:=okWide_struct hs hv
 obtain ⟨l⟩:=cs
 match l,hsz.trans hC with
 | [c0,c1,c2,c3,c4,c5,c6,c7,c8],_ =>
   obtain ⟨fuel,hf⟩:=h
   obtain ⟨xs,n,_,hx,_,hlen,hg⟩:=DataW.trod_struct hs hf
   obtain ⟨o0,k0⟩:=hone_of hone 0 f0 rfl
   obtain ⟨o1,k1⟩:=hone_of hone 1 f1 rfl
   obtain ⟨o2,k2⟩:=hone_of hone 2 f2 rfl
   obtain ⟨o3,k3⟩:=hone_of hone 3 f3 rfl
   obtain ⟨o4,k4⟩:=hone_of hone 4 f4 rfl
   obtain ⟨o5,k5⟩:=hone_of hone 5 f5 rfl
   obtain ⟨o6,k6⟩:=hone_of hone 6 f6 rfl
   obtain ⟨o7,k7⟩:=hone_of hone 7 f7 rfl
   obtain ⟨o8,k8⟩:=hone_of hone 8 f8 rfl
   match xs,hlen with
   | [y0,y1,y2,y3,y4,y5,y6,y7,y8],_ =>
     simp only [Prod.mk.injEq] at hx
     exact ⟨c0,c1,c2,c3,c4,c5,c6,c7,c8,y0,y1,y2,y3,y4,y5,y6,y7,y8,n,rfl,by simpa using hx.1,by simpa using hx.2,by simpa [Value.cells,o0,k0] using hg 0 f0 rfl,by simpa [Value.cells,o1,k1] using hg 1 f1 rfl,by simpa [Value.cells,o2,k2] using hg 2 f2 rfl,by simpa [Value.cells,o3,k3] using hg 3 f3 rfl,by simpa [Value.cells,o4,k4] using hg 4 f4 rfl,by simpa [Value.cells,o5,k5] using hg 5 f5 rfl,by simpa [Value.cells,o6,k6] using hg 6 f6 rfl,by simpa [Value.cells,o7,k7] using hg 7 f7 rfl,by simpa [Value.cells,o8,k8] using hg 8 f8 rfl⟩
def wfI (n:Int):Prop:=-9223372036854775808≤n∧n≤9223372036854775807
def Cm.Wf (c:Cm):Prop:=wfI c.kind∧wfI c.dir∧wfI c.item∧wfI c.box∧wfI c.who∧wfI c.pay∧wfI c.fee∧(∀n∈c.gives,wfI n)∧(∀n∈c.wants,wfI n)
set_option maxRecDepth 100000 in
theorem Ak3 {H:Type} {enc:TypeId × Value→H} {W:World} {base:Nat} {v:Value} {d:DataW H} {ps:List MemPlace}
 (hv:Value.okWide prog W .any base 25 v) (h:DataW.Trod enc prog W 0 (fun _=>true) true 25 v d ps) :
 ∃(c:Cm) (ga wa:Option Addr) (gc wc:Nat),v=.agg (cC c ga gc wa wc)∧Ae W ga c.gives∧Ae W wa c.wants∧c.Wf:=by
 obtain ⟨c0,c1,c2,c3,c4,c5,c6,c7,c8,y0,y1,y2,y3,y4,y5,y6,y7,y8,n,rfl,_,_,i0,i1,i2,i3,i4,i5,i6,i7,i8⟩:=Cg8 underlying25 (by kernel_rfl) (by kernel_rfl) hv h
 obtain ⟨k0,e0,_,w0⟩:=DataW.trod_int underlying3 i0
 obtain ⟨k1,e1,_,w1⟩:=DataW.trod_int underlying3 i1
 obtain ⟨k2,e2,_,w2⟩:=DataW.trod_int underlying3 i2
 obtain ⟨k3,e3,_,w3⟩:=DataW.trod_int underlying3 i3
 obtain ⟨k4,e4,_,w4⟩:=DataW.trod_int underlying3 i4
 obtain ⟨k6,e6,_,w6⟩:=DataW.trod_int underlying3 i6
 obtain ⟨k8,e8,_,w8⟩:=DataW.trod_int underlying3 i8
 obtain ⟨ga,gc,gs,rfl,h5,w5⟩:=Ak2 underlying23 underlying3 (by kernel_rfl) i5
 obtain ⟨wa,wc,ws,rfl,h7,w7⟩:=Ak2 underlying23 underlying3 (by kernel_rfl) i7
 injection e0 with e0 _;injection e1 with e1 _;injection e2 with e2 _;injection e3 with e3 _;injection e4 with e4 _;injection e6 with e6 _;injection e8 with e8 _
 subst e0 e1 e2 e3 e4 e6 e8
 exact ⟨⟨k0,k1,k2,k3,k4,gs,k6,ws,k8⟩,ga,wa,gc,wc,rfl,h5,h7,Ta w0,Ta w1,Ta w2,Ta w3,Ta w4,Ta w6,Ta w8,fun n hn=>Ta (w5 n hn),fun n hn=>Ta (w7 n hn)⟩
end Go.Proofs.YtaeclpjofclbeaaDoor
