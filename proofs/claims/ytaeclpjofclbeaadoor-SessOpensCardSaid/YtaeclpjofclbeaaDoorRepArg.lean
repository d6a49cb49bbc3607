/- An answer that was handed in: its fields, its lists. -/
import Derived.Test.YtaeclpjofclbeaaDoorGCmdN
namespace Go.Proofs.YtaeclpjofclbeaaDoor
open Go.ChangeShapes Go.WideShapes Go.ChangeAt Go.RowKit Go.Proofs.Tryd
set_option linter.unusedVariables false
open Go.RowKit Go.Deep Go.Joins
section
variable {H:Type} {enc:TypeId × Value→H} {P:Program}
theorem Ap3 {W:World} {t e:TypeId} {fuel:Nat} {v:Value} {x:DataW H × List MemPlace} (ht:P.underlying t=some (.slice e)) (he:P.underlying e=some (.int .i64)) (hc:P.cellsOf e=1)
 (hf:DataW.trod enc P W 0 (fun _=>true) true fuel t [v]=some x) :
 ∃(a:Option Addr) (cap:Nat) (xs:List Int),v=.slice a xs.length cap∧Ae W a xs∧xs.length≤cap∧(∀n∈xs,(Lit.int .i64 n).wf=true):=by
 rcases open_ints ht he hc hf with ⟨hcs,hx⟩|⟨a,len',cap',zs,hcs,_,hl,hm,hz,hx,hcell,hwz⟩
 ·simp at hcs
  subst hcs
  exact ⟨none,0,[],rfl,Ae.nil _ _,Nat.le_refl _,by simp⟩
 ·simp at hcs
  subst hcs
  simp only [if_true] at hz
  have hlen:(zs.take len').length=len':=by simp;omega
  refine ⟨some a,cap',zs.take len',by rw [hlen],⟨by omega,?_⟩,by omega,fun n hn=>hwz n (List.mem_of_mem_take hn)⟩
  by_cases h0:len'=0
  ·left;subst h0;simp
  ·right
   obtain ⟨b,off,spot⟩:=a
   have h1:=hcell 0 (by omega)
   have hspot:spot=none:=by simpa [Addr.add] using World.cell?_spot h1
   subst hspot
   refine ⟨b,off,rfl,?_,fun i hi=>?_⟩
   ·apply Decidable.byContradiction;intro hb
    have e2:W.heap[b]?=none:=by simp;omega
    simp [World.cell?,Addr.add,e2] at h1
   ·have:=hcell i (by omega)
    rw [List.getElem_take]
    have ea:((⟨b,off,none⟩:Addr).add i)=⟨b,off+i,none⟩:=by
     by_cases hi0:i=0<;>simp [Addr.add,hi0]
    rw [ea] at this
    simpa [List.getD,List.getElem?_eq_getElem (show i<zs.length by omega)] using this
theorem Az7 {w:World} {base:Nat} {spare:Nat→Bool} {held:Bool} {fuel:Nat} {t u e:TypeId} {cs:List Value} {x:DataW H × List MemPlace} {f0 f1 g0 g1:Field}
 (ht:P.underlying t=some (.struct #[f0,f1])) (hu:P.underlying u=some (.struct #[g0,g1])) (he:P.underlying e=some (.int .i64)) (hc:P.cellsOf e=1) (hcu:P.cellsOf u=2)
 (h0:f0.offset=0∧f0.type=e) (h1:f1.offset=1∧f1.type=u) (k0:g0.offset=0∧g0.type=e) (k1:g1.offset=1∧g1.type=e) (hct:P.cellsOf t=3)
 (h:DataW.trod enc P w base spare held fuel t cs=some x):∃s:Sn,cs=[.int .i64 s.item,.int .i64 s.kind,.int .i64 s.id]:=by
 obtain ⟨xs,n,_,_,hl,hxl,hf⟩:=DataW.trod_struct ht h
 rw [hct] at hl
 match cs,hl with
 | [a,b,c],_ =>
   have e0:=hf 0 f0 rfl
   have e1:=hf 1 f1 rfl
   match xs,hxl with
   | [y0,y1],_ =>
     rw [h0.1,h0.2,hc] at e0
     rw [h1.1,h1.2,hcu] at e1
     simp at e0 e1
     obtain ⟨i,hi,_,_⟩:=DataW.trod_int he e0
     obtain ⟨zs,n2,_,_,hl2,hzl,hg⟩:=DataW.trod_struct hu e1
     have q0:=hg 0 g0 rfl
     have q1:=hg 1 g1 rfl
     match zs,hzl with
     | [z0,z1],_ =>
       rw [k0.1,k0.2,hc] at q0
       rw [k1.1,k1.2,hc] at q1
       simp at q0 q1
       obtain ⟨j,hj,_,_⟩:=DataW.trod_int he q0
       obtain ⟨k,hk,_,_⟩:=DataW.trod_int he q1
       simp only [List.cons.injEq,and_true] at hi hj hk
       subst hi hj hk
       exact ⟨⟨i,j,k⟩,rfl⟩
theorem Ba2 {W:World} {t e:TypeId} {fuel:Nat} {v:Value} {x:DataW H × List MemPlace} (ht:P.underlying t=some (.slice e)) (hc:P.cellsOf e=3)
 (hs:∀(n:Nat) (cs:List Value) (y:DataW H × List MemPlace),DataW.trod enc P W 0 (fun _=>true) true n e cs=some y→∃s:Sn,cs=[.int .i64 s.item,.int .i64 s.kind,.int .i64 s.id])
 (hf:DataW.trod enc P W 0 (fun _=>true) true fuel t [v]=some x) :
 ∃(a:Option Addr) (cap:Nat) (xs:List Sn),v=.slice a xs.length cap∧Bd W a xs∧xs.length≤cap:=by
 rcases open_slice ht hf with ⟨hcs,hx⟩|⟨a,len',cap',m,n,D,Pl,hcs,_,hl,hm,hmm,hx,hi⟩
 ·simp at hcs
  subst hcs
  exact ⟨none,0,[],rfl,Bd.nil _ _,Nat.le_refl _⟩
 ·simp at hcs
  subst hcs
  simp only [if_true] at hmm
  subst hmm
  have key:∀i,i<m→∃s:Sn,∀j u,j<3→[Value.int .i64 s.item,Value.int .i64 s.kind,Value.int .i64 s.id][j]?=some u→W.cell? ((a.add (i*3)).add j)=some u:=by
   intro i him
   obtain ⟨cs',h1,h2⟩:=hi i him
   rw [hc] at h1
   obtain ⟨s,rfl⟩:=hs _ _ _ h2
   obtain ⟨_,hcl,hat⟩:=World.cells?_some h1
   exact ⟨s,fun j u hj hu=>(hat j hj).trans hu⟩
  obtain ⟨f,hfn⟩:∃f:Nat→Sn,∀i,i<m→∀j u,j<3→[Value.int .i64 (f i).item,Value.int .i64 (f i).kind,Value.int .i64 (f i).id][j]?=some u→W.cell? ((a.add (i*3)).add j)=some u :=
   ⟨fun i=>if h:i<m then (key i h).choose else ⟨0,0,0⟩,fun i hi=>by simp only [dif_pos hi];exact (key i hi).choose_spec⟩
  have hlen:((List.range len').map f).length=len':=by simp
  refine ⟨some a,m,(List.range len').map f,by rw [hlen],⟨by omega,?_⟩,by omega⟩
  by_cases h0:len'=0
  ·left;subst h0;simp
  ·right
   obtain ⟨b,off,spot⟩:=a
   have h1:=hfn 0 (by omega) 0 _ (by omega) rfl
   have hspot:spot=none:=by simpa [Addr.add] using World.cell?_spot h1
   subst hspot
   refine ⟨b,off,rfl,?_,fun i hi=>?_⟩
   ·apply Decidable.byContradiction;intro hb
    have e2:W.heap[b]?=none:=by simp;omega
    simp [World.cell?,Addr.add,e2] at h1
   ·have hi2:i<len':=by simpa using hi
    have ea:∀j,(((⟨b,off,none⟩:Addr).add (i*3)).add j)=⟨b,off+i*3+j,none⟩:=fun j=>by
     by_cases hi0:i*3=0<;>by_cases hj0:j=0<;>simp [Addr.add,hi0,hj0]
    have q0:=hfn i (by omega) 0 _ (by omega) rfl
    have q1:=hfn i (by omega) 1 _ (by omega) rfl
    have q2:=hfn i (by omega) 2 _ (by omega) rfl
    rw [ea] at q0 q1 q2
    simp only [List.getElem_map,List.getElem_range]
    exact ⟨q0,q1,q2⟩
end
theorem Cg9 {H:Type} {enc:TypeId × Value→H} {P:Program} {w:World} {base:Nat} {spare:Nat→Bool} {held:Bool} {r:Reach} {b0:Nat} {t:TypeId} {f0 f1 f2 f3 f4 f5:Field} {v:Value} {d:DataW H} {p:List MemPlace} (hs:P.underlying t=some (.struct #[f0,f1,f2,f3,f4,f5])) (hone:oneCellFields P #[f0,f1,f2,f3,f4,f5]=true) (hC:P.cellsOf t=6)
 (hv:Value.okWide P w r b0 t v) (h:DataW.Trod enc P w base spare held t v d p) :
 ∃(v0 v1 v2 v3 v4 v5:Value) (y0 y1 y2 y3 y4 y5:DataW H × List MemPlace) (n:Nat),v=.agg #[v0,v1,v2,v3,v4,v5]∧d=.agg [y0.1,y1.1,y2.1,y3.1,y4.1,y5.1]∧p=y0.2++(y1.2++(y2.2++(y3.2++(y4.2++y5.2)))) ∧
  DataW.trod enc P w base spare held n f0.type [v0]=some y0∧DataW.trod enc P w base spare held n f1.type [v1]=some y1∧DataW.trod enc P w base spare held n f2.type [v2]=some y2∧DataW.trod enc P w base spare held n f3.type [v3]=some y3∧DataW.trod enc P w base spare held n f4.type [v4]=some y4∧DataW.trod enc P w base spare held n f5.type [v5]=some y5:=by
 obtain ⟨cs,rfl,hsz⟩:=okWide_struct hs hv
 obtain ⟨l⟩:=cs
 match l,hsz.trans hC with
 | [c0,c1,c2,c3,c4,c5],_ =>
   obtain ⟨fuel,hf⟩:=h
   obtain ⟨xs,n,_,hx,_,hlen,hg⟩:=DataW.trod_struct hs hf
   obtain ⟨o0,k0⟩:=hone_of hone 0 f0 rfl
   obtain ⟨o1,k1⟩:=hone_of hone 1 f1 rfl
   obtain ⟨o2,k2⟩:=hone_of hone 2 f2 rfl
   obtain ⟨o3,k3⟩:=hone_of hone 3 f3 rfl
   obtain ⟨o4,k4⟩:=hone_of hone 4 f4 rfl
   obtain ⟨o5,k5⟩:=hone_of hone 5 f5 rfl
   match xs,hlen with
   | [y0,y1,y2,y3,y4,y5],_ =>
     simp only [Prod.mk.injEq] at hx
     exact ⟨c0,c1,c2,c3,c4,c5,y0,y1,y2,y3,y4,y5,n,rfl,by simpa using hx.1,by simpa using hx.2,by simpa [Value.cells,o0,k0] using hg 0 f0 rfl,by simpa [Value.cells,o1,k1] using hg 1 f1 rfl,by simpa [Value.cells,o2,k2] using hg 2 f2 rfl,by simpa [Value.cells,o3,k3] using hg 3 f3 rfl,by simpa [Value.cells,o4,k4] using hg 4 f4 rfl,by simpa [Value.cells,o5,k5] using hg 5 f5 rfl⟩
set_option maxRecDepth 100000 in
theorem Bn2 {H:Type} {enc:TypeId × Value→H} {W:World} {base:Nat} {v:Value} {d:DataW H} {ps:List MemPlace}
 (hv:Value.okWide prog W .any base 31 v) (h:DataW.Trod enc prog W 0 (fun _=>true) true 31 v d ps) :
 ∃(r:Rp) (pa ia:Option Addr) (pc ic:Nat),v=.agg #[.int .i64 r.err,.int .i64 r.kind,.int .i64 r.room,.slice pa r.players.length pc,.slice ia r.items.length ic,.int .i64 r.coins]∧Ae W pa r.players∧Bd W ia r.items∧r.players.length≤pc∧r.items.length≤ic:=by
 obtain ⟨c0,c1,c2,c3,c4,c5,y0,y1,y2,y3,y4,y5,n,rfl,_,_,i0,i1,i2,i3,i4,i5⟩:=Cg9 underlying31 (by kernel_rfl) (by kernel_rfl) hv h
 obtain ⟨k0,e0,_,w0⟩:=DataW.trod_int underlying28 i0
 obtain ⟨k1,e1,_,w1⟩:=DataW.trod_int underlying3 i1
 obtain ⟨k2,e2,_,w2⟩:=DataW.trod_int underlying3 i2
 obtain ⟨k5,e5,_,w5⟩:=DataW.trod_int underlying3 i5
 obtain ⟨pa,pc,ps,rfl,h3,w3,_⟩:=Ap3 underlying23 underlying3 (by kernel_rfl) i3
 obtain ⟨ia,ic,is,rfl,h4,w4⟩:=Ba2 underlying29 (by kernel_rfl) (fun n cs y hy=>Az7 underlying72 underlying57 underlying3 (by kernel_rfl) (by kernel_rfl) ⟨rfl,rfl⟩ ⟨rfl,rfl⟩ ⟨rfl,rfl⟩ ⟨rfl,rfl⟩ (by kernel_rfl) hy) i4
 injection e0 with e0 _;injection e1 with e1 _;injection e2 with e2 _;injection e5 with e5 _
 subst e0 e1 e2 e5
 exact ⟨⟨k0,k1,k2,ps,is,k5⟩,pa,ia,pc,ic,rfl,h3,h4,w3,w4⟩
end Go.Proofs.YtaeclpjofclbeaaDoor
