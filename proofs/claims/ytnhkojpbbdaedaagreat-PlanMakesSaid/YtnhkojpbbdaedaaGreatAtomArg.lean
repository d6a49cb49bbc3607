/- Calls that were handed in, as they lie in memory. -/
import Derived.Test.YtnhkojpbbdaedaaGreatGTreeL
import Derived.Test.YtnhkojpbbdaedaaGreatRepArg
namespace Go.Proofs.YtnhkojpbbdaedaaGreat
open Go.ChangeShapes Go.WideShapes Go.ChangeAt Go.RowKit Go.Proofs.Tryz
set_option linter.unusedVariables false
set_option maxRecDepth 100000
open Go.RowKit Go.Deep Go.Joins
structure Cl where
 player:Int
 c:Cm
 ga:Option Addr
 gc:Nat
 wa:Option Addr
 wc:Nat
 fr:Int
 to_:Int
 r:Rp
 pa:Option Addr
 pc:Nat
 ia:Option Addr
 ic:Nat
def clC (l:Cl):List Value:=[.int .i64 l.player,.int .i64 l.c.kind,.int .i64 l.c.dir,.int .i64 l.c.item,.int .i64 l.c.box,.int .i64 l.c.who,.slice l.ga l.c.gives.length l.gc,.int .i64 l.c.pay,.slice l.wa l.c.wants.length l.wc,.int .i64 l.c.fee,.int .i64 l.fr,.int .i64 l.to_,.int .i64 l.r.err,.int .i64 l.r.kind,.int .i64 l.r.room,.slice l.pa l.r.players.length l.pc,.slice l.ia l.r.items.length l.ic,.int .i64 l.r.coins]
theorem Cu6 (l:Cl):(clC l).length=18:=rfl
def ClOk (w:World) (l:Cl):Prop:=Ae w l.ga l.c.gives∧Ae w l.wa l.c.wants∧Ae w l.pa l.r.players∧Bd w l.ia l.r.items
structure Ml (w:World) (a:Option Addr) (ls:List Cl):Prop where
 row:Ar 18 clC w a ls
 ok:∀l∈ls,ClOk w l
theorem Ml.below {w w':World} {a:Option Addr} {ls:List Cl} (h:Ml w a ls) {B:Nat} (hb:Below B w w') (hB:w.heap.size≤B):Ml w' a ls :=
 ⟨h.row.below hb hB,fun l hl=>have ⟨h1,h2,h3,h4⟩:=h.ok l hl;⟨h1.below hb hB,h2.below hb hB,h3.below hb hB,h4.below hb hB⟩⟩
theorem Ml.call {w w':World} {a:Option Addr} {ls:List Cl} (h:Ml w a ls) (hb:Below w.heap.size w w'):Ml w' a ls:=h.below hb (Nat.le_refl _)
section
variable {H:Type} {enc:TypeId × Value→H} {P:Program}
theorem Cw9 {α:Type} {k:Nat} {en:α→List Value} {W:World} {t e:TypeId} {fuel:Nat} {v:Value} {x:DataW H × List MemPlace} (Q:α→Prop) (hk:0<k) (z:α) (ht:P.underlying t=some (.slice e)) (hc:P.cellsOf e=k) (hl0:∀x,(en x).length=k)
 (hs:∀(n:Nat) (cs:List Value) (y:DataW H × List MemPlace),DataW.trod enc P W 0 (fun _=>true) true n e cs=some y→∃s:α,cs=en s∧Q s)
 (hf:DataW.trod enc P W 0 (fun _=>true) true fuel t [v]=some x) :
 ∃(a:Option Addr) (cap:Nat) (xs:List α),v=.slice a xs.length cap∧Ar k en W a xs∧∀s∈xs,Q s:=by
 rcases open_slice ht hf with ⟨hcs,hx⟩|⟨a,len',cap',m,n,D,Pl,hcs,_,hl,hm,hmm,hx,hi⟩
 ·simp at hcs
  subst hcs
  exact ⟨none,0,[],rfl,Ar.nil _ _,by simp⟩
 ·simp at hcs
  subst hcs
  simp only [if_true] at hmm
  subst hmm
  have key:∀i,i<m→∃s:α,Q s∧∀j u,j<k→(en s)[j]?=some u→W.cell? ((a.add (i*k)).add j)=some u:=by
   intro i him
   obtain ⟨cs',h1,h2⟩:=hi i him
   rw [hc] at h1
   obtain ⟨s,rfl,hq⟩:=hs _ _ _ h2
   obtain ⟨_,hcl,hat⟩:=World.cells?_some h1
   exact ⟨s,hq,fun j u hj hu=>(hat j hj).trans hu⟩
  obtain ⟨f,hfn⟩:∃f:Nat→α,∀i,i<m→Q (f i)∧∀j u,j<k→(en (f i))[j]?=some u→W.cell? ((a.add (i*k)).add j)=some u :=
   ⟨fun i=>if h:i<m then (key i h).choose else z,fun i hi=>by simp only [dif_pos hi];exact (key i hi).choose_spec⟩
  have hlen:((List.range len').map f).length=len':=by simp
  refine ⟨some a,m,(List.range len').map f,by rw [hlen],⟨by omega,?_⟩,fun s hs=>?_⟩
  ·by_cases h0:len'=0
   ·left;subst h0;simp
   ·right
    obtain ⟨b,off,spot⟩:=a
    have h1:=(hfn 0 (by omega)).2 0 _ hk (List.getElem?_eq_getElem (by rw [hl0];exact hk))
    have hspot:spot=none:=by simpa [Addr.add] using World.cell?_spot h1
    subst hspot
    refine ⟨b,off,rfl,?_,fun i hi j hj=>?_⟩
    ·apply Decidable.byContradiction;intro hb
     have e2:W.heap[b]?=none:=by simp;omega
     simp [World.cell?,Addr.add,e2] at h1
    ·have hi2:i<len':=by simpa using hi
     have ea:∀j,(((⟨b,off,none⟩:Addr).add (i*k)).add j)=⟨b,off+i*k+j,none⟩:=fun j=>by
      by_cases hi0:i*k=0<;>by_cases hj0:j=0<;>simp [Addr.add,hi0,hj0]
     have q0:=(hfn i (by omega)).2 j _ hj (List.getElem?_eq_getElem (by rw [hl0];exact hj))
     rw [ea] at q0
     simp only [List.getElem_map,List.getElem_range]
     rw [q0,List.getElem?_eq_getElem (by rw [hl0];exact hj)]
  ·simp only [List.mem_map,List.mem_range] at hs
   obtain ⟨i,hi,rfl⟩:=hs
   exact (hfn i (by omega)).1
end
theorem Bg5 {H:Type} {enc:TypeId × Value→H} {W:World} {fuel:Nat} {cs:List Value} {x:DataW H × List MemPlace}
 (h:DataW.trod enc prog W 0 (fun _=>true) true fuel 31 cs=some x):∃(c:Cm) (ga wa:Option Addr) (gc wc:Nat),cs=((cC c ga gc wa wc):Array Value).toList∧Ae W ga c.gives∧Ae W wa c.wants:=by
 obtain ⟨xs,n,_,_,hl,hxl,hf⟩:=DataW.trod_struct underlying31 h
 rw [show prog.cellsOf 31=9 by kernel_rfl] at hl
 match cs,hl with
 | [c0,c1,c2,c3,c4,c5,c6,c7,c8],_ =>
   match xs,hxl with
   | [y0,y1,y2,y3,y4,y5,y6,y7,y8],_ =>
     have z2:prog.cellsOf 23=1:=by kernel_rfl
     have z4:prog.cellsOf 3=1:=by kernel_rfl
     have f0:=hf 0 _ rfl
     have f1:=hf 1 _ rfl
     have f2:=hf 2 _ rfl
     have f3:=hf 3 _ rfl
     have f4:=hf 4 _ rfl
     have f5:=hf 5 _ rfl
     have f6:=hf 6 _ rfl
     have f7:=hf 7 _ rfl
     have f8:=hf 8 _ rfl
     simp [z2,z4] at f0 f1 f2 f3 f4 f5 f6 f7 f8
     have hint:∀(n:Nat) (cs:List Value) (y:DataW H × List MemPlace),DataW.trod enc prog W 0 (fun _=>true) true n 3 cs=some y→∃s:Int,cs=inC s:=fun n cs y hy=>by
      obtain ⟨k,e,_,_⟩:=DataW.trod_int underlying3 hy
      exact ⟨k,e⟩
     obtain ⟨a5,n5,gs,rfl,r5⟩:=Gj (k:=1) (en:=inC) (by decide) 0 underlying23 (by kernel_rfl) (fun _=>rfl) hint f5
     obtain ⟨a7,n7,ws,rfl,r7⟩:=Gj (k:=1) (en:=inC) (by decide) 0 underlying23 (by kernel_rfl) (fun _=>rfl) hint f7
     obtain ⟨i0,e0,_,_⟩:=DataW.trod_int underlying3 f0
     obtain ⟨i1,e1,_,_⟩:=DataW.trod_int underlying3 f1
     obtain ⟨i2,e2,_,_⟩:=DataW.trod_int underlying3 f2
     obtain ⟨i3,e3,_,_⟩:=DataW.trod_int underlying3 f3
     obtain ⟨i4,e4,_,_⟩:=DataW.trod_int underlying3 f4
     obtain ⟨i6,e6,_,_⟩:=DataW.trod_int underlying3 f6
     obtain ⟨i8,e8,_,_⟩:=DataW.trod_int underlying3 f8
     simp only [List.cons.injEq,and_true] at e0 e1 e2 e3 e4 e6 e8
     subst e0 e1 e2 e3 e4 e6 e8
     exact ⟨⟨i0,i1,i2,i3,i4,gs,i6,ws,i8⟩,a5,a7,n5,n7,rfl,Av.2 r5,Av.2 r7⟩
theorem Bg4 {H:Type} {enc:TypeId × Value→H} {W:World} {fuel:Nat} {cs:List Value} {x:DataW H × List MemPlace}
 (h:DataW.trod enc prog W 0 (fun _=>true) true fuel 38 cs=some x):∃(r:Rp) (pa ia:Option Addr) (pc ic:Nat),cs=(#[.int .i64 r.err,.int .i64 r.kind,.int .i64 r.room,.slice pa r.players.length pc,.slice ia r.items.length ic,.int .i64 r.coins]:Array Value).toList∧Ae W pa r.players∧Bd W ia r.items:=by
 obtain ⟨xs,n,_,_,hl,hxl,hf⟩:=DataW.trod_struct underlying38 h
 rw [show prog.cellsOf 38=6 by kernel_rfl] at hl
 match cs,hl with
 | [c0,c1,c2,c3,c4,c5],_ =>
   match xs,hxl with
   | [y0,y1,y2,y3,y4,y5],_ =>
     have z1:prog.cellsOf 36=1:=by kernel_rfl
     have z2:prog.cellsOf 23=1:=by kernel_rfl
     have z3:prog.cellsOf 35=1:=by kernel_rfl
     have z4:prog.cellsOf 3=1:=by kernel_rfl
     have f0:=hf 0 _ rfl
     have f1:=hf 1 _ rfl
     have f2:=hf 2 _ rfl
     have f3:=hf 3 _ rfl
     have f4:=hf 4 _ rfl
     have f5:=hf 5 _ rfl
     simp [z1,z2,z3,z4] at f0 f1 f2 f3 f4 f5
     obtain ⟨pa,pc,ps,rfl,h3,_,_⟩:=Ap3 underlying23 underlying3 (by kernel_rfl) f3
     obtain ⟨ia,ic,is,rfl,h4,_⟩:=Ba2 underlying36 (by kernel_rfl) (fun n cs y hy=>Az7 underlying148 underlying48 underlying3 (by kernel_rfl) (by kernel_rfl) ⟨rfl,rfl⟩ ⟨rfl,rfl⟩ ⟨rfl,rfl⟩ ⟨rfl,rfl⟩ (by kernel_rfl) hy) f4
     obtain ⟨i0,e0,_,_⟩:=DataW.trod_int underlying35 f0
     obtain ⟨i1,e1,_,_⟩:=DataW.trod_int underlying3 f1
     obtain ⟨i2,e2,_,_⟩:=DataW.trod_int underlying3 f2
     obtain ⟨i5,e5,_,_⟩:=DataW.trod_int underlying3 f5
     simp only [List.cons.injEq,and_true] at e0 e1 e2 e5
     subst e0 e1 e2 e5
     exact ⟨⟨i0,i1,i2,ps,is,i5⟩,pa,ia,pc,ic,rfl,h3,h4⟩
end Go.Proofs.YtnhkojpbbdaedaaGreat
