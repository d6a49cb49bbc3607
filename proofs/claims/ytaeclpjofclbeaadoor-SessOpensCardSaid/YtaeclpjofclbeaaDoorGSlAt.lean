/- Rows that were handed in, whose elements have lists of their own; a command's cells, an answer's. -/
import Derived.Test.YtaeclpjofclbeaaDoorRepArg
import Derived.Test.YtaeclpjofclbeaaDoorPlanMath
namespace Go.Proofs.YtaeclpjofclbeaaDoor
open Go.ChangeShapes Go.WideShapes Go.ChangeAt Go.RowKit Go.Proofs.Tryd
set_option linter.unusedVariables false
set_option maxRecDepth 100000
section
open Go.RowKit Go.Deep Go.Joins
section
variable {H:Type} {enc:TypeId × Value→H} {P:Program}
theorem Cw9 {α:Type} {k:Nat} {en:α→List Value} {W:World} {t e:TypeId} {fuel:Nat} {v:Value} {x:DataW H × List MemPlace} (Q:α→Prop) (hk:0<k) (z:α) (ht:P.underlying t=some (.slice e)) (hc:P.cellsOf e=k) (hl0:∀x,(en x).length=k)
 (hs:∀(n:Nat) (cs:List Value) (y:DataW H × List MemPlace),DataW.trod enc P W 0 (fun _=>true) true n e cs=some y→∃s:α,cs=en s∧Q s)
 (hf:DataW.trod enc P W 0 (fun _=>true) true fuel t [v]=some x) :
 ∃(a:Option Addr) (cap:Nat) (xs:List α),v=.slice a xs.length cap∧Ar k en W a xs∧∀s∈xs,Q s:=by
 rcases open_slice ht hf with ⟨hcs,hx⟩|⟨a,len',cap',m,n,D,Pl,hcs,_,hl,hm,hmm,hx,hi⟩
 ·simp at hcs
  subst hcs
  exact ⟨none,0,[],rfl,Ar.nil _ _,by simp⟩
 ·simp at hcs
  subst hcs
  simp only [if_true] at hmm
  subst hmm
  have key:∀i,i<m→∃s:α,Q s∧∀j u,j<k→(en s)[j]?=some u→W.cell? ((a.add (i*k)).add j)=some u:=by
   intro i him
   obtain ⟨cs',h1,h2⟩:=hi i him
   rw [hc] at h1
   obtain ⟨s,rfl,hq⟩:=hs _ _ _ h2
   obtain ⟨_,hcl,hat⟩:=World.cells?_some h1
   exact ⟨s,hq,fun j u hj hu=>(hat j hj).trans hu⟩
  obtain ⟨f,hfn⟩:∃f:Nat→α,∀i,i<m→Q (f i)∧∀j u,j<k→(en (f i))[j]?=some u→W.cell? ((a.add (i*k)).add j)=some u :=
   ⟨fun i=>if h:i<m then (key i h).choose else z,fun i hi=>by simp only [dif_pos hi];exact (key i hi).choose_spec⟩
  have hlen:((List.range len').map f).length=len':=by simp
  refine ⟨some a,m,(List.range len').map f,by rw [hlen],⟨by omega,?_⟩,fun s hs=>?_⟩
  ·by_cases h0:len'=0
   ·left;subst h0;simp
   ·right
    obtain ⟨b,off,spot⟩:=a
    have h1:=(hfn 0 (by omega)).2 0 _ hk (List.getElem?_eq_getElem (by rw [hl0];exact hk))
    have hspot:spot=none:=by simpa [Addr.add] using World.cell?_spot h1
    subst hspot
    refine ⟨b,off,rfl,?_,fun i hi j hj=>?_⟩
    ·apply Decidable.byContradiction;intro hb
     have e2:W.heap[b]?=none:=by simp;omega
     simp [World.cell?,Addr.add,e2] at h1
    ·have hi2:i<len':=by simpa using hi
     have ea:∀j,(((⟨b,off,none⟩:Addr).add (i*k)).add j)=⟨b,off+i*k+j,none⟩:=fun j=>by
      by_cases hi0:i*k=0<;>by_cases hj0:j=0<;>simp [Addr.add,hi0,hj0]
     have q0:=(hfn i (by omega)).2 j _ hj (List.getElem?_eq_getElem (by rw [hl0];exact hj))
     rw [ea] at q0
     simp only [List.getElem_map,List.getElem_range]
     rw [q0,List.getElem?_eq_getElem (by rw [hl0];exact hj)]
  ·simp only [List.mem_map,List.mem_range] at hs
   obtain ⟨i,hi,rfl⟩:=hs
   exact (hfn i (by omega)).1
end
theorem Bg5 {H:Type} {enc:TypeId × Value→H} {W:World} {fuel:Nat} {cs:List Value} {x:DataW H × List MemPlace}
 (h:DataW.trod enc prog W 0 (fun _=>true) true fuel 25 cs=some x):∃(c:Cm) (ga wa:Option Addr) (gc wc:Nat),cs=((cC c ga gc wa wc):Array Value).toList∧Ae W ga c.gives∧Ae W wa c.wants:=by
 obtain ⟨xs,n,_,_,hl,hxl,hf⟩:=DataW.trod_struct underlying25 h
 rw [show prog.cellsOf 25=9 by kernel_rfl] at hl
 match cs,hl with
 | [c0,c1,c2,c3,c4,c5,c6,c7,c8],_ =>
   match xs,hxl with
   | [y0,y1,y2,y3,y4,y5,y6,y7,y8],_ =>
     have z2:prog.cellsOf 23=1:=by kernel_rfl
     have z4:prog.cellsOf 3=1:=by kernel_rfl
     have f0:=hf 0 _ rfl
     have f1:=hf 1 _ rfl
     have f2:=hf 2 _ rfl
     have f3:=hf 3 _ rfl
     have f4:=hf 4 _ rfl
     have f5:=hf 5 _ rfl
     have f6:=hf 6 _ rfl
     have f7:=hf 7 _ rfl
     have f8:=hf 8 _ rfl
     simp [z2,z4] at f0 f1 f2 f3 f4 f5 f6 f7 f8
     have hint:∀(n:Nat) (cs:List Value) (y:DataW H × List MemPlace),DataW.trod enc prog W 0 (fun _=>true) true n 3 cs=some y→∃s:Int,cs=inC s:=fun n cs y hy=>by
      obtain ⟨k,e,_,_⟩:=DataW.trod_int underlying3 hy
      exact ⟨k,e⟩
     obtain ⟨a5,n5,gs,rfl,r5⟩:=Gj (k:=1) (en:=inC) (by decide) 0 underlying23 (by kernel_rfl) (fun _=>rfl) hint f5
     obtain ⟨a7,n7,ws,rfl,r7⟩:=Gj (k:=1) (en:=inC) (by decide) 0 underlying23 (by kernel_rfl) (fun _=>rfl) hint f7
     obtain ⟨i0,e0,_,_⟩:=DataW.trod_int underlying3 f0
     obtain ⟨i1,e1,_,_⟩:=DataW.trod_int underlying3 f1
     obtain ⟨i2,e2,_,_⟩:=DataW.trod_int underlying3 f2
     obtain ⟨i3,e3,_,_⟩:=DataW.trod_int underlying3 f3
     obtain ⟨i4,e4,_,_⟩:=DataW.trod_int underlying3 f4
     obtain ⟨i6,e6,_,_⟩:=DataW.trod_int underlying3 f6
     obtain ⟨i8,e8,_,_⟩:=DataW.trod_int underlying3 f8
     simp only [List.cons.injEq,and_true] at e0 e1 e2 e3 e4 e6 e8
     subst e0 e1 e2 e3 e4 e6 e8
     exact ⟨⟨i0,i1,i2,i3,i4,gs,i6,ws,i8⟩,a5,a7,n5,n7,rfl,Av.2 r5,Av.2 r7⟩
theorem Bg4 {H:Type} {enc:TypeId × Value→H} {W:World} {fuel:Nat} {cs:List Value} {x:DataW H × List MemPlace}
 (h:DataW.trod enc prog W 0 (fun _=>true) true fuel 31 cs=some x):∃(r:Rp) (pa ia:Option Addr) (pc ic:Nat),cs=(#[.int .i64 r.err,.int .i64 r.kind,.int .i64 r.room,.slice pa r.players.length pc,.slice ia r.items.length ic,.int .i64 r.coins]:Array Value).toList∧Ae W pa r.players∧Bd W ia r.items:=by
 obtain ⟨xs,n,_,_,hl,hxl,hf⟩:=DataW.trod_struct underlying31 h
 rw [show prog.cellsOf 31=6 by kernel_rfl] at hl
 match cs,hl with
 | [c0,c1,c2,c3,c4,c5],_ =>
   match xs,hxl with
   | [y0,y1,y2,y3,y4,y5],_ =>
     have z1:prog.cellsOf 29=1:=by kernel_rfl
     have z2:prog.cellsOf 23=1:=by kernel_rfl
     have z3:prog.cellsOf 28=1:=by kernel_rfl
     have z4:prog.cellsOf 3=1:=by kernel_rfl
     have f0:=hf 0 _ rfl
     have f1:=hf 1 _ rfl
     have f2:=hf 2 _ rfl
     have f3:=hf 3 _ rfl
     have f4:=hf 4 _ rfl
     have f5:=hf 5 _ rfl
     simp [z1,z2,z3,z4] at f0 f1 f2 f3 f4 f5
     obtain ⟨pa,pc,ps,rfl,h3,_,_⟩:=Ap3 underlying23 underlying3 (by kernel_rfl) f3
     obtain ⟨ia,ic,is,rfl,h4,_⟩:=Ba2 underlying29 (by kernel_rfl) (fun n cs y hy=>Az7 underlying72 underlying57 underlying3 (by kernel_rfl) (by kernel_rfl) ⟨rfl,rfl⟩ ⟨rfl,rfl⟩ ⟨rfl,rfl⟩ ⟨rfl,rfl⟩ (by kernel_rfl) hy) f4
     obtain ⟨i0,e0,_,_⟩:=DataW.trod_int underlying28 f0
     obtain ⟨i1,e1,_,_⟩:=DataW.trod_int underlying3 f1
     obtain ⟨i2,e2,_,_⟩:=DataW.trod_int underlying3 f2
     obtain ⟨i5,e5,_,_⟩:=DataW.trod_int underlying3 f5
     simp only [List.cons.injEq,and_true] at e0 e1 e2 e5
     subst e0 e1 e2 e5
     exact ⟨⟨i0,i1,i2,ps,is,i5⟩,pa,ia,pc,ic,rfl,h3,h4⟩
end
section
open Go.RowKit Go.Deep
def wrC (c:Wr):List Value:=[.int .i64 c.kind,.int .i64 c.id,.int .i64 c.num,.int .i64 c.pl.kind,.int .i64 c.pl.id]
theorem wrC_len (c:Wr):(wrC c).length=5:=rfl
theorem wrC_one (c:Wr):∀u∈wrC c,u.oneCell'=true:=by intro u hu;simp [wrC] at hu;rcases hu with rfl|rfl|rfl|rfl|rfl<;>rfl
theorem wr_info:(prog.info? 59).map (fun i=>(i.zero,i.size,i.bytes))=some (some (.agg #[.int .i64 0,.int .i64 0,.int .i64 0,.int .i64 0,.int .i64 0]),5,40):=by kernel_rfl
abbrev WrsAt (w:World) (a:Option Addr) (l:List Wr):Prop:=Ar 5 wrC w a l
theorem WrsAt.cells {w:World} {a:Option Addr} {l:List Wr} (h:WrsAt w a l) {k:Nat} (hk:k<l.length):∃b off,a=some ⟨b,off,none⟩∧b<w.heap.size ∧
 w.cell? ⟨b,off+k*5,none⟩=some (.int .i64 l[k].kind)∧w.cell? ⟨b,off+k*5+1,none⟩=some (.int .i64 l[k].id)∧w.cell? ⟨b,off+k*5+2,none⟩=some (.int .i64 l[k].num)∧w.cell? ⟨b,off+k*5+3,none⟩=some (.int .i64 l[k].pl.kind)∧w.cell? ⟨b,off+k*5+4,none⟩=some (.int .i64 l[k].pl.id):=by
 obtain ⟨b,off,rfl,hb,hc⟩:=h.at_ hk
 exact ⟨b,off,rfl,hb,hc k hk 0 (by omega),hc k hk 1 (by omega),hc k hk 2 (by omega),hc k hk 3 (by omega),hc k hk 4 (by omega)⟩
theorem trod_wr {H:Type} {enc:TypeId × Value→H} {W:World} {fuel:Nat} {cs:List Value} {x:DataW H × List MemPlace}
 (h:DataW.trod enc prog W 0 (fun _=>true) true fuel 59 cs=some x):∃c:Wr,cs=wrC c:=by
 obtain ⟨xs,n,_,_,hl,hxl,hf⟩:=DataW.trod_struct underlying59 h
 rw [show prog.cellsOf 59=5 by kernel_rfl] at hl
 match cs,hl with
 | [c0,c1,c2,c3,c4],_ =>
   match xs,hxl with
   | [y0,y1,y2,y3],_ =>
     have z1:prog.cellsOf 57=2:=by kernel_rfl
     have z4:prog.cellsOf 3=1:=by kernel_rfl
     have f0:=hf 0 _ rfl
     have f1:=hf 1 _ rfl
     have f2:=hf 2 _ rfl
     have f3:=hf 3 _ rfl
     simp [z1,z4] at f0 f1 f2 f3
     obtain ⟨i0,e0,_,_⟩:=DataW.trod_int underlying3 f0
     obtain ⟨i1,e1,_,_⟩:=DataW.trod_int underlying3 f1
     obtain ⟨i2,e2,_,_⟩:=DataW.trod_int underlying3 f2
     obtain ⟨xs3,n3,_,_,hl3,hxl3,hf3⟩:=DataW.trod_struct underlying57 f3
     match xs3,hxl3 with
     | [z0,z2],_ =>
       have g0:=hf3 0 _ rfl
       have g1:=hf3 1 _ rfl
       simp [z4] at g0 g1
       obtain ⟨i3,e3,_,_⟩:=DataW.trod_int underlying3 g0
       obtain ⟨i4,e4,_,_⟩:=DataW.trod_int underlying3 g1
       simp only [List.cons.injEq,and_true] at e0 e1 e2 e3 e4
       subst e0 e1 e2 e3 e4
       exact ⟨⟨i0,i1,i2,⟨i3,i4⟩⟩,rfl⟩
theorem read_wrs {H:Type} {enc:TypeId × Value→H} {W:World} {base:Nat} {v:Value} {d:DataW H} {ps:List MemPlace}
 (hv:Value.okWide prog W .any base 27 v) (h:DataW.Trod enc prog W 0 (fun _=>true) true 27 v d ps) :
 ∃(a:Option Addr) (cap:Nat) (l:List Wr),v=.slice a l.length cap∧WrsAt W a l∧l.length≤cap∧cap≤maxLen:=by
 obtain ⟨a0,len,cap,rfl⟩:=okWide_slice underlying27 hv
 obtain ⟨fuel,hf⟩:=h
 obtain ⟨a,cap',ls,e,h1⟩:=Gj (k:=5) (en:=wrC) (by decide) ⟨0,0,0,⟨0,0⟩⟩ underlying27 (by kernel_rfl) wrC_len (fun n cs y hy=>trod_wr hy) (show DataW.trod enc prog W 0 (fun _=>true) true fuel 27 [.slice a0 len cap]=some _ from hf)
 have hcap:len≤cap∧cap≤maxLen:=by
  rcases open_slice underlying27 (show DataW.trod enc prog W 0 (fun _=>true) true fuel 27 [.slice a0 len cap]=some _ from hf) with ⟨hcs,_⟩|⟨a,len',cap',m,n,D,Pl,hcs,_,hl,hm,_⟩
  ·simp at hcs;obtain ⟨rfl,rfl,rfl⟩:=hcs;simp
  ·simp at hcs;obtain ⟨rfl,rfl,rfl⟩:=hcs;exact ⟨hl,hm⟩
 obtain ⟨rfl,rfl,rfl⟩:a0=a∧len=ls.length∧cap=cap':=by simpa using e
 exact ⟨a0,cap,ls,rfl,h1,hcap⟩
end
section
structure Sl where
 player:Int
 ls:List ByteArray
 la:Option Addr
 lc:Nat
 next:Int
 phase:Int
 step:Int
 c:Cm
 ga:Option Addr
 gc:Nat
 wa:Option Addr
 wc:Nat
 foot:List Pl
 fa:Option Addr
 fc:Nat
 has:Int
 plan:List Wr
 pa:Option Addr
 pc:Nat
 r:Rp
 rpa:Option Addr
 rpc:Nat
 ria:Option Addr
 ric:Nat
 stale:Bool
 tries:Int
 ver:Int
 room:Int
 copies:List Pl
 ca:Option Addr
 cc:Nat
 heads:List Int
 ha:Option Addr
 hc:Nat
 purse:Int
def slC (s:Sl):List Value:=[.int .i64 s.player,.slice s.la s.ls.length s.lc,.int .i64 s.next,.int .i64 s.phase,.int .i64 s.step,.int .i64 s.c.kind,.int .i64 s.c.dir,.int .i64 s.c.item,.int .i64 s.c.box,.int .i64 s.c.who,.slice s.ga s.c.gives.length s.gc,.int .i64 s.c.pay,.slice s.wa s.c.wants.length s.wc,.int .i64 s.c.fee,.slice s.fa s.foot.length s.fc,.int .i64 s.has,.slice s.pa s.plan.length s.pc,.int .i64 s.r.err,.int .i64 s.r.kind,.int .i64 s.r.room,.slice s.rpa s.r.players.length s.rpc,.slice s.ria s.r.items.length s.ric,.int .i64 s.r.coins,.bool s.stale,.int .i64 s.tries,.int .i64 s.ver,.int .i64 s.room,.slice s.ca s.copies.length s.cc,.slice s.ha s.heads.length s.hc,.int .i64 s.purse]
theorem slC_len (s:Sl):(slC s).length=30:=rfl
def WrcAt (w:World) (a:Option Addr) (cap:Nat) (l:List Wr):Prop:=WrsAt w a l∧l.length≤cap∧cap≤maxLen
theorem WrcAt.below {w w':World} {a:Option Addr} {cap:Nat} {l:List Wr} (h:WrcAt w a cap l) {B:Nat} (hb:Below B w w') (hB:w.heap.size≤B):WrcAt w' a cap l:=⟨Ar.below h.1 hb hB,h.2⟩
theorem WrcAt.call {w w':World} {a:Option Addr} {cap:Nat} {l:List Wr} (h:WrcAt w a cap l) (hb:Below w.heap.size w w'):WrcAt w' a cap l:=h.below hb lr0
structure PlansAt (w:World) (a:Option Addr) (l:List Sl):Prop where
 row:Ar 30 slC w a l
 ok:∀s∈l,WrcAt w s.pa s.pc s.plan
theorem PlansAt.below {w w':World} {a:Option Addr} {l:List Sl} (h:PlansAt w a l) {B:Nat} (hb:Below B w w') (hB:w.heap.size≤B):PlansAt w' a l:=⟨h.row.below hb hB,fun s hs=>(h.ok s hs).below hb hB⟩
theorem PlansAt.call {w w':World} {a:Option Addr} {l:List Sl} (h:PlansAt w a l) (hb:Below w.heap.size w w'):PlansAt w' a l:=h.below hb lr0
def cutA (a:Option Addr) (cap k s:Nat):Option Addr:=if cap=k then a else a.map (·.add (k*s))
theorem wr_cut (W:World) (a:Option Addr) (n cap k:Nat) (hk:k≤n):(Instr.slice 27 (.slice a n cap) (some (.int .i64 (k:Int))) none none).run prog W=.ok (.slice (cutA a cap k 5) (n-k) (cap-k)) W:=by
 obtain ⟨i0,hi0,hz0,hz1,hz2⟩:=info_parts wr_info
 simp [Instr.slice,run_underlying underlying27,Instr.sliceBounds,run_sliceBound,sizeOf,typeInfo,hi0,hz1,hk,cutA]
theorem WrcAt.drop {W:World} {a:Option Addr} {cap:Nat} {l:List Wr} (h:WrcAt W a cap l) {k:Nat} (hk:k≤l.length):WrcAt W (cutA a cap k 5) (cap-k) (l.drop k):=by
 obtain ⟨⟨h1,h2⟩,h3,h4⟩:=h
 refine ⟨⟨by simp;omega,?_⟩,by simp;omega,by omega⟩
 by_cases he:k=l.length
 ·left;subst he;simp
 right
 rcases h2 with h2|⟨b,off,rfl,hb,hc⟩
 ·subst h2;simp at hk;subst hk;exact absurd rfl he
 ·refine ⟨b,off+k*5,?_,hb,fun i hi j hj=>?_⟩
  ·have:¬cap=k:=by omega
   simp only [cutA,if_neg this,Option.map_some,Option.some.injEq]
   by_cases hz:k*5=0<;>simp [Addr.add,hz]
  ·simp at hi
   have:=hc (k+i) (by omega) j hj
   rw [show off+(k+i)*5+j=off+k*5+i*5+j by omega] at this
   rw [this,List.getElem_drop]
theorem wr_take (W:World) (a:Option Addr) (n cap k:Nat) (hk:k≤cap):(Instr.slice 27 (.slice a n cap) none (some (.int .i64 (k:Int))) none).run prog W=.ok (.slice a k cap) W:=by
 obtain ⟨i0,hi0,hz0,hz1,hz2⟩:=info_parts wr_info
 simp [Instr.slice,run_underlying underlying27,Instr.sliceBounds,run_sliceBound,sizeOf,typeInfo,hi0,show (k:Int)≤(cap:Int) by omega]
 cases a<;>simp [Addr.add]
theorem WrcAt.take {W:World} {a:Option Addr} {cap:Nat} {l:List Wr} (h:WrcAt W a cap l) {k:Nat} (hk:k≤l.length):WrcAt W a cap (l.take k):=by
 obtain ⟨⟨h1,h2⟩,h3,h4⟩:=h
 refine ⟨⟨by simp;omega,?_⟩,by simp;omega,by omega⟩
 rcases h2 with h2|⟨b,off,rfl,hb,hc⟩
 ·left;subst h2;simp
 ·exact .inr ⟨b,off,rfl,hb,fun i hi j hj=>by simp at hi;rw [hc i (by omega) j hj,List.getElem_take]⟩
end
end Go.Proofs.YtaeclpjofclbeaaDoor
