/- Sessions as they lie in memory; lists that are cut; the document's own Settled. -/
import Derived.Test.YtnhkojpbbdaedaaGreatPlanB
namespace Go.Proofs.YtnhkojpbbdaedaaGreat
open Go.ChangeShapes Go.WideShapes Go.ChangeAt Go.RowKit
set_option linter.unusedVariables false
open Go.RowKit
structure Sl where
 player:Int
 ls:List ByteArray
 la:Option Addr
 lc:Nat
 next:Int
 phase:Int
 step:Int
 c:Cm
 ga:Option Addr
 gc:Nat
 wa:Option Addr
 wc:Nat
 foot:List Pl
 fa:Option Addr
 fc:Nat
 has:Int
 plan:List Wr
 pa:Option Addr
 pc:Nat
 r:Rp
 rpa:Option Addr
 rpc:Nat
 ria:Option Addr
 ric:Nat
 stale:Bool
 tries:Int
 ver:Int
 room:Int
 copies:List Pl
 ca:Option Addr
 cc:Nat
 heads:List Int
 ha:Option Addr
 hc:Nat
 purse:Int
def slC (s:Sl):List Value:=[.int .i64 s.player,.slice s.la s.ls.length s.lc,.int .i64 s.next,.int .i64 s.phase,.int .i64 s.step,.int .i64 s.c.kind,.int .i64 s.c.dir,.int .i64 s.c.item,.int .i64 s.c.box,.int .i64 s.c.who,.slice s.ga s.c.gives.length s.gc,.int .i64 s.c.pay,.slice s.wa s.c.wants.length s.wc,.int .i64 s.c.fee,.slice s.fa s.foot.length s.fc,.int .i64 s.has,.slice s.pa s.plan.length s.pc,.int .i64 s.r.err,.int .i64 s.r.kind,.int .i64 s.r.room,.slice s.rpa s.r.players.length s.rpc,.slice s.ria s.r.items.length s.ric,.int .i64 s.r.coins,.bool s.stale,.int .i64 s.tries,.int .i64 s.ver,.int .i64 s.room,.slice s.ca s.copies.length s.cc,.slice s.ha s.heads.length s.hc,.int .i64 s.purse]
theorem slC_len (s:Sl):(slC s).length=30:=rfl
def WrcAt (w:World) (a:Option Addr) (cap:Nat) (l:List Wr):Prop:=WrsAt w a l∧l.length≤cap∧cap≤maxLen
theorem WrcAt.below {w w':World} {a:Option Addr} {cap:Nat} {l:List Wr} (h:WrcAt w a cap l) {B:Nat} (hb:Below B w w') (hB:w.heap.size≤B):WrcAt w' a cap l:=⟨Ar.below h.1 hb hB,h.2⟩
theorem WrcAt.call {w w':World} {a:Option Addr} {cap:Nat} {l:List Wr} (h:WrcAt w a cap l) (hb:Below w.heap.size w w'):WrcAt w' a cap l:=h.below hb (Nat.le_refl _)
structure PlansAt (w:World) (a:Option Addr) (l:List Sl):Prop where
 row:Ar 30 slC w a l
 ok:∀s∈l,WrcAt w s.pa s.pc s.plan
theorem PlansAt.below {w w':World} {a:Option Addr} {l:List Sl} (h:PlansAt w a l) {B:Nat} (hb:Below B w w') (hB:w.heap.size≤B):PlansAt w' a l:=⟨h.row.below hb hB,fun s hs=>(h.ok s hs).below hb hB⟩
theorem PlansAt.call {w w':World} {a:Option Addr} {l:List Sl} (h:PlansAt w a l) (hb:Below w.heap.size w w'):PlansAt w' a l:=h.below hb (Nat.le_refl _)
def cutA (a:Option Addr) (cap k s:Nat):Option Addr:=if cap=k then a else a.map (·.add (k*s))
theorem wr_cut (W:World) (a:Option Addr) (n cap k:Nat) (hk:k≤n):(Instr.slice 41 (.slice a n cap) (some (.int .i64 (k:Int))) none none).run Tryz.prog W=.ok (.slice (cutA a cap k 5) (n-k) (cap-k)) W:=by
 obtain ⟨i0,hi0,hz0,hz1,hz2⟩:=info_parts wr_info
 simp [Instr.slice,run_underlying Tryz.underlying41,Instr.sliceBounds,run_sliceBound,sizeOf,typeInfo,hi0,hz1,hk,cutA]
theorem WrcAt.drop {W:World} {a:Option Addr} {cap:Nat} {l:List Wr} (h:WrcAt W a cap l) {k:Nat} (hk:k≤l.length):WrcAt W (cutA a cap k 5) (cap-k) (l.drop k):=by
 obtain ⟨⟨h1,h2⟩,h3,h4⟩:=h
 refine ⟨⟨by simp;omega,?_⟩,by simp;omega,by omega⟩
 by_cases he:k=l.length
 ·left;subst he;simp
 right
 rcases h2 with h2|⟨b,off,rfl,hb,hc⟩
 ·subst h2;simp at hk;subst hk;exact absurd rfl he
 ·refine ⟨b,off+k*5,?_,hb,fun i hi j hj=>?_⟩
  ·have:¬cap=k:=by omega
   simp only [cutA,if_neg this,Option.map_some,Option.some.injEq]
   by_cases hz:k*5=0<;>simp [Addr.add,hz]
  ·simp at hi
   have:=hc (k+i) (by omega) j hj
   rw [show off+(k+i)*5+j=off+k*5+i*5+j by omega] at this
   rw [this,List.getElem_drop]
theorem wr_take (W:World) (a:Option Addr) (n cap k:Nat) (hk:k≤cap):(Instr.slice 41 (.slice a n cap) none (some (.int .i64 (k:Int))) none).run Tryz.prog W=.ok (.slice a k cap) W:=by
 obtain ⟨i0,hi0,hz0,hz1,hz2⟩:=info_parts wr_info
 simp [Instr.slice,run_underlying Tryz.underlying41,Instr.sliceBounds,run_sliceBound,sizeOf,typeInfo,hi0,show (k:Int)≤(cap:Int) by omega]
 cases a<;>simp [Addr.add]
theorem WrcAt.take {W:World} {a:Option Addr} {cap:Nat} {l:List Wr} (h:WrcAt W a cap l) {k:Nat} (hk:k≤l.length):WrcAt W a cap (l.take k):=by
 obtain ⟨⟨h1,h2⟩,h3,h4⟩:=h
 refine ⟨⟨by simp;omega,?_⟩,by simp;omega,by omega⟩
 rcases h2 with h2|⟨b,off,rfl,hb,hc⟩
 ·left;subst h2;simp
 ·exact .inr ⟨b,off,rfl,hb,fun i hi j hj=>by simp at hi;rw [hc i (by omega) j hj,List.getElem_take]⟩
def setP (y:Wd) (s:Sl):Wd:=if s.phase=5 then allP y (s.plan.drop s.step.toNat) else y
def setW (x:Wd) (l:List Sl):Wd:=l.foldl setP x
theorem setW_more (x:Wd) {l:List Sl} {k:Nat} (h:k<l.length):setW x (l.take (k+1))=setP (setW x (l.take k)) l[k]:=by
 unfold setW
 rw [List.take_succ_eq_append_getElem h,List.foldl_append];rfl
theorem setP_like (x:Wd) (s:Sl):Like x (setP x s):=by unfold setP;split;exact Gw8 _ _;exact Like.refl x
theorem setW_like:∀(l:List Sl) (x:Wd),Like x (setW x l)
 | [],x=>Like.refl x
 | s :: l,x=>(setP_like x s).trans (setW_like l _)
def MayS (x:Wd) (s:Sl):Prop:=s.phase=5→0≤s.step∧s.step≤s.plan.length∧∀c∈s.plan,mayX x c=true
def SetR (x:Wd) (p:Wp) (l:List Sl) (w:World) (m k:Nat) (q:Wp) (W:World):Prop :=
 Blk W m 29 (wC x q)∧Blk W (w.heap.size+1) 29 zC∧Cc (w.heap.size+2) W p.d q (setW x (l.take k))∧Below w.heap.size w W∧w.heap.size+2≤m
theorem SetR.call {x:Wd} {p:Wp} {l:List Sl} {w W W':World} {m k:Nat} {q:Wp} (h:SetR x p l w m k q W) (hb:Below W.heap.size W W'):SetR x p l w m k q W' :=
 ⟨h.1.call hb,h.2.1.call hb,h.2.2.1.call hb,bl h.2.2.2.1 hb,h.2.2.2.2⟩
theorem SetR.world {x:Wd} {p:Wp} {l:List Sl} {w W:World} {m k:Nat} {q:Wp} (h:SetR x p l w m k q W) (hw:Ab w p x):Ab W q (setW x (l.take k)) :=
 h.2.2.1.new.worldn (by rw [(setW_like _ _).d];exact hw.d) h.2.2.2.1
theorem SetR.size {x:Wd} {p:Wp} {l:List Sl} {w W:World} {m k:Nat} {q:Wp} (h:SetR x p l w m k q W):w.heap.size+2≤W.heap.size:=h.2.1.lt
theorem SetR.put {x:Wd} {p:Wp} {l:List Sl} {w W:World} {m k:Nat} {q q2:Wp} (h:SetR x p l w m k q W) (ho:Cc (w.heap.size+2) W p.d q2 (setW x (l.take (k+1)))):SetR x p l w m (k+1) q2 ((((((((((((W.setCell ⟨m,0,none⟩ (.slice q2.d.ex x.d.exits.length q2.d.exc)).setCell ⟨m,1,none⟩ (.slice q2.d.pl x.d.players.length q2.d.plc)).setCell ⟨m,2,none⟩ (.slice q2.d.co x.d.coins.length q2.d.coc)).setCell ⟨m,3,none⟩ (.slice q2.d.it x.d.items.length q2.d.itc)).setCell ⟨m,4,none⟩ (.slice q2.d.bo x.d.boxes.length q2.d.boc)).setCell ⟨m,5,none⟩ (.int .i64 x.d.room)).setCell ⟨m,6,none⟩ (.int .i64 x.d.player)).setCell ⟨m,7,none⟩ (.int .i64 x.d.box)).setCell ⟨m,8,none⟩ (.slice q2.at_ x.at_.length q2.atc)).setCell ⟨m,9,none⟩ (.slice q2.co x.coins.length q2.coc)).setCell ⟨m,10,none⟩ (.slice q2.wh x.wher.length q2.whc))):=by
 obtain ⟨h1,h2,h3,h4,h5⟩:=h
 obtain ⟨g1,g2,g3,g4⟩:=put_world h1 h2 ho h4 h5 (q2:=q2)
 exact ⟨g1,g2,g3,g4,h5⟩
end Go.Proofs.YtnhkojpbbdaedaaGreat
