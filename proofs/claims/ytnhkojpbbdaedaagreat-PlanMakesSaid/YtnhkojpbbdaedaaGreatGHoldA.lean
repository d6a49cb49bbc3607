/- hold: is there such an item; the places; an item brought elsewhere. -/
import Derived.Test.YtnhkojpbbdaedaaGreatGTreeL
namespace Go.Proofs.YtnhkojpbbdaedaaGreat
open Go.ChangeShapes Go.WideShapes Go.ChangeAt Go.RowKit Go.Proofs.Tryz
open Lib (hid)
set_option linter.unusedVariables false
set_option maxHeartbeats 1000000
set_option maxRecDepth 100000
section
theorem Ci {x:Wd} (h:Ai x=true):FewW x:=by
 have h1:=Aj h
 have h2:=Kv h1.2.2.2.2.2
 exact ⟨⟨by omega,by omega,by omega,by omega,by omega⟩,by omega,by omega,by omega⟩
structure Tri (t u s:TypeId) (w v:World) (cs ds z:Array Value):Prop where
 a:Blk v w.heap.size t cs
 m:Blk v (w.heap.size+1) u ds
 r:Blk v (w.heap.size+2) s z
 b:Below w.heap.size w v
section
variable {t u s:TypeId} {w v v1:World} {cs ds z:Array Value}
theorem Tri.rr (h:Tri t u s w v cs ds z):(∀i,v.cell? ⟨w.heap.size+1+1,i,none⟩=z[i]?)∧(∀i,v.frozen? ⟨w.heap.size+1+1,i,none⟩=false)∧w.heap.size+1+1<v.heap.size:=⟨h.r.cell,h.r.frozen,h.r.lt⟩
theorem Tri.start (t u s:TypeId) (w:World) (cs ds z:Array Value):Tri t u s w (((w.alloc (.cells cs t)).alloc (.cells ds u)).alloc (.cells z s)) cs ds z :=
 ⟨((Blk.new w _ cs).alloc _).alloc _,(Blk.newn _ _ _ (by simp)).alloc _,Blk.newn _ _ _ (by simp),((b_a _).alloc (by simp) _).alloc (by simp;omega) _⟩
theorem Tri.call (h:Tri t u s w v cs ds z) (hb:Below v.heap.size v v1):Tri t u s w v1 cs ds z:=⟨h.a.call hb,h.m.call hb,h.r.call hb,bl h.b (hb.mono (Nat.le_refl _))⟩
theorem Tri.alloc (h:Tri t u s w v cs ds z) (o:Obj):Tri t u s w (v.alloc o) cs ds z:=h.call (b_a _)
theorem Tri.size (h:Tri t u s w v cs ds z):w.heap.size+3≤v.heap.size:=h.r.lt
end
structure Qua (t u s r:TypeId) (w v:World) (cs ds es z:Array Value):Prop where
 a:Blk v w.heap.size t cs
 m:Blk v (w.heap.size+1) u ds
 n:Blk v (w.heap.size+2) s es
 r:Blk v (w.heap.size+3) r z
 b:Below w.heap.size w v
section
variable {t u s r:TypeId} {w v v1:World} {cs ds es z:Array Value}
theorem Qua.rr (h:Qua t u s r w v cs ds es z):(∀i,v.cell? ⟨w.heap.size+1+1+1,i,none⟩=z[i]?)∧(∀i,v.frozen? ⟨w.heap.size+1+1+1,i,none⟩=false)∧w.heap.size+1+1+1<v.heap.size:=⟨h.r.cell,h.r.frozen,h.r.lt⟩
theorem Qua.start (t u s r:TypeId) (w:World) (cs ds es z:Array Value):Qua t u s r w ((((w.alloc (.cells cs t)).alloc (.cells ds u)).alloc (.cells es s)).alloc (.cells z r)) cs ds es z :=
 ⟨(((Blk.new w _ cs).alloc _).alloc _).alloc _,((Blk.newn _ _ _ (by simp)).alloc _).alloc _,(Blk.newn _ _ _ (by simp)).alloc _,Blk.newn _ _ _ (by simp),(((b_a _).alloc (by simp) _).alloc (by simp;omega) _).alloc (by simp;omega) _⟩
theorem Qua.call (h:Qua t u s r w v cs ds es z) (hb:Below v.heap.size v v1):Qua t u s r w v1 cs ds es z:=⟨h.a.call hb,h.m.call hb,h.n.call hb,h.r.call hb,bl h.b (hb.mono (Nat.le_refl _))⟩
theorem Qua.size (h:Qua t u s r w v cs ds es z):w.heap.size+4≤v.heap.size:=h.r.lt
end
theorem Xh (x:Wd) (p:Wp) (k:Int) (w:World):Calls prog 105 #[.agg (wC x p),.int .i64 k] w fun e w'=>e=.returned (.bool (inB k x.wher.length))∧Below w.heap.size w w':=by
 have hb:=(Below.refl w.heap.size w).alloc (Nat.le_refl _) (.cells (wC x p) 29)
 unfold inB
 by_cases h1:0≤k
 ·by_cases h2:k<x.wher.length
  ·
   have hWC:=@wC.eq_1
   have hZC:=@zC.eq_1
   go_enter func105,ntmps105
   go_wp2_with fail
   go_ret
   exact ⟨Ag (by simp),hb⟩
  ·
   have hWC:=@wC.eq_1
   have hZC:=@zC.eq_1
   go_enter func105,ntmps105
   go_wp2_with fail
   go_ret
   exact ⟨Ag (by simp [h2]),hb⟩
 ·
  have hWC:=@wC.eq_1
  have hZC:=@zC.eq_1
  go_enter func105,ntmps105
  go_wp2_with fail
  go_ret
  exact ⟨Ag (by simp;omega),hb⟩
theorem Bv8 (n:Int) (w:World):Calls prog 74 #[.int .i64 n] w fun e w'=>e=.returned (.agg #[.int .i64 1,.int .i64 n])∧Below w.heap.size w w':=by
 have hWC:=@wC.eq_1
 have hZC:=@zC.eq_1
 go_enter func74,ntmps74
 go_wp2_with fail
 refine bodyPost_ret (v:=.agg #[.int .i64 1,.int .i64 n]) (by simp [results,results74,go_sem]) rfl ⟨rfl,?_⟩
 exact b_a _
theorem Bw0 (x:Wd) (p:Wp) (i:Nat) (w:World) (hx:Ai x=true) (h:Ae w p.at_ x.at_) (hi:i<x.at_.length):Calls prog 73 #[.agg (wC x p),.int .i64 (i:Int)] w fun e w'=>e=.returned (.agg #[.int .i64 0,.int .i64 (Ah x i:Int)])∧Below w.heap.size w w':=by
 obtain ⟨b,o,ea,hb,hc⟩:=h.at_ hi
 have c0:=hc i hi
 rw [(Bn hx hi).1] at c0
 have hlen:=h.len
 have hb0:=(Below.refl w.heap.size w).alloc (Nat.le_refl _) (.cells (wC x p) 29)
 obtain ⟨pd,pa,pac,pk,pkc,pw,pwc⟩:=p
 simp only at ea
 subst ea
 clear h hc hx
 have hWC:=@wC.eq_1
 have hZC:=@zC.eq_1
 go_enter func73,ntmps73
 go_wp2_with fail
 refine bodyPost_ret (v:=.agg #[.int .i64 0,.int .i64 (Ah x i:Int)]) (by simp [results,results73,go_sem]) rfl ⟨rfl,?_⟩
 exact hb0.alloc (by simp) _
theorem Bm2 (x:Wd) (p:Wp) (k:Nat) (y:Pl) (w:World) (h:Ab w p x) (hf:FewW x) (hk:k<x.wher.length):Calls prog 107 #[.agg (wC x p),.int .i64 (k:Int),.agg #[.int .i64 y.kind,.int .i64 y.id]] w fun e w'=>∃q:Wp,e=.returned (.agg (wC x q))∧Ao w.heap.size w' q (putW x k y)∧Below w.heap.size w w':=by
 have C0:=hid (Tri.start 29 48 29 w (wC x p) #[.int .i64 y.kind,.int .i64 y.id] zC)
 have H:=hid h
 have HF:=hid hf
 have HI:=hid (show inB (k:Int) x.wher.length=true by simp [inB,hk])
 have hlen:=h.wh.len
 clear h hf
 have hWC:=@wC.eq_1
 have hZC:=@zC.eq_1
 go_enter func107,ntmps107
 go_wp2_with fail
 refine (Gi x p _ (H.out.below C0.out.b (Nat.le_refl _)) HF.out).mono ?_
 rintro e w1 ⟨⟨qd,qa,qac,qk,qkc,qw,qwc⟩,rfl,ho,b1⟩
 obtain ⟨g,hqw,-,hg2,-,-,-⟩:=ho.putPlace hk
 simp only at hqw
 subst hqw
 have hg1:=C0.out.size
 have C1:=hid (C0.out.call b1)
 have HO:=hid (ho.less hg1)
 have hg1:w.heap.size+3≤g:=Nat.le_trans hg1 (by have:=ho.putPlace hk;obtain ⟨g',e,h1,_⟩:=this;simp only [Option.some.injEq,Addr.mk.injEq] at e;omega)
 clear ho b1
 have hca:=C1.out.a.cell
 have hla:=C1.out.a.lt
 go_wp2_with fail
 clear hca hla
 have D1:=hid (Blk.newn w1 29 (wC x ⟨qd,qa,qac,qk,qkc,some ⟨g,0,none⟩,qwc⟩) (n:=w1.heap.size) rfl)
 have C2:=hid (C1.out.alloc (.cells (wC x ⟨qd,qa,qac,qk,qkc,some ⟨g,0,none⟩,qwc⟩) 29))
 have HO2:=hid (HO.out.alloc' (.cells (wC x ⟨qd,qa,qac,qk,qkc,some ⟨g,0,none⟩,qwc⟩) 29))
 have BO:=hid ((Below.refl w.heap.size w).trans (C2.out.b))
 refine (Xh x p _ _).mono ?_
 rintro e w2 ⟨rfl,b2⟩
 rw [HI.out]
 have C3:=hid (C2.out.call b2)
 have D3:=hid (D1.out.call b2)
 obtain ⟨g',hqw,-,hg3,⟨cA,cB⟩,fA,hput⟩:=(HO2.out.call b2).putPlace hk
 simp only [Option.some.injEq,Addr.mk.injEq] at hqw
 obtain ⟨rfl,-⟩:=hqw
 have HP:=hid (hput y)
 have n1:w1.heap.size≠g:=by omega
 have n2:g≠w1.heap.size:=by omega
 have n3:g≠w.heap.size+2:=by omega
 have n4:w.heap.size+2≠g:=by omega
 have n5:w1.heap.size≠w.heap.size+2:=by have:=C1.out.size;omega
 have n6:w.heap.size+2≠w1.heap.size:=fun h=>n5 h.symm
 clear hput b2
 have hcm:=C3.out.m.cell
 have hlm:=C3.out.m.lt
 obtain ⟨hcr,hzr,hlr⟩:=C3.out.r.all
 have hcd:=D3.out.cell
 have hld:=D3.out.lt
 go_wp2_with fail
 refine bodyPost_ret (v:=.agg (wC x ⟨qd,qa,qac,qk,qkc,some ⟨g,0,none⟩,qwc⟩)) (by simp [results,results107,go_sem,hcr]) rfl ⟨⟨qd,qa,qac,qk,qkc,some ⟨g,0,none⟩,qwc⟩,rfl,?_,?_⟩
 ·refine Ao.less (n:=w.heap.size+3) ?_ (by omega)
  iterate 11 refine Ao.set (q:=w.heap.size+2) ?_ (by omega) _ _
  exact HP.out
 ·iterate 11 refine bs_2 ?_
  iterate 2 refine Below.setCell ?_ (by show w.heap.size≤g;omega) _
  exact C3.out.b
end
section
def Took (n:Nat) (W:World) (p q:Wp) (x:Wd) (R:Wd × Int):Prop:=(¬R.2=0∧R.1=x∧q=p)∨(R.2=0∧Ao n W q R.1)
theorem Took.call {n:Nat} {W W':World} {p q:Wp} {x:Wd} {R:Wd × Int} (h:Took n W p q x R) (hb:Below W.heap.size W W'):Took n W' p q x R:=h.imp id (fun ⟨h1,h2⟩=>⟨h1,h2.call hb⟩)
theorem Took.set {n:Nat} {W:World} {p q:Wp} {x:Wd} {R:Wd × Int} (h:Took n W p q x R) {b:Nat} (hb:b<n) (i:Nat) (u:Value):Took n (W.setCell ⟨b,i,none⟩ u) p q x R:=h.imp id (fun ⟨h1,h2⟩=>⟨h1,h2.set hb i u⟩)
theorem Took.less {n m:Nat} {W:World} {p q:Wp} {x:Wd} {R:Wd × Int} (h:Took n W p q x R) (hm:m≤n):Took m W p q x R:=h.imp id (fun ⟨h1,h2⟩=>⟨h1,h2.less hm⟩)
theorem Took.world {n:Nat} {W:World} {p q:Wp} {x:Wd} {R:Wd × Int} (h:Took n W p q x R) (hw:Ab W p x):Ab W q R.1:=by
 rcases h with ⟨_,h1,h2⟩|⟨_,h2⟩
 ·rw [h1,h2];exact hw
 ·exact h2.world
theorem Yh {x:Wd} (h:Ai x=true) {q:Nat} (hq:q<3):0≤Cb x.d q∧Cb x.d q≤64:=by
 have hm:=(Aj h).2.2.2.2.2
 simp only [mayD,Ot,Bool.and_eq_true,List.all_eq_true] at hm
 have hc:=hm.2.2.1
 have c0:=hc x.d.room (by simp)
 have c1:=hc x.d.player (by simp)
 have c2:=hc x.d.box (by simp)
 simp only [capB,Bool.and_eq_true,decide_eq_true_eq] at c0 c1 c2
 obtain rfl|rfl|rfl:q=0∨q=1∨q=2:=by omega
 all_goals simp [Cb];omega
theorem Eh2 (x:Wd) (p:Wp) (item:Int) (f g:Pl) (w:World) (hi:inB item x.wher.length=false):Calls prog 72 #[.agg (wC x p),.int .i64 item,.agg #[.int .i64 f.kind,.int .i64 f.id],.agg #[.int .i64 g.kind,.int .i64 g.id]] w fun e w'=>e=.returned (.tuple #[.agg (wC x p),.int .i64 3])∧Below w.heap.size w w':=by
 have C0:=hid (Qua.start 29 48 48 29 w (wC x p) #[.int .i64 f.kind,.int .i64 f.id] #[.int .i64 g.kind,.int .i64 g.id] zC)
 have HI:=hid hi
 clear hi
 have hWC:=@wC.eq_1
 have hZC:=@zC.eq_1
 go_enter func72,ntmps72
 go_wp2_with fail
 refine (Xh x p item _).mono ?_
 rintro e w1 ⟨rfl,b1⟩
 rw [HI.out]
 have C1:=hid (C0.out.call b1)
 have hca:=C1.out.a.cell
 have hla:=C1.out.a.lt
 obtain ⟨hcr,hzr,hlr⟩:=C1.out.r.all
 clear b1
 go_wp2_with fail
 refine bodyPost_ret (v:=.tuple #[.agg (wC x p),.int .i64 3]) (by simp [results,results72,go_sem,hcr]) rfl ⟨rfl,?_⟩
 iterate 11 refine Below.setCell ?_ (by show w.heap.size≤w.heap.size+3;omega) _
 exact C1.out.b
section
variable (x:Wd) (pd:Dp) (pa:Option Addr) (pac:Nat) (pk:Option Addr) (pkc b o pwc:Nat) (k:Nat) (f:Pl) (w:World) (hx:Ai x=true) (h:Ab w ⟨pd,pa,pac,pk,pkc,some ⟨b,o,none⟩,pwc⟩ x) (hk:k<x.wher.length)
 (c0:w.cell? ⟨b,o+k*2,none⟩=some (.int .i64 (plOf x.wher k).kind)) (c1:w.cell? ⟨b,o+k*2+1,none⟩=some (.int .i64 (plOf x.wher k).id))
include hx h hk c0 c1
theorem Cz1 (gk:Nat) (gi:Int) (hz:¬plOf x.wher k=f):Calls prog 72 #[.agg (wC x ⟨pd,pa,pac,pk,pkc,some ⟨b,o,none⟩,pwc⟩),.int .i64 (k:Int),.agg #[.int .i64 f.kind,.int .i64 f.id],.agg #[.int .i64 (gk:Int),.int .i64 gi]] w fun e w'=>e=.returned (.tuple #[.agg (wC x ⟨pd,pa,pac,pk,pkc,some ⟨b,o,none⟩,pwc⟩),.int .i64 5])∧Below w.heap.size w w':=by
 generalize plOf x.wher k=z at *
 have hd:True:=trivial
 obtain ⟨zk,zi⟩:=z
 obtain ⟨fk,fi⟩:=f
 have C0:=hid (Qua.start 29 48 48 29 w (wC x ⟨pd,pa,pac,pk,pkc,some ⟨b,o,none⟩,pwc⟩) #[.int .i64 fk,.int .i64 fi] #[.int .i64 gk,.int .i64 gi] zC)
 have HI:=hid (show inB (k:Int) x.wher.length=true by simp [inB,hk])
 have H:=hid h
 have HX:=hid hx
 have hlen:=h.wh.len
 have hrun:=Kj zk zi fk fi
 simp only [hz,decide_false,Bool.not_false] at hrun
 simp only at c0 c1
 clear h hx hz
 have hWC:=@wC.eq_1
 have hZC:=@zC.eq_1
 go_enter func72,ntmps72
 go_wp2_with fail
 refine (Xh x ⟨pd,pa,pac,pk,pkc,some ⟨b,o,none⟩,pwc⟩ k _).mono ?_
 rintro e w1 ⟨rfl,b1⟩
 rw [HI.out]
 have C1:=hid (C0.out.call b1)
 have d0:=Ad c0 C1.out.b
 have d1:=Ad c1 C1.out.b
 have hca:=C1.out.a.cell
 have hla:=C1.out.a.lt
 have hcm:=C1.out.m.cell
 have hlm:=C1.out.m.lt
 clear b1 c0 c1
 go_wp2_with fail
 refine tkS (S:=(fun w'=>Below w1.heap.size w1 w'∧(∀j,w'.cell? ⟨w.heap.size,j,none⟩=((wC x ⟨pd,pa,pac,pk,pkc,some ⟨b,o,none⟩,pwc⟩)[j]?:Option Value))∧(∀j,w'.cell? ⟨w.heap.size+1,j,none⟩=(#[.int .i64 fk,.int .i64 fi][j]?:Option Value))∧w'.cell? ⟨b,o+k*2,none⟩=some (.int .i64 zk)∧w'.cell? ⟨b,o+k*2+1,none⟩=some (.int .i64 zi))) (by (exact ⟨Af (Below.refl _ _),hca,hcm,d0,d1⟩)) (fun hHeld=>?_)
 refine tkl [0,1,2,3,4,5,6] ?_
 iterate 7
  first|refine tW ?_|refine tN ?_
  try go_frame
 refine tkD ?_
 have C2:=hid (C1.out.call hHeld.1)
 clear hHeld hca hla hcm hlm d0 d1
 generalize w1.drew=W2 at *
 have hca:=C2.out.a.cell
 have hla:=C2.out.a.lt
 have hcn:∀i,World.cell? _ ⟨w.heap.size+1+1,i,none⟩=_:=C2.out.n.cell
 have hln:=C2.out.n.lt
 obtain ⟨hcr,hzr,hlr⟩:=C2.out.rr
 go_wp2_with fail
 refine bodyPost_ret (v:=.tuple #[.agg (wC x ⟨pd,pa,pac,pk,pkc,some ⟨b,o,none⟩,pwc⟩),.int .i64 5]) (by simp [results,results72,go_sem,hcr]) rfl ⟨rfl,?_⟩
 iterate 11 refine Below.setCell ?_ (by show w.heap.size≤w.heap.size+3;omega) _
 exact C2.out.b
theorem Cy9 (gk:Nat) (gi:Int) (hg:gk<3) (hz:plOf x.wher k=f) (hr:roomI x ⟨(gk:Int),gi⟩=0):Calls prog 72 #[.agg (wC x ⟨pd,pa,pac,pk,pkc,some ⟨b,o,none⟩,pwc⟩),.int .i64 (k:Int),.agg #[.int .i64 f.kind,.int .i64 f.id],.agg #[.int .i64 (gk:Int),.int .i64 gi]] w fun e w'=>e=.returned (.tuple #[.agg (wC x ⟨pd,pa,pac,pk,pkc,some ⟨b,o,none⟩,pwc⟩),.int .i64 9])∧Below w.heap.size w w':=by
 have HR:=hid (show Cb x.d gk-(x.wher.count ⟨gk,gi⟩:Nat)=0 from hr)
 clear hr
 generalize plOf x.wher k=z at *
 have hd:True:=trivial
 obtain ⟨zk,zi⟩:=z
 obtain ⟨fk,fi⟩:=f
 have C0:=hid (Qua.start 29 48 48 29 w (wC x ⟨pd,pa,pac,pk,pkc,some ⟨b,o,none⟩,pwc⟩) #[.int .i64 fk,.int .i64 fi] #[.int .i64 gk,.int .i64 gi] zC)
 have HI:=hid (show inB (k:Int) x.wher.length=true by simp [inB,hk])
 have H:=hid h
 have HX:=hid hx
 have hlen:=h.wh.len
 have hrun:=Kj zk zi fk fi
 simp only [hz,decide_true,Bool.not_true] at hrun
 simp only at c0 c1
 clear h hx hz
 have hWC:=@wC.eq_1
 have hZC:=@zC.eq_1
 go_enter func72,ntmps72
 go_wp2_with fail
 refine (Xh x ⟨pd,pa,pac,pk,pkc,some ⟨b,o,none⟩,pwc⟩ k _).mono ?_
 rintro e w1 ⟨rfl,b1⟩
 rw [HI.out]
 have C1:=hid (C0.out.call b1)
 have d0:=Ad c0 C1.out.b
 have d1:=Ad c1 C1.out.b
 have hca:=C1.out.a.cell
 have hla:=C1.out.a.lt
 have hcm:=C1.out.m.cell
 have hlm:=C1.out.m.lt
 clear b1 c0 c1
 go_wp2_with fail
 refine tkS (S:=(fun w'=>Below w1.heap.size w1 w'∧(∀j,w'.cell? ⟨w.heap.size,j,none⟩=((wC x ⟨pd,pa,pac,pk,pkc,some ⟨b,o,none⟩,pwc⟩)[j]?:Option Value))∧(∀j,w'.cell? ⟨w.heap.size+1,j,none⟩=(#[.int .i64 fk,.int .i64 fi][j]?:Option Value))∧w'.cell? ⟨b,o+k*2,none⟩=some (.int .i64 zk)∧w'.cell? ⟨b,o+k*2+1,none⟩=some (.int .i64 zi))) (by (exact ⟨Af (Below.refl _ _),hca,hcm,d0,d1⟩)) (fun hHeld=>?_)
 refine tkl [0,1,2,3,4,5,6] ?_
 iterate 7
  first|refine tW ?_|refine tN ?_
  try go_frame
 refine tkD ?_
 have C2:=hid (C1.out.call hHeld.1)
 clear hHeld hca hla hcm hlm d0 d1
 generalize w1.drew=W2 at *
 have hca:=C2.out.a.cell
 have hla:=C2.out.a.lt
 have hcn:∀i,World.cell? _ ⟨w.heap.size+1+1,i,none⟩=_:=C2.out.n.cell
 have hln:=C2.out.n.lt
 obtain ⟨hcr,hzr,hlr⟩:=C2.out.rr
 go_wp2_with fail
 refine (Lp x ⟨pd,pa,pac,pk,pkc,some ⟨b,o,none⟩,pwc⟩ gk gi hg (Yh HX.out hg) _ (H.out.below C2.out.b (Nat.le_refl _)).wh (by have:=(Aj HX.out).2.2.2.1;omega)).mono ?_
 rintro e w3 ⟨rfl,b3⟩
 rw [HR.out]
 have C3:=hid (C2.out.call b3)
 clear b3 hca hla hcn hln hcr hzr hlr
 have hca:=C3.out.a.cell
 have hla:=C3.out.a.lt
 have hcn:∀i,World.cell? _ ⟨w.heap.size+1+1,i,none⟩=_:=C3.out.n.cell
 have hln:=C3.out.n.lt
 obtain ⟨hcr,hzr,hlr⟩:=C3.out.rr
 go_wp2_with fail
 refine bodyPost_ret (v:=.tuple #[.agg (wC x ⟨pd,pa,pac,pk,pkc,some ⟨b,o,none⟩,pwc⟩),.int .i64 9]) (by simp [results,results72,go_sem,hcr]) rfl ⟨rfl,?_⟩
 iterate 11 refine Below.setCell ?_ (by show w.heap.size≤w.heap.size+3;omega) _
 exact C3.out.b
theorem Eh3 (gk:Nat) (gi:Int) (hg:gk<3) (hz:plOf x.wher k=f) (r:Int) (hr:roomI x ⟨(gk:Int),gi⟩=r) (hr1:¬r<1):Calls prog 72 #[.agg (wC x ⟨pd,pa,pac,pk,pkc,some ⟨b,o,none⟩,pwc⟩),.int .i64 (k:Int),.agg #[.int .i64 f.kind,.int .i64 f.id],.agg #[.int .i64 (gk:Int),.int .i64 gi]] w fun e w'=>∃q:Wp,e=.returned (.tuple #[.agg (wC x q),.int .i64 0])∧Ao w.heap.size w' q (putW x k ⟨gk,gi⟩)∧Below w.heap.size w w':=by
 have HR:=hid (show Cb x.d gk-(x.wher.count ⟨gk,gi⟩:Nat)=r from hr)
 clear hr
 generalize plOf x.wher k=z at *
 have hd:True:=trivial
 obtain ⟨zk,zi⟩:=z
 obtain ⟨fk,fi⟩:=f
 have C0:=hid (Qua.start 29 48 48 29 w (wC x ⟨pd,pa,pac,pk,pkc,some ⟨b,o,none⟩,pwc⟩) #[.int .i64 fk,.int .i64 fi] #[.int .i64 gk,.int .i64 gi] zC)
 have HI:=hid (show inB (k:Int) x.wher.length=true by simp [inB,hk])
 have H:=hid h
 have HX:=hid hx
 have hlen:=h.wh.len
 have hrun:=Kj zk zi fk fi
 simp only [hz,decide_true,Bool.not_true] at hrun
 simp only at c0 c1
 clear h hx hz
 have hWC:=@wC.eq_1
 have hZC:=@zC.eq_1
 go_enter func72,ntmps72
 go_wp2_with fail
 refine (Xh x ⟨pd,pa,pac,pk,pkc,some ⟨b,o,none⟩,pwc⟩ k _).mono ?_
 rintro e w1 ⟨rfl,b1⟩
 rw [HI.out]
 have C1:=hid (C0.out.call b1)
 have d0:=Ad c0 C1.out.b
 have d1:=Ad c1 C1.out.b
 have hca:=C1.out.a.cell
 have hla:=C1.out.a.lt
 have hcm:=C1.out.m.cell
 have hlm:=C1.out.m.lt
 clear b1 c0 c1
 go_wp2_with fail
 refine tkS (S:=(fun w'=>Below w1.heap.size w1 w'∧(∀j,w'.cell? ⟨w.heap.size,j,none⟩=((wC x ⟨pd,pa,pac,pk,pkc,some ⟨b,o,none⟩,pwc⟩)[j]?:Option Value))∧(∀j,w'.cell? ⟨w.heap.size+1,j,none⟩=(#[.int .i64 fk,.int .i64 fi][j]?:Option Value))∧w'.cell? ⟨b,o+k*2,none⟩=some (.int .i64 zk)∧w'.cell? ⟨b,o+k*2+1,none⟩=some (.int .i64 zi))) (by (exact ⟨Af (Below.refl _ _),hca,hcm,d0,d1⟩)) (fun hHeld=>?_)
 refine tkl [0,1,2,3,4,5,6] ?_
 iterate 7
  first|refine tW ?_|refine tN ?_
  try go_frame
 refine tkD ?_
 have C2:=hid (C1.out.call hHeld.1)
 clear hHeld hca hla hcm hlm d0 d1
 generalize w1.drew=W2 at *
 have hca:=C2.out.a.cell
 have hla:=C2.out.a.lt
 have hcn:∀i,World.cell? _ ⟨w.heap.size+1+1,i,none⟩=_:=C2.out.n.cell
 have hln:=C2.out.n.lt
 obtain ⟨hcr,hzr,hlr⟩:=C2.out.rr
 go_wp2_with fail
 refine (Lp x ⟨pd,pa,pac,pk,pkc,some ⟨b,o,none⟩,pwc⟩ gk gi hg (Yh HX.out hg) _ (H.out.below C2.out.b (Nat.le_refl _)).wh (by have:=(Aj HX.out).2.2.2.1;omega)).mono ?_
 rintro e w3 ⟨rfl,b3⟩
 rw [HR.out]
 have C3:=hid (C2.out.call b3)
 clear b3 hca hla hcn hln hcr hzr hlr
 have hca:=C3.out.a.cell
 have hla:=C3.out.a.lt
 have hcn:∀i,World.cell? _ ⟨w.heap.size+1+1,i,none⟩=_:=C3.out.n.cell
 have hln:=C3.out.n.lt
 obtain ⟨hcr,hzr,hlr⟩:=C3.out.rr
 go_wp2_with fail
 refine (Bm2 x ⟨pd,pa,pac,pk,pkc,some ⟨b,o,none⟩,pwc⟩ k ⟨gk,gi⟩ _ (H.out.below C3.out.b (Nat.le_refl _)) (Ci HX.out) hk).mono ?_
 rintro e w4 ⟨⟨qd,qa,qac,qk,qkc,qw,qwc⟩,rfl,ho,b4⟩
 have C4:=hid (C3.out.call b4)
 have HO:=hid (ho.less C3.out.size)
 clear b4 ho hca hla hcn hln hcr hzr hlr
 obtain ⟨hcr,hzr,hlr⟩:=C4.out.rr
 go_wp2_with fail
 refine bodyPost_ret (v:=.tuple #[.agg (wC x ⟨qd,qa,qac,qk,qkc,qw,qwc⟩),.int .i64 0]) (by simp [results,results72,go_sem,hcr]) rfl ⟨⟨qd,qa,qac,qk,qkc,qw,qwc⟩,rfl,?_,?_⟩
 ·refine Ao.less (n:=w.heap.size+4) ?_ (by omega)
  iterate 11 refine Ao.set (q:=w.heap.size+3) ?_ (by omega) _ _
  exact HO.out
 ·iterate 11 refine Below.setCell ?_ (by show w.heap.size≤w.heap.size+3;omega) _
  exact C4.out.b
end
theorem Bu3 (x:Wd) (p:Wp) (item:Int) (f:Pl) (gk:Nat) (gi:Int) (hg:gk<3) (w:World) (hx:Ai x=true) (h:Ab w p x):Calls prog 72 #[.agg (wC x p),.int .i64 item,.agg #[.int .i64 f.kind,.int .i64 f.id],.agg #[.int .i64 (gk:Int),.int .i64 gi]] w fun e w'=>∃q:Wp,e=.returned (.tuple #[.agg (wC x q),.int .i64 (Fa x item f ⟨gk,gi⟩).2])∧Took w.heap.size w' p q x (Fa x item f ⟨gk,gi⟩)∧Below w.heap.size w w':=by
 rcases Ho x item f ⟨gk,gi⟩ with ⟨h1,e⟩|⟨k,rfl,hk,hc⟩
 ·rw [e]
  exact (Eh2 x p item f ⟨gk,gi⟩ w h1).mono fun e' w' ⟨h2,h3⟩=>⟨_,h2,.inl ⟨by simp,rfl,rfl⟩,h3⟩
 ·obtain ⟨b,o,ea,hb,c0,c1⟩:=Au.cells h.wh hk
  rw [←Bo hk] at c0 c1
  obtain ⟨pd,pa,pac,pk,pkc,pw,pwc⟩:=p
  simp only at ea
  subst ea
  rcases hc with ⟨h1,e⟩|⟨h1,h2,e⟩|⟨h1,h2,e⟩
  all_goals rw [e]
  ·exact (Cz1 x pd pa pac pk pkc b o pwc k f w hx h hk c0 c1 gk gi h1).mono fun e' w' ⟨h2,h3⟩=>⟨_,h2,.inl ⟨by simp,rfl,rfl⟩,h3⟩
  ·exact (Cy9 x pd pa pac pk pkc b o pwc k f w hx h hk c0 c1 gk gi hg h1 h2).mono fun e' w' ⟨h2,h3⟩=>⟨_,h2,.inl ⟨by simp,rfl,rfl⟩,h3⟩
  ·have h3:=Hz hx (f:=⟨gk,gi⟩) (by simp only;omega)
   exact (Eh3 x pd pa pac pk pkc b o pwc k f w hx h hk c0 c1 gk gi hg h1 _ rfl (by omega)).mono fun e' w' ⟨q,h4,h5,h6⟩=>⟨q,h4,.inr ⟨rfl,h5⟩,h6⟩
end
section
theorem Dp9 (x:Wd) (p:Wp) (i:Nat) (item:Int) (w:World) (hx:Ai x=true) (h:Ab w p x):Calls prog 72 #[.agg (wC x p),.int .i64 item,.agg #[.int .i64 0,.int .i64 (Ah x i:Int)],.agg #[.int .i64 1,.int .i64 (i:Int)]] w fun e w'=>∃q:Wp,e=.returned (.tuple #[.agg (wC x q),.int .i64 (getW x i item).2])∧Took w.heap.size w' p q x (getW x i item)∧Below w.heap.size w w' :=
 Bu3 x p item ⟨0,Ah x i⟩ 1 i (by decide) w hx h
theorem Cz0 (x:Wd) (p:Wp) (i:Nat) (item:Int) (w:World) (hx:Ai x=true) (h:Ab w p x):Calls prog 72 #[.agg (wC x p),.int .i64 item,.agg #[.int .i64 1,.int .i64 (i:Int)],.agg #[.int .i64 0,.int .i64 (Ah x i:Int)]] w fun e w'=>∃q:Wp,e=.returned (.tuple #[.agg (wC x q),.int .i64 (Nj x i item).2])∧Took w.heap.size w' p q x (Nj x i item)∧Below w.heap.size w w' :=
 Bu3 x p item ⟨1,i⟩ 0 (Ah x i) (by decide) w hx h
theorem Ac2 (x:Wd) (p:Wp) (i:Nat) (item:Int) (w:World) (hx:Ai x=true) (h:Ab w p x) (hi:i<x.at_.length):Calls prog 45 #[.agg (wC x p),.int .i64 (i:Int),.int .i64 item] w fun e w'=>∃q:Wp,e=.returned (.tuple #[.agg (wC x q),.int .i64 (getW x i item).2])∧Took w.heap.size w' p q x (getW x i item)∧Below w.heap.size w w':=by
 have H:=hid h
 have HX:=hid hx
 clear h hx
 have C0:=hid (Two.start 29 29 w (wC x p) zC)
 obtain ⟨y,hy⟩:∃y,y=getW x i item:=⟨_,rfl⟩
 have HY:=hid hy
 rw [←hy]
 clear hy
 have hWC:=@wC.eq_1
 have hZC:=@zC.eq_1
 go_enter func45,ntmps45
 go_wp2_with fail
 have CD:=hid C0.out.drew
 refine tkS (S:=(fun w'=>Below w.heap.size w w'∧w.heap.size<w'.heap.size∧(∀i,w'.cell? ⟨w.heap.size,i,none⟩=((wC x p)[i]?:Option Value))∧w.heap.size+1<w'.heap.size)) (by (with_reducible exact ⟨C0.out.drew.b,C0.out.drew.a.lt,C0.out.drew.a.cell,C0.out.drew.r.lt⟩)) (fun hHeld=>?_)
 refine tkl [0,1,2,3,5] ?_
 iterate 5
  refine tW ?_
  try go_frame
 refine rdy1 4 (fun K hK=>?_)
 go_simp
 refine (Bw0 x p i _ HX.out (H.out.at_.below CD.out.b (Nat.le_refl _)) hi).mono ?_;rintro e w1 ⟨rfl,hb1⟩;have D1:=hid (CD.out.call hb1);clear hb1
 try go_wp2_with fail
 refine hK.out _ _ (by (with_reducible exact ⟨D1.out.b,D1.out.a.lt,D1.out.a.cell,D1.out.r.lt⟩)) (fun hHeld=>?_)
 clear hK K
 try go_frame
 refine rdy1 6 (fun K hK=>?_)
 go_simp
 refine (Bv8 i _).mono ?_;rintro e w2 ⟨rfl,hb2⟩;have D2:=hid (D1.out.call hb2);clear hb2
 try go_wp2_with fail
 refine hK.out _ _ (by (with_reducible exact ⟨D2.out.b,D2.out.a.lt,D2.out.a.cell,D2.out.r.lt⟩)) (fun hHeld=>?_)
 clear hK K
 try go_frame
 refine rdy1 7 (fun K hK=>?_)
 go_simp
 refine (Dp9 x p i item _ HX.out (H.out.below D2.out.b (Nat.le_refl _))).mono ?_;rintro e w3 ⟨⟨qd,qa,qac,qk,qkc,qw,qwc⟩,rfl,wn,hb3⟩;rw [←HY.out] at wn ⊢;have D3:=hid (D2.out.call hb3)
 try go_wp2_with fail
 refine hK.out _ _ (by (with_reducible exact ⟨D3.out.b,D3.out.a.lt,D3.out.a.cell,D3.out.r.lt⟩)) (fun hHeld=>?_)
 clear hK K
 try go_frame
 have WN:=hid wn
 obtain ⟨hc2,hz2,hs2⟩:=D3.out.r.all
 clear wn hb3
 refine tkl [8,9] ?_
 iterate 2
  refine tW ?_
  try go_frame
 refine rdy1 10 (fun K hK=>?_)
 go_simp
 try go_wp2_with fail
 refine hK.out _ _ (by (refine Ry (t:=29) (s:=29) (w:=w) ?_;(iterate 11 with_reducible refine TwoE.set2 ?_ _ _);with_reducible exact TwoE.mk D3.out)) (fun hHeld=>?_)
 clear hK K
 try go_frame
 refine tkl [11] (tW ?_)
 try go_frame
 refine tkD ?_
 go_wp2_with fail
 refine bodyPost_ret (v:=.tuple #[.agg (wC x ⟨qd,qa,qac,qk,qkc,qw,qwc⟩),.int .i64 y.2]) (by simp [results,results45,go_sem,hc2]) rfl ⟨⟨qd,qa,qac,qk,qkc,qw,qwc⟩,rfl,?_,?_⟩
 ·refine Took.less (n:=w2.heap.size) ?_ (by have:=D2.out.r.lt;omega)
  iterate 11 refine Took.set (b:=w.heap.size+1) ?_ D2.out.r.lt _ _
  exact WN.out
 ·iterate 11 refine bs_1 ?_
  exact D3.out.b
theorem Ai7 (x:Wd) (p:Wp) (i:Nat) (item:Int) (w:World) (hx:Ai x=true) (h:Ab w p x) (hi:i<x.at_.length):Calls prog 46 #[.agg (wC x p),.int .i64 (i:Int),.int .i64 item] w fun e w'=>∃q:Wp,e=.returned (.tuple #[.agg (wC x q),.int .i64 (Nj x i item).2])∧Took w.heap.size w' p q x (Nj x i item)∧Below w.heap.size w w':=by
 have H:=hid h
 have HX:=hid hx
 clear h hx
 have C0:=hid (Two.start 29 29 w (wC x p) zC)
 obtain ⟨y,hy⟩:∃y,y=Nj x i item:=⟨_,rfl⟩
 have HY:=hid hy
 rw [←hy]
 clear hy
 have hWC:=@wC.eq_1
 have hZC:=@zC.eq_1
 go_enter func46,ntmps46
 go_wp2_with fail
 have CD:=hid C0.out.drew
 refine tkS (S:=(fun w'=>Below w.heap.size w w'∧w.heap.size<w'.heap.size∧(∀i,w'.cell? ⟨w.heap.size,i,none⟩=((wC x p)[i]?:Option Value))∧w.heap.size+1<w'.heap.size)) (by (with_reducible exact ⟨C0.out.drew.b,C0.out.drew.a.lt,C0.out.drew.a.cell,C0.out.drew.r.lt⟩)) (fun hHeld=>?_)
 refine tkl [0,1,2,4,5] ?_
 iterate 5
  refine tW ?_
  try go_frame
 refine rdy1 3 (fun K hK=>?_)
 go_simp
 refine (Bv8 i _).mono ?_;rintro e w1 ⟨rfl,hb1⟩;have D1:=hid (CD.out.call hb1);clear hb1
 try go_wp2_with fail
 refine hK.out _ _ (by (with_reducible exact ⟨D1.out.b,D1.out.a.lt,D1.out.a.cell,D1.out.r.lt⟩)) (fun hHeld=>?_)
 clear hK K
 try go_frame
 refine rdy1 6 (fun K hK=>?_)
 go_simp
 refine (Bw0 x p i _ HX.out (H.out.at_.below D1.out.b (Nat.le_refl _)) hi).mono ?_;rintro e w2 ⟨rfl,hb2⟩;have D2:=hid (D1.out.call hb2);clear hb2
 try go_wp2_with fail
 refine hK.out _ _ (by (with_reducible exact ⟨D2.out.b,D2.out.a.lt,D2.out.a.cell,D2.out.r.lt⟩)) (fun hHeld=>?_)
 clear hK K
 try go_frame
 refine rdy1 7 (fun K hK=>?_)
 go_simp
 refine (Cz0 x p i item _ HX.out (H.out.below D2.out.b (Nat.le_refl _))).mono ?_;rintro e w3 ⟨⟨qd,qa,qac,qk,qkc,qw,qwc⟩,rfl,wn,hb3⟩;rw [←HY.out] at wn ⊢;have D3:=hid (D2.out.call hb3)
 try go_wp2_with fail
 refine hK.out _ _ (by (with_reducible exact ⟨D3.out.b,D3.out.a.lt,D3.out.a.cell,D3.out.r.lt⟩)) (fun hHeld=>?_)
 clear hK K
 try go_frame
 have WN:=hid wn
 obtain ⟨hc2,hz2,hs2⟩:=D3.out.r.all
 clear wn hb3
 refine tkl [8,9] ?_
 iterate 2
  refine tW ?_
  try go_frame
 refine rdy1 10 (fun K hK=>?_)
 go_simp
 try go_wp2_with fail
 refine hK.out _ _ (by (refine Ry (t:=29) (s:=29) (w:=w) ?_;(iterate 11 with_reducible refine TwoE.set2 ?_ _ _);with_reducible exact TwoE.mk D3.out)) (fun hHeld=>?_)
 clear hK K
 try go_frame
 refine tkl [11] (tW ?_)
 try go_frame
 refine tkD ?_
 go_wp2_with fail
 refine bodyPost_ret (v:=.tuple #[.agg (wC x ⟨qd,qa,qac,qk,qkc,qw,qwc⟩),.int .i64 y.2]) (by simp [results,results46,go_sem,hc2]) rfl ⟨⟨qd,qa,qac,qk,qkc,qw,qwc⟩,rfl,?_,?_⟩
 ·refine Took.less (n:=w2.heap.size) ?_ (by have:=D2.out.r.lt;omega)
  iterate 11 refine Took.set (b:=w.heap.size+1) ?_ D2.out.r.lt _ _
  exact WN.out
 ·iterate 11 refine bs_1 ?_
  exact D3.out.b
end
end Go.Proofs.YtnhkojpbbdaedaaGreat
