/- Changes as they lie in memory; the document's own Full, May, Do. -/
import Derived.Test.YtnhkojpbbdaedaaGHoldR
import Derived.Test.YtnhkojpbbdaedaaAtomArg
import Derived.Test.YtnhkojpbbdaedaaPlanMath
import Derived.Deep.DeepCutAuto
namespace Go.Proofs.Ytnhkojpbbdaedaa
open Go.ChangeShapes Go.WideShapes Go.ChangeAt Go.RowKit Go.Proofs.Try
set_option linter.unusedVariables false
set_option maxHeartbeats 400000
set_option maxRecDepth 100000
open Go.RowKit Go.Deep
def wrC (c:Wr):List Value:=[.int .i64 c.kind,.int .i64 c.id,.int .i64 c.num,.int .i64 c.pl.kind,.int .i64 c.pl.id]
theorem wrC_len (c:Wr):(wrC c).length=5:=rfl
theorem wrC_one (c:Wr):∀u∈wrC c,u.oneCell'=true:=by intro u hu;simp [wrC] at hu;rcases hu with rfl|rfl|rfl|rfl|rfl<;>rfl
theorem wr_info:(prog.info? 39).map (fun i=>(i.zero,i.size,i.bytes))=some (some (.agg #[.int .i64 0,.int .i64 0,.int .i64 0,.int .i64 0,.int .i64 0]),5,40):=by kernel_rfl
abbrev WrsAt (w:World) (a:Option Addr) (l:List Wr):Prop:=Ar 5 wrC w a l
theorem WrsAt.cells {w:World} {a:Option Addr} {l:List Wr} (h:WrsAt w a l) {k:Nat} (hk:k<l.length):∃b off,a=some ⟨b,off,none⟩∧b<w.heap.size ∧
 w.cell? ⟨b,off+k*5,none⟩=some (.int .i64 l[k].kind)∧w.cell? ⟨b,off+k*5+1,none⟩=some (.int .i64 l[k].id)∧w.cell? ⟨b,off+k*5+2,none⟩=some (.int .i64 l[k].num)∧w.cell? ⟨b,off+k*5+3,none⟩=some (.int .i64 l[k].pl.kind)∧w.cell? ⟨b,off+k*5+4,none⟩=some (.int .i64 l[k].pl.id):=by
 obtain ⟨b,off,rfl,hb,hc⟩:=h.at_ hk
 exact ⟨b,off,rfl,hb,hc k hk 0 (by omega),hc k hk 1 (by omega),hc k hk 2 (by omega),hc k hk 3 (by omega),hc k hk 4 (by omega)⟩
theorem trod_wr {H:Type} {enc:TypeId × Value→H} {W:World} {fuel:Nat} {cs:List Value} {x:DataW H × List MemPlace}
 (h:DataW.trod enc prog W 0 (fun _=>true) true fuel 39 cs=some x):∃c:Wr,cs=wrC c:=by
 obtain ⟨xs,n,_,_,hl,hxl,hf⟩:=DataW.trod_struct underlying39 h
 rw [show prog.cellsOf 39=5 by kernel_rfl] at hl
 match cs,hl with
 | [c0,c1,c2,c3,c4],_ =>
   match xs,hxl with
   | [y0,y1,y2,y3],_ =>
     have z1:prog.cellsOf 37=2:=by kernel_rfl
     have z4:prog.cellsOf 3=1:=by kernel_rfl
     have f0:=hf 0 _ rfl
     have f1:=hf 1 _ rfl
     have f2:=hf 2 _ rfl
     have f3:=hf 3 _ rfl
     simp [z1,z4] at f0 f1 f2 f3
     obtain ⟨i0,e0,_,_⟩:=DataW.trod_int underlying3 f0
     obtain ⟨i1,e1,_,_⟩:=DataW.trod_int underlying3 f1
     obtain ⟨i2,e2,_,_⟩:=DataW.trod_int underlying3 f2
     obtain ⟨xs3,n3,_,_,hl3,hxl3,hf3⟩:=DataW.trod_struct underlying37 f3
     match xs3,hxl3 with
     | [z0,z2],_ =>
       have g0:=hf3 0 _ rfl
       have g1:=hf3 1 _ rfl
       simp [z4] at g0 g1
       obtain ⟨i3,e3,_,_⟩:=DataW.trod_int underlying3 g0
       obtain ⟨i4,e4,_,_⟩:=DataW.trod_int underlying3 g1
       simp only [List.cons.injEq,and_true] at e0 e1 e2 e3 e4
       subst e0 e1 e2 e3 e4
       exact ⟨⟨i0,i1,i2,⟨i3,i4⟩⟩,rfl⟩
theorem read_wrs {H:Type} {enc:TypeId × Value→H} {W:World} {base:Nat} {v:Value} {d:DataW H} {ps:List MemPlace}
 (hv:Value.okWide prog W .any base 30 v) (h:DataW.Trod enc prog W 0 (fun _=>true) true 30 v d ps) :
 ∃(a:Option Addr) (cap:Nat) (l:List Wr),v=.slice a l.length cap∧WrsAt W a l∧l.length≤cap∧cap≤maxLen:=by
 obtain ⟨a0,len,cap,rfl⟩:=okWide_slice underlying30 hv
 obtain ⟨fuel,hf⟩:=h
 obtain ⟨a,cap',ls,e,h1⟩:=Gj (k:=5) (en:=wrC) (by decide) ⟨0,0,0,⟨0,0⟩⟩ underlying30 (by kernel_rfl) wrC_len (fun n cs y hy=>trod_wr hy) (show DataW.trod enc prog W 0 (fun _=>true) true fuel 30 [.slice a0 len cap]=some _ from hf)
 have hcap:len≤cap∧cap≤maxLen:=by
  rcases open_slice underlying30 (show DataW.trod enc prog W 0 (fun _=>true) true fuel 30 [.slice a0 len cap]=some _ from hf) with ⟨hcs,_⟩|⟨a,len',cap',m,n,D,Pl,hcs,_,hl,hm,_⟩
  ·simp at hcs;obtain ⟨rfl,rfl,rfl⟩:=hcs;simp
  ·simp at hcs;obtain ⟨rfl,rfl,rfl⟩:=hcs;exact ⟨hl,hm⟩
 obtain ⟨rfl,rfl,rfl⟩:a0=a∧len=ls.length∧cap=cap':=by simpa using e
 exact ⟨a0,cap,ls,rfl,h1,hcap⟩
def fullB (x:Wd):Bool:=decide (x.at_.length=x.d.players.length)&&(decide (x.coins.length=x.d.players.length)&&decide (x.wher.length=x.d.items.length))
def mayX (x:Wd) (c:Wr):Bool:=decide (0≤c.id)&&((decide (c.kind=0)&&decide (c.id<x.at_.length))||((decide (c.kind=1)&&decide (c.id<x.coins.length))||(decide (c.kind=2)&&decide (c.id<x.wher.length))))
theorem rfull_any (x:Wd) (p:Wp) (w:World):Calls prog 9 #[.agg (wC x p)] w fun e w'=>e=.returned (.bool (fullB x))∧Below w.heap.size w w':=by
 have HB:=Lib.hid ((Below.refl w.heap.size w).alloc (Nat.le_refl _) (.cells (wC x p) 29))
 by_cases e0:x.at_.length=x.d.players.length
 rotate_left
 ·have q0:((x.at_.length:Int)==(x.d.players.length:Int))=false:=by rw [beq_eq_false_iff_ne];omega
  have HR:=Lib.hid (show fullB x=false by simp [fullB,e0])
  clear e0
  have hWC:=@wC.eq_1
  have hZC:=@zC.eq_1
  go_enter func9,ntmps9
  go_wp2_with fail
  go_ret
  exact ⟨Ag HR.out.symm,HB.out⟩
 by_cases e1:x.coins.length=x.d.players.length
 rotate_left
 ·have q0:((x.at_.length:Int)==(x.d.players.length:Int))=true:=by simp [e0]
  have q1:((x.coins.length:Int)==(x.d.players.length:Int))=false:=by rw [beq_eq_false_iff_ne];omega
  have HR:=Lib.hid (show fullB x=false by simp [fullB,e1])
  clear e0 e1
  have hWC:=@wC.eq_1
  have hZC:=@zC.eq_1
  go_enter func9,ntmps9
  go_wp2_with fail
  go_ret
  exact ⟨Ag HR.out.symm,HB.out⟩
 have q0:((x.at_.length:Int)==(x.d.players.length:Int))=true:=by simp [e0]
 have q1:((x.coins.length:Int)==(x.d.players.length:Int))=true:=by simp [e1]
 by_cases e2:x.wher.length=x.d.items.length
 ·have q2:((x.wher.length:Int)==(x.d.items.length:Int))=true:=by simp [e2]
  have HR:=Lib.hid (show fullB x=true by simp [fullB,e0,e1,e2])
  clear e0 e1 e2
  have hWC:=@wC.eq_1
  have hZC:=@zC.eq_1
  go_enter func9,ntmps9
  go_wp2_with fail
  go_ret
  exact ⟨Ag HR.out.symm,HB.out⟩
 ·have q2:((x.wher.length:Int)==(x.d.items.length:Int))=false:=by rw [beq_eq_false_iff_ne];omega
  have HR:=Lib.hid (show fullB x=false by simp [fullB,e2])
  clear e0 e1 e2
  have hWC:=@wC.eq_1
  have hZC:=@zC.eq_1
  go_enter func9,ntmps9
  go_wp2_with fail
  go_ret
  exact ⟨Ag HR.out.symm,HB.out⟩
theorem rpmay_any (x:Wd) (p:Wp) (c:Wr) (w:World):Calls prog 13 #[.agg (wC x p),.agg #[.int .i64 c.kind,.int .i64 c.id,.int .i64 c.num,.int .i64 c.pl.kind,.int .i64 c.pl.id]] w fun e w'=>e=.returned (.bool (mayX x c))∧Below w.heap.size w w':=by
 have HB:=Lib.hid (((Below.refl w.heap.size w).alloc (Nat.le_refl _) (.cells (wC x p) 29)).alloc (by simp) (.cells #[.int .i64 c.kind,.int .i64 c.id,.int .i64 c.num,.int .i64 c.pl.kind,.int .i64 c.pl.id] 39))
 obtain ⟨k,i,n,⟨pk,pi⟩⟩:=c
 by_cases hz:0≤i
 rotate_left
 ·have z0:i<0:=by omega
  have HR:=Lib.hid (show mayX x ⟨k,i,n,⟨pk,pi⟩⟩=false by simp [mayX];omega)
  clear hz
  have hWC:=@wC.eq_1
  have hZC:=@zC.eq_1
  go_enter func13,ntmps13
  go_wp2_with fail
  go_ret
  exact ⟨Ag HR.out.symm,HB.out⟩
 by_cases hk:k=0
 ·by_cases hi:i<(x.at_.length:Int)
  ·have z0:0≤i:=hz
   have k0:(k==0)=true:=by simp [hk]
   have k1:(k==1)=false:=by rw [beq_eq_false_iff_ne];omega
   have k2:(k==2)=false:=by rw [beq_eq_false_iff_ne];omega
   have i0:i<(x.at_.length:Int):=hi
   have HR:=Lib.hid (show mayX x ⟨k,i,n,⟨pk,pi⟩⟩=true by subst hk;simp [mayX,hz,hi])
   clear hz hi hk
   have hWC:=@wC.eq_1
   have hZC:=@zC.eq_1
   go_enter func13,ntmps13
   go_wp2_with fail
   go_ret
   exact ⟨Ag HR.out.symm,HB.out⟩
  ·have z0:0≤i:=hz
   have k0:(k==0)=true:=by simp [hk]
   have k1:(k==1)=false:=by rw [beq_eq_false_iff_ne];omega
   have k2:(k==2)=false:=by rw [beq_eq_false_iff_ne];omega
   have i0:¬i<(x.at_.length:Int):=hi
   have HR:=Lib.hid (show mayX x ⟨k,i,n,⟨pk,pi⟩⟩=false by subst hk;simp [mayX,hz,hi])
   clear hz hi hk
   have hWC:=@wC.eq_1
   have hZC:=@zC.eq_1
   go_enter func13,ntmps13
   go_wp2_with fail
   go_ret
   exact ⟨Ag HR.out.symm,HB.out⟩
 have hn0:=hk
 clear hk
 by_cases hk:k=1
 ·by_cases hi:i<(x.coins.length:Int)
  ·have z0:0≤i:=hz
   have k0:(k==0)=false:=by rw [beq_eq_false_iff_ne];omega
   have k1:(k==1)=true:=by simp [hk]
   have k2:(k==2)=false:=by rw [beq_eq_false_iff_ne];omega
   have i0:i<(x.coins.length:Int):=hi
   have HR:=Lib.hid (show mayX x ⟨k,i,n,⟨pk,pi⟩⟩=true by subst hk;simp [mayX,hz,hi])
   clear hz hi hk
   have hWC:=@wC.eq_1
   have hZC:=@zC.eq_1
   go_enter func13,ntmps13
   go_wp2_with fail
   go_ret
   exact ⟨Ag HR.out.symm,HB.out⟩
  ·have z0:0≤i:=hz
   have k0:(k==0)=false:=by rw [beq_eq_false_iff_ne];omega
   have k1:(k==1)=true:=by simp [hk]
   have k2:(k==2)=false:=by rw [beq_eq_false_iff_ne];omega
   have i0:¬i<(x.coins.length:Int):=hi
   have HR:=Lib.hid (show mayX x ⟨k,i,n,⟨pk,pi⟩⟩=false by subst hk;simp [mayX,hz,hi])
   clear hz hi hk
   have hWC:=@wC.eq_1
   have hZC:=@zC.eq_1
   go_enter func13,ntmps13
   go_wp2_with fail
   go_ret
   exact ⟨Ag HR.out.symm,HB.out⟩
 have hn1:=hk
 clear hk
 by_cases hk:k=2
 ·by_cases hi:i<(x.wher.length:Int)
  ·have z0:0≤i:=hz
   have k0:(k==0)=false:=by rw [beq_eq_false_iff_ne];omega
   have k1:(k==1)=false:=by rw [beq_eq_false_iff_ne];omega
   have k2:(k==2)=true:=by simp [hk]
   have i0:i<(x.wher.length:Int):=hi
   have HR:=Lib.hid (show mayX x ⟨k,i,n,⟨pk,pi⟩⟩=true by subst hk;simp [mayX,hz,hi])
   clear hz hi hk
   have hWC:=@wC.eq_1
   have hZC:=@zC.eq_1
   go_enter func13,ntmps13
   go_wp2_with fail
   go_ret
   exact ⟨Ag HR.out.symm,HB.out⟩
  ·have z0:0≤i:=hz
   have k0:(k==0)=false:=by rw [beq_eq_false_iff_ne];omega
   have k1:(k==1)=false:=by rw [beq_eq_false_iff_ne];omega
   have k2:(k==2)=true:=by simp [hk]
   have i0:¬i<(x.wher.length:Int):=hi
   have HR:=Lib.hid (show mayX x ⟨k,i,n,⟨pk,pi⟩⟩=false by subst hk;simp [mayX,hz,hi])
   clear hz hi hk
   have hWC:=@wC.eq_1
   have hZC:=@zC.eq_1
   go_enter func13,ntmps13
   go_wp2_with fail
   go_ret
   exact ⟨Ag HR.out.symm,HB.out⟩
 have hn2:=hk
 clear hk
 have z0:0≤i:=hz
 have k0:(k==0)=false:=by rw [beq_eq_false_iff_ne];omega
 have k1:(k==1)=false:=by rw [beq_eq_false_iff_ne];omega
 have k2:(k==2)=false:=by rw [beq_eq_false_iff_ne];omega
 have HR:=Lib.hid (show mayX x ⟨k,i,n,⟨pk,pi⟩⟩=false by simp [mayX];omega)
 clear hz
 have hWC:=@wC.eq_1
 have hZC:=@zC.eq_1
 go_enter func13,ntmps13
 go_wp2_with fail
 go_ret
 exact ⟨Ag HR.out.symm,HB.out⟩
theorem rpdo_0 (x:Wd) (p:Wp) (c:Wr) (k:Nat) (w:World) (h:Ab w p x) (hf:FewW x) (hkd:c.kind=0) (hid:c.id=k) (hk:k<x.at_.length):Calls prog 18 #[.agg (wC x p),.agg #[.int .i64 c.kind,.int .i64 c.id,.int .i64 c.num,.int .i64 c.pl.kind,.int .i64 c.pl.id]] w fun e w'=>∃q:Wp,e=.returned (.agg (wC x q))∧Cc w.heap.size w' p.d q ⟨x.d,x.at_.set k c.num,x.coins,x.wher⟩∧Below w.heap.size w w':=by
 obtain ⟨ckd,cid,n,⟨pk,pi⟩⟩:=c
 simp only at hkd hid
 subst hkd hid
 have C0:=Lib.hid (Tri.start 29 39 29 w (wC x p) #[.int .i64 0,.int .i64 (k:Int),.int .i64 n,.int .i64 pk,.int .i64 pi] zC)
 have H:=Lib.hid h
 have HF:=Lib.hid hf
 have hlen:=h.wh.len
 have hlen1:=h.at_.len
 have hlen2:=h.co.len
 clear h hf
 have hWC:=@wC.eq_1
 have hZC:=@zC.eq_1
 go_enter func18,ntmps18
 go_wp2_with fail
 refine (Iq x p _ (H.out.below C0.out.b (Nat.le_refl _)) HF.out).mono ?_
 rintro e w1 ⟨⟨qd,qa,qac,qk,qkc,qw,qwc⟩,rfl,-,b1,ho⟩
 obtain ⟨rfl,-⟩:=id ho
 obtain ⟨g,hqw,hg0,hg2,cA,fA,hput⟩:=ho.putAt hk
 simp only at hqw
 subst hqw
 have hg1:=C0.out.size
 have C1:=Lib.hid (C0.out.call b1)
 have HP:=Lib.hid ((hput n).less hg1)
 have hg1:w.heap.size+3≤g:=Nat.le_trans hg1 hg0
 have hsz:=C1.out.size
 clear ho b1 hg0 hput
 have hca:=C1.out.a.cell
 have hla:=C1.out.a.lt
 have hcm:=C1.out.m.cell
 have hlm:=C1.out.m.lt
 obtain ⟨hcr,hzr,hlr⟩:=C1.out.r.all
 have n3:g≠w.heap.size+2:=by omega
 have n4:w.heap.size+2≠g:=by omega
 have n5:w.heap.size+1≠g:=by omega
 have n6:w.heap.size≠g:=by omega
 go_wp2_with fail
 refine bodyPost_ret (v:=.agg (wC x ⟨p.d,some ⟨g,0,none⟩,qac,qk,qkc,qw,qwc⟩)) (by simp [results,results18,go_sem,hcr,hlr]) rfl ⟨⟨p.d,some ⟨g,0,none⟩,qac,qk,qkc,qw,qwc⟩,rfl,?_,?_⟩
 ·refine Cc.less (n:=w.heap.size+3) (Cc.alloc ?_ _) (by omega)
  iterate 11 refine Cc.set (b:=w.heap.size+2) ?_ (by omega) _ _
  exact HP.out
 ·refine Below.alloc ?_ (by simp [World.setCell];omega) _
  iterate 11 refine bs_2 ?_
  iterate 1 refine Below.setCell ?_ (by show w.heap.size≤g;omega) _
  exact C1.out.b
theorem rpdo_1 (x:Wd) (p:Wp) (c:Wr) (k:Nat) (w:World) (h:Ab w p x) (hf:FewW x) (hkd:c.kind=1) (hid:c.id=k) (hk:k<x.coins.length):Calls prog 18 #[.agg (wC x p),.agg #[.int .i64 c.kind,.int .i64 c.id,.int .i64 c.num,.int .i64 c.pl.kind,.int .i64 c.pl.id]] w fun e w'=>∃q:Wp,e=.returned (.agg (wC x q))∧Cc w.heap.size w' p.d q ⟨x.d,x.at_,x.coins.set k c.num,x.wher⟩∧Below w.heap.size w w':=by
 obtain ⟨ckd,cid,n,⟨pk,pi⟩⟩:=c
 simp only at hkd hid
 subst hkd hid
 have C0:=Lib.hid (Tri.start 29 39 29 w (wC x p) #[.int .i64 1,.int .i64 (k:Int),.int .i64 n,.int .i64 pk,.int .i64 pi] zC)
 have H:=Lib.hid h
 have HF:=Lib.hid hf
 have hlen:=h.wh.len
 have hlen1:=h.at_.len
 have hlen2:=h.co.len
 clear h hf
 have hWC:=@wC.eq_1
 have hZC:=@zC.eq_1
 go_enter func18,ntmps18
 go_wp2_with fail
 refine (Iq x p _ (H.out.below C0.out.b (Nat.le_refl _)) HF.out).mono ?_
 rintro e w1 ⟨⟨qd,qa,qac,qk,qkc,qw,qwc⟩,rfl,-,b1,ho⟩
 obtain ⟨rfl,-⟩:=id ho
 obtain ⟨g,hqw,hg0,hg2,cA,fA,hput⟩:=ho.putCo hk
 simp only at hqw
 subst hqw
 have hg1:=C0.out.size
 have C1:=Lib.hid (C0.out.call b1)
 have HP:=Lib.hid ((hput n).less hg1)
 have hg1:w.heap.size+3≤g:=Nat.le_trans hg1 hg0
 have hsz:=C1.out.size
 clear ho b1 hg0 hput
 have hca:=C1.out.a.cell
 have hla:=C1.out.a.lt
 have hcm:=C1.out.m.cell
 have hlm:=C1.out.m.lt
 obtain ⟨hcr,hzr,hlr⟩:=C1.out.r.all
 have n3:g≠w.heap.size+2:=by omega
 have n4:w.heap.size+2≠g:=by omega
 have n5:w.heap.size+1≠g:=by omega
 have n6:w.heap.size≠g:=by omega
 go_wp2_with fail
 refine bodyPost_ret (v:=.agg (wC x ⟨p.d,qa,qac,some ⟨g,0,none⟩,qkc,qw,qwc⟩)) (by simp [results,results18,go_sem,hcr,hlr]) rfl ⟨⟨p.d,qa,qac,some ⟨g,0,none⟩,qkc,qw,qwc⟩,rfl,?_,?_⟩
 ·refine Cc.less (n:=w.heap.size+3) (Cc.alloc ?_ _) (by omega)
  iterate 11 refine Cc.set (b:=w.heap.size+2) ?_ (by omega) _ _
  exact HP.out
 ·refine Below.alloc ?_ (by simp [World.setCell];omega) _
  iterate 11 refine bs_2 ?_
  iterate 1 refine Below.setCell ?_ (by show w.heap.size≤g;omega) _
  exact C1.out.b
theorem rpdo_2 (x:Wd) (p:Wp) (c:Wr) (k:Nat) (w:World) (h:Ab w p x) (hf:FewW x) (hkd:c.kind=2) (hid:c.id=k) (hk:k<x.wher.length):Calls prog 18 #[.agg (wC x p),.agg #[.int .i64 c.kind,.int .i64 c.id,.int .i64 c.num,.int .i64 c.pl.kind,.int .i64 c.pl.id]] w fun e w'=>∃q:Wp,e=.returned (.agg (wC x q))∧Cc w.heap.size w' p.d q ⟨x.d,x.at_,x.coins,x.wher.set k c.pl⟩∧Below w.heap.size w w':=by
 obtain ⟨ckd,cid,n,⟨pk,pi⟩⟩:=c
 simp only at hkd hid
 subst hkd hid
 have C0:=Lib.hid (Tri.start 29 39 29 w (wC x p) #[.int .i64 2,.int .i64 (k:Int),.int .i64 n,.int .i64 pk,.int .i64 pi] zC)
 have H:=Lib.hid h
 have HF:=Lib.hid hf
 have hlen:=h.wh.len
 have hlen1:=h.at_.len
 have hlen2:=h.co.len
 clear h hf
 have hWC:=@wC.eq_1
 have hZC:=@zC.eq_1
 go_enter func18,ntmps18
 go_wp2_with fail
 refine (Iq x p _ (H.out.below C0.out.b (Nat.le_refl _)) HF.out).mono ?_
 rintro e w1 ⟨⟨qd,qa,qac,qk,qkc,qw,qwc⟩,rfl,-,b1,ho⟩
 obtain ⟨rfl,-⟩:=id ho
 obtain ⟨g,hqw,hg0,hg2,⟨cA,cB⟩,fA,hput⟩:=ho.putPlace hk
 simp only at hqw
 subst hqw
 have hg1:=C0.out.size
 have C1:=Lib.hid (C0.out.call b1)
 have HP:=Lib.hid ((hput ⟨pk,pi⟩).less hg1)
 have hg1:w.heap.size+3≤g:=Nat.le_trans hg1 hg0
 have hsz:=C1.out.size
 clear ho b1 hg0 hput
 have hca:=C1.out.a.cell
 have hla:=C1.out.a.lt
 have hcm:=C1.out.m.cell
 have hlm:=C1.out.m.lt
 obtain ⟨hcr,hzr,hlr⟩:=C1.out.r.all
 have n3:g≠w.heap.size+2:=by omega
 have n4:w.heap.size+2≠g:=by omega
 have n5:w.heap.size+1≠g:=by omega
 have n6:w.heap.size≠g:=by omega
 go_wp2_with fail
 refine bodyPost_ret (v:=.agg (wC x ⟨p.d,qa,qac,qk,qkc,some ⟨g,0,none⟩,qwc⟩)) (by simp [results,results18,go_sem,hcr,hlr]) rfl ⟨⟨p.d,qa,qac,qk,qkc,some ⟨g,0,none⟩,qwc⟩,rfl,?_,?_⟩
 ·refine Cc.less (n:=w.heap.size+3) (Cc.alloc ?_ _) (by omega)
  iterate 11 refine Cc.set (b:=w.heap.size+2) ?_ (by omega) _ _
  exact HP.out
 ·refine Below.alloc ?_ (by simp [World.setCell];omega) _
  iterate 11 refine bs_2 ?_
  iterate 2 refine Below.setCell ?_ (by show w.heap.size≤g;omega) _
  exact C1.out.b
theorem rpdo_any (x:Wd) (p:Wp) (c:Wr) (w:World) (h:Ab w p x) (hf:FewW x) (hm:mayX x c=true):Calls prog 18 #[.agg (wC x p),.agg #[.int .i64 c.kind,.int .i64 c.id,.int .i64 c.num,.int .i64 c.pl.kind,.int .i64 c.pl.id]] w fun e w'=>∃q:Wp,e=.returned (.agg (wC x q))∧Cc w.heap.size w' p.d q (doX x c)∧Below w.heap.size w w':=by
 simp [mayX] at hm
 obtain ⟨k,hk⟩:∃k:Nat,c.id=k:=⟨c.id.toNat,by omega⟩
 rcases hm.2 with h1|h1|h1
 ·have h2:=rpdo_0 x p c k w h hf h1.1 hk (by omega)
  simpa [doX,h1.1,hk] using h2
 ·have h2:=rpdo_1 x p c k w h hf h1.1 hk (by omega)
  simpa [doX,h1.1,hk] using h2
 ·have h2:=rpdo_2 x p c k w h hf h1.1 hk (by omega)
  simpa [doX,h1.1,hk] using h2
end Go.Proofs.Ytnhkojpbbdaedaa
