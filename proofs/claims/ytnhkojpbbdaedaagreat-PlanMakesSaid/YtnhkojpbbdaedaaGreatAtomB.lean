/- atom: what each kind's function does; the map of them; Do. -/
import Derived.Test.YtnhkojpbbdaedaaGreatGBoxC
import Derived.Test.YtnhkojpbbdaedaaGreatGGiftC
import Derived.Test.YtnhkojpbbdaedaaGreatAtomA
namespace Go.Proofs.YtnhkojpbbdaedaaGreat
open Go.ChangeShapes Go.WideShapes Go.ChangeAt Go.RowKit Go.Proofs.Tryz
open Lib (hid)
set_option linter.unusedVariables false
set_option maxHeartbeats 1000000
set_option maxRecDepth 100000
open Go.RowKit Go.ChangeMaps Go.MapKept
section
variable (x:Wd) (p:Wp) (i:Nat) (c:Cm) (ga wa:Option Addr) (gc wc:Nat) (w:World) (hx:Ai x=true) (h:Ab w p x) (hi:i<x.at_.length) (hm:Ak c=true)
include hx h hi hm in
theorem Ft6 (hk:c.kind=1):Calls prog 41 #[.agg (wC x p),.int .i64 (i:Int),.int .i64 c.dir] w (goP x p (actW x i c) w):=by
 have hd:=Mi hm
 unfold actW
 rw [if_pos hk]
 obtain ⟨d,hd1⟩:∃d:Nat,c.dir=d:=⟨c.dir.toNat,by omega⟩
 have hd4:d<4:=by omega
 rw [hd1,show ((d:Int)).toNat=d by omega]
 exact Ao1 x p i d hd4 w hx h hi
include hx h hi hm in
theorem Ft5 (hk:c.kind=2):Calls prog 43 #[.agg (wC x p),.int .i64 (i:Int),.int .i64 c.who,.int .i64 c.dir] w (goP x p (actW x i c) w):=by
 have hd:=Mi hm
 unfold actW
 rw [if_neg (by omega),if_pos hk]
 obtain ⟨d,hd1⟩:∃d:Nat,c.dir=d:=⟨c.dir.toNat,by omega⟩
 have hd4:d<4:=by omega
 rw [hd1,show ((d:Int)).toNat=d by omega]
 exact Az2 x p i c.who d hd4 w hx h hi
include hx h hi hm in
theorem Ft4 (hk:c.kind=3):Calls prog 45 #[.agg (wC x p),.int .i64 (i:Int),.int .i64 c.item] w (doP x p (actW x i c) w):=by
 have hd:=Mi hm
 unfold actW
 rw [if_neg (by omega),if_neg (by omega),if_pos hk]
 exact Ac2 x p i c.item w hx h hi
include hx h hi hm in
theorem Ft3 (hk:c.kind=4):Calls prog 46 #[.agg (wC x p),.int .i64 (i:Int),.int .i64 c.item] w (doP x p (actW x i c) w):=by
 have hd:=Mi hm
 unfold actW
 rw [if_neg (by omega),if_neg (by omega),if_neg (by omega),if_pos hk]
 exact Ai7 x p i c.item w hx h hi
include hx h hi hm in
theorem Ft2 (hk:c.kind=5):Calls prog 48 #[.agg (wC x p),.int .i64 (i:Int),.int .i64 c.item,.int .i64 c.box] w (doP x p (actW x i c) w):=by
 have hd:=Mi hm
 unfold actW
 rw [if_neg (by omega),if_neg (by omega),if_neg (by omega),if_neg (by omega),if_pos hk]
 exact Ak9 x p i c.item c.box w hx h hi
include hx h hi hm in
theorem Ft1 (hk:c.kind=6):Calls prog 49 #[.agg (wC x p),.int .i64 (i:Int),.int .i64 c.item,.int .i64 c.box] w (doP x p (actW x i c) w):=by
 have hd:=Mi hm
 unfold actW
 rw [if_neg (by omega),if_neg (by omega),if_neg (by omega),if_neg (by omega),if_neg (by omega),if_pos hk]
 exact Aa0 x p i c.item c.box w hx h hi
include hx h hi hm in
theorem Ft0 (hk:c.kind=7):Calls prog 52 #[.agg (wC x p),.int .i64 (i:Int),.int .i64 c.item,.int .i64 c.who] w (doP x p (actW x i c) w):=by
 have hd:=Mi hm
 unfold actW
 rw [if_neg (by omega),if_neg (by omega),if_neg (by omega),if_neg (by omega),if_neg (by omega),if_neg (by omega),if_pos hk]
 exact Ba8 x p i c.item c.who w hx h hi
include hx h hi hm in
theorem Fs9 (hk:c.kind=8) (hg:Ae w ga c.gives) (hw:Ae w wa c.wants):Calls prog 53 #[.agg (wC x p),.int .i64 (i:Int),.agg (cC c ga gc wa wc)] w (doP x p (actW x i c) w):=by
 have hd:=Mi hm
 unfold actW
 rw [if_neg (by omega),if_neg (by omega),if_neg (by omega),if_neg (by omega),if_neg (by omega),if_neg (by omega),if_neg (by omega)]
 have hl:=Ba6 hm
 exact Yz x p i c.kind c.dir c.item c.box c.who c.pay c.fee c.gives c.wants ga wa gc wc w hx h hi hg hw hl.1 hl.2
include hx h hi hm in
theorem Fs5 (hk:c.kind=1):Calls prog 40 #[.agg (wC x p),.int .i64 (i:Int),.agg (cC c ga gc wa wc)] w (goP x p (actW x i c) w):=by
 have ha:=fun (W:World) (hb:Below w.heap.size w W)=>Ft6 x p i c W hx (h.below hb (Nat.le_refl _)) hi hm hk
 obtain ⟨⟨y,r,er⟩,hA⟩:∃A,actW x i c=A:=⟨_,rfl⟩
 rw [hA]
 simp only [hA] at ha
 have HA:=hid ha
 have C0:=hid (Tri.start 29 31 29 w (wC x p) (cC c ga gc wa wc) zC)
 have HSZ:=hid C0.out.size
 clear ha hA hm hx h hi hk
 have hWC:=@wC.eq_1
 have hZC:=@zC.eq_1
 have hCC:=@cC.eq_1
 go_enter func40,ntmps40
 go_wp2_with fail
 generalize ((w.alloc (.cells (wC x p) 29)).alloc (.cells (cC c ga gc wa wc) 31)).alloc (.cells zC 29)=V0 at *
 refine (HA.out V0 C0.out.b).mono ?_
 rintro e u ⟨⟨qd,qa,qac,qk,qkc,qw,qwc⟩,rfl,wn,b1⟩
 have CU:=hid (C0.out.call b1)
 have WN:=hid wn
 clear wn b1 C0 HA
 obtain ⟨hcr,hzr,hlr⟩:=CU.out.r.all
 go_wp2_with fail
 refine bodyPost_ret (v:=.tuple #[.agg (wC x ⟨qd,qa,qac,qk,qkc,qw,qwc⟩),.int .i64 r,.int .i64 er]) (by simp [results,results40,go_sem,hcr]) rfl ⟨⟨qd,qa,qac,qk,qkc,qw,qwc⟩,rfl,?_,?_⟩
 ·refine Went.less (n:=V0.heap.size) ?_ (by have:=HSZ.out;omega)
  iterate 11 refine Went.set (b:=w.heap.size+2) ?_ (by have:=HSZ.out;omega) _ _
  exact WN.out
 ·iterate 11 refine bs_2 ?_
  exact CU.out.b
include hx h hi hm in
theorem Fs4 (hk:c.kind=2):Calls prog 42 #[.agg (wC x p),.int .i64 (i:Int),.agg (cC c ga gc wa wc)] w (goP x p (actW x i c) w):=by
 have ha:=fun (W:World) (hb:Below w.heap.size w W)=>Ft5 x p i c W hx (h.below hb (Nat.le_refl _)) hi hm hk
 obtain ⟨⟨y,r,er⟩,hA⟩:∃A,actW x i c=A:=⟨_,rfl⟩
 rw [hA]
 simp only [hA] at ha
 have HA:=hid ha
 have C0:=hid (Tri.start 29 31 29 w (wC x p) (cC c ga gc wa wc) zC)
 have HSZ:=hid C0.out.size
 clear ha hA hm hx h hi hk
 have hWC:=@wC.eq_1
 have hZC:=@zC.eq_1
 have hCC:=@cC.eq_1
 go_enter func42,ntmps42
 go_wp2_with fail
 generalize ((w.alloc (.cells (wC x p) 29)).alloc (.cells (cC c ga gc wa wc) 31)).alloc (.cells zC 29)=V0 at *
 refine (HA.out V0 C0.out.b).mono ?_
 rintro e u ⟨⟨qd,qa,qac,qk,qkc,qw,qwc⟩,rfl,wn,b1⟩
 have CU:=hid (C0.out.call b1)
 have WN:=hid wn
 clear wn b1 C0 HA
 obtain ⟨hcr,hzr,hlr⟩:=CU.out.r.all
 go_wp2_with fail
 refine bodyPost_ret (v:=.tuple #[.agg (wC x ⟨qd,qa,qac,qk,qkc,qw,qwc⟩),.int .i64 r,.int .i64 er]) (by simp [results,results42,go_sem,hcr]) rfl ⟨⟨qd,qa,qac,qk,qkc,qw,qwc⟩,rfl,?_,?_⟩
 ·refine Went.less (n:=V0.heap.size) ?_ (by have:=HSZ.out;omega)
  iterate 11 refine Went.set (b:=w.heap.size+2) ?_ (by have:=HSZ.out;omega) _ _
  exact WN.out
 ·iterate 11 refine bs_2 ?_
  exact CU.out.b
include hx h hi hm in
theorem Fs3 (hk:c.kind=7):Calls prog 51 #[.agg (wC x p),.int .i64 (i:Int),.agg (cC c ga gc wa wc)] w (doP x p (actW x i c) w):=by
 have ha:=fun (W:World) (hb:Below w.heap.size w W)=>Ft0 x p i c W hx (h.below hb (Nat.le_refl _)) hi hm hk
 obtain ⟨⟨y,r,er⟩,hA⟩:∃A,actW x i c=A:=⟨_,rfl⟩
 rw [hA]
 simp only [hA] at ha
 have HA:=hid ha
 have C0:=hid (Tri.start 29 31 29 w (wC x p) (cC c ga gc wa wc) zC)
 have HSZ:=hid C0.out.size
 clear ha hA hm hx h hi hk
 have hWC:=@wC.eq_1
 have hZC:=@zC.eq_1
 have hCC:=@cC.eq_1
 go_enter func51,ntmps51
 go_wp2_with fail
 generalize ((w.alloc (.cells (wC x p) 29)).alloc (.cells (cC c ga gc wa wc) 31)).alloc (.cells zC 29)=V0 at *
 refine (HA.out V0 C0.out.b).mono ?_
 rintro e u ⟨⟨qd,qa,qac,qk,qkc,qw,qwc⟩,rfl,wn,b1⟩
 have CU:=hid (C0.out.call b1)
 have WN:=hid wn
 clear wn b1 C0 HA
 obtain ⟨hcr,hzr,hlr⟩:=CU.out.r.all
 go_wp2_with fail
 refine bodyPost_ret (v:=.tuple #[.agg (wC x ⟨qd,qa,qac,qk,qkc,qw,qwc⟩),.int .i64 er]) (by simp [results,results51,go_sem,hcr]) rfl ⟨⟨qd,qa,qac,qk,qkc,qw,qwc⟩,rfl,?_,?_⟩
 ·refine Went.less (n:=V0.heap.size) ?_ (by have:=HSZ.out;omega)
  iterate 11 refine Went.set (b:=w.heap.size+2) ?_ (by have:=HSZ.out;omega) _ _
  exact WN.out
 ·iterate 11 refine bs_2 ?_
  exact CU.out.b
end
def Ec (w0:World) (P:Int→World→Value→Prop) (has:Int→Prop) (b:Nat) (w:World):Prop :=
 w0.heap.size≤b∧∃es n,w.heap[b]?=some (.map es n)∧(∀x∈es.toList,∃k,x.key=.int .i64 k∧has k∧P k w x.val)∧∀k,has k→∃x∈es.toList,x.key=.int .i64 k
theorem Bq.map {W:World} {b n:Nat} {es:Array MapEntry} (h:W.heap[b]?=some (.map es n)) (o:Obj):Bq W (setBlock W b o):=fun i cs t f hi=>(heap_setBlock_other h o (by intro e;subst e;rw [h] at hi;cases hi)).trans hi
theorem Kr (k:Int):IsKey (.int .i64) (.int .i64 k):=by simp [IsKey]
section
variable {w0 w:World} {P:Int→World→Value→Prop} (hP:∀k (W W':World) v,Bq W W'→P k W v→P k W' v) {has:Int→Prop} {b:Nat}
include hP
theorem Ec.below {w1:World} (h:Ec w0 P has b w) (hb:Below w.heap.size w w1):Ec w0 P has b w1:=by
 obtain ⟨h0,es,n,h1,h2,h3⟩:=h
 refine ⟨h0,es,n,(hb.block b (Array.getElem?_eq_some_iff.1 h1).1).trans h1,fun x hx=>?_,h3⟩
 obtain ⟨k,e1,e2,e3⟩:=h2 x hx
 exact ⟨k,e1,e2,hP _ _ _ _ (Bq.below hb) e3⟩
theorem Ec.insert (h:Ec w0 P has b w) (hb:Below w0.heap.size w0 w) (k:Int) (hk:¬has k) {v:Value} (hp:P k w v) :
 ∃w1,(Instr.mapUpdate 67 (.map (some b)) (.int .i64 k) v).run prog w=.ok () w1∧Ec w0 P (fun j=>has j∨j=k) b w1∧Below w0.heap.size w0 w1:=by
 obtain ⟨h0,es,n,h1,h2,h3⟩:=h
 have hk1:∀x∈es.toList,IsKey (.int .i64) x.key:=by
  intro x hx;obtain ⟨k,e,_⟩:=h2 x hx;rw [e];exact Kr k
 have hf:Instr.findNow (.int .i64) (.int .i64 k) es.toList 0=some none:=by
  rcases findNow_spec (Kr k) es.toList 0 hk1 with ⟨e,_⟩|⟨j,x,_,e2,e3⟩
  ·exact e
  ·obtain ⟨q,e4,e5,_⟩:=h2 x (List.mem_of_getElem? e2)
   rw [e3] at e4
   obtain rfl:k=q:=by simpa using e4
   exact absurd e5 hk
 have hkc:=Bq.map h1 (.map (es.push ⟨.int .i64 k,v,n⟩) (n+1))
 refine ⟨setBlock w b (.map (es.push ⟨.int .i64 k,v,n⟩) (n+1)),?_,⟨h0,es.push ⟨.int .i64 k,v,n⟩,n+1,heap_setBlock_same h1 _,fun x hx=>?_,fun j hj=>?_⟩,?_⟩
 ·simp [Instr.mapUpdate,run_underlying underlying67,MapKept.run_getObj_map h1,MapKept.run_checkKey underlying3 (Kr k),MapKept.run_findKey underlying3 hf,MapKept.run_setObj_map _ h1,Result.andThen,setBlock]
 ·simp only [Array.toList_push,List.mem_append,List.mem_singleton] at hx
  rcases hx with hx|rfl
  ·obtain ⟨q,e1,e2,e3⟩:=h2 x hx
   exact ⟨q,e1,.inl e2,hP _ _ _ _ hkc e3⟩
  ·exact ⟨k,rfl,.inr rfl,hP _ _ _ _ hkc hp⟩
 ·rcases hj with hj|rfl
  ·obtain ⟨x,hx,e⟩:=h3 j hj
   exact ⟨x,by simp [hx],e⟩
  ·exact ⟨⟨.int .i64 j,v,n⟩,by simp,rfl⟩
 ·exact ⟨hb.os,hb.tape,hb.output,by simpa [setBlock] using hb.size,fun j hj=>(heap_setBlock_other h1 _ (by omega)).trans (hb.block j hj)⟩
omit hP in
theorem Ec.congr {has':Int→Prop} (h:Ec w0 P has b w) (hh:∀k,has k↔has' k):Ec w0 P has' b w:=by
 obtain ⟨h0,es,n,h1,h2,h3⟩:=h
 refine ⟨h0,es,n,h1,fun x hx=>?_,fun k hk=>h3 k ((hh k).2 hk)⟩
 obtain ⟨k,e1,e2,e3⟩:=h2 x hx
 exact ⟨k,e1,(hh k).1 e2,e3⟩
omit hP in
theorem Ec.lookup (h:Ec w0 P has b w) (k:Int) (hk:has k) :
 ∃v,(Instr.lookup 67 (.map (some b)) (.int .i64 k) false).run prog w=.ok v w∧P k w v:=by
 obtain ⟨h0,es,n,h1,h2,h3⟩:=h
 have hk1:∀x∈es.toList,IsKey (.int .i64) x.key:=by
  intro x hx;obtain ⟨k,e,_⟩:=h2 x hx;rw [e];exact Kr k
 rcases findNow_spec (Kr k) es.toList 0 hk1 with ⟨_,e⟩|⟨j,x,e1,e2,e3⟩
 ·obtain ⟨x,hx,ex⟩:=h3 k hk
  exact absurd ex (e x hx)
 ·obtain ⟨q,e4,_,e6⟩:=h2 x (List.mem_of_getElem? e2)
  rw [e3] at e4
  obtain rfl:k=q:=by simpa using e4
  refine ⟨x.val,?_,e6⟩
  simp [Instr.lookup,run_underlying underlying67,MapKept.run_getObj_map h1,MapKept.run_checkKey underlying3 (Kr k),MapKept.run_findKey underlying3 e1,Result.andThen]
end
theorem Br6 (w:World) (o:Obj):(w.alloc o).heap[w.heap.size]?=some o:=by
 show (w.heap.push _)[w.heap.size]?=some _;simp
theorem Ec.new (w:World) (P:Int→World→Value→Prop) {w0:World} (h:w0.heap.size≤w.heap.size):Ec w0 P (fun _=>False) w.heap.size (w.alloc (.map #[] 0)) :=
 ⟨h,#[],0,Br6 w _,by simp,fun _ h=>h.elim⟩
def Mh (x:Wd) (p:Wp) (i:Nat) (c:Cm) (ga wa:Option Addr) (gc wc:Nat) (w0:World) (k:Int) (W:World) (v:Value):Prop:=FnAt w0 W (c.kind=k) v #[.agg (wC x p),.int .i64 (i:Int),.agg (cC c ga gc wa wc)] (deP x p (doW x i c))
section
variable (x:Wd) (p:Wp) (i:Nat) (c:Cm) (ga wa:Option Addr) (gc wc:Nat) (w:World)
theorem Fp2 (hx:Ai x=true) (h:Ab w p x) (hi:i<x.at_.length) (hm:Ak c=true) (hg:Ae w ga c.gives) (hw:Ae w wa c.wants) (W:World) (hb:Below w.heap.size w W) :
 Calls prog 39 #[.func (.func 40) #[] #[]] W fun e W1=>∃v',e=.returned v'∧Mh x p i c ga wa gc wc w 1 W1 v'∧Below W.heap.size W W1:=by
 by_cases hk:c.kind=1
 ·have e:=Kw (x:=x) (i:=i) hm (by omega)
  refine (Ya x p i c ga wa gc wc (actW x i c) _ (c.kind=1) w W (Li (w0:=w) (W:=W) (G:=c.kind=1) (args:=#[.agg (wC x p),.int .i64 (i:Int),.agg (cC c ga gc wa wc)]) (post:=goP x p (actW x i c)) (enters_of func40 (by kernel_rfl) rfl) (fun hk W' hb=>Fs5 x p i c ga wa gc wc W' hx (h.below hb (Nat.le_refl _)) hi hm hk))).mono ?_
  rintro e' W1 ⟨v',h1,h2,h3⟩
  exact ⟨v',h1,by unfold Mh;rw [e];exact h2,h3⟩
 ·refine (Ya x p i c ga wa gc wc (x,0,3) _ (c.kind=1) w W (Li (enters_of func40 (by kernel_rfl) rfl) (fun hk'=>absurd hk' hk))).mono ?_
  rintro e' W1 ⟨v',h1,⟨F,fs,h2,h3,_⟩,h4⟩
  exact ⟨v',h1,⟨F,fs,h2,h3,fun hk'=>absurd hk' hk⟩,h4⟩
theorem Fp1 (hx:Ai x=true) (h:Ab w p x) (hi:i<x.at_.length) (hm:Ak c=true) (hg:Ae w ga c.gives) (hw:Ae w wa c.wants) (W:World) (hb:Below w.heap.size w W) :
 Calls prog 39 #[.func (.func 42) #[] #[]] W fun e W1=>∃v',e=.returned v'∧Mh x p i c ga wa gc wc w 2 W1 v'∧Below W.heap.size W W1:=by
 by_cases hk:c.kind=2
 ·have e:=Kw (x:=x) (i:=i) hm (by omega)
  refine (Ya x p i c ga wa gc wc (actW x i c) _ (c.kind=2) w W (Li (w0:=w) (W:=W) (G:=c.kind=2) (args:=#[.agg (wC x p),.int .i64 (i:Int),.agg (cC c ga gc wa wc)]) (post:=goP x p (actW x i c)) (enters_of func42 (by kernel_rfl) rfl) (fun hk W' hb=>Fs4 x p i c ga wa gc wc W' hx (h.below hb (Nat.le_refl _)) hi hm hk))).mono ?_
  rintro e' W1 ⟨v',h1,h2,h3⟩
  exact ⟨v',h1,by unfold Mh;rw [e];exact h2,h3⟩
 ·refine (Ya x p i c ga wa gc wc (x,0,3) _ (c.kind=2) w W (Li (enters_of func42 (by kernel_rfl) rfl) (fun hk'=>absurd hk' hk))).mono ?_
  rintro e' W1 ⟨v',h1,⟨F,fs,h2,h3,_⟩,h4⟩
  exact ⟨v',h1,⟨F,fs,h2,h3,fun hk'=>absurd hk' hk⟩,h4⟩
theorem Fp0 (hx:Ai x=true) (h:Ab w p x) (hi:i<x.at_.length) (hm:Ak c=true) (hg:Ae w ga c.gives) (hw:Ae w wa c.wants) (W:World) (hb:Below w.heap.size w W) :
 Calls prog 44 #[.func (.func 45) #[] #[]] W fun e W1=>∃v',e=.returned v'∧Mh x p i c ga wa gc wc w 3 W1 v'∧Below W.heap.size W W1:=by
 by_cases hk:c.kind=3
 ·have e:=Kw (x:=x) (i:=i) hm (by omega)
  refine (Yu x p i c ga wa gc wc (actW x i c) _ (c.kind=3) w W (Li (w0:=w) (W:=W) (G:=c.kind=3) (args:=#[.agg (wC x p),.int .i64 (i:Int),.int .i64 c.item]) (post:=doP x p (actW x i c)) (enters_of func45 (by kernel_rfl) rfl) (fun hk W' hb=>Ft4 x p i c W' hx (h.below hb (Nat.le_refl _)) hi hm hk)) (Jw x i c (by omega))).mono ?_
  rintro e' W1 ⟨v',h1,h2,h3⟩
  exact ⟨v',h1,by unfold Mh;rw [e];exact h2,h3⟩
 ·refine (Yu x p i c ga wa gc wc (x,0,3) _ (c.kind=3) w W (Li (enters_of func45 (by kernel_rfl) rfl) (fun hk'=>absurd hk' hk)) rfl).mono ?_
  rintro e' W1 ⟨v',h1,⟨F,fs,h2,h3,_⟩,h4⟩
  exact ⟨v',h1,⟨F,fs,h2,h3,fun hk'=>absurd hk' hk⟩,h4⟩
theorem Fo9 (hx:Ai x=true) (h:Ab w p x) (hi:i<x.at_.length) (hm:Ak c=true) (hg:Ae w ga c.gives) (hw:Ae w wa c.wants) (W:World) (hb:Below w.heap.size w W) :
 Calls prog 44 #[.func (.func 46) #[] #[]] W fun e W1=>∃v',e=.returned v'∧Mh x p i c ga wa gc wc w 4 W1 v'∧Below W.heap.size W W1:=by
 by_cases hk:c.kind=4
 ·have e:=Kw (x:=x) (i:=i) hm (by omega)
  refine (Yu x p i c ga wa gc wc (actW x i c) _ (c.kind=4) w W (Li (w0:=w) (W:=W) (G:=c.kind=4) (args:=#[.agg (wC x p),.int .i64 (i:Int),.int .i64 c.item]) (post:=doP x p (actW x i c)) (enters_of func46 (by kernel_rfl) rfl) (fun hk W' hb=>Ft3 x p i c W' hx (h.below hb (Nat.le_refl _)) hi hm hk)) (Jw x i c (by omega))).mono ?_
  rintro e' W1 ⟨v',h1,h2,h3⟩
  exact ⟨v',h1,by unfold Mh;rw [e];exact h2,h3⟩
 ·refine (Yu x p i c ga wa gc wc (x,0,3) _ (c.kind=4) w W (Li (enters_of func46 (by kernel_rfl) rfl) (fun hk'=>absurd hk' hk)) rfl).mono ?_
  rintro e' W1 ⟨v',h1,⟨F,fs,h2,h3,_⟩,h4⟩
  exact ⟨v',h1,⟨F,fs,h2,h3,fun hk'=>absurd hk' hk⟩,h4⟩
theorem Fo8 (hx:Ai x=true) (h:Ab w p x) (hi:i<x.at_.length) (hm:Ak c=true) (hg:Ae w ga c.gives) (hw:Ae w wa c.wants) (W:World) (hb:Below w.heap.size w W) :
 Calls prog 47 #[.func (.func 48) #[] #[]] W fun e W1=>∃v',e=.returned v'∧Mh x p i c ga wa gc wc w 5 W1 v'∧Below W.heap.size W W1:=by
 by_cases hk:c.kind=5
 ·have e:=Kw (x:=x) (i:=i) hm (by omega)
  refine (Ad8 x p i c ga wa gc wc (actW x i c) _ (c.kind=5) w W (Li (w0:=w) (W:=W) (G:=c.kind=5) (args:=#[.agg (wC x p),.int .i64 (i:Int),.int .i64 c.item,.int .i64 c.box]) (post:=doP x p (actW x i c)) (enters_of func48 (by kernel_rfl) rfl) (fun hk W' hb=>Ft2 x p i c W' hx (h.below hb (Nat.le_refl _)) hi hm hk)) (Jw x i c (by omega))).mono ?_
  rintro e' W1 ⟨v',h1,h2,h3⟩
  exact ⟨v',h1,by unfold Mh;rw [e];exact h2,h3⟩
 ·refine (Ad8 x p i c ga wa gc wc (x,0,3) _ (c.kind=5) w W (Li (enters_of func48 (by kernel_rfl) rfl) (fun hk'=>absurd hk' hk)) rfl).mono ?_
  rintro e' W1 ⟨v',h1,⟨F,fs,h2,h3,_⟩,h4⟩
  exact ⟨v',h1,⟨F,fs,h2,h3,fun hk'=>absurd hk' hk⟩,h4⟩
theorem Fo7 (hx:Ai x=true) (h:Ab w p x) (hi:i<x.at_.length) (hm:Ak c=true) (hg:Ae w ga c.gives) (hw:Ae w wa c.wants) (W:World) (hb:Below w.heap.size w W) :
 Calls prog 47 #[.func (.func 49) #[] #[]] W fun e W1=>∃v',e=.returned v'∧Mh x p i c ga wa gc wc w 6 W1 v'∧Below W.heap.size W W1:=by
 by_cases hk:c.kind=6
 ·have e:=Kw (x:=x) (i:=i) hm (by omega)
  refine (Ad8 x p i c ga wa gc wc (actW x i c) _ (c.kind=6) w W (Li (w0:=w) (W:=W) (G:=c.kind=6) (args:=#[.agg (wC x p),.int .i64 (i:Int),.int .i64 c.item,.int .i64 c.box]) (post:=doP x p (actW x i c)) (enters_of func49 (by kernel_rfl) rfl) (fun hk W' hb=>Ft1 x p i c W' hx (h.below hb (Nat.le_refl _)) hi hm hk)) (Jw x i c (by omega))).mono ?_
  rintro e' W1 ⟨v',h1,h2,h3⟩
  exact ⟨v',h1,by unfold Mh;rw [e];exact h2,h3⟩
 ·refine (Ad8 x p i c ga wa gc wc (x,0,3) _ (c.kind=6) w W (Li (enters_of func49 (by kernel_rfl) rfl) (fun hk'=>absurd hk' hk)) rfl).mono ?_
  rintro e' W1 ⟨v',h1,⟨F,fs,h2,h3,_⟩,h4⟩
  exact ⟨v',h1,⟨F,fs,h2,h3,fun hk'=>absurd hk' hk⟩,h4⟩
theorem Fo6 (hx:Ai x=true) (h:Ab w p x) (hi:i<x.at_.length) (hm:Ak c=true) (hg:Ae w ga c.gives) (hw:Ae w wa c.wants) (W:World) (hb:Below w.heap.size w W) :
 Calls prog 50 #[.func (.func 51) #[] #[]] W fun e W1=>∃v',e=.returned v'∧Mh x p i c ga wa gc wc w 7 W1 v'∧Below W.heap.size W W1:=by
 by_cases hk:c.kind=7
 ·have e:=Kw (x:=x) (i:=i) hm (by omega)
  refine (Uv x p i c ga wa gc wc (actW x i c) _ (c.kind=7) w W (Li (w0:=w) (W:=W) (G:=c.kind=7) (args:=#[.agg (wC x p),.int .i64 (i:Int),.agg (cC c ga gc wa wc)]) (post:=doP x p (actW x i c)) (enters_of func51 (by kernel_rfl) rfl) (fun hk W' hb=>Fs3 x p i c ga wa gc wc W' hx (h.below hb (Nat.le_refl _)) hi hm hk)) (Jw x i c (by omega))).mono ?_
  rintro e' W1 ⟨v',h1,h2,h3⟩
  exact ⟨v',h1,by unfold Mh;rw [e];exact h2,h3⟩
 ·refine (Uv x p i c ga wa gc wc (x,0,3) _ (c.kind=7) w W (Li (enters_of func51 (by kernel_rfl) rfl) (fun hk'=>absurd hk' hk)) rfl).mono ?_
  rintro e' W1 ⟨v',h1,⟨F,fs,h2,h3,_⟩,h4⟩
  exact ⟨v',h1,⟨F,fs,h2,h3,fun hk'=>absurd hk' hk⟩,h4⟩
theorem Fo5 (hx:Ai x=true) (h:Ab w p x) (hi:i<x.at_.length) (hm:Ak c=true) (hg:Ae w ga c.gives) (hw:Ae w wa c.wants) (W:World) (hb:Below w.heap.size w W) :
 Calls prog 50 #[.func (.func 53) #[] #[]] W fun e W1=>∃v',e=.returned v'∧Mh x p i c ga wa gc wc w 8 W1 v'∧Below W.heap.size W W1:=by
 by_cases hk:c.kind=8
 ·have e:=Kw (x:=x) (i:=i) hm (by omega)
  refine (Uv x p i c ga wa gc wc (actW x i c) _ (c.kind=8) w W (Li (w0:=w) (W:=W) (G:=c.kind=8) (args:=#[.agg (wC x p),.int .i64 (i:Int),.agg (cC c ga gc wa wc)]) (post:=doP x p (actW x i c)) (enters_of func53 (by kernel_rfl) rfl) (fun hk W' hb=>Fs9 x p i c ga wa gc wc W' hx (h.below hb (Nat.le_refl _)) hi hm hk (hg.below hb (Nat.le_refl _)) (hw.below hb (Nat.le_refl _)))) (Jw x i c (by omega))).mono ?_
  rintro e' W1 ⟨v',h1,h2,h3⟩
  exact ⟨v',h1,by unfold Mh;rw [e];exact h2,h3⟩
 ·refine (Uv x p i c ga wa gc wc (x,0,3) _ (c.kind=8) w W (Li (enters_of func53 (by kernel_rfl) rfl) (fun hk'=>absurd hk' hk)) rfl).mono ?_
  rintro e' W1 ⟨v',h1,⟨F,fs,h2,h3,_⟩,h4⟩
  exact ⟨v',h1,⟨F,fs,h2,h3,fun hk'=>absurd hk' hk⟩,h4⟩
theorem Fo4 (hx:Ai x=true) (h:Ab w p x) (hi:i<x.at_.length) (hm:Ak c=true) (W:World) :
 Calls prog 54 #[.func (.func 55) #[] #[]] W fun e W1=>∃v',e=.returned v'∧Mh x p i c ga wa gc wc w 9 W1 v'∧Below W.heap.size W W1:=by
 refine (Ax0 x p i c ga wa gc wc (Gh x i) _ (c.kind=9) w W (Li (enters_of func55 (by kernel_rfl) rfl) (fun hk W' hb=>Wq x p i W' hx (h.below hb (Nat.le_refl _)) hi rfl))).mono ?_
 rintro e' W1 ⟨v',h1,h2,h3⟩
 refine ⟨v',h1,?_,h3⟩
 obtain ⟨F,fs,h4,h5,h6⟩:=h2
 refine ⟨F,fs,h4,h5,fun hk=>?_⟩
 have e:doW x i c=(x,Gh x i):=by unfold doW;rw [if_neg (by rw [hm];simp),if_pos hk]
 rw [e]
 exact h6 hk
theorem Em4 (hx:Ai x=true) (h:Ab w p x) (hi:i<x.at_.length) (hm:Ak c=true) (W:World) :
 Calls prog 54 #[.func (.func 56) #[] #[]] W fun e W1=>∃v',e=.returned v'∧Mh x p i c ga wa gc wc w 10 W1 v'∧Below W.heap.size W W1:=by
 refine (Ax0 x p i c ga wa gc wc (Lh x i) _ (c.kind=10) w W (Li (enters_of func56 (by kernel_rfl) rfl) (fun hk W' hb=>Aj5 x p i W' hx (h.below hb (Nat.le_refl _)) hi rfl))).mono ?_
 rintro e' W1 ⟨v',h1,h2,h3⟩
 refine ⟨v',h1,?_,h3⟩
 obtain ⟨F,fs,h4,h5,h6⟩:=h2
 refine ⟨F,fs,h4,h5,fun hk=>?_⟩
 have e:doW x i c=(x,Lh x i):=by unfold doW;rw [if_neg (by rw [hm];simp),if_neg (by omega),if_pos hk]
 rw [e]
 exact h6 hk
def Zx (k:Int):Prop:=1≤k∧k≤10
theorem Bs2 (w0:World) (k:Int) (W W':World) (v:Value) (hs:Bq W W') (h:Mh x p i c ga wa gc wc w0 k W v):Mh x p i c ga wa gc wc w0 k W' v:=FnAt.stay h hs
theorem Ci8 (hx:Ai x=true) (h:Ab w p x) (hi:i<x.at_.length) (hm:Ak c=true) (hg:Ae w ga c.gives) (hw:Ae w wa c.wants) (W:World) (hb:Below w.heap.size w W) :
 Calls prog 27 #[] W fun e W1=>∃b,e=.returned (.map (some b))∧Ec W (Mh x p i c ga wa gc wc w) Zx b W1∧Below W.heap.size W W1:=by
 have HP:=hid (Bs2 x p i c ga wa gc wc w)
 have HM:=hid (fun (W1:World) (hb1:Below W.heap.size W W1)=>(show Below w.heap.size w W1 from bl hb hb1))
 have M1:=hid (fun (W1:World) hb1=>Fp2 x p i c ga wa gc wc w hx h hi hm hg hw W1 (HM.out W1 hb1))
 have M2:=hid (fun (W1:World) hb1=>Fp1 x p i c ga wa gc wc w hx h hi hm hg hw W1 (HM.out W1 hb1))
 have M3:=hid (fun (W1:World) hb1=>Fp0 x p i c ga wa gc wc w hx h hi hm hg hw W1 (HM.out W1 hb1))
 have M4:=hid (fun (W1:World) hb1=>Fo9 x p i c ga wa gc wc w hx h hi hm hg hw W1 (HM.out W1 hb1))
 have M5:=hid (fun (W1:World) hb1=>Fo8 x p i c ga wa gc wc w hx h hi hm hg hw W1 (HM.out W1 hb1))
 have M6:=hid (fun (W1:World) hb1=>Fo7 x p i c ga wa gc wc w hx h hi hm hg hw W1 (HM.out W1 hb1))
 have M7:=hid (fun (W1:World) hb1=>Fo6 x p i c ga wa gc wc w hx h hi hm hg hw W1 (HM.out W1 hb1))
 have M8:=hid (fun (W1:World) hb1=>Fo5 x p i c ga wa gc wc w hx h hi hm hg hw W1 (HM.out W1 hb1))
 have M9:=hid (fun (W1:World)=>Fo4 x p i c ga wa gc wc w hx h hi hm W1)
 have M10:=hid (fun (W1:World)=>Em4 x p i c ga wa gc wc w hx h hi hm W1)
 have hmk:=run_makeMap (P:=prog) 67 W
 have D0:=hid (Ec.new W (Mh x p i c ga wa gc wc w) (Nat.le_refl W.heap.size))
 have B0:=hid ((Below.refl W.heap.size W).alloc (Nat.le_refl _) (.map #[] 0))
 obtain ⟨b,hbn⟩:∃b,W.heap.size=b:=⟨_,rfl⟩
 rw [hbn] at D0
 clear hx h hi hm hg hw hb HM
 have hWC:=@wC.eq_1
 have hZC:=@zC.eq_1
 have hCC:=@cC.eq_1
 go_enter func27,ntmps27
 go_wp2_with fail
 clear hmk hbn
 generalize W.alloc (.map #[] 0)=V0 at *
 refine (M1.out V0 B0.out).mono ?_
 rintro e u1 ⟨v1,rfl,f1,b1⟩
 obtain ⟨F1,fs1,rfl,-,-⟩:=id f1
 obtain ⟨y1,hins,hd,hb1⟩:=Ec.insert HP.out (D0.out.below HP.out b1) (bl B0.out b1) 1 (by simp) f1
 have D1:=hid hd
 have B1:=hid hb1
 clear hd hb1 f1 b1 D0 B0 M1
 go_wp2_with fail
 clear hins
 refine (M2.out y1 B1.out).mono ?_
 rintro e u2 ⟨v2,rfl,f2,b2⟩
 obtain ⟨F2,fs2,rfl,-,-⟩:=id f2
 obtain ⟨y2,hins,hd,hb2⟩:=Ec.insert HP.out (D1.out.below HP.out b2) (bl B1.out b2) 2 (by simp) f2
 have D2:=hid hd
 have B2:=hid hb2
 clear hd hb2 f2 b2 D1 B1 M2
 go_wp2_with fail
 clear hins
 refine (M3.out y2 B2.out).mono ?_
 rintro e u3 ⟨v3,rfl,f3,b3⟩
 obtain ⟨F3,fs3,rfl,-,-⟩:=id f3
 obtain ⟨y3,hins,hd,hb3⟩:=Ec.insert HP.out (D2.out.below HP.out b3) (bl B2.out b3) 3 (by simp) f3
 have D3:=hid hd
 have B3:=hid hb3
 clear hd hb3 f3 b3 D2 B2 M3
 go_wp2_with fail
 clear hins
 refine (M4.out y3 B3.out).mono ?_
 rintro e u4 ⟨v4,rfl,f4,b4⟩
 obtain ⟨F4,fs4,rfl,-,-⟩:=id f4
 obtain ⟨y4,hins,hd,hb4⟩:=Ec.insert HP.out (D3.out.below HP.out b4) (bl B3.out b4) 4 (by simp) f4
 have D4:=hid hd
 have B4:=hid hb4
 clear hd hb4 f4 b4 D3 B3 M4
 go_wp2_with fail
 clear hins
 refine (M5.out y4 B4.out).mono ?_
 rintro e u5 ⟨v5,rfl,f5,b5⟩
 obtain ⟨F5,fs5,rfl,-,-⟩:=id f5
 obtain ⟨y5,hins,hd,hb5⟩:=Ec.insert HP.out (D4.out.below HP.out b5) (bl B4.out b5) 5 (by simp) f5
 have D5:=hid hd
 have B5:=hid hb5
 clear hd hb5 f5 b5 D4 B4 M5
 go_wp2_with fail
 clear hins
 refine (M6.out y5 B5.out).mono ?_
 rintro e u6 ⟨v6,rfl,f6,b6⟩
 obtain ⟨F6,fs6,rfl,-,-⟩:=id f6
 obtain ⟨y6,hins,hd,hb6⟩:=Ec.insert HP.out (D5.out.below HP.out b6) (bl B5.out b6) 6 (by simp) f6
 have D6:=hid hd
 have B6:=hid hb6
 clear hd hb6 f6 b6 D5 B5 M6
 go_wp2_with fail
 clear hins
 refine (M7.out y6 B6.out).mono ?_
 rintro e u7 ⟨v7,rfl,f7,b7⟩
 obtain ⟨F7,fs7,rfl,-,-⟩:=id f7
 obtain ⟨y7,hins,hd,hb7⟩:=Ec.insert HP.out (D6.out.below HP.out b7) (bl B6.out b7) 7 (by simp) f7
 have D7:=hid hd
 have B7:=hid hb7
 clear hd hb7 f7 b7 D6 B6 M7
 go_wp2_with fail
 clear hins
 refine (M8.out y7 B7.out).mono ?_
 rintro e u8 ⟨v8,rfl,f8,b8⟩
 obtain ⟨F8,fs8,rfl,-,-⟩:=id f8
 obtain ⟨y8,hins,hd,hb8⟩:=Ec.insert HP.out (D7.out.below HP.out b8) (bl B7.out b8) 8 (by simp) f8
 have D8:=hid hd
 have B8:=hid hb8
 clear hd hb8 f8 b8 D7 B7 M8
 go_wp2_with fail
 clear hins
 refine (M9.out y8).mono ?_
 rintro e u9 ⟨v9,rfl,f9,b9⟩
 obtain ⟨F9,fs9,rfl,-,-⟩:=id f9
 obtain ⟨y9,hins,hd,hb9⟩:=Ec.insert HP.out (D8.out.below HP.out b9) (bl B8.out b9) 9 (by simp) f9
 have D9:=hid hd
 have B9:=hid hb9
 clear hd hb9 f9 b9 D8 B8 M9
 go_wp2_with fail
 clear hins
 refine (M10.out y9).mono ?_
 rintro e u10 ⟨v10,rfl,f10,b10⟩
 obtain ⟨F10,fs10,rfl,-,-⟩:=id f10
 obtain ⟨y10,hins,hd,hb10⟩:=Ec.insert HP.out (D9.out.below HP.out b10) (bl B9.out b10) 10 (by simp) f10
 have D10:=hid hd
 have B10:=hid hb10
 clear hd hb10 f10 b10 D9 B9 M10
 go_wp2_with fail
 go_ret
 exact ⟨b,rfl,Ec.congr D10.out (fun k=>by unfold Zx;simp only [false_or];omega),B10.out⟩
theorem Gv0 (hm:Ak c=false) (hg:Ae w ga c.gives) (hw:Ae w wa c.wants):Calls prog 9 #[.agg (wC x p),.int .i64 (i:Int),.agg (cC c ga gc wa wc)] w (deP x p (doW x i c) w):=by
 rw [show doW x i c=(x,errR 2) by unfold doW;rw [if_pos hm]]
 have HG:=hid hg
 have HW:=hid hw
 have HM:=hid hm
 have C0:=hid (Qua.start 29 31 29 38 w (wC x p) (cC c ga gc wa wc) zC #[.int .i64 0,.int .i64 0,.int .i64 0,.slice none 0 0,.slice none 0 0,.int .i64 0])
 clear hm hg hw
 have hWC:=@wC.eq_1
 have hZC:=@zC.eq_1
 have hCC:=@cC.eq_1
 go_enter func9,ntmps9
 go_wp2_with fail
 generalize (((w.alloc (.cells (wC x p) 29)).alloc (.cells (cC c ga gc wa wc) 31)).alloc (.cells zC 29)).alloc (.cells #[.int .i64 0,.int .i64 0,.int .i64 0,.slice none 0 0,.slice none 0 0,.int .i64 0] 38)=V0 at *
 refine (Ha c ga wa gc wc V0 (HG.out.below C0.out.b (Nat.le_refl _)) (HW.out.below C0.out.b (Nat.le_refl _))).mono ?_
 rintro e w1 ⟨rfl,b1⟩
 rw [Ej,HM.out]
 have C1:=hid (C0.out.call b1)
 have HSZ:=hid C0.out.size
 have HS1:=hid b1.size
 clear C0 b1
 have hca:=C1.out.a.cell
 have hla:=C1.out.a.lt
 obtain ⟨hcn,hzn,hln⟩:=C1.out.n.all
 obtain ⟨hcr,hzr,hlr⟩:=C1.out.r.all
 go_wp2_with fail
 refine bodyPost_ret (v:=.tuple #[.agg (wC x p),.agg #[.int .i64 2,.int .i64 0,.int .i64 0,.slice none 0 0,.slice none 0 0,.int .i64 0]]) (by simp [results,results9,go_sem,hcn,hcr]) rfl ⟨p,none,none,0,0,rfl,Df0 _ _ _ _ _,?_⟩
 iterate 6 refine Below.setCell ?_ (by show w.heap.size≤w.heap.size+3;omega) _
 iterate 11 refine bs_2 ?_
 exact C1.out.b
theorem Fj6 (hx:Ai x=true) (h:Ab w p x) (hi:i<x.at_.length) (hg:Ae w ga c.gives) (hw:Ae w wa c.wants) (hm:Ak c=true):Calls prog 9 #[.agg (wC x p),.int .i64 (i:Int),.agg (cC c ga gc wa wc)] w (deP x p (doW x i c) w):=by
 have hk:Zx c.kind:=by
  have h2:=hm
  rw [←Ej] at h2
  simp only [mayB,Co,Bool.and_eq_true,decide_eq_true_eq] at h2
  exact h2.1.1
 have HK:=hid hk
 have MD:=hid (fun (W:World) hb=>Ci8 x p i c ga wa gc wc w hx h hi hm hg hw W hb)
 obtain ⟨R,hR⟩:∃R,doW x i c=R:=⟨_,rfl⟩
 have HR:=hid hR
 rw [hR]
 have HG:=hid hg
 have HW:=hid hw
 have HM:=hid hm
 have C0:=hid (Qua.start 29 31 29 38 w (wC x p) (cC c ga gc wa wc) zC #[.int .i64 0,.int .i64 0,.int .i64 0,.slice none 0 0,.slice none 0 0,.int .i64 0])
 clear hm hg hw hx h hi hk hR
 have hWC:=@wC.eq_1
 have hZC:=@zC.eq_1
 have hCC:=@cC.eq_1
 go_enter func9,ntmps9
 go_wp2_with fail
 generalize (((w.alloc (.cells (wC x p) 29)).alloc (.cells (cC c ga gc wa wc) 31)).alloc (.cells zC 29)).alloc (.cells #[.int .i64 0,.int .i64 0,.int .i64 0,.slice none 0 0,.slice none 0 0,.int .i64 0] 38)=V0 at *
 refine (Ha c ga wa gc wc V0 (HG.out.below C0.out.b (Nat.le_refl _)) (HW.out.below C0.out.b (Nat.le_refl _))).mono ?_
 rintro e w1 ⟨rfl,b1⟩
 rw [Ej,HM.out]
 have C1:=hid (C0.out.call b1)
 have HSZ:=hid C0.out.size
 have HS1:=hid b1.size
 clear C0 b1
 go_wp2_with fail
 have hca:=C1.out.a.cell
 have hcm:=C1.out.m.cell
 have CD:=hid (C1.out.call (Af (Below.refl _ _)))
 have O0:=hid (show Two2 w.heap.size (w.heap.size+1) (wC x p) (cC c ga gc wa wc) w1 from ⟨hca,hcm⟩)
 have n0:w.heap.size≠w.heap.size+1+1:=by omega
 have n0b:w.heap.size≠w.heap.size+1+1+1:=by omega
 have n1:w.heap.size+1≠w.heap.size+1+1:=by omega
 have n1b:w.heap.size+1≠w.heap.size+1+1+1:=by omega
 clear hca hcm
 refine tkS (S:=(fun w'=>(∀ii,w'.cell? ⟨w.heap.size,ii,none⟩=((wC x p)[ii]?:Option Value))∧(∀ii,w'.cell? ⟨w.heap.size+1,ii,none⟩=((cC c ga gc wa wc)[ii]?:Option Value)))) (by (first|(with_reducible exact Fe O0.out.drew))) (fun hHeld=>?_)
 refine tkl [1,2,4,5,6] ?_
 iterate 5
  refine tW ?_
  try go_frame
 refine rdy1 0 (fun K hK=>?_)
 go_simp
 refine (MD.out _ CD.out.b).mono ?_;rintro e w2 ⟨b,rfl,hd,b2⟩;obtain ⟨v,hlk,hdp⟩:=Ec.lookup hd c.kind HK.out;obtain ⟨F,fs,rfl,he,hc⟩:=hdp;have C2:=hid (CD.out.call b2);have HC:=hid (hc rfl);have O1:=hid (show Two2 w.heap.size (w.heap.size+1) (wC x p) (cC c ga gc wa wc) w2 from ⟨C2.out.a.cell,C2.out.m.cell⟩);have HS2:=hid b2.size;clear hd b2 hc
 try go_wp2_with fail
 refine hK.out _ _ (by (first|(with_reducible exact Fe O1.out))) (fun hHeld=>?_)
 clear hK K
 try go_frame
 refine rdy1 3 (fun K hK=>?_)
 go_simp
 try go_wp2_with fail
 refine hK.out _ _ (by (first|(with_reducible exact Fe O1.out))) (fun hHeld=>?_)
 clear hK K
 try go_frame
 clear hlk
 refine rdy1 7 (fun K hK=>?_)
 go_simp
 refine (HC.out _ (Bq.refl _) C2.out.b).mono ?_;rintro e w3 ⟨q,qa,ia,qc,ic,rfl,nr,b3⟩;rw [HR.out] at nr ⊢;have C3:=hid (C2.out.call b3);have NR:=hid nr;have O2:=hid (show Two2 w.heap.size (w.heap.size+1) (wC x p) (cC c ga gc wa wc) w3 from ⟨C3.out.a.cell,C3.out.m.cell⟩);clear nr b3
 try go_wp2_with fail
 refine hK.out _ _ (by (first|(with_reducible exact Fe O2.out))) (fun hHeld=>?_)
 clear hK K
 try go_frame
 obtain ⟨hcn,hzn,hln⟩:=C3.out.n.all
 obtain ⟨hcr,hzr,hlr⟩:=C3.out.r.all
 clear he
 refine tkl [8,9] ?_
 iterate 2
  refine tW ?_
  try go_frame
 refine rdy1 10 (fun K hK=>?_)
 go_simp
 try go_wp2_with fail
 refine hK.out _ _ (by (first|((with_reducible refine Fe ?_);(iterate 11 with_reducible refine Two2.set n0 n1 ?_ _ _);with_reducible exact O2.out))) (fun hHeld=>?_)
 clear hK K
 try go_frame
 refine rdy1 11 (fun K hK=>?_)
 go_simp
 try go_wp2_with fail
 refine hK.out _ _ (by (first|((with_reducible refine Fe ?_);(iterate 6 with_reducible refine Two2.set n0b n1b ?_ _ _);(iterate 11 with_reducible refine Two2.set n0 n1 ?_ _ _);with_reducible exact O2.out))) (fun hHeld=>?_)
 clear hK K
 try go_frame
 refine tkD ?_
 go_wp2_with fail
 refine bodyPost_ret (v:=.tuple #[.agg (wC x q),.agg #[.int .i64 R.2.err,.int .i64 R.2.kind,.int .i64 R.2.room,.slice qa R.2.players.length qc,.slice ia R.2.items.length ic,.int .i64 R.2.coins]]) (by simp [results,results9,go_sem,hcn,hcr]) rfl ⟨q,qa,ia,qc,ic,rfl,?_,?_⟩
 ·refine Did.less (n:=w2.heap.size) ?_ (by have:=HSZ.out;have:=HS1.out;have h9:=HS2.out;simp only [World.drew] at h9;omega)
  iterate 6 refine Did.set (b:=w.heap.size+3) ?_ (by have:=HSZ.out;have:=HS1.out;have h9:=HS2.out;simp only [World.drew] at h9;omega) _ _
  iterate 11 refine Did.set (b:=w.heap.size+2) ?_ (by have:=HSZ.out;have:=HS1.out;have h9:=HS2.out;simp only [World.drew] at h9;omega) _ _
  exact NR.out
 ·iterate 6 refine Below.setCell ?_ (by show w.heap.size≤w.heap.size+3;omega) _
  iterate 11 refine bs_2 ?_
  exact C3.out.b
theorem Ed3 (hx:Ai x=true) (h:Ab w p x) (hi:i<x.at_.length) (hg:Ae w ga c.gives) (hw:Ae w wa c.wants):Calls prog 9 #[.agg (wC x p),.int .i64 (i:Int),.agg (cC c ga gc wa wc)] w (deP x p (doW x i c) w):=by
 cases hm:Ak c
 ·exact Gv0 x p i c ga wa gc wc w hm hg hw
 ·exact Fj6 x p i c ga wa gc wc w hx h hi hg hw hm
end
end Go.Proofs.YtnhkojpbbdaedaaGreat
