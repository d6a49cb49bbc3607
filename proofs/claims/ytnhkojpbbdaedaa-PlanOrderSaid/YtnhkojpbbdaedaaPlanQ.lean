/- plan: the map of what does changes; draft.do; what a session still has to do. -/
import Derived.Test.YtnhkojpbbdaedaaPlanP
namespace Go.Proofs.Ytnhkojpbbdaedaa
open Go.ChangeShapes Go.WideShapes Go.ChangeAt Go.RowKit Go.Proofs.Try
open Lib (hid)
set_option linter.unusedVariables false
set_option maxRecDepth 100000
open Go.RowKit Go.ChangeMaps Go.MapKept
theorem isKeyP (k:Int):IsKey (.int .i64) (.int .i64 k):=by simp [IsKey]
theorem ins_runP (b n:Nat) (es:Array MapEntry) (k:Int) (v:Value) (w:World) (h:w.heap[b]?=some (.map es n)) (hk:∀x∈es.toList,∃j:Int,x.key=.int .i64 j∧j≠k) :
 (Instr.mapUpdate 80 (.map (some b)) (.int .i64 k) v).run prog w=.ok () (setBlock w b (.map (es.push ⟨.int .i64 k,v,n⟩) (n+1))):=by
 have hk1:∀x∈es.toList,IsKey (.int .i64) x.key:=by
  intro x hx;obtain ⟨j,e,_⟩:=hk x hx;rw [e];exact isKeyP j
 have hf:Instr.findNow (.int .i64) (.int .i64 k) es.toList 0=some none:=by
  rcases findNow_spec (isKeyP k) es.toList 0 hk1 with ⟨e,_⟩|⟨j,x,_,e2,e3⟩
  ·exact e
  ·obtain ⟨q,e4,e5⟩:=hk x (List.mem_of_getElem? e2)
   rw [e3] at e4
   obtain rfl:k=q:=by simpa using e4
   exact absurd rfl e5
 simp [Instr.mapUpdate,run_underlying underlying80,MapKept.run_getObj_map h,MapKept.run_checkKey underlying3 (isKeyP k),MapKept.run_findKey underlying3 hf,MapKept.run_setObj_map _ h,Result.andThen,setBlock]
def wrF (k:Int):Nat:=if k=0 then 38 else if k=1 then 39 else 40
def wrE:Array MapEntry:=#[⟨.int .i64 0,.func (.func 38) #[] #[],0⟩,⟨.int .i64 1,.func (.func 39) #[] #[],1⟩,⟨.int .i64 2,.func (.func 40) #[] #[],2⟩]
theorem look_runP (b:Nat) (w:World) (k:Int) (hk:k=0∨k=1∨k=2) (h:w.heap[b]?=some (.map wrE 3)) :
 (Instr.lookup 80 (.map (some b)) (.int .i64 k) true).run prog w=.ok (.tuple #[.func (.func (wrF k)) #[] #[],.bool true]) w:=by
 have hk1:∀x∈wrE.toList,IsKey (.int .i64) x.key:=by
  intro x hx;simp [wrE] at hx;rcases hx with rfl|rfl|rfl<;>exact isKeyP _
 rcases findNow_spec (isKeyP k) wrE.toList 0 hk1 with ⟨_,e⟩|⟨j,x,e1,e2,e3⟩
 ·exfalso
  rcases hk with rfl|rfl|rfl
  ·exact e ⟨.int .i64 0,.func (.func 38) #[] #[],0⟩ (by simp [wrE]) rfl
  ·exact e ⟨.int .i64 1,.func (.func 39) #[] #[],1⟩ (by simp [wrE]) rfl
  ·exact e ⟨.int .i64 2,.func (.func 40) #[] #[],2⟩ (by simp [wrE]) rfl
 ·have hx:x.val=.func (.func (wrF k)) #[] #[]:=by
   have hm:=List.mem_of_getElem? e2
   simp [wrE] at hm
   rcases hm with rfl|rfl|rfl<;>(simp at e3;subst e3;rfl)
  simp [Instr.lookup,run_underlying underlying80,MapKept.run_getObj_map h,MapKept.run_checkKey underlying3 (isKeyP k),MapKept.run_findKey underlying3 e1,Result.andThen,hx]
theorem heap_newP (w:World) (o:Obj):(w.alloc o).heap[w.heap.size]?=some o:=by
 show (w.heap.push _)[w.heap.size]?=some _;simp
theorem below_setP {w0 w:World} {b m:Nat} {es:Array MapEntry} {o':Obj} (h:w.heap[b]?=some (.map es m)) (hb:Below w0.heap.size w0 w) (h0:w0.heap.size≤b):Below w0.heap.size w0 (setBlock w b o') :=
 ⟨hb.os,hb.tape,hb.output,by simpa [setBlock] using hb.size,fun j hj=>(heap_setBlock_other h _ (by omega)).trans (hb.block j hj)⟩
theorem writers_any (W:World):Calls prog 35 #[] W fun e W1=>∃b,e=.returned (.map (some b))∧W1.heap[b]?=some (.map wrE 3)∧Below W.heap.size W W1:=by
 have hmk:=run_makeMap (P:=prog) 80 W
 have h0:=heap_newP W (.map #[] 0)
 have b0:=(Below.refl W.heap.size W).alloc (Nat.le_refl _) (.map #[] 0)
 have i0:=ins_runP W.heap.size 0 #[] 0 (.func (.func 38) #[] #[]) (W.alloc (.map #[] 0)) h0 (by simp)
 have h1:=heap_setBlock_same h0 (.map (#[].push ⟨.int .i64 0,.func (.func 38) #[] #[],0⟩) (0+1))
 have b1:=below_setP (o':=.map (#[].push ⟨.int .i64 0,.func (.func 38) #[] #[],0⟩) (0+1)) h0 b0 (Nat.le_refl _)
 have H0:=hid h0
 clear h0 b0
 generalize setBlock (W.alloc (.map #[] 0)) W.heap.size (.map (#[].push ⟨.int .i64 0,.func (.func 38) #[] #[],0⟩) (0+1))=V1 at *
 have i1:=ins_runP W.heap.size _ _ 1 (.func (.func 39) #[] #[]) V1 h1 (by simp)
 have h2:=heap_setBlock_same h1 (.map ((#[].push ⟨.int .i64 0,.func (.func 38) #[] #[],0⟩).push ⟨.int .i64 1,.func (.func 39) #[] #[],0+1⟩) (0+1+1))
 have b2:=below_setP (o':=.map ((#[].push ⟨.int .i64 0,.func (.func 38) #[] #[],0⟩).push ⟨.int .i64 1,.func (.func 39) #[] #[],0+1⟩) (0+1+1)) h1 b1 (Nat.le_refl _)
 clear h1 b1
 generalize setBlock V1 W.heap.size (.map ((#[].push ⟨.int .i64 0,.func (.func 38) #[] #[],0⟩).push ⟨.int .i64 1,.func (.func 39) #[] #[],0+1⟩) (0+1+1))=V2 at *
 have i2:=ins_runP W.heap.size _ _ 2 (.func (.func 40) #[] #[]) V2 h2 (by simp)
 have h3:=heap_setBlock_same h2 (.map (((#[].push ⟨.int .i64 0,.func (.func 38) #[] #[],0⟩).push ⟨.int .i64 1,.func (.func 39) #[] #[],0+1⟩).push ⟨.int .i64 2,.func (.func 40) #[] #[],0+1+1⟩) (0+1+1+1))
 have b3:=below_setP (o':=.map (((#[].push ⟨.int .i64 0,.func (.func 38) #[] #[],0⟩).push ⟨.int .i64 1,.func (.func 39) #[] #[],0+1⟩).push ⟨.int .i64 2,.func (.func 40) #[] #[],0+1+1⟩) (0+1+1+1)) h2 b2 (Nat.le_refl _)
 clear h2 b2
 generalize setBlock V2 W.heap.size (.map (((#[].push ⟨.int .i64 0,.func (.func 38) #[] #[],0⟩).push ⟨.int .i64 1,.func (.func 39) #[] #[],0+1⟩).push ⟨.int .i64 2,.func (.func 40) #[] #[],0+1+1⟩) (0+1+1+1))=V3 at *
 have H3:=hid h3
 have B3:=hid b3
 clear h3 b3
 have hWC:=@wC.eq_1
 go_enter func35,ntmps35
 go_wp2_with fail
 go_ret
 exact ⟨_,rfl,H3.out,B3.out⟩
theorem chg_any (n:Nat) (y:Wd) (q:Wp) (W:World) (ho:Ao n W q y) (hn:n≤W.heap.size) (c:Wr) (hm:mayX y c=true):Calls prog (wrF c.kind) #[.agg (wC y q),.agg #[.int .i64 c.kind,.int .i64 c.id,.int .i64 c.num,.int .i64 c.pl.kind,.int .i64 c.pl.id]] W (Chg n q (doX y c) W):=by
 obtain ⟨k,i,v,⟨pk,pi⟩⟩:=c
 simp only [mayX,Bool.and_eq_true,Bool.or_eq_true,decide_eq_true_eq] at hm
 obtain ⟨h0,hm⟩:=hm
 obtain ⟨j,rfl⟩:∃j:Nat,i=j:=⟨i.toNat,by omega⟩
 rcases hm with ⟨rfl,hj⟩|⟨rfl,hj⟩|⟨rfl,hj⟩
 ·exact Bm0 n y q j W ho hn (by omega) v pk pi
 ·exact Aq7 n y q j W ho hn (by omega) v pk pi
 ·exact lay_any n y q j W ho hn (by omega) v ⟨pk,pi⟩
theorem Ak6 {y:Wd} {c:Wr} (hm:mayX y c=true):c.kind=0∨c.kind=1∨c.kind=2:=by
 simp only [mayX,Bool.and_eq_true,Bool.or_eq_true,decide_eq_true_eq] at hm
 rcases hm.2 with ⟨h,_⟩|⟨h,_⟩|⟨h,_⟩<;>simp [h]
theorem wrf_enter (k:Int) (args:Array Value) (w:World):(callFunc (wrF k) args).run prog w=.ok (.enter (wrF k) args) w:=by
 unfold wrF
 split
 ·exact enters_of func38 (by kernel_rfl) rfl args w
 ·split
  ·exact enters_of func39 (by kernel_rfl) rfl args w
  ·exact enters_of func40 (by kernel_rfl) rfl args w
structure DoR (n:Nat) (q:Wp) (x:Wd) (l:List Wr) (V:World) (k:Nat) (W:World):Prop where
 o:Ao n W q (allP x (l.take k))
 b:Below n V W
 t:KT V W
theorem DoR.call {n:Nat} {q:Wp} {x:Wd} {l:List Wr} {V W W':World} {k:Nat} (h:DoR n q x l V k W) (hn:n≤W.heap.size) (hb:Below W.heap.size W W'):DoR n q x l V k W':=⟨h.o.call hb,h.b.trans (hb.mono hn),h.t.trans (KT.below hb)⟩
set_option maxHeartbeats 1000000 in
theorem ddo_any (n:Nat) (x:Wd) (q:Wp) (la:Option Addr) (lc:Nat) (l:List Wr) (w0 W:World) (ho:Ao n W q x) (hn:n≤W.heap.size) (h0:w0.heap.size≤n) (hb:Below w0.heap.size w0 W) (hl:WrsAt w0 la l) (hm:∀c∈l,mayX x c=true) :
 Calls prog 28 #[.agg (wC x q),.slice la l.length lc] W (Chg n q (allP x l) W):=by
 have b0:=(Below.refl W.heap.size W).alloc (Nat.le_refl _) (.cells (wC x q) 72)
 have HB0:=hid b0
 have HD:=hid (Blk.new W 72 (wC x q))
 have HO:=hid (ho.call b0)
 have HBW:=hid (bl hb b0)
 have HN:=hid hn
 have HZ:=hid h0
 have HL:=hid hl
 have HM:=hid hm
 have hln:=hl.len
 clear b0 ho hn h0 hb hl hm
 have hWC:=@wC.eq_1
 go_enter func28,ntmps28
 go_wp2_with fail
 refine (writers_any _).mono ?_
 rintro e V ⟨mb,rfl,hmp,b1⟩
 have HMP:=hid hmp
 have HML:=hid (Array.getElem?_eq_some_iff.1 hmp).1
 have HD1:=hid (HD.out.call b1)
 have HR0:=hid (show DoR n q x l V 0 V from ⟨HO.out.call b1,Below.refl _ _,KT.refl _⟩)
 have HB1:=hid (bl HB0.out b1)
 have HBV:=hid (bl HBW.out b1)
 have HNV:=hid (Nat.le_trans HN.out HB1.out.size)
 clear hmp b1 HB0 HBW HO HD
 go_wp2_with fail
 go_loopw [12] (fun i wr=>∃k:Nat,k≤l.length∧i=.int .i64 k∧DoR n q x l V k wr) (fun i _=>l.length-(intOf i).toNat)
 case atStart=>exact ⟨0,Nat.zero_le _,rfl,HR0.out⟩
 case round =>
  obtain ⟨k,hk,rfl,hR⟩:=hrel
  have HR:=hid hR
  clear hR
  by_cases hlt:k<l.length
  ·obtain ⟨b,o,rfl,hbk,c0,c1,c2,c3,c4⟩:=WrsAt.cells HL.out hlt
   have HBR:=hid (HBV.out.trans (HR.out.b.mono HZ.out))
   have HMC:=hid (HM.out l[k] (List.getElem_mem hlt))
   have HMO:=hid (allP_more x hlt)
   have HKL:=hid hlt
   have HSZ:=hid (Nat.le_trans HNV.out HR.out.b.size)
   have wk:IntKind.i64.wrap ((k:Int)+1)=(k:Int)+1:=IntWalk.i64_in _ (by omega)
   have d0:=(HBR.out.cell (p:=⟨b,o+k*5,none⟩) hbk).trans c0
   have d1:=(HBR.out.cell (p:=⟨b,o+k*5+1,none⟩) hbk).trans c1
   have d2:=(HBR.out.cell (p:=⟨b,o+k*5+2,none⟩) hbk).trans c2
   have d3:=(HBR.out.cell (p:=⟨b,o+k*5+3,none⟩) hbk).trans c3
   have d4:=(HBR.out.cell (p:=⟨b,o+k*5+4,none⟩) hbk).trans c4
   have hbl:b<wr.heap.size:=Nat.lt_of_lt_of_le hbk HBR.out.size
   have HDR:=hid (HR.out.t.blk HD1.out (by decide) (by decide))
   obtain ⟨hcd,hfd,hld⟩:=HDR.out.all
   have HMR:=hid (HR.out.t.2 mb _ HMP.out fun cs f=>⟨nofun,nofun⟩)
   clear c0 c1 c2 c3 c4 hbk
   generalize l[k]=c at *
   have hmk:=Ak6 HMC.out
   obtain ⟨ck,ci,cn,⟨cpk,cpi⟩⟩:=c
   simp only at d0 d1 d2 d3 d4
   have ba:=(Below.refl wr.heap.size wr).alloc (Nat.le_refl _) (.cells #[.int .i64 ck,.int .i64 ci,.int .i64 cn,.int .i64 cpk,.int .i64 cpi] 39)
   have hlk:=look_runP mb (wr.alloc (.cells #[.int .i64 ck,.int .i64 ci,.int .i64 cn,.int .i64 cpk,.int .i64 cpi] 39)) ck hmk ((ba.block mb (Array.getElem?_eq_some_iff.1 HMR.out).1).trans HMR.out)
   have hent:=wrf_enter ck
   have HC:=hid (chg_any n _ q _ (HR.out.o.call ba) (Nat.le_trans HSZ.out ba.size) ⟨ck,ci,cn,⟨cpk,cpi⟩⟩ (by rw [(Gw8 (l.take k) x).may];exact HMC.out))
   have HLS:=hid (Gw8 (l.take k) x).shape.val
   have HR1:=hid (HR.out.call HSZ.out ba)
   clear ba hmk
   obtain ⟨F,hF⟩:∃F,wrF ck=F:=⟨_,rfl⟩
   rw [hF] at hlk hent HC
   clear hF
   go_wp2_with fail
   have hcc:=HC.out
   rw [HLS.out] at hcc
   refine hcc.mono ?_
   rintro e w3 ⟨⟨z,rfl⟩,ho3,hb3,hk3⟩
   have HR3:=hid (show DoR n q x l V (k+1) w3 from ⟨by rw [HMO.out];exact ho3,HR1.out.b.trans hb3,HR1.out.t.trans hk3⟩)
   clear hcc HC HR1 HR hcd hfd hld HDR HMR ho3 hb3 hk3 hlk hent d0 d1 d2 d3 d4 hbl HBR
   go_wp2_with fail
   go_roundw
   case rel=>exact ⟨k+1,HKL.out,by go_num,HR3.out⟩
   case measure=>have:=HKL.out;simp [intOf];omega
  ·have hke:k=l.length:=by omega
   subst hke
   have hR:=HR.out
   obtain ⟨r1,r2,r3⟩:=hR
   rw [List.take_length] at r1
   have R1:=hid r1
   have R2:=hid r2
   have R3:=hid r3
   clear r1 r2 r3 HR
   go_wp2_with fail
   refine bodyPost_end (results_none rfl _ _ _) rfl ?_
   exact ⟨⟨_,rfl⟩,R1.out,(HB1.out.mono HN.out).trans R2.out,(KT.below HB1.out).trans R3.out⟩
def LeftQ (L:List Wr) (w0 w:World) (e:Ending) (w':World):Prop:=∃(a:Option Addr) (c:Nat),e=.returned (.slice a L.length c)∧WrsAt w0 a L∧Below w.heap.size w w'
def leftL (s:Sl):List Wr:=if s.phase=5 then s.plan.drop s.step.toNat else []
theorem setP_left (y:Wd) (s:Sl):setP y s=allP y (leftL s):=by
 unfold setP leftL
 split<;>rfl
theorem left_may {x:Wd} {s:Sl} (h:MayS x s):∀c∈leftL s,mayX x c=true:=by
 unfold leftL
 split
 ·rename_i hp
  exact fun c hc=>(h hp).2.2 c (List.mem_of_mem_drop hc)
 ·simp
theorem run_max0 (j:Nat) (W:World):(Builtin.max_ #[3,3] 3 #[.int .i64 (j:Int),.int .i64 0]).run prog W=.ok (.int .i64 (j:Int)) W:=by
 simp [Builtin.max_,Builtin.max2,go_sem]
 omega
theorem run_minL (j m:Nat) (h:j≤m) (W:World):(Builtin.min_ #[3,3] 3 #[.int .i64 (j:Int),.int .i64 (m:Int)]).run prog W=.ok (.int .i64 (j:Int)) W:=by
 rcases Nat.eq_or_lt_of_le h with rfl|h2
 ·simp [Builtin.min_,Builtin.min2,go_sem]
 ·simp [Builtin.min_,Builtin.min2,go_sem];omega
theorem left_any (x:Wd) (s:Sl) (w0 w:World) (hp:WrcAt w0 s.pa s.pc s.plan) (hm:MayS x s) :
 Calls prog 29 #[.agg #[.int .i64 s.player,.slice s.la s.ls.length s.lc,.int .i64 s.next,.int .i64 s.phase,.int .i64 s.step,.int .i64 s.c.kind,.int .i64 s.c.dir,.int .i64 s.c.item,.int .i64 s.c.box,.int .i64 s.c.who,.slice s.ga s.c.gives.length s.gc,.int .i64 s.c.pay,.slice s.wa s.c.wants.length s.wc,.int .i64 s.c.fee,.slice s.fa s.foot.length s.fc,.int .i64 s.has,.slice s.pa s.plan.length s.pc,.int .i64 s.r.err,.int .i64 s.r.kind,.int .i64 s.r.room,.slice s.rpa s.r.players.length s.rpc,.slice s.ria s.r.items.length s.ric,.int .i64 s.r.coins,.bool s.stale,.int .i64 s.tries,.int .i64 s.ver,.int .i64 s.room,.slice s.ca s.copies.length s.cc,.slice s.ha s.heads.length s.hc,.int .i64 s.purse]] w (LeftQ (leftL s) w0 w):=by
 have HB:=hid ((Below.refl w.heap.size w).alloc (Nat.le_refl _) (.cells #[.int .i64 s.player,.slice s.la s.ls.length s.lc,.int .i64 s.next,.int .i64 s.phase,.int .i64 s.step,.int .i64 s.c.kind,.int .i64 s.c.dir,.int .i64 s.c.item,.int .i64 s.c.box,.int .i64 s.c.who,.slice s.ga s.c.gives.length s.gc,.int .i64 s.c.pay,.slice s.wa s.c.wants.length s.wc,.int .i64 s.c.fee,.slice s.fa s.foot.length s.fc,.int .i64 s.has,.slice s.pa s.plan.length s.pc,.int .i64 s.r.err,.int .i64 s.r.kind,.int .i64 s.r.room,.slice s.rpa s.r.players.length s.rpc,.slice s.ria s.r.items.length s.ric,.int .i64 s.r.coins,.bool s.stale,.int .i64 s.tries,.int .i64 s.ver,.int .i64 s.room,.slice s.ca s.copies.length s.cc,.slice s.ha s.heads.length s.hc,.int .i64 s.purse] 55))
 by_cases hph:s.phase=5
 ·have q0:(s.phase != 5)=false:=by simp [hph]
  obtain ⟨hs0,hs1,-⟩:=hm hph
  obtain ⟨j,hj⟩:∃j:Nat,s.step=j:=⟨s.step.toNat,by omega⟩
  have hj2:j≤s.plan.length:=by omega
  have HLL:=hid (show leftL s=s.plan.drop j by rw [leftL,if_pos hph,hj];rfl)
  have HD:=hid (hp.drop hj2).1
  rw [HLL.out]
  have hcut:=fun W=>wr_cut W s.pa s.plan.length s.pc j hj2
  have hmx:=run_max0 j
  have hmn:=run_minL j s.plan.length hj2
  have HLD:=hid (show (s.plan.drop j).length=s.plan.length-j by simp)
  clear hp hm hs0 hs1 hph
  obtain ⟨player,ls,la,lc,next,phase,step,c,ga,gc,wa,wc,foot,fa,fc,has,plan,pa,pc,r,rpa,rpc,ria,ric,stale,tries,ver,room,copies,ca,cc,heads,ha,hc,purse⟩:=s
  simp only at hj q0
  subst hj
  have hWC:=@wC.eq_1
  go_enter func29,ntmps29
  go_wp2_with fail
  go_ret
  exact ⟨_,_,by rw [HLD.out];rfl,HD.out,HB.out⟩
 ·have q0:(s.phase != 5)=true:=by simpa using hph
  have HLL:=hid (show leftL s=[] by rw [leftL,if_neg hph])
  rw [HLL.out]
  clear hp hm hph
  have hWC:=@wC.eq_1
  go_enter func29,ntmps29
  go_wp2_with fail
  go_ret
  exact ⟨none,0,rfl,⟨by simp,.inl rfl⟩,HB.out⟩
end Go.Proofs.Ytnhkojpbbdaedaa
