/- What the laws of plan begin with: answers that the document fixes. -/
import Derived.Test.YtnhkojpbbdaedaaGreatGPlanC
namespace Go.Proofs.YtnhkojpbbdaedaaGreat
open Go.ChangeShapes Go.WideShapes Go.ChangeAt Go.RowKit Go.Proofs.Tryz
open Lib (hid)
set_option linter.unusedVariables false
set_option maxRecDepth 100000
open Go.RowKit Go
def aD18:Ds:=⟨[⟨0,0,0,0⟩,⟨0,0,0,0⟩],[0,0],[5,2],[0],[false],4,2,1⟩
def aP18 (n:Nat):Dp:=⟨some ⟨n,0,none⟩,2,some ⟨n+1,0,none⟩,2,some ⟨n+1+1,0,none⟩,2,some ⟨n+1+1+1,0,none⟩,1,some ⟨n+1+1+1+1,0,none⟩,1⟩
def aN18:Wd:=newW aD18
def aX18:Wd:=⟨aD18,[0,1],[9,2],[⟨1,0⟩]⟩
def aH18:Wd:=⟨aD18,[0,0],[9,2],[⟨1,0⟩]⟩
def aE18:Wd:=⟨aD18,[0,0],[9,2],[⟨0,0⟩]⟩
def aL18:List Wr:=[⟨0,1,1,⟨0,0⟩⟩,⟨1,0,9,⟨0,0⟩⟩,⟨2,0,0,⟨1,0⟩⟩]
def aS18 (la:Option Addr) (lc:Nat):List Sl:=[⟨0,[],none,0,0,5,1,⟨0,0,0,0,0,[],0,[],0⟩,none,0,none,0,[],none,0,0,aL18,la,lc,⟨0,0,0,[],[],0⟩,none,0,none,0,false,0,0,0,[],none,0,[],none,0,0⟩,⟨0,[],none,0,0,4,0,⟨0,0,0,0,0,[],0,[],0⟩,none,0,none,0,[],none,0,0,aL18,la,lc,⟨0,0,0,[],[],0⟩,none,0,none,0,false,0,0,0,[],none,0,[],none,0,0⟩]
theorem aX18_like:Like aN18 aX18:=⟨rfl,rfl,rfl,rfl⟩
theorem aw18_e1:Ao3 aN18 aX18=aL18:=by decide +kernel
theorem aw18_e2:allP aN18 aL18=aX18:=by decide +kernel
theorem aw18_e3:doX aN18 ⟨1,0,9,⟨0,0⟩⟩=aE18:=by decide +kernel
theorem aw18_e4 (la:Option Addr) (lc:Nat):setW aN18 (aS18 la lc)=aH18:=by rfl
theorem aw18_may:∀c∈aL18,mayX aN18 c=true:=by decide +kernel
theorem aw18_few:FewW aN18:=by unfold FewW FewD;decide +kernel
theorem row18 {α:Type} {k:Nat} {enc:α→List Value} {W:World} {g:Nat} {t:TypeId} {cs:Array Value} {xs:List α} (h:Blk W g t cs) (hl:xs.length≤maxLen) (hc:∀i (hi:i<xs.length) j,j<k→cs[i*k+j]?=(enc xs[i])[j]?):Ar k enc W (some ⟨g,0,none⟩) xs :=
 ⟨hl,.inr ⟨g,0,rfl,h.lt,fun i hi j hj=>by rw [Nat.zero_add,h.cell];exact hc i hi j hj⟩⟩
theorem flat18 {α:Type} {k:Nat} {enc:α→List Value} (he:∀x,(enc x).length=k) {W:World} {g:Nat} {t:TypeId} {cs:Array Value} (l:List α) (h:Blk W g t cs) (hl:l.length≤maxLen) (hcs:cs=(l.flatMap enc).toArray):Ar k enc W (some ⟨g,0,none⟩) l :=
 row18 h hl (fun i hi j hj=>by rw [hcs];simpa using Ji he l i hi j hj)
theorem exits18_info:(prog.info? 75).map (fun i=>(i.zero,i.size,i.bytes))=some (some (.agg #[.int .i64 0,.int .i64 0,.int .i64 0,.int .i64 0]),4,32):=by kernel_rfl
theorem make_exits18 (W:World):(Instr.makeSlice 22 (.int .i64 2) (.int .i64 2)).run prog W=.ok (.slice (some ⟨W.heap.size,0,none⟩) 2 2) (W.alloc (.cells #[.int .i64 0,.int .i64 0,.int .i64 0,.int .i64 0,.int .i64 0,.int .i64 0,.int .i64 0,.int .i64 0] 75)):=by
 obtain ⟨i0,hi0,hz0,hz1,hz2⟩:=info_parts exits18_info
 have hr:=run_make (P:=prog) W 22 75 i0 (.agg #[.int .i64 0,.int .i64 0,.int .i64 0,.int .i64 0]) underlying22 hi0 hz0 .i64 .i64 2 2 (by omega) (by omega) (by rw [hz2];omega) (by omega)
 rw [hz1] at hr
 exact hr.trans (by kernel_rfl)
theorem aD18_at {W:World} {n:Nat} (h0:Blk W n 75 #[.int .i64 0,.int .i64 0,.int .i64 0,.int .i64 0,.int .i64 0,.int .i64 0,.int .i64 0,.int .i64 0]) (h1:Blk W (n+1) 3 #[.int .i64 0,.int .i64 0]) (h2:Blk W (n+1+1) 3 #[.int .i64 5,.int .i64 2])
 (h3:Blk W (n+1+1+1) 3 #[.int .i64 0]) (h4:Blk W (n+1+1+1+1) 4 #[.bool false]):Ce W (aP18 n) aD18:=by
 refine ⟨row18 h0 (by simp [aD18,maxLen]) ?_,Av.2 (row18 h1 (by simp [aD18,maxLen]) ?_),Av.2 (row18 h2 (by simp [aD18,maxLen]) ?_),Av.2 (row18 h3 (by simp [aD18,maxLen]) ?_),row18 h4 (by simp [aD18,maxLen]) ?_⟩
 ·intro i hi j hj
  obtain rfl|rfl:i=0∨i=1:=by simp [aD18] at hi;omega
  all_goals obtain rfl|rfl|rfl|rfl:j=0∨j=1∨j=2∨j=3:=by omega
  all_goals rfl
 ·intro i hi j hj
  obtain rfl:j=0:=by omega
  obtain rfl|rfl:i=0∨i=1:=by simp [aD18] at hi;omega
  all_goals rfl
 ·intro i hi j hj
  obtain rfl:j=0:=by omega
  obtain rfl|rfl:i=0∨i=1:=by simp [aD18] at hi;omega
  all_goals rfl
 all_goals
  intro i hi j hj
  obtain rfl:j=0:=by omega
  obtain rfl:i=0:=by simp [aD18] at hi;omega
  rfl
theorem field_coins (v0 v1 v2 v3 v4 v5 v6 v7 v8 v9 v10:Value) (W:World):(Instr.field 29 (.agg #[v0,v1,v2,v3,v4,v5,v6,v7,v8,v9,v10]) 2).run prog W=.ok v9 W:=by
 simp [Instr.field,run_underlying underlying29,Tryz.isAgg23,asAgg,Go.part,Result.andThen]
theorem aw18_start (w:World):Ce (((((w.alloc (.cells #[.int .i64 0,.int .i64 0,.int .i64 0,.int .i64 0,.int .i64 0,.int .i64 0,.int .i64 0,.int .i64 0] 75)).alloc (.cells #[.int .i64 0,.int .i64 0] 3)).alloc (.cells #[.int .i64 5,.int .i64 2] 3)).alloc (.cells #[.int .i64 0] 3)).alloc (.cells #[.bool false] 4)) (aP18 w.heap.size) aD18∧Below w.heap.size w (((((w.alloc (.cells #[.int .i64 0,.int .i64 0,.int .i64 0,.int .i64 0,.int .i64 0,.int .i64 0,.int .i64 0,.int .i64 0] 75)).alloc (.cells #[.int .i64 0,.int .i64 0] 3)).alloc (.cells #[.int .i64 5,.int .i64 2] 3)).alloc (.cells #[.int .i64 0] 3)).alloc (.cells #[.bool false] 4)):=by
 have b0:=Blk.newn w 75 #[.int .i64 0,.int .i64 0,.int .i64 0,.int .i64 0,.int .i64 0,.int .i64 0,.int .i64 0,.int .i64 0] (n:=w.heap.size) rfl
 have b1:=Blk.newn (w.alloc (.cells #[.int .i64 0,.int .i64 0,.int .i64 0,.int .i64 0,.int .i64 0,.int .i64 0,.int .i64 0,.int .i64 0] 75)) 3 #[.int .i64 0,.int .i64 0] (n:=w.heap.size+1) (by simp)
 have b2:=Blk.newn ((w.alloc (.cells #[.int .i64 0,.int .i64 0,.int .i64 0,.int .i64 0,.int .i64 0,.int .i64 0,.int .i64 0,.int .i64 0] 75)).alloc (.cells #[.int .i64 0,.int .i64 0] 3)) 3 #[.int .i64 5,.int .i64 2] (n:=w.heap.size+1+1) (by simp)
 have b3:=Blk.newn (((w.alloc (.cells #[.int .i64 0,.int .i64 0,.int .i64 0,.int .i64 0,.int .i64 0,.int .i64 0,.int .i64 0,.int .i64 0] 75)).alloc (.cells #[.int .i64 0,.int .i64 0] 3)).alloc (.cells #[.int .i64 5,.int .i64 2] 3)) 3 #[.int .i64 0] (n:=w.heap.size+1+1+1) (by simp)
 have b4:=Blk.newn ((((w.alloc (.cells #[.int .i64 0,.int .i64 0,.int .i64 0,.int .i64 0,.int .i64 0,.int .i64 0,.int .i64 0,.int .i64 0] 75)).alloc (.cells #[.int .i64 0,.int .i64 0] 3)).alloc (.cells #[.int .i64 5,.int .i64 2] 3)).alloc (.cells #[.int .i64 0] 3)) 4 #[.bool false] (n:=w.heap.size+1+1+1+1) (by simp)
 exact ⟨aD18_at ((((b0.alloc _).alloc _).alloc _).alloc _) (((b1.alloc _).alloc _).alloc _) ((b2.alloc _).alloc _) (b3.alloc _) b4,((((b_a _).alloc (by simp) _).alloc (by simp;omega) _).alloc (by simp;omega) _).alloc (by simp;omega) _⟩
theorem aw18_new (n:Nat) (W:World) (h:Ce W (aP18 n) aD18):Calls prog 15 #[.agg #[.slice (some ⟨n,0,none⟩) 2 2,.slice (some ⟨n+1,0,none⟩) 2 2,.slice (some ⟨n+1+1,0,none⟩) 2 2,.slice (some ⟨n+1+1+1,0,none⟩) 1 1,.slice (some ⟨n+1+1+1+1,0,none⟩) 1 1,.int .i64 4,.int .i64 2,.int .i64 1]] W fun e w'=>∃q1:Wp,e=.returned (.agg #[.slice q1.d.ex 2 q1.d.exc,.slice q1.d.pl 2 q1.d.plc,.slice q1.d.co 2 q1.d.coc,.slice q1.d.it 1 q1.d.itc,.slice q1.d.bo 1 q1.d.boc,.int .i64 4,.int .i64 2,.int .i64 1,.slice q1.at_ 2 q1.atc,.slice q1.co 2 q1.coc,.slice q1.wh 1 q1.whc])∧Ab w' q1 aN18∧Below W.heap.size W w':=by
 refine (Ap6 aD18 (aP18 n) W h (by decide +kernel)).mono ?_
 rintro e w' ⟨x,q,rfl,rfl,hw,hb⟩
 exact ⟨q,rfl,hw,hb⟩
theorem aw18_copy (q1:Wp) (W:World) (h:Ab W q1 aN18):Calls prog 16 #[.agg #[.slice q1.d.ex 2 q1.d.exc,.slice q1.d.pl 2 q1.d.plc,.slice q1.d.co 2 q1.d.coc,.slice q1.d.it 1 q1.d.itc,.slice q1.d.bo 1 q1.d.boc,.int .i64 4,.int .i64 2,.int .i64 1,.slice q1.at_ 2 q1.atc,.slice q1.co 2 q1.coc,.slice q1.wh 1 q1.whc]] W fun e w'=>∃(qd:Dp) (ba bk bw ac kc whc:Nat),e=.returned (.agg #[.slice qd.ex 2 qd.exc,.slice qd.pl 2 qd.plc,.slice qd.co 2 qd.coc,.slice qd.it 1 qd.itc,.slice qd.bo 1 qd.boc,.int .i64 4,.int .i64 2,.int .i64 1,.slice (some ⟨ba,0,none⟩) 2 ac,.slice (some ⟨bk,0,none⟩) 2 kc,.slice (some ⟨bw,0,none⟩) 1 whc]) ∧
 (W.heap.size≤ba∧ba<bk∧bk<bw∧bw<w'.heap.size)∧Cc W.heap.size w' q1.d ⟨qd,some ⟨ba,0,none⟩,ac,some ⟨bk,0,none⟩,kc,some ⟨bw,0,none⟩,whc⟩ aN18∧Below W.heap.size W w':=by
 refine (Iq aN18 q1 W h aw18_few).mono ?_
 rintro e w' ⟨⟨qd,qa,ac,qk,kc,qw,whc⟩,rfl,-,hb,ho⟩
 obtain ⟨ba,e1,a1,-⟩:=ho.putAt (k:=1) (by decide)
 obtain ⟨bk,e2,-⟩:=ho.putCo (k:=0) (by decide)
 obtain ⟨bw,e3,-,c2,-⟩:=ho.putPlace (k:=0) (by decide)
 simp only at e1 e2 e3
 subst e1 e2 e3
 obtain ⟨-,m1,m2,k1,k2,_,la,hc,lc,hw⟩:=id ho
 have l1:=la _ rfl
 have l2:=hc.from_ rfl
 have l3:=lc _ rfl
 have l4:=hw.from_ rfl
 simp only at l1 l2 l3 l4
 exact ⟨qd,ba,bk,bw,ac,kc,whc,rfl,⟨a1,by omega,by omega,c2⟩,ho,hb⟩
theorem aw18_from (q1:Wp) (qd:Dp) (ba bk bw ac kc whc:Nat) (W:World) (h1:Ab W q1 aN18) (h2:Ab W ⟨qd,some ⟨ba,0,none⟩,ac,some ⟨bk,0,none⟩,kc,some ⟨bw,0,none⟩,whc⟩ aX18):Calls prog 10 #[.agg #[.slice q1.d.ex 2 q1.d.exc,.slice q1.d.pl 2 q1.d.plc,.slice q1.d.co 2 q1.d.coc,.slice q1.d.it 1 q1.d.itc,.slice q1.d.bo 1 q1.d.boc,.int .i64 4,.int .i64 2,.int .i64 1,.slice q1.at_ 2 q1.atc,.slice q1.co 2 q1.coc,.slice q1.wh 1 q1.whc],.agg #[.slice qd.ex 2 qd.exc,.slice qd.pl 2 qd.plc,.slice qd.co 2 qd.coc,.slice qd.it 1 qd.itc,.slice qd.bo 1 qd.boc,.int .i64 4,.int .i64 2,.int .i64 1,.slice (some ⟨ba,0,none⟩) 2 ac,.slice (some ⟨bk,0,none⟩) 2 kc,.slice (some ⟨bw,0,none⟩) 1 whc]] W fun e w'=>∃(la:Option Addr) (lc:Nat),e=.returned (.slice la 3 lc)∧WrcAt w' la lc aL18∧Below W.heap.size W w' :=
 pfrom_as (Like.refl aN18) aX18_like h1 h2 (by decide) (by decide) (by decide) aw18_e1
theorem aw18_set (q1:Wp) (la:Option Addr) (lc g:Nat) (W:World) (h1:Ab W q1 aN18) (h2:PlansAt W (some ⟨g,0,none⟩) (aS18 la lc)):Calls prog 17 #[.agg #[.slice q1.d.ex 2 q1.d.exc,.slice q1.d.pl 2 q1.d.plc,.slice q1.d.co 2 q1.d.coc,.slice q1.d.it 1 q1.d.itc,.slice q1.d.bo 1 q1.d.boc,.int .i64 4,.int .i64 2,.int .i64 1,.slice q1.at_ 2 q1.atc,.slice q1.co 2 q1.coc,.slice q1.wh 1 q1.whc],.slice (some ⟨g,0,none⟩) 2 2] W fun e w'=>∃(hd:Dp) (ha hk hw hac hkc hwc:Nat),e=.returned (.agg #[.slice hd.ex 2 hd.exc,.slice hd.pl 2 hd.plc,.slice hd.co 2 hd.coc,.slice hd.it 1 hd.itc,.slice hd.bo 1 hd.boc,.int .i64 4,.int .i64 2,.int .i64 1,.slice (some ⟨ha,0,none⟩) 2 hac,.slice (some ⟨hk,0,none⟩) 2 hkc,.slice (some ⟨hw,0,none⟩) 1 hwc]) ∧
 (w'.cell? ⟨ha,1,none⟩=some (.int .i64 0)∧w'.cell? ⟨hk,0,none⟩=some (.int .i64 9)∧w'.cell? ⟨hw,0,none⟩=some (.int .i64 1))∧Below W.heap.size W w':=by
 refine (pset_as (Like.refl aN18) rfl h1 aw18_few h2 ?_ (aw18_e4 la lc)).mono ?_
 ·intro s hs
  simp only [aS18,List.mem_cons,List.not_mem_nil,or_false] at hs
  rcases hs with rfl|rfl
  ·exact fun _=>⟨(show (0:Int)≤1 by decide),(show (1:Int)≤((aL18.length:Nat):Int) by decide),aw18_may⟩
  ·intro h;cases h
 ·rintro e w' ⟨⟨hd,qa,hac,qk,hkc,qw,hwc⟩,rfl,hp,hb⟩
  obtain ⟨ha,e1,-,-,a3,-⟩:=hp.at_.put (i:=1) (by decide) (j:=0) (by decide)
  obtain ⟨hk,e2,-,-,b3,-⟩:=hp.co.put (i:=0) (by decide) (j:=0) (by decide)
  obtain ⟨hw,e3,-,-,c3,-⟩:=hp.wh.put (i:=0) (by decide) (j:=0) (by decide)
  simp only at e1 e2 e3
  subst e1 e2 e3
  exact ⟨hd,ha,hk,hw,hac,hkc,hwc,rfl,⟨a3 0 (by decide),b3 0 (by decide),c3 0 (by decide)⟩,hb⟩
theorem aw18_all (q1:Wp) (la:Option Addr) (lc:Nat) (W:World) (h1:Ab W q1 aN18) (h2:WrcAt W la lc aL18):Calls prog 12 #[.agg #[.slice q1.d.ex 2 q1.d.exc,.slice q1.d.pl 2 q1.d.plc,.slice q1.d.co 2 q1.d.coc,.slice q1.d.it 1 q1.d.itc,.slice q1.d.bo 1 q1.d.boc,.int .i64 4,.int .i64 2,.int .i64 1,.slice q1.at_ 2 q1.atc,.slice q1.co 2 q1.coc,.slice q1.wh 1 q1.whc],.slice la 3 lc] W fun e w'=>∃q2:Wp,e=.returned (.agg #[.slice q2.d.ex 2 q2.d.exc,.slice q2.d.pl 2 q2.d.plc,.slice q2.d.co 2 q2.d.coc,.slice q2.d.it 1 q2.d.itc,.slice q2.d.bo 1 q2.d.boc,.int .i64 4,.int .i64 2,.int .i64 1,.slice q2.at_ 2 q2.atc,.slice q2.co 2 q2.coc,.slice q2.wh 1 q2.whc])∧Ab w' q2 aX18∧Below W.heap.size W w':=by
 refine (pall_as (Like.refl aN18) rfl h1 aw18_few h2.1 aw18_may aw18_e2).mono ?_
 rintro e w' ⟨q2,rfl,hp,hb⟩
 exact ⟨q2,rfl,hp.w,hb⟩
theorem aw18_do (q1:Wp) (W:World) (h1:Ab W q1 aN18):Calls prog 14 #[.agg #[.slice q1.d.ex 2 q1.d.exc,.slice q1.d.pl 2 q1.d.plc,.slice q1.d.co 2 q1.d.coc,.slice q1.d.it 1 q1.d.itc,.slice q1.d.bo 1 q1.d.boc,.int .i64 4,.int .i64 2,.int .i64 1,.slice q1.at_ 2 q1.atc,.slice q1.co 2 q1.coc,.slice q1.wh 1 q1.whc],.agg #[.int .i64 1,.int .i64 0,.int .i64 9,.int .i64 0,.int .i64 0]] W fun e w'=>∃(q2:Wp) (g:Nat),e=.returned (.agg #[.slice q2.d.ex 2 q2.d.exc,.slice q2.d.pl 2 q2.d.plc,.slice q2.d.co 2 q2.d.coc,.slice q2.d.it 1 q2.d.itc,.slice q2.d.bo 1 q2.d.boc,.int .i64 4,.int .i64 2,.int .i64 1,.slice q2.at_ 2 q2.atc,.slice (some ⟨g,0,none⟩) 2 q2.coc,.slice q2.wh 1 q2.whc])∧w'.cell? ⟨g,0,none⟩=some (.int .i64 9)∧Below W.heap.size W w':=by
 refine (pdo_as (Like.refl aN18) ⟨1,0,9,⟨0,0⟩⟩ h1 aw18_few (by decide +kernel) aw18_e3).mono ?_
 rintro e w' ⟨⟨d,a,ac,k,kc,wh,whc⟩,rfl,hp,hb⟩
 obtain ⟨g,e2,-,-,b3,-⟩:=hp.co.put (i:=0) (by decide) (j:=0) (by decide)
 simp only at e2
 subst e2
 exact ⟨⟨d,a,ac,some ⟨g,0,none⟩,kc,wh,whc⟩,g,rfl,b3 0 (by decide),hb⟩
theorem aw18_same (q2:Wp) (qd:Dp) (ba bk bw ac kc whc:Nat) (W:World) (h1:Ab W q2 aX18) (h2:Ab W ⟨qd,some ⟨ba,0,none⟩,ac,some ⟨bk,0,none⟩,kc,some ⟨bw,0,none⟩,whc⟩ aX18):Calls prog 11 #[.agg #[.slice q2.d.ex 2 q2.d.exc,.slice q2.d.pl 2 q2.d.plc,.slice q2.d.co 2 q2.d.coc,.slice q2.d.it 1 q2.d.itc,.slice q2.d.bo 1 q2.d.boc,.int .i64 4,.int .i64 2,.int .i64 1,.slice q2.at_ 2 q2.atc,.slice q2.co 2 q2.coc,.slice q2.wh 1 q2.whc],.agg #[.slice qd.ex 2 qd.exc,.slice qd.pl 2 qd.plc,.slice qd.co 2 qd.coc,.slice qd.it 1 qd.itc,.slice qd.bo 1 qd.boc,.int .i64 4,.int .i64 2,.int .i64 1,.slice (some ⟨ba,0,none⟩) 2 ac,.slice (some ⟨bk,0,none⟩) 2 kc,.slice (some ⟨bw,0,none⟩) 1 whc]] W fun e w'=>e=.returned (.bool true)∧Below W.heap.size W w' :=
 psame_as (x:=aN18) (y:=aX18) (z:=aX18) (p:=q2) (q:=⟨qd,some ⟨ba,0,none⟩,ac,some ⟨bk,0,none⟩,kc,some ⟨bw,0,none⟩,whc⟩) (r:=true) aX18_like aX18_like h1 h2 (by simp only [decide_true])
theorem aw18_wsame (la:Option Addr) (lc g:Nat) (W:World) (h1:WrcAt W la lc aL18) (h2:WrsAt W (some ⟨g,0,none⟩) aL18):Calls prog 13 #[.slice la 3 lc,.slice (some ⟨g,0,none⟩) 3 3] W fun e w'=>e=.returned (.bool true)∧Below W.heap.size W w' :=
 wsame_as (L:=aL18) (M:=aL18) (n:=3) (m:=3) (r:=true) rfl rfl h1.1 h2 (by simp only [decide_true])
set_option maxHeartbeats 600000 in
theorem awake18_any (w:World):Calls prog 4 #[] w fun e w'=>e=.returned (.bool true)∧Below w.heap.size w w':=by
 have A0:=hid (aw18_start w)
 have mk:=make_exits18
 go_enter func4,ntmps4
 go_wp2_with fail
 clear mk
 generalize (((((w.alloc (.cells #[.int .i64 0,.int .i64 0,.int .i64 0,.int .i64 0,.int .i64 0,.int .i64 0,.int .i64 0,.int .i64 0] 75)).alloc (.cells #[.int .i64 0,.int .i64 0] 3)).alloc (.cells #[.int .i64 5,.int .i64 2] 3)).alloc (.cells #[.int .i64 0] 3)).alloc (.cells #[.bool false] 4))=V1 at *
 have B_0:=hid A0.out.2
 refine (aw18_new w.heap.size _ A0.out.1).mono ?_
 rintro e u1 ⟨q1,rfl,g,b1⟩
 have B_1:=hid (bl B_0.out b1)
 clear b1 B_0
 have WN_1:=hid g
 clear g A0
 go_wp2_with fail
 have s2:(u1.alloc (.cells #[.slice q1.d.ex 2 q1.d.exc,.slice q1.d.pl 2 q1.d.plc,.slice q1.d.co 2 q1.d.coc,.slice q1.d.it 1 q1.d.itc,.slice q1.d.bo 1 q1.d.boc,.int .i64 4,.int .i64 2,.int .i64 1,.slice q1.at_ 2 q1.atc,.slice q1.co 2 q1.coc,.slice q1.wh 1 q1.whc] 29)).heap.size=u1.heap.size+1:=by simp
 have B_2:=hid (B_1.out.alloc B_1.out.size (.cells #[.slice q1.d.ex 2 q1.d.exc,.slice q1.d.pl 2 q1.d.plc,.slice q1.d.co 2 q1.d.coc,.slice q1.d.it 1 q1.d.itc,.slice q1.d.bo 1 q1.d.boc,.int .i64 4,.int .i64 2,.int .i64 1,.slice q1.at_ 2 q1.atc,.slice q1.co 2 q1.coc,.slice q1.wh 1 q1.whc] 29))
 have WN_2:=hid (WN_1.out.call (b_a (.cells #[.slice q1.d.ex 2 q1.d.exc,.slice q1.d.pl 2 q1.d.plc,.slice q1.d.co 2 q1.d.coc,.slice q1.d.it 1 q1.d.itc,.slice q1.d.bo 1 q1.d.boc,.int .i64 4,.int .i64 2,.int .i64 1,.slice q1.at_ 2 q1.atc,.slice q1.co 2 q1.coc,.slice q1.wh 1 q1.whc] 29)))
 have X_2:=hid (Ac.newb (w:=w) (A:=#[.slice q1.d.ex 2 q1.d.exc,.slice q1.d.pl 2 q1.d.plc,.slice q1.d.co 2 q1.d.coc,.slice q1.d.it 1 q1.d.itc,.slice q1.d.bo 1 q1.d.boc,.int .i64 4,.int .i64 2,.int .i64 1,.slice q1.at_ 2 q1.atc,.slice q1.co 2 q1.coc,.slice q1.wh 1 q1.whc]) (t:=29) (n:=u1.heap.size) B_1.out rfl)
 clear B_1 WN_1
 generalize u1.alloc (.cells #[.slice q1.d.ex 2 q1.d.exc,.slice q1.d.pl 2 q1.d.plc,.slice q1.d.co 2 q1.d.coc,.slice q1.d.it 1 q1.d.itc,.slice q1.d.bo 1 q1.d.boc,.int .i64 4,.int .i64 2,.int .i64 1,.slice q1.at_ 2 q1.atc,.slice q1.co 2 q1.coc,.slice q1.wh 1 q1.whc] 29)=V2 at *
 have hcX:=X_2.out.2.2
 have hlX:=X_2.out.2.1
 clear s2
 clear hcX hlX
 have HXL:=hid X_2.out.2.1
 refine (aw18_copy q1 _ WN_2.out).mono ?_
 rintro e z1 ⟨qd,ba,bk,bw,ac,kc,whc,rfl,⟨n0,n1,n2,n3⟩,hn,b1⟩
 have B_3:=hid (bl B_2.out b1)
 have X_3:=hid (X_2.out.call b1)
 have O_3:=hid hn
 have D_3:=hid b1
 have hxl:=HXL.out
 have sz1:=b1.size
 have swb:=B_2.out.size
 clear hn b1 B_2 X_2 HXL
 have hcX:=X_3.out.2.2
 have hlX:=X_3.out.2.1
 go_upto_region 3 with fail
 clear hcX hlX
 obtain ⟨y,hy⟩:∃y,z1.heap.size=y:=⟨_,rfl⟩
 have ca:=(Below.refl z1.heap.size z1).alloc (Nat.le_refl _) (.cells #[.slice qd.ex 2 qd.exc,.slice qd.pl 2 qd.plc,.slice qd.co 2 qd.coc,.slice qd.it 1 qd.itc,.slice qd.bo 1 qd.boc,.int .i64 4,.int .i64 2,.int .i64 1,.slice (some ⟨ba,0,none⟩) 2 ac,.slice (some ⟨bk,0,none⟩) 2 kc,.slice (some ⟨bw,0,none⟩) 1 whc] 29)
 have Y_4:=hid (Ac.newb (w:=w) (A:=#[.slice qd.ex 2 qd.exc,.slice qd.pl 2 qd.plc,.slice qd.co 2 qd.coc,.slice qd.it 1 qd.itc,.slice qd.bo 1 qd.boc,.int .i64 4,.int .i64 2,.int .i64 1,.slice (some ⟨ba,0,none⟩) 2 ac,.slice (some ⟨bk,0,none⟩) 2 kc,.slice (some ⟨bw,0,none⟩) 1 whc]) (t:=29) (n:=y) B_3.out hy)
 have B_4:=hid (bl B_3.out ca)
 have X_4:=hid (X_3.out.call ca)
 have O_4:=hid (O_3.out.call ca)
 have D_4:=hid (D_3.out.alloc sz1 (.cells #[.slice qd.ex 2 qd.exc,.slice qd.pl 2 qd.plc,.slice qd.co 2 qd.coc,.slice qd.it 1 qd.itc,.slice qd.bo 1 qd.boc,.int .i64 4,.int .i64 2,.int .i64 1,.slice (some ⟨ba,0,none⟩) 2 ac,.slice (some ⟨bk,0,none⟩) 2 kc,.slice (some ⟨bw,0,none⟩) 1 whc] 29))
 rw [hy] at n3
 simp only [hy]
 clear ca hy sz1 B_3 X_3 O_3 D_3
 generalize z1.alloc (.cells #[.slice qd.ex 2 qd.exc,.slice qd.pl 2 qd.plc,.slice qd.co 2 qd.coc,.slice qd.it 1 qd.itc,.slice qd.bo 1 qd.boc,.int .i64 4,.int .i64 2,.int .i64 1,.slice (some ⟨ba,0,none⟩) 2 ac,.slice (some ⟨bk,0,none⟩) 2 kc,.slice (some ⟨bw,0,none⟩) 1 whc] 29)=Y0 at *
 obtain ⟨b9,e9,-,-,c0,f0,hput⟩:=O_4.out.putAt (k:=1) (by decide)
 obtain rfl:ba=b9:=by simpa using e9
 have O_5:=hid (hput 1)
 have nea:u1.heap.size≠ba:=by omega
 have neb:y≠ba:=by omega
 have X_5:=hid (X_4.out.far (b:=ba) (by omega) nea 1 (.int .i64 1))
 have Y_5:=hid (Y_4.out.far (b:=ba) (by omega) neb 1 (.int .i64 1))
 have D_5:=hid (D_4.out.setCell (p:=⟨ba,1,none⟩) (by show V2.heap.size≤ba;omega) (.int .i64 1))
 have B_5:=hid X_5.out.1
 have hcY:=Y_4.out.2.2
 have hlY:=Y_4.out.2.1
 clear hput e9 O_4 X_4 Y_4 D_4 B_4
 go_upto_region 4 with fail
 clear c0 f0 hcY hlY nea neb
 generalize (Y0.setCell ⟨ba,1,none⟩ (.int .i64 1))=Y1 at *
 obtain ⟨b9,e9,-,-,c0,f0,hput⟩:=O_5.out.putCo (k:=0) (by decide)
 obtain rfl:bk=b9:=by simpa using e9
 have O_6:=hid (hput 9)
 have nea:u1.heap.size≠bk:=by omega
 have neb:y≠bk:=by omega
 have X_6:=hid (X_5.out.far (b:=bk) (by omega) nea 0 (.int .i64 9))
 have Y_6:=hid (Y_5.out.far (b:=bk) (by omega) neb 0 (.int .i64 9))
 have D_6:=hid (D_5.out.setCell (p:=⟨bk,0,none⟩) (by show V2.heap.size≤bk;omega) (.int .i64 9))
 have B_6:=hid X_6.out.1
 have hcY:=Y_5.out.2.2
 have hlY:=Y_5.out.2.1
 clear hput e9 O_5 X_5 Y_5 D_5 B_5
 go_upto_region 5 with fail
 clear c0 f0 hcY hlY nea neb
 generalize (Y1.setCell ⟨bk,0,none⟩ (.int .i64 9))=Y2 at *
 obtain ⟨b9,e9,-,-,⟨c0,c1⟩,f0,hput⟩:=O_6.out.putPlace (k:=0) (by decide)
 obtain rfl:bw=b9:=by simpa using e9
 have O_7:=hid (hput ⟨1,0⟩)
 have nea:u1.heap.size≠bw:=by omega
 have neb:y≠bw:=by omega
 have X_7:=hid ((X_6.out.far (b:=bw) (by omega) nea 0 (.int .i64 1)).far (b:=bw) (by omega) nea 1 (.int .i64 0))
 have Y_7:=hid ((Y_6.out.far (b:=bw) (by omega) neb 0 (.int .i64 1)).far (b:=bw) (by omega) neb 1 (.int .i64 0))
 have D_7:=hid ((D_6.out.setCell (p:=⟨bw,0,none⟩) (by show V2.heap.size≤bw;omega) (.int .i64 1)).setCell (p:=⟨bw,1,none⟩) (by show V2.heap.size≤bw;omega) (.int .i64 0))
 have B_7:=hid X_7.out.1
 have hcY:=Y_6.out.2.2
 have hlY:=Y_6.out.2.1
 clear hput e9 O_6 X_6 Y_6 D_6 B_6
 go_upto_region 6 with fail
 clear c0 c1 f0 hcY hlY nea neb
 generalize ((Y2.setCell ⟨bw,0,none⟩ (.int .i64 1)).setCell ⟨bw,1,none⟩ (.int .i64 0))=Y3 at *
 have A_7:=hid (show Ab Y3 ⟨qd,some ⟨ba,0,none⟩,ac,some ⟨bk,0,none⟩,kc,some ⟨bw,0,none⟩,whc⟩ aX18 from O_7.out.new.worldn WN_2.out.d D_7.out)
 have WN_7:=hid (WN_2.out.below D_7.out (Nat.le_refl _))
 clear O_7 D_7 WN_2 n0 n1 n2 n3 hxl swb
 have hcX:=X_7.out.2.2
 have hlX:=X_7.out.2.1
 have hcY:=Y_7.out.2.2
 have hlY:=Y_7.out.2.1
 go_wp2_with fail
 refine (aw18_from q1 qd ba bk bw ac kc whc _ WN_7.out A_7.out).mono ?_
 rintro e u7 ⟨la,lc,rfl,hl,b7⟩
 clear hcX hlX hcY hlY
 have B_8:=hid (bl B_7.out b7)
 have X_8:=hid (X_7.out.call b7)
 have Y_8:=hid (Y_7.out.call b7)
 have A_8:=hid (A_7.out.call b7)
 have WN_8:=hid (WN_7.out.call b7)
 have L_8:=hid hl
 clear hl
 clear b7 B_7 X_7 Y_7 A_7 WN_7
 have hcX:=X_8.out.2.2
 have hlX:=X_8.out.2.1
 have hcY:=Y_8.out.2.2
 have hlY:=Y_8.out.2.1
 go_wp2_with fail
 clear hcX hlX hcY hlY
 have ca:=(Below.refl u7.heap.size u7).alloc (Nat.le_refl _) (.cells #[.int .i64 0,.slice none 0 0,.int .i64 0,.int .i64 5,.int .i64 1,.int .i64 0,.int .i64 0,.int .i64 0,.int .i64 0,.int .i64 0,.slice none 0 0,.int .i64 0,.slice none 0 0,.int .i64 0,.slice none 0 0,.int .i64 0,.slice la 3 lc,.int .i64 0,.int .i64 0,.int .i64 0,.slice none 0 0,.slice none 0 0,.int .i64 0,.bool false,.int .i64 0,.int .i64 0,.int .i64 0,.slice none 0 0,.slice none 0 0,.int .i64 0,.int .i64 0,.slice none 0 0,.int .i64 0,.int .i64 4,.int .i64 0,.int .i64 0,.int .i64 0,.int .i64 0,.int .i64 0,.int .i64 0,.slice none 0 0,.int .i64 0,.slice none 0 0,.int .i64 0,.slice none 0 0,.int .i64 0,.slice la 3 lc,.int .i64 0,.int .i64 0,.int .i64 0,.slice none 0 0,.slice none 0 0,.int .i64 0,.bool false,.int .i64 0,.int .i64 0,.int .i64 0,.slice none 0 0,.slice none 0 0,.int .i64 0] 57)
 obtain ⟨g,hg⟩:∃g,u7.heap.size=g:=⟨_,rfl⟩
 have SR:=hid (flat18 slC_len (aS18 la lc) (Blk.newn u7 57 #[.int .i64 0,.slice none 0 0,.int .i64 0,.int .i64 5,.int .i64 1,.int .i64 0,.int .i64 0,.int .i64 0,.int .i64 0,.int .i64 0,.slice none 0 0,.int .i64 0,.slice none 0 0,.int .i64 0,.slice none 0 0,.int .i64 0,.slice la 3 lc,.int .i64 0,.int .i64 0,.int .i64 0,.slice none 0 0,.slice none 0 0,.int .i64 0,.bool false,.int .i64 0,.int .i64 0,.int .i64 0,.slice none 0 0,.slice none 0 0,.int .i64 0,.int .i64 0,.slice none 0 0,.int .i64 0,.int .i64 4,.int .i64 0,.int .i64 0,.int .i64 0,.int .i64 0,.int .i64 0,.int .i64 0,.slice none 0 0,.int .i64 0,.slice none 0 0,.int .i64 0,.slice none 0 0,.int .i64 0,.slice la 3 lc,.int .i64 0,.int .i64 0,.int .i64 0,.slice none 0 0,.slice none 0 0,.int .i64 0,.bool false,.int .i64 0,.int .i64 0,.int .i64 0,.slice none 0 0,.slice none 0 0,.int .i64 0] hg) (by simp [aS18,maxLen]) rfl)
 have B_9:=hid (bl B_8.out ca)
 have X_9:=hid (X_8.out.call ca)
 have Y_9:=hid (Y_8.out.call ca)
 have A_9:=hid (A_8.out.call ca)
 have WN_9:=hid (WN_8.out.call ca)
 have L_9:=hid (L_8.out.call ca)
 have P_9:=hid (show PlansAt _ (some ⟨g,0,none⟩) (aS18 la lc) from ⟨SR.out,fun s hs=>by
  simp only [aS18,List.mem_cons,List.not_mem_nil,or_false] at hs
  rcases hs with rfl|rfl
  ·exact L_9.out
  ·exact L_9.out⟩)
 clear SR ca B_8 X_8 Y_8 A_8 WN_8 L_8
 simp only [hg]
 clear hg
 generalize u7.alloc (.cells #[.int .i64 0,.slice none 0 0,.int .i64 0,.int .i64 5,.int .i64 1,.int .i64 0,.int .i64 0,.int .i64 0,.int .i64 0,.int .i64 0,.slice none 0 0,.int .i64 0,.slice none 0 0,.int .i64 0,.slice none 0 0,.int .i64 0,.slice la 3 lc,.int .i64 0,.int .i64 0,.int .i64 0,.slice none 0 0,.slice none 0 0,.int .i64 0,.bool false,.int .i64 0,.int .i64 0,.int .i64 0,.slice none 0 0,.slice none 0 0,.int .i64 0,.int .i64 0,.slice none 0 0,.int .i64 0,.int .i64 4,.int .i64 0,.int .i64 0,.int .i64 0,.int .i64 0,.int .i64 0,.int .i64 0,.slice none 0 0,.int .i64 0,.slice none 0 0,.int .i64 0,.slice none 0 0,.int .i64 0,.slice la 3 lc,.int .i64 0,.int .i64 0,.int .i64 0,.slice none 0 0,.slice none 0 0,.int .i64 0,.bool false,.int .i64 0,.int .i64 0,.int .i64 0,.slice none 0 0,.slice none 0 0,.int .i64 0] 57)=V7 at *
 have hcX:=X_9.out.2.2
 have hlX:=X_9.out.2.1
 have hcY:=Y_9.out.2.2
 have hlY:=Y_9.out.2.1
 go_wp2_with fail
 refine (aw18_set q1 la lc g _ WN_9.out P_9.out).mono ?_
 rintro e u21 ⟨hd,ha,hk,hw,hac,hkc,hwc,rfl,⟨d0,d1,d2⟩,b21⟩
 clear hcX hlX hcY hlY
 have B_10:=hid (bl B_9.out b21)
 have X_10:=hid (X_9.out.call b21)
 have Y_10:=hid (Y_9.out.call b21)
 have A_10:=hid (A_9.out.call b21)
 have WN_10:=hid (WN_9.out.call b21)
 have L_10:=hid (L_9.out.call b21)
 have P_10:=hid (P_9.out.call b21)
 have E0_10:=hid d0
 have E1_10:=hid d1
 have E2_10:=hid d2
 clear d0 d1 d2
 clear b21 B_9 X_9 Y_9 A_9 WN_9 L_9 P_9
 have hcX:=X_10.out.2.2
 have hlX:=X_10.out.2.1
 have hcY:=Y_10.out.2.2
 have hlY:=Y_10.out.2.1
 obtain ⟨lb,lo,rfl,lbl,l0,l1,l2,l3,l4⟩:=WrsAt.cells L_10.out.1 (k:=1) (by decide)
 have F0:=hid (Ad E0_10.out ((Below.refl u21.heap.size u21).alloc (Nat.le_refl _) (.cells #[.slice hd.ex 2 hd.exc,.slice hd.pl 2 hd.plc,.slice hd.co 2 hd.coc,.slice hd.it 1 hd.itc,.slice hd.bo 1 hd.boc,.int .i64 4,.int .i64 2,.int .i64 1,.slice (some ⟨ha,0,none⟩) 2 hac,.slice (some ⟨hk,0,none⟩) 2 hkc,.slice (some ⟨hw,0,none⟩) 1 hwc] 29)))
 have F1:=hid (Ad E1_10.out ((Below.refl u21.heap.size u21).alloc (Nat.le_refl _) (.cells #[.slice hd.ex 2 hd.exc,.slice hd.pl 2 hd.plc,.slice hd.co 2 hd.coc,.slice hd.it 1 hd.itc,.slice hd.bo 1 hd.boc,.int .i64 4,.int .i64 2,.int .i64 1,.slice (some ⟨ha,0,none⟩) 2 hac,.slice (some ⟨hk,0,none⟩) 2 hkc,.slice (some ⟨hw,0,none⟩) 1 hwc] 29)))
 have F2:=hid (Ad E2_10.out ((Below.refl u21.heap.size u21).alloc (Nat.le_refl _) (.cells #[.slice hd.ex 2 hd.exc,.slice hd.pl 2 hd.plc,.slice hd.co 2 hd.coc,.slice hd.it 1 hd.itc,.slice hd.bo 1 hd.boc,.int .i64 4,.int .i64 2,.int .i64 1,.slice (some ⟨ha,0,none⟩) 2 hac,.slice (some ⟨hk,0,none⟩) 2 hkc,.slice (some ⟨hw,0,none⟩) 1 hwc] 29)))
 have G0:=hid (Ad l0 ((Below.refl u21.heap.size u21).alloc (Nat.le_refl _) (.cells #[.slice hd.ex 2 hd.exc,.slice hd.pl 2 hd.plc,.slice hd.co 2 hd.coc,.slice hd.it 1 hd.itc,.slice hd.bo 1 hd.boc,.int .i64 4,.int .i64 2,.int .i64 1,.slice (some ⟨ha,0,none⟩) 2 hac,.slice (some ⟨hk,0,none⟩) 2 hkc,.slice (some ⟨hw,0,none⟩) 1 hwc] 29)))
 have G1:=hid (Ad l1 ((Below.refl u21.heap.size u21).alloc (Nat.le_refl _) (.cells #[.slice hd.ex 2 hd.exc,.slice hd.pl 2 hd.plc,.slice hd.co 2 hd.coc,.slice hd.it 1 hd.itc,.slice hd.bo 1 hd.boc,.int .i64 4,.int .i64 2,.int .i64 1,.slice (some ⟨ha,0,none⟩) 2 hac,.slice (some ⟨hk,0,none⟩) 2 hkc,.slice (some ⟨hw,0,none⟩) 1 hwc] 29)))
 have G2:=hid (Ad l2 ((Below.refl u21.heap.size u21).alloc (Nat.le_refl _) (.cells #[.slice hd.ex 2 hd.exc,.slice hd.pl 2 hd.plc,.slice hd.co 2 hd.coc,.slice hd.it 1 hd.itc,.slice hd.bo 1 hd.boc,.int .i64 4,.int .i64 2,.int .i64 1,.slice (some ⟨ha,0,none⟩) 2 hac,.slice (some ⟨hk,0,none⟩) 2 hkc,.slice (some ⟨hw,0,none⟩) 1 hwc] 29)))
 have G3:=hid (Ad l3 ((Below.refl u21.heap.size u21).alloc (Nat.le_refl _) (.cells #[.slice hd.ex 2 hd.exc,.slice hd.pl 2 hd.plc,.slice hd.co 2 hd.coc,.slice hd.it 1 hd.itc,.slice hd.bo 1 hd.boc,.int .i64 4,.int .i64 2,.int .i64 1,.slice (some ⟨ha,0,none⟩) 2 hac,.slice (some ⟨hk,0,none⟩) 2 hkc,.slice (some ⟨hw,0,none⟩) 1 hwc] 29)))
 have G4:=hid (Ad l4 ((Below.refl u21.heap.size u21).alloc (Nat.le_refl _) (.cells #[.slice hd.ex 2 hd.exc,.slice hd.pl 2 hd.plc,.slice hd.co 2 hd.coc,.slice hd.it 1 hd.itc,.slice hd.bo 1 hd.boc,.int .i64 4,.int .i64 2,.int .i64 1,.slice (some ⟨ha,0,none⟩) 2 hac,.slice (some ⟨hk,0,none⟩) 2 hkc,.slice (some ⟨hw,0,none⟩) 1 hwc] 29)))
 clear E0_10 E1_10 E2_10 l0 l1 l2 l3 l4
 clear hcX hlX hcY hlY
 go_upto_region 11 with fail
 have s11:(u21.alloc (.cells #[.slice hd.ex 2 hd.exc,.slice hd.pl 2 hd.plc,.slice hd.co 2 hd.coc,.slice hd.it 1 hd.itc,.slice hd.bo 1 hd.boc,.int .i64 4,.int .i64 2,.int .i64 1,.slice (some ⟨ha,0,none⟩) 2 hac,.slice (some ⟨hk,0,none⟩) 2 hkc,.slice (some ⟨hw,0,none⟩) 1 hwc] 29)).heap.size=u21.heap.size+1:=by simp
 have zb11:Below u21.heap.size u21 (u21.alloc (.cells #[.slice hd.ex 2 hd.exc,.slice hd.pl 2 hd.plc,.slice hd.co 2 hd.coc,.slice hd.it 1 hd.itc,.slice hd.bo 1 hd.boc,.int .i64 4,.int .i64 2,.int .i64 1,.slice (some ⟨ha,0,none⟩) 2 hac,.slice (some ⟨hk,0,none⟩) 2 hkc,.slice (some ⟨hw,0,none⟩) 1 hwc] 29)):=b_a _
 have B_11:=hid (bl B_10.out zb11)
 have X_11:=hid (X_10.out.call zb11)
 have Y_11:=hid (Y_10.out.call zb11)
 have A_11:=hid (A_10.out.call zb11)
 have WN_11:=hid (WN_10.out.call zb11)
 have L_11:=hid (L_10.out.call zb11)
 have P_11:=hid (P_10.out.call zb11)
 have H_11:=hid (Ac.newb (w:=w) (A:=#[.slice hd.ex 2 hd.exc,.slice hd.pl 2 hd.plc,.slice hd.co 2 hd.coc,.slice hd.it 1 hd.itc,.slice hd.bo 1 hd.boc,.int .i64 4,.int .i64 2,.int .i64 1,.slice (some ⟨ha,0,none⟩) 2 hac,.slice (some ⟨hk,0,none⟩) 2 hkc,.slice (some ⟨hw,0,none⟩) 1 hwc]) (t:=29) (n:=u21.heap.size) B_10.out rfl)
 clear zb11 B_10 X_10 Y_10 A_10 WN_10 L_10 P_10
 generalize u21.alloc (.cells #[.slice hd.ex 2 hd.exc,.slice hd.pl 2 hd.plc,.slice hd.co 2 hd.coc,.slice hd.it 1 hd.itc,.slice hd.bo 1 hd.boc,.int .i64 4,.int .i64 2,.int .i64 1,.slice (some ⟨ha,0,none⟩) 2 hac,.slice (some ⟨hk,0,none⟩) 2 hkc,.slice (some ⟨hw,0,none⟩) 1 hwc] 29)=V22 at *
 have hcX:=X_11.out.2.2
 have hlX:=X_11.out.2.1
 have hcY:=Y_11.out.2.2
 have hlY:=Y_11.out.2.1
 have hcH:=H_11.out.2.2
 have hlH:=H_11.out.2.1
 clear hcX hlX hcY hlY hcH hlH
 have KS:Hid (∀w',Below V22.heap.size V22 w'→Below V22.heap.size V22 w'∧(∀ii,w'.cell? ⟨u1.heap.size,ii,none⟩=(#[.slice q1.d.ex 2 q1.d.exc,.slice q1.d.pl 2 q1.d.plc,.slice q1.d.co 2 q1.d.coc,.slice q1.d.it 1 q1.d.itc,.slice q1.d.bo 1 q1.d.boc,.int .i64 4,.int .i64 2,.int .i64 1,.slice q1.at_ 2 q1.atc,.slice q1.co 2 q1.coc,.slice q1.wh 1 q1.whc][ii]?:Option Value))∧(∀ii,w'.cell? ⟨y,ii,none⟩=(#[.slice qd.ex 2 qd.exc,.slice qd.pl 2 qd.plc,.slice qd.co 2 qd.coc,.slice qd.it 1 qd.itc,.slice qd.bo 1 qd.boc,.int .i64 4,.int .i64 2,.int .i64 1,.slice (some ⟨ba,0,none⟩) 2 ac,.slice (some ⟨bk,0,none⟩) 2 kc,.slice (some ⟨bw,0,none⟩) 1 whc][ii]?:Option Value))∧(∀ii,w'.cell? ⟨u21.heap.size,ii,none⟩=(#[.slice hd.ex 2 hd.exc,.slice hd.pl 2 hd.plc,.slice hd.co 2 hd.coc,.slice hd.it 1 hd.itc,.slice hd.bo 1 hd.boc,.int .i64 4,.int .i64 2,.int .i64 1,.slice (some ⟨ha,0,none⟩) 2 hac,.slice (some ⟨hk,0,none⟩) 2 hkc,.slice (some ⟨hw,0,none⟩) 1 hwc][ii]?:Option Value))∧w'.cell? ⟨ha,1,none⟩=some (.int .i64 0)∧w'.cell? ⟨hk,0,none⟩=some (.int .i64 9)∧w'.cell? ⟨hw,0,none⟩=some (.int .i64 1)∧w'.cell? ⟨lb,lo+5,none⟩=some (.int .i64 1)∧w'.cell? ⟨lb,lo+5+1,none⟩=some (.int .i64 0)∧w'.cell? ⟨lb,lo+5+2,none⟩=some (.int .i64 9)∧w'.cell? ⟨lb,lo+5+3,none⟩=some (.int .i64 0)∧w'.cell? ⟨lb,lo+5+4,none⟩=some (.int .i64 0)):=hid (fun w' hb=>⟨hb,fun ii=>(hb.cell (p:=⟨u1.heap.size,ii,none⟩) X_11.out.2.1).trans (X_11.out.2.2 ii),fun ii=>(hb.cell (p:=⟨y,ii,none⟩) Y_11.out.2.1).trans (Y_11.out.2.2 ii),fun ii=>(hb.cell (p:=⟨u21.heap.size,ii,none⟩) H_11.out.2.1).trans (H_11.out.2.2 ii),Ad F0.out hb,Ad F1.out hb,Ad F2.out hb,Ad G0.out hb,Ad G1.out hb,Ad G2.out hb,Ad G3.out hb,Ad G4.out hb⟩)
 have D0:=hid (Af (Below.refl V22.heap.size V22))
 refine tkS (S:=(fun w'=>Below V22.heap.size V22 w'∧(∀ii,w'.cell? ⟨u1.heap.size,ii,none⟩=(#[.slice q1.d.ex 2 q1.d.exc,.slice q1.d.pl 2 q1.d.plc,.slice q1.d.co 2 q1.d.coc,.slice q1.d.it 1 q1.d.itc,.slice q1.d.bo 1 q1.d.boc,.int .i64 4,.int .i64 2,.int .i64 1,.slice q1.at_ 2 q1.atc,.slice q1.co 2 q1.coc,.slice q1.wh 1 q1.whc][ii]?:Option Value))∧(∀ii,w'.cell? ⟨y,ii,none⟩=(#[.slice qd.ex 2 qd.exc,.slice qd.pl 2 qd.plc,.slice qd.co 2 qd.coc,.slice qd.it 1 qd.itc,.slice qd.bo 1 qd.boc,.int .i64 4,.int .i64 2,.int .i64 1,.slice (some ⟨ba,0,none⟩) 2 ac,.slice (some ⟨bk,0,none⟩) 2 kc,.slice (some ⟨bw,0,none⟩) 1 whc][ii]?:Option Value))∧(∀ii,w'.cell? ⟨u21.heap.size,ii,none⟩=(#[.slice hd.ex 2 hd.exc,.slice hd.pl 2 hd.plc,.slice hd.co 2 hd.coc,.slice hd.it 1 hd.itc,.slice hd.bo 1 hd.boc,.int .i64 4,.int .i64 2,.int .i64 1,.slice (some ⟨ha,0,none⟩) 2 hac,.slice (some ⟨hk,0,none⟩) 2 hkc,.slice (some ⟨hw,0,none⟩) 1 hwc][ii]?:Option Value))∧w'.cell? ⟨ha,1,none⟩=some (.int .i64 0)∧w'.cell? ⟨hk,0,none⟩=some (.int .i64 9)∧w'.cell? ⟨hw,0,none⟩=some (.int .i64 1)∧w'.cell? ⟨lb,lo+5,none⟩=some (.int .i64 1)∧w'.cell? ⟨lb,lo+5+1,none⟩=some (.int .i64 0)∧w'.cell? ⟨lb,lo+5+2,none⟩=some (.int .i64 9)∧w'.cell? ⟨lb,lo+5+3,none⟩=some (.int .i64 0)∧w'.cell? ⟨lb,lo+5+4,none⟩=some (.int .i64 0))) (by (first|(with_reducible exact KS.out _ D0.out))) (fun hHeld=>?_)
 generalize V22.drew=x0 at *
 refine tkl [0,1,2,3,4] ?_
 iterate 5
  refine tW ?_
  try go_frame
 refine rdy1 5 (fun K hK=>?_)
 have ca:=(Below.refl x0.heap.size (x0)).alloc (Nat.le_refl _) (.cells #[.int .i64 0,.int .i64 1,.int .i64 1,.int .i64 0,.int .i64 0,.int .i64 1,.int .i64 0,.int .i64 9,.int .i64 0,.int .i64 0,.int .i64 2,.int .i64 0,.int .i64 0,.int .i64 1,.int .i64 0] 50)
 have D1:=hid (bl D0.out ca)
 have KR1:=hid (flat18 wrC_len aL18 (Blk.new (x0) 50 #[.int .i64 0,.int .i64 1,.int .i64 1,.int .i64 0,.int .i64 0,.int .i64 1,.int .i64 0,.int .i64 9,.int .i64 0,.int .i64 0,.int .i64 2,.int .i64 0,.int .i64 0,.int .i64 1,.int .i64 0]) (by decide) rfl)
 go_simp
 try go_wp2_with fail
 refine hK.out _ _ (by (first|(with_reducible exact KS.out _ D1.out))) (fun hHeld=>?_)
 clear hK K
 try go_frame
 clear ca D0
 generalize (x0).alloc (.cells #[.int .i64 0,.int .i64 1,.int .i64 1,.int .i64 0,.int .i64 0,.int .i64 1,.int .i64 0,.int .i64 9,.int .i64 0,.int .i64 0,.int .i64 2,.int .i64 0,.int .i64 0,.int .i64 1,.int .i64 0] 50)=x1 at *
 generalize x0.heap.size=g4 at *
 refine rdy1 6 (fun K hK=>?_)
 go_simp
 refine (aw18_wsame (some ⟨lb,lo,none⟩) lc g4 _ (L_11.out.call D1.out) (Ar.call KR1.out (Below.refl _ _))).mono ?_;rintro e x2 ⟨rfl,hb9⟩;have D2:=hid (Aa D1.out D1.out.size hb9);have KR2:=hid (KR1.out.call hb9);clear hb9 KR1
 try go_wp2_with fail
 refine hK.out _ _ (by (first|(with_reducible exact KS.out _ D2.out))) (fun hHeld=>?_)
 clear hK K
 try go_frame
 refine tkl [7,8,9,11] ?_
 iterate 4
  refine tW ?_
  try go_frame
 refine rdy1 10 (fun K hK=>?_)
 go_simp
 refine (aw18_all q1 (some ⟨lb,lo,none⟩) lc _ (WN_11.out.call D2.out) (L_11.out.call D2.out)).mono ?_;rintro e x3 ⟨q2,rfl,oq,hb9⟩;have D3:=hid (Aa D2.out D2.out.size hb9);have KR3:=hid (KR2.out.call hb9);have Q3:=hid oq;clear hb9 KR2 oq
 try go_wp2_with fail
 refine hK.out _ _ (by (first|(with_reducible exact KS.out _ D3.out))) (fun hHeld=>?_)
 clear hK K
 try go_frame
 refine rdy1 12 (fun K hK=>?_)
 go_simp
 refine (aw18_same q2 qd ba bk bw ac kc whc _ Q3.out (A_11.out.call D3.out)).mono ?_;rintro e x4 ⟨rfl,hb9⟩;have D4:=hid (Aa D3.out D3.out.size hb9);have KR4:=hid (KR3.out.call hb9);have Q4:=hid (Q3.out.call hb9);clear hb9 KR3 Q3
 try go_wp2_with fail
 refine hK.out _ _ (by (first|(with_reducible exact KS.out _ D4.out))) (fun hHeld=>?_)
 clear hK K
 try go_frame
 refine tkl [13,14,15,16,17,18] ?_
 iterate 6
  refine tW ?_
  try go_frame
 refine rdy1 19 (fun K hK=>?_)
 go_simp
 refine (aw18_do q1 _ (WN_11.out.call D4.out)).mono ?_;rintro e x5 ⟨q3,g3,rfl,oc,hb9⟩;have D5:=hid (Aa D4.out D4.out.size hb9);have KR5:=hid (KR4.out.call hb9);have Q5:=hid (Q4.out.call hb9);have C95:=hid oc;clear hb9 KR4 Q4 oc
 try go_wp2_with fail
 refine hK.out _ _ (by (first|(with_reducible exact KS.out _ D5.out))) (fun hHeld=>?_)
 clear hK K
 try go_frame
 have hfc:=field_coins
 refine tkl [20,21] ?_
 iterate 2
  refine tW ?_
  try go_frame
 have hc9:=C95.out
 refine rdy1 22 (fun K hK=>?_)
 go_simp
 try go_wp2_with fail
 refine hK.out _ _ (by (first|(with_reducible exact KS.out _ D5.out))) (fun hHeld=>?_)
 clear hK K
 try go_frame
 clear hc9 hfc
 refine tkl [23,24,25,26,27,28,29,30,31,32,33,34,35,36,37,38,39,40,41,42,43,44,45,46,47] ?_
 iterate 25
  refine tW ?_
  try go_frame
 refine tkD ?_
 go_wp2_with fail
 go_ret
 exact ⟨rfl,bl B_11.out D5.out⟩
end Go.Proofs.YtnhkojpbbdaedaaGreat
