/- Sessions as they lie in memory; lists that are cut; the document's own Settled. -/
import Derived.Test.YtnhkojpbbdaedaaPlanB
namespace Go.Proofs.Ytnhkojpbbdaedaa
open Go.ChangeShapes Go.WideShapes Go.ChangeAt Go.RowKit Go.Proofs.Try
open Lib (hid)
set_option linter.unusedVariables false
open Go.RowKit
structure Sl where
 player:Int
 ls:List ByteArray
 la:Option Addr
 lc:Nat
 next:Int
 phase:Int
 step:Int
 c:Cm
 ga:Option Addr
 gc:Nat
 wa:Option Addr
 wc:Nat
 foot:List Pl
 fa:Option Addr
 fc:Nat
 has:Int
 plan:List Wr
 pa:Option Addr
 pc:Nat
 r:Rp
 rpa:Option Addr
 rpc:Nat
 ria:Option Addr
 ric:Nat
 stale:Bool
 tries:Int
 ver:Int
 room:Int
 copies:List Pl
 ca:Option Addr
 cc:Nat
 heads:List Int
 ha:Option Addr
 hc:Nat
 purse:Int
def slC (s:Sl):List Value:=[.int .i64 s.player,.slice s.la s.ls.length s.lc,.int .i64 s.next,.int .i64 s.phase,.int .i64 s.step,.int .i64 s.c.kind,.int .i64 s.c.dir,.int .i64 s.c.item,.int .i64 s.c.box,.int .i64 s.c.who,.slice s.ga s.c.gives.length s.gc,.int .i64 s.c.pay,.slice s.wa s.c.wants.length s.wc,.int .i64 s.c.fee,.slice s.fa s.foot.length s.fc,.int .i64 s.has,.slice s.pa s.plan.length s.pc,.int .i64 s.r.err,.int .i64 s.r.kind,.int .i64 s.r.room,.slice s.rpa s.r.players.length s.rpc,.slice s.ria s.r.items.length s.ric,.int .i64 s.r.coins,.bool s.stale,.int .i64 s.tries,.int .i64 s.ver,.int .i64 s.room,.slice s.ca s.copies.length s.cc,.slice s.ha s.heads.length s.hc,.int .i64 s.purse]
theorem slC_len (s:Sl):(slC s).length=30:=rfl
def WrcAt (w:World) (a:Option Addr) (cap:Nat) (l:List Wr):Prop:=WrsAt w a l∧l.length≤cap∧cap≤maxLen
theorem WrcAt.below {w w':World} {a:Option Addr} {cap:Nat} {l:List Wr} (h:WrcAt w a cap l) {B:Nat} (hb:Below B w w') (hB:w.heap.size≤B):WrcAt w' a cap l:=⟨Ar.below h.1 hb hB,h.2⟩
theorem WrcAt.call {w w':World} {a:Option Addr} {cap:Nat} {l:List Wr} (h:WrcAt w a cap l) (hb:Below w.heap.size w w'):WrcAt w' a cap l:=h.below hb (Nat.le_refl _)
structure PlansAt (w:World) (a:Option Addr) (l:List Sl):Prop where
 row:Ar 30 slC w a l
 ok:∀s∈l,WrcAt w s.pa s.pc s.plan
theorem PlansAt.below {w w':World} {a:Option Addr} {l:List Sl} (h:PlansAt w a l) {B:Nat} (hb:Below B w w') (hB:w.heap.size≤B):PlansAt w' a l:=⟨h.row.below hb hB,fun s hs=>(h.ok s hs).below hb hB⟩
theorem PlansAt.call {w w':World} {a:Option Addr} {l:List Sl} (h:PlansAt w a l) (hb:Below w.heap.size w w'):PlansAt w' a l:=h.below hb (Nat.le_refl _)
def cutA (a:Option Addr) (cap k s:Nat):Option Addr:=if cap=k then a else a.map (·.add (k*s))
theorem wr_cut (W:World) (a:Option Addr) (n cap k:Nat) (hk:k≤n):(Instr.slice 30 (.slice a n cap) (some (.int .i64 (k:Int))) none none).run prog W=.ok (.slice (cutA a cap k 5) (n-k) (cap-k)) W:=by
 obtain ⟨i0,hi0,hz0,hz1,hz2⟩:=info_parts wr_info
 simp [Instr.slice,run_underlying underlying30,Instr.sliceBounds,run_sliceBound,sizeOf,typeInfo,hi0,hz1,hk,cutA]
theorem WrcAt.drop {W:World} {a:Option Addr} {cap:Nat} {l:List Wr} (h:WrcAt W a cap l) {k:Nat} (hk:k≤l.length):WrcAt W (cutA a cap k 5) (cap-k) (l.drop k):=by
 obtain ⟨⟨h1,h2⟩,h3,h4⟩:=h
 refine ⟨⟨by simp;omega,?_⟩,by simp;omega,by omega⟩
 by_cases he:k=l.length
 ·left;subst he;simp
 right
 rcases h2 with h2|⟨b,off,rfl,hb,hc⟩
 ·subst h2;simp at hk;subst hk;exact absurd rfl he
 ·refine ⟨b,off+k*5,?_,hb,fun i hi j hj=>?_⟩
  ·have:¬cap=k:=by omega
   simp only [cutA,if_neg this,Option.map_some,Option.some.injEq]
   by_cases hz:k*5=0<;>simp [Addr.add,hz]
  ·simp at hi
   have:=hc (k+i) (by omega) j hj
   rw [show off+(k+i)*5+j=off+k*5+i*5+j by omega] at this
   rw [this,List.getElem_drop]
theorem wr_take (W:World) (a:Option Addr) (n cap k:Nat) (hk:k≤cap):(Instr.slice 30 (.slice a n cap) none (some (.int .i64 (k:Int))) none).run prog W=.ok (.slice a k cap) W:=by
 obtain ⟨i0,hi0,hz0,hz1,hz2⟩:=info_parts wr_info
 simp [Instr.slice,run_underlying underlying30,Instr.sliceBounds,run_sliceBound,sizeOf,typeInfo,hi0,show (k:Int)≤(cap:Int) by omega]
 cases a<;>simp [Addr.add]
theorem WrcAt.take {W:World} {a:Option Addr} {cap:Nat} {l:List Wr} (h:WrcAt W a cap l) {k:Nat} (hk:k≤l.length):WrcAt W a cap (l.take k):=by
 obtain ⟨⟨h1,h2⟩,h3,h4⟩:=h
 refine ⟨⟨by simp;omega,?_⟩,by simp;omega,by omega⟩
 rcases h2 with h2|⟨b,off,rfl,hb,hc⟩
 ·left;subst h2;simp
 ·exact .inr ⟨b,off,rfl,hb,fun i hi j hj=>by simp at hi;rw [hc i (by omega) j hj,List.getElem_take]⟩
def setP (y:Wd) (s:Sl):Wd:=if s.phase=5 then allP y (s.plan.drop s.step.toNat) else y
def setW (x:Wd) (l:List Sl):Wd:=l.foldl setP x
theorem setW_more (x:Wd) {l:List Sl} {k:Nat} (h:k<l.length):setW x (l.take (k+1))=setP (setW x (l.take k)) l[k]:=by
 unfold setW
 rw [List.take_succ_eq_append_getElem h,List.foldl_append];rfl
theorem setP_like (x:Wd) (s:Sl):Like x (setP x s):=by unfold setP;split;exact Gw8 _ _;exact Like.refl x
theorem setW_like:∀(l:List Sl) (x:Wd),Like x (setW x l)
 | [],x=>Like.refl x
 | s :: l,x=>(setP_like x s).trans (setW_like l _)
def MayS (x:Wd) (s:Sl):Prop:=s.phase=5→0≤s.step∧s.step≤s.plan.length∧∀c∈s.plan,mayX x c=true
theorem rpall_as {x y:Wd} (hs:Like x y) (p:Wp) {la:Option Addr} {lc n:Nat} {l:List Wr} (hn:l.length=n) (w:World) (h:Ab w p y) (hf:FewW y) (hl:WrsAt w la l) (hm:∀c∈l,mayX y c=true):Calls prog 16 #[.agg (wC x p),.slice la n lc] w fun e w'=>∃q:Wp,e=.returned (.agg (wC x q))∧Cc w.heap.size w' p.d q (allP y l)∧Below w.heap.size w w':=by
 subst hn
 have h2:=rpall_any y p la lc l w h hf hl hm
 rw [hs.shape.val] at h2
 refine h2.mono ?_
 rintro e w' ⟨q,rfl,h3,h4⟩
 exact ⟨q,by rw [hs.shape.val],h3,h4⟩
def SetR (x:Wd) (p:Wp) (l:List Sl) (w:World) (m k:Nat) (q:Wp) (W:World):Prop :=
 Blk W m 29 (wC x q)∧Blk W (w.heap.size+1) 29 zC∧Cc (w.heap.size+2) W p.d q (setW x (l.take k))∧Below w.heap.size w W∧w.heap.size+2≤m
theorem SetR.call {x:Wd} {p:Wp} {l:List Sl} {w W W':World} {m k:Nat} {q:Wp} (h:SetR x p l w m k q W) (hb:Below W.heap.size W W'):SetR x p l w m k q W' :=
 ⟨h.1.call hb,h.2.1.call hb,h.2.2.1.call hb,bl h.2.2.2.1 hb,h.2.2.2.2⟩
theorem SetR.world {x:Wd} {p:Wp} {l:List Sl} {w W:World} {m k:Nat} {q:Wp} (h:SetR x p l w m k q W) (hw:Ab w p x):Ab W q (setW x (l.take k)) :=
 h.2.2.1.new.worldn (by rw [(setW_like _ _).d];exact hw.d) h.2.2.2.1
theorem SetR.size {x:Wd} {p:Wp} {l:List Sl} {w W:World} {m k:Nat} {q:Wp} (h:SetR x p l w m k q W):w.heap.size+2≤W.heap.size:=h.2.1.lt
theorem SetR.put {x:Wd} {p:Wp} {l:List Sl} {w W:World} {m k:Nat} {q q2:Wp} (h:SetR x p l w m k q W) (ho:Cc (w.heap.size+2) W p.d q2 (setW x (l.take (k+1)))):SetR x p l w m (k+1) q2 ((((((((((((W.setCell ⟨m,0,none⟩ (.slice q2.d.ex x.d.exits.length q2.d.exc)).setCell ⟨m,1,none⟩ (.slice q2.d.pl x.d.players.length q2.d.plc)).setCell ⟨m,2,none⟩ (.slice q2.d.co x.d.coins.length q2.d.coc)).setCell ⟨m,3,none⟩ (.slice q2.d.it x.d.items.length q2.d.itc)).setCell ⟨m,4,none⟩ (.slice q2.d.bo x.d.boxes.length q2.d.boc)).setCell ⟨m,5,none⟩ (.int .i64 x.d.room)).setCell ⟨m,6,none⟩ (.int .i64 x.d.player)).setCell ⟨m,7,none⟩ (.int .i64 x.d.box)).setCell ⟨m,8,none⟩ (.slice q2.at_ x.at_.length q2.atc)).setCell ⟨m,9,none⟩ (.slice q2.co x.coins.length q2.coc)).setCell ⟨m,10,none⟩ (.slice q2.wh x.wher.length q2.whc))):=by
 obtain ⟨h1,h2,h3,h4,h5⟩:=h
 obtain ⟨g1,g2,g3,g4⟩:=put_world h1 h2 ho h4 h5 (q2:=q2)
 exact ⟨g1,g2,g3,g4,h5⟩
set_option maxRecDepth 100000 in
set_option maxHeartbeats 1000000 in
theorem rpset_any (x:Wd) (p:Wp) (la:Option Addr) (lc:Nat) (l:List Sl) (w:World) (h:Ab w p x) (hf:FewW x) (hl:PlansAt w la l) (hm:∀s∈l,MayS x s):Calls prog 20 #[.agg (wC x p),.slice la l.length lc] w fun e w'=>∃q:Wp,e=.returned (.agg (wC x q))∧Cc w.heap.size w' p.d q (setW x l)∧Below w.heap.size w w':=by
 have C0:=hid (Two.start 29 29 w (wC x p) zC)
 have H:=hid h
 have HF:=hid hf
 have HL:=hid hl
 have HM:=hid hm
 have hln:=hl.row.len
 have hlen:=h.wh.len
 have hlen1:=h.at_.len
 have hlen2:=h.co.len
 clear h hf hl hm
 have hWC:=@wC.eq_1
 have hZC:=@zC.eq_1
 go_enter func20,ntmps20
 go_wp2_with fail
 refine (Iq x p _ (H.out.below C0.out.b (Nat.le_refl _)) HF.out).mono ?_
 rintro e w1 ⟨q,rfl,-,b1,ho⟩
 have C1:=hid (C0.out.call b1)
 have HO:=hid (ho.less C0.out.size)
 have hsz:=C1.out.size
 clear ho b1 C0
 obtain ⟨hca,hra,hla⟩:=C1.out.r.all
 go_upto_region 2 with fail
 clear hca hla hra
 obtain ⟨m,hm⟩:∃m,w1.heap.size=m:=⟨_,rfl⟩
 rw [hm] at hsz
 refine gen_pl (fun V=>SetR x p l w m 0 q V) ⟨Blk.newn _ _ _ hm,C1.out.r.alloc _,HO.out.alloc _,C1.out.b.alloc C1.out.b.size _,by omega⟩ (fun V hV=>?_)
 have HV:=hid hV
 simp only [hm]
 clear hV HO C1 hm hsz
 go_wp2_with fail
 go_loopw [6] (fun i wr=>∃(k:Nat) (q:Wp),k≤l.length∧i=.int .i64 k∧SetR x p l w m k q wr) (fun i _=>l.length-(intOf i).toNat)
 case atStart=>exact ⟨0,q,Nat.zero_le _,rfl,HV.out⟩
 case round =>
  obtain ⟨k,q,hk,rfl,hR⟩:=hrel
  have HR:=hid hR
  clear hR HV
  by_cases hlt:k<l.length
  ·obtain ⟨b,o,rfl,hb,hc⟩:=HL.out.row.at_ hlt
   have HMC:=hid (HM.out l[k] (List.getElem_mem hlt))
   have HWP:=hid (HL.out.ok l[k] (List.getElem_mem hlt))
   have HMO:=hid (setW_more x hlt)
   have HKL:=hid hlt
   have wk:IntKind.i64.wrap ((k:Int)+1)=(k:Int)+1:=IntWalk.i64_in _ (by omega)
   have d0:=(HR.out.2.2.2.1.cell (p:=⟨b,o+k*30+3,none⟩) hb).trans (hc k hlt 3 (by omega))
   have d1:=(HR.out.2.2.2.1.cell (p:=⟨b,o+k*30+4,none⟩) hb).trans (hc k hlt 4 (by omega))
   have d2:=(HR.out.2.2.2.1.cell (p:=⟨b,o+k*30+16,none⟩) hb).trans (hc k hlt 16 (by omega))
   obtain ⟨hcm,hfm,hlm⟩:=HR.out.1.all
   clear hc hb
   generalize l[k]=s at *
   replace d0:wr.cell? ⟨b,o+k*30+3,none⟩=some (.int .i64 s.phase):=d0
   replace d1:wr.cell? ⟨b,o+k*30+4,none⟩=some (.int .i64 s.step):=d1
   replace d2:wr.cell? ⟨b,o+k*30+16,none⟩=some (.slice s.pa s.plan.length s.pc):=d2
   by_cases hph:s.phase=5
   ·have q0:(s.phase==5)=true:=by simp [hph]
    obtain ⟨hs0,hs1,hs2⟩:=HMC.out hph
    obtain ⟨j,hj⟩:∃j:Nat,s.step=j:=⟨s.step.toNat,by omega⟩
    rw [hj] at d1 hs1
    have hj2:j≤s.plan.length:=by omega
    have hcut:=fun W=>wr_cut W s.pa s.plan.length s.pc j hj2
    have HD:=hid (HWP.out.drop hj2)
    have HSP:=hid (show ∀y,setP y s=allP y (s.plan.drop j) from fun y=>by rw [setP,if_pos hph,hj];rfl)
    have HMD:=hid (show ∀c∈s.plan.drop j,mayX x c=true from fun c hc=>hs2 c (List.mem_of_mem_drop hc))
    have HLD:=hid (show (s.plan.drop j).length=s.plan.length-j by simp)
    clear hs0 hs1 hs2 hph hj HMC
    go_upto_region 6 with fail
    go_still_tail 12,(by kernel_rfl)
    change wpList _ _ _ _ _ wr.drew
    have HR1:=hid (show SetR x p l w m k q wr.drew from HR.out.call (Af (Below.refl _ _)))
    clear HR d0 d1 d2 hcm hfm hlm hcut
    generalize wr.drew=w2 at *
    go_wp2_with fail
    refine (rpall_as (setW_like (l.take k) x) q HLD.out _ (HR1.out.world H.out) ((setW_like (l.take k) x).few HF.out) ((HD.out.below HR1.out.2.2.2.1 (Nat.le_refl _)).1) (fun c hc=>by rw [(setW_like (l.take k) x).may];exact HMD.out c hc)).mono ?_
    rintro e w3 ⟨q2,rfl,ho3,b3⟩
    have HR3:=hid (HR1.out.call b3)
    have HO3:=hid (show Cc (w.heap.size+2) w3 p.d q2 (setW x (l.take (k+1))) by rw [HMO.out,HSP.out];exact (HR1.out.2.2.1.1 ▸ ho3).less HR1.out.size)
    obtain ⟨hcm,hfm,hlm⟩:=HR3.out.1.all
    clear ho3 b3 HR1
    go_wp2_with fail
    go_roundw
    case rel=>exact ⟨k+1,q2,HKL.out,by go_num,HR3.out.put HO3.out⟩
    case measure=>have:=HKL.out;simp [intOf];omega
   ·have q0:(s.phase==5)=false:=by simpa using hph
    have HSP:=hid (show ∀y,setP y s=y from fun y=>by rw [setP,if_neg hph])
    clear hph HMC hcm hfm hlm d1 d2
    go_wp2_with fail
    go_roundw
    case rel =>
     obtain ⟨g1,g2,g3,g4,g5⟩:=HR.out
     exact ⟨k+1,q,HKL.out,by go_num,g1,g2,by rw [HMO.out,HSP.out];exact g3,g4,g5⟩
    case measure=>have:=HKL.out;simp [intOf];omega
  ·have hke:k=l.length:=by omega
   subst hke
   have hR:=HR.out
   rw [SetR,List.take_length] at hR
   obtain ⟨h1,h2,h3,h4,h5⟩:=hR
   have H3:=hid h3
   have H4:=hid h4
   have hcm:=h1.cell
   have hlm:=h1.lt
   obtain ⟨hcr,hfr,hlr⟩:=h2.all
   clear h1 h2 h3 h4 hlt HR
   go_wp2_with fail
   refine bodyPost_ret (v:=.agg (wC x q)) (by simp [results,results20,go_sem,hcr]) rfl ⟨q,rfl,?_,?_⟩
   ·refine Cc.less (n:=w.heap.size+2) ?_ (by omega)
    iterate 11 refine Cc.set (b:=w.heap.size+1) ?_ (by omega) _ _
    exact H3.out
   ·iterate 11 refine bs_1 ?_
    exact H4.out
end Go.Proofs.Ytnhkojpbbdaedaa
