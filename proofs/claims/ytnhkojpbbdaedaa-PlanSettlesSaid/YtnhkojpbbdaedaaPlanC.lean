/- plan: Do, All, Settled: copied once, then changed. -/
import Derived.Test.YtnhkojpbbdaedaaPlanQ
import Derived.Test.YtnhkojpbbdaedaaPlanFr
import Derived.Deep.MidRow
namespace Go.Proofs.Ytnhkojpbbdaedaa
open Go.ChangeShapes Go.WideShapes Go.ChangeAt Go.RowKit Go.Proofs.Try
open Lib (hid)
set_option linter.unusedVariables false
set_option maxRecDepth 100000
open Go.RowKit Go
theorem Ao.pnew {n:Nat} {W:World} {pd:Dp} {q:Wp} {y:Wd} (h:Ao n W q y):PNew n W pd q y:=by
 have hw:=h.world
 obtain ⟨m1,m2,m3,h1,h2,h3,_,hd,-,ha,-,hc,-,hwh⟩:=h.ex
 exact ⟨.inr hd,ha.less h1,hc.less (by omega),hwh.less (by omega),hw⟩
theorem wrs_one {W:World} {b:Nat} {t:TypeId} {c:Wr} (h:Blk W b t #[.int .i64 c.kind,.int .i64 c.id,.int .i64 c.num,.int .i64 c.pl.kind,.int .i64 c.pl.id]):WrsAt W (some ⟨b,0,none⟩) [c]:=by
 refine ⟨by simp [maxLen],.inr ⟨b,0,rfl,h.lt,fun i hi j hj=>?_⟩⟩
 obtain rfl:i=0:=by simpa using hi
 have:=h.cell j
 simp only [Nat.zero_mul,Nat.zero_add] at this ⊢
 rw [this]
 simp [wrC]
theorem exec_load {ρ:Operand→Value} {o:Oper} {t:TypeId} {a:Operand} {P:Program} {w:World} {u:Value} (ho:o.op=.load t a) (h:(Instr.loadAt t (ρ a)).run P w=.ok u w):(execOp ρ o).run P w=.ok (.value u) w:=by
 simp [execOp,ho,h,Result.andThen]
theorem sess_size:(prog.info? 55).map (·.size)=some 30:=by kernel_rfl
theorem slC_cells (s:Sl):(slC s).toArray.all (·.oneCell')=true:=all_oneCell_toArray fun v hv=>by
 simp only [slC,List.mem_cons,List.not_mem_nil,or_false] at hv
 rcases hv with rfl|rfl|rfl|rfl|rfl|rfl|rfl|rfl|rfl|rfl|rfl|rfl|rfl|rfl|rfl|rfl|rfl|rfl|rfl|rfl|rfl|rfl|rfl|rfl|rfl|rfl|rfl|rfl|rfl|rfl<;>rfl
theorem blk_range {W:World} {b:Nat} {t:TypeId} {L:List Value} (h:Blk W b t L.toArray):W.rangeAt b 0 L:=fun j v hv=>by
 have:=h.cell j
 rw [Nat.zero_add]
 exact this.trans (by simpa using hv)
theorem load_sess {b o:Nat} {s:Sl} {W:World} (h:W.rangeAt b o (slC s)):(Instr.loadAt 55 (.pointer (some ⟨b,o,none⟩))).run prog W=.ok (.agg (slC s).toArray) W :=
 run_loadAt_mid W b o _ (slC s) _ h underlying55 rfl sess_size
theorem there_new (w:World) (Z:Array Value) (t:TypeId):(w.alloc (.cells Z t)).there w.heap.size 0 Z.size:=fun j hj=>by
 have h:=Blk.new w t Z
 rw [Nat.zero_add]
 exact ⟨by rw [h.cell j];simp;omega,h.frozen j⟩
theorem blk_sets {b:Nat} {t:TypeId}:∀(vs:List Value) (o:Nat) {W:World} {C:Array Value},Blk W b t C→∃D:Array Value,D.size=C.size∧Blk (W.setCells b o vs) b t D
 | [],_,_,C,h=>⟨C,rfl,h⟩
 | v :: r,o,W,C,h=>by
   obtain ⟨D,hD,h2⟩:=blk_sets r (o+1) (h.set_ o v)
   exact ⟨D,by simpa using hD,h2⟩
theorem below_sets {w:World} {n b:Nat} (hn:n≤b):∀(vs:List Value) (o:Nat) {W:World},Below n w W→Below n w (W.setCells b o vs)
 | [],_,_,h=>h
 | v :: r,o,W,h=>below_sets hn r (o+1) (h.setCell (p:=⟨b,o,none⟩) hn v)
theorem blk_stored {W:World} {b:Nat} {t:TypeId} {C:Array Value} {vs:List Value} (h:Blk W b t C) (hz:C.size=vs.length):Blk (W.setCells b 0 vs) b t vs.toArray:=by
 obtain ⟨D,hD,h2⟩:=blk_sets vs 0 h
 have hr:=World.rangeAt_setCells_same W b 0 vs (fun j hj=>by
  rw [Nat.zero_add]
  exact ⟨by rw [h.cell j];simp;omega,h.frozen j⟩)
 have e:D=vs.toArray:=by
  apply Array.ext_getElem?
  intro j
  by_cases hj:j<vs.length
  ·have h3:=hr j vs[j] (List.getElem?_eq_getElem hj)
   rw [Nat.zero_add,h2.cell j] at h3
   rw [h3];simp [hj]
  ·rw [Array.getElem?_eq_none (by omega)];simp;omega
 rw [←e];exact h2
theorem left_as (x:Wd) (s:Sl) (w0 w:World) (hp:WrcAt w0 s.pa s.pc s.plan) (hm:MayS x s):Calls prog 29 #[.agg (slC s).toArray] w (LeftQ (leftL s) w0 w):=left_any x s w0 w hp hm
theorem load_draft {b:Nat} {x:Wd} {q:Wp} {W:World} (h:∀i,W.cell? ⟨b,i,none⟩=((wC x q)[i]?:Option Value)):(Instr.loadAt 72 (.pointer (some ⟨b,0,none⟩))).run prog W=.ok (.agg (wC x q)) W:=by
 go_simp
theorem two_cells {W:World} {a b:Nat} {A:Array Value} {L:List Value} {t s:TypeId} (h1:Blk W a t A) (h2:Blk W b s L.toArray):(∀i,W.cell? ⟨a,i,none⟩=(A[i]?:Option Value))∧W.rangeAt b 0 L:=⟨h1.cell,blk_range h2⟩
def OwnQ (w:World) (x y:Wd) (e:Ending) (w':World):Prop:=∃q:Wp,e=.returned (.agg (wC x q))∧Ao w.heap.size w' q y∧Below w.heap.size w w'
theorem OwnQ.q {w:World} {x y:Wd} {pd:Dp} {e:Ending} {w':World} (h:OwnQ w x y e w'):WorldQ w x pd y e w':=by
 obtain ⟨q,rfl,h2,h3⟩:=h
 exact ⟨q,rfl,h2.pnew,h3⟩
theorem own_fin {w W:World} {b:Nat} {x y:Wd} {q:Wp} (ho:Ao (w.heap.size+b+1) W q y) (hb:Below w.heap.size w W):Ao w.heap.size (((((((((((W.setCell ⟨w.heap.size+b,0,none⟩ (.slice q.d.ex x.d.exits.length q.d.exc)).setCell ⟨w.heap.size+b,1,none⟩ (.slice q.d.pl x.d.players.length q.d.plc)).setCell ⟨w.heap.size+b,2,none⟩ (.slice q.d.co x.d.coins.length q.d.coc)).setCell ⟨w.heap.size+b,3,none⟩ (.slice q.d.it x.d.items.length q.d.itc)).setCell ⟨w.heap.size+b,4,none⟩ (.slice q.d.bo x.d.boxes.length q.d.boc)).setCell ⟨w.heap.size+b,5,none⟩ (.int .i64 x.d.room)).setCell ⟨w.heap.size+b,6,none⟩ (.int .i64 x.d.player)).setCell ⟨w.heap.size+b,7,none⟩ (.int .i64 x.d.box)).setCell ⟨w.heap.size+b,8,none⟩ (.slice q.at_ x.at_.length q.atc)).setCell ⟨w.heap.size+b,9,none⟩ (.slice q.co x.coins.length q.coc)).setCell ⟨w.heap.size+b,10,none⟩ (.slice q.wh x.wher.length q.whc)) q y∧Below w.heap.size w (((((((((((W.setCell ⟨w.heap.size+b,0,none⟩ (.slice q.d.ex x.d.exits.length q.d.exc)).setCell ⟨w.heap.size+b,1,none⟩ (.slice q.d.pl x.d.players.length q.d.plc)).setCell ⟨w.heap.size+b,2,none⟩ (.slice q.d.co x.d.coins.length q.d.coc)).setCell ⟨w.heap.size+b,3,none⟩ (.slice q.d.it x.d.items.length q.d.itc)).setCell ⟨w.heap.size+b,4,none⟩ (.slice q.d.bo x.d.boxes.length q.d.boc)).setCell ⟨w.heap.size+b,5,none⟩ (.int .i64 x.d.room)).setCell ⟨w.heap.size+b,6,none⟩ (.int .i64 x.d.player)).setCell ⟨w.heap.size+b,7,none⟩ (.int .i64 x.d.box)).setCell ⟨w.heap.size+b,8,none⟩ (.slice q.at_ x.at_.length q.atc)).setCell ⟨w.heap.size+b,9,none⟩ (.slice q.co x.coins.length q.coc)).setCell ⟨w.heap.size+b,10,none⟩ (.slice q.wh x.wher.length q.whc)):=by
 refine ⟨Ao.less (n:=w.heap.size+b+1) ?_ (by omega),?_⟩
 ·iterate 11 refine Ao.set (q:=w.heap.size+b) ?_ (by omega) _ _
  exact ho
 ·iterate 11 refine Below.setCell ?_ (by show w.heap.size≤w.heap.size+b;omega) _
  exact hb
theorem pall_own (x:Wd) (p:Wp) (la:Option Addr) (lc:Nat) (l:List Wr) (w:World) (h:Ab w p x) (hf:FewW x) (hl:WrsAt w la l) (hm:∀c∈l,mayX x c=true):Calls prog 15 #[.agg (wC x p),.slice la l.length lc] w (OwnQ w x (allP x l)):=by
 have C0:=hid (Two.start 29 29 w (wC x p) zC)
 have H:=hid h
 have HF:=hid hf
 have HM:=hid hm
 have HL:=hid hl
 clear hm hl h hf
 have hWC:=@wC.eq_1
 have hZC:=@zC.eq_1
 go_enter func15,ntmps15
 go_wp2_with fail
 refine (Gi x p _ (H.out.below C0.out.b (Nat.le_refl _)) HF.out).mono ?_
 rintro e w1 ⟨q,rfl,ho,b1⟩
 have C1:=hid (C0.out.call b1)
 have HO:=hid (ho.less C0.out.size)
 clear ho b1 C0
 obtain ⟨m,hm⟩:∃m,w1.heap.size=m:=⟨_,rfl⟩
 go_upto_region 2 with fail
 have HD:=hid (Blk.newn w1 72 (wC x q) hm)
 have C2:=hid (C1.out.call (b_a (.cells (wC x q) 72)))
 have HO2:=hid (HO.out.alloc' (.cells (wC x q) 72))
 refine gen_pl (fun V=>Blk V m 72 (wC x q)∧Two 29 29 w V (wC x p) zC∧Ao (w.heap.size+2) V q x) ⟨HD.out,C2.out,HO2.out⟩ (fun V hV=>?_)
 clear HD C2 HO2 C1 HO hm
 have HD:=hid hV.1
 have C2:=hid hV.2.1
 have HO2:=hid hV.2.2
 clear hV
 obtain ⟨hcd,hfd,hld⟩:=HD.out.all
 go_wp2_with fail
 refine (ddo_any (w.heap.size+2) x q la lc l w V HO2.out C2.out.size (by omega) C2.out.b HL.out HM.out).mono ?_
 rintro e w3 ⟨⟨z,rfl⟩,ho3,b3,k3⟩
 have HO3:=hid ho3
 have HB3:=hid (C2.out.b.trans (b3.mono (by omega)))
 replace hcd:=(k3.blk HD.out (by decide) (by decide)).cell
 replace hld:=(k3.blk HD.out (by decide) (by decide)).lt
 replace hfd:=(k3.blk HD.out (by decide) (by decide)).frozen
 obtain ⟨hcr,hfr,hlr⟩:=(k3.blk C2.out.r (by decide) (by decide)).all
 clear ho3 b3 k3 C2 HO2 HD
 go_wp2_with fail
 refine bodyPost_ret (v:=.agg (wC x q)) (by simp [results,results15,go_sem,hcr]) rfl ⟨q,rfl,own_fin (b:=1) HO3.out HB3.out⟩
theorem pall_any (x:Wd) (p:Wp) (la:Option Addr) (lc:Nat) (l:List Wr) (w:World) (h:Ab w p x) (hf:FewW x) (hl:WrsAt w la l) (hm:∀c∈l,mayX x c=true):Calls prog 15 #[.agg (wC x p),.slice la l.length lc] w fun e w'=>WorldQ w x p.d (allP x l) e w' :=
 (pall_own x p la lc l w h hf hl hm).mono fun _ _ h=>h.q
theorem pdo_any (x:Wd) (p:Wp) (c:Wr) (w:World) (h:Ab w p x) (hf:FewW x) (hm:mayX x c=true):Calls prog 17 #[.agg (wC x p),.agg #[.int .i64 c.kind,.int .i64 c.id,.int .i64 c.num,.int .i64 c.pl.kind,.int .i64 c.pl.id]] w fun e w'=>WorldQ w x p.d (doX x c) e w':=by
 have C0:=hid (Tri.start 29 39 29 w (wC x p) #[.int .i64 c.kind,.int .i64 c.id,.int .i64 c.num,.int .i64 c.pl.kind,.int .i64 c.pl.id] zC)
 have H:=hid h
 have HF:=hid hf
 have HM:=hid (show ∀d∈[c],mayX x d=true from fun d hd=>by rw [List.mem_singleton.1 hd];exact hm)
 clear hm h hf
 have hWC:=@wC.eq_1
 have hZC:=@zC.eq_1
 go_enter func17,ntmps17
 go_upto_region 1 with fail
 generalize ((w.alloc (.cells (wC x p) 29)).alloc (.cells #[.int .i64 c.kind,.int .i64 c.id,.int .i64 c.num,.int .i64 c.pl.kind,.int .i64 c.pl.id] 39)).alloc (.cells zC 29)=V0 at *
 obtain ⟨hca,hfa,hla⟩:=C0.out.a.all
 obtain ⟨hcm,hfm,hlm⟩:=C0.out.m.all
 obtain ⟨m,hm⟩:∃m,V0.heap.size=m:=⟨_,rfl⟩
 have HW:=hid (wrs_one (c:=c) (Blk.newn V0 39 #[.int .i64 c.kind,.int .i64 c.id,.int .i64 c.num,.int .i64 c.pl.kind,.int .i64 c.pl.id] hm))
 have C1:=hid (C0.out.call (b_a (.cells #[.int .i64 c.kind,.int .i64 c.id,.int .i64 c.num,.int .i64 c.pl.kind,.int .i64 c.pl.id] 39)))
 have HSZ:=hid C0.out.size
 go_wp2_with fail
 try simp only [hm]
 generalize V0.alloc (.cells #[.int .i64 c.kind,.int .i64 c.id,.int .i64 c.num,.int .i64 c.pl.kind,.int .i64 c.pl.id] 39)=V1 at *
 refine (pall_own x p _ _ [c] V1 (H.out.below C1.out.b (Nat.le_refl _)) HF.out HW.out HM.out).mono ?_
 rintro e w3 ⟨q,rfl,ho,b3⟩
 have C3:=hid (C1.out.call b3)
 have HO3:=hid (show Ao (w.heap.size+2+1) w3 q (allP x [c]) from ho.less (by have:=C1.out.size;omega))
 clear ho b3 C1 C0 hca hfa hla hcm hfm hlm hm
 obtain ⟨hcr,hfr,hlr⟩:=C3.out.r.all
 go_wp2_with fail
 refine bodyPost_ret (v:=.agg (wC x q)) (by simp [results,results17,go_sem,hcr]) rfl (OwnQ.q (w:=w) ⟨q,rfl,own_fin (b:=2) HO3.out C3.out.b⟩)
structure SetO (n:Nat) (q:Wp) (x:Wd) (l:List Sl) (V:World) (k:Nat) (W:World):Prop where
 o:Ao n W q (setW x (l.take k))
 b:Below n V W
 t:KT V W
theorem SetO.call {n:Nat} {q:Wp} {x:Wd} {l:List Sl} {V W W':World} {k:Nat} (h:SetO n q x l V k W) (hn:n≤W.heap.size) (hb:Below W.heap.size W W'):SetO n q x l V k W':=⟨h.o.call hb,h.b.trans (hb.mono hn),h.t.trans (KT.below hb)⟩
theorem ddo_as {x y:Wd} (hs:Like x y) {z:Wd} (n:Nat) (q:Wp) {la:Option Addr} {lc:Nat} {l:List Wr} {w0 W:World} (ho:Ao n W q y) (hn:n≤W.heap.size) (h0:w0.heap.size≤n) (hb:Below w0.heap.size w0 W) (hl:WrsAt w0 la l) (hm:∀c∈l,mayX x c=true) (hz:allP y l=z) :
 Calls prog 28 #[.agg (wC x q),.slice la l.length lc] W (Chg n q z W):=by
 subst hz
 have h2:=ddo_any n y q la lc l w0 W ho hn h0 hb hl fun c hc=>by rw [hs.may];exact hm c hc
 rw [hs.shape.val] at h2
 exact h2
set_option maxHeartbeats 2000000 in
theorem pset_any (x:Wd) (p:Wp) (la:Option Addr) (lc:Nat) (l:List Sl) (w:World) (h:Ab w p x) (hf:FewW x) (hl:PlansAt w la l) (hm:∀s∈l,MayS x s):Calls prog 19 #[.agg (wC x p),.slice la l.length lc] w fun e w'=>WorldQ w x p.d (setW x l) e w':=by
 have C0:=hid (Two.start 29 29 w (wC x p) zC)
 have H:=hid h
 have HF:=hid hf
 have HM:=hid hm
 have HL:=hid hl
 have hln:=hl.row.len
 clear hm hl h hf
 have hWC:=@wC.eq_1
 have hZC:=@zC.eq_1
 go_enter func19,ntmps19
 go_wp2_with fail
 refine (Gi x p _ (H.out.below C0.out.b (Nat.le_refl _)) HF.out).mono ?_
 rintro e w1 ⟨q,rfl,ho,b1⟩
 have C1:=hid (C0.out.call b1)
 have HO:=hid (ho.less C0.out.size)
 clear ho b1 C0
 obtain ⟨m,hm⟩:∃m,w1.heap.size=m:=⟨_,rfl⟩
 go_upto_region 2 with fail
 have HD:=hid (Blk.newn w1 72 (wC x q) hm)
 have C2:=hid (C1.out.call (b_a (.cells (wC x q) 72)))
 have HO2:=hid (HO.out.alloc' (.cells (wC x q) 72))
 refine gen_pl (fun V=>Blk V m 72 (wC x q)∧Two 29 29 w V (wC x p) zC∧Ao (w.heap.size+2) V q x) ⟨HD.out,C2.out,HO2.out⟩ (fun V hV=>?_)
 clear HD C2 HO2 C1 HO hm
 have HD:=hid hV.1
 have C2:=hid hV.2.1
 have HO2:=hid hV.2.2
 clear hV
 have HR0:=hid (show SetO (w.heap.size+2) q x l V 0 V from ⟨HO2.out,Below.refl _ _,KT.refl _⟩)
 go_wp2_with fail
 go_loopw [13] (fun i wr=>∃k:Nat,k≤l.length∧i=.int .i64 k∧SetO (w.heap.size+2) q x l V k wr) (fun i _=>l.length-(intOf i).toNat)
 case atStart=>exact ⟨0,Nat.zero_le _,rfl,HR0.out⟩
 case round =>
  obtain ⟨k,hk,rfl,hR⟩:=hrel
  have HR:=hid hR
  clear hR
  by_cases hlt:k<l.length
  ·obtain ⟨b,o,rfl,hbk,hc⟩:=HL.out.row.at_ hlt
   have HBR:=hid (C2.out.b.trans (HR.out.b.mono (by omega)))
   have HMC:=hid (HM.out l[k] (List.getElem_mem hlt))
   have HWP:=hid (HL.out.ok l[k] (List.getElem_mem hlt))
   have HMO:=hid (setW_more x hlt)
   have HKL:=hid hlt
   have HSZ:=hid (Nat.le_trans C2.out.size HR.out.b.size)
   have wk:IntKind.i64.wrap ((k:Int)+1)=(k:Int)+1:=IntWalk.i64_in _ (by omega)
   have HRG:=hid (show wr.rangeAt b (o+k*30) (slC l[k]) from fun j v hv=>((HBR.out.cell (p:=⟨b,o+k*30+j,none⟩) hbk).trans (hc k hlt j (by have:=(List.getElem?_eq_some_iff.1 hv).1;rw [slC_len] at this;exact this))).trans hv)
   have hbl:b<wr.heap.size:=Nat.lt_of_lt_of_le hbk HBR.out.size
   clear hc hbk
   generalize l[k]=s at *
   obtain ⟨sb,hsb⟩:∃sb,wr.heap.size=sb:=⟨_,rfl⟩
   have HH:=hid hsb
   have HDR:=hid (HR.out.t.blk HD.out (by decide) (by decide))
   clear hsb
   go_upto_region 5 with first
    | refine wpList_load_mid rfl 55 (.tmp 15) rfl b (o+k*30) rfl (slC s) _ HRG.out underlying55 rfl sess_size ?_
    | refine wpList_store_mid rfl 55 (.tmp 7) (.tmp 16) rfl wr.heap.size 0 (slC s).toArray rfl rfl (there_new wr _ _) sess_size (slC_cells s) ?_
   refine gen_pl (fun V=>Below wr.heap.size wr V∧Blk V wr.heap.size 55 (slC s).toArray) ⟨below_sets (Nat.le_refl _) _ _ ((Below.refl _ wr).alloc (Nat.le_refl _) _),blk_stored (vs:=slC s) (Blk.new wr _ _) rfl⟩ (fun V5 hV=>?_)
   have B5:=hid hV.1
   have SB:=hid hV.2
   clear hV
   have HR1:=hid (HR.out.call HSZ.out B5.out)
   have HS1:=hid (Nat.le_trans HSZ.out B5.out.size)
   have HDD:=hid (HDR.out.call B5.out)
   rw [HH.out]
   rw [HH.out] at SB
   clear HR HBR HSZ hbl HRG HDR B5 HH
   have MD:=hid (HDD.out.call (Af (Below.refl _ _)))
   have SD:=hid (SB.out.call (Af (Below.refl _ _)))
   have HR2:=hid (HR1.out.call HS1.out (Af (Below.refl _ _)))
   have HS2:=hid (show w.heap.size+2≤V5.drew.heap.size from HS1.out)
   clear HDD SB HR1 HS1
   as_aux_lemma =>
    refine tkS (S:=(fun w'=>(∀i,w'.cell? ⟨m,i,none⟩=((wC x q)[i]?:Option Value))∧w'.rangeAt sb 0 (slC s))) (by (first|(with_reducible exact two_cells MD.out SD.out))) (fun hHeld=>?_)
    refine tkl [0,1] ?_
    refine tW ?_ (hy:=by exact fun ww hSw=>exec_load rfl (load_draft hSw.1))
    try go_frame
    refine tW ?_ (hy:=by exact fun ww hSw=>exec_load rfl (load_sess hSw.2))
    try go_frame
    refine rdy1 2 (fun K hK=>?_)
    go_simp
    refine (left_as x s w _ HWP.out HMC.out).mono ?_;rintro e w6 ⟨la6,lc6,rfl,hl6,b6⟩;have M6:=hid (MD.out.call b6);have S6:=hid (SD.out.call b6);have HL6:=hid hl6;have HR6:=hid (HR2.out.call HS2.out b6);have HS6:=hid (Nat.le_trans HS2.out b6.size);clear hl6 b6
    try go_wp2_with fail
    refine hK.out _ _ (by (first|(with_reducible exact two_cells M6.out S6.out))) (fun hHeld=>?_)
    clear hK K
    try go_frame
    refine rdy1 3 (fun K hK=>?_)
    go_simp
    refine (ddo_as (setW_like (l.take k) x) (w.heap.size+2) q HR6.out.o HS6.out (by omega) (C2.out.b.trans (HR6.out.b.mono (by omega))) HL6.out (left_may HMC.out) rfl).mono ?_;rintro e w7 ⟨⟨z,rfl⟩,ho7,b7,k7⟩;have M7:=hid (k7.blk M6.out (by decide) (by decide));have S7:=hid (k7.blk S6.out (by decide) (by decide));have HR7:=hid (show SetO (w.heap.size+2) q x l V (k+1) w7 from ⟨by rw [HMO.out,setP_left];exact ho7,HR6.out.b.trans b7,HR6.out.t.trans k7⟩);clear ho7 b7 k7
    try go_wp2_with fail
    refine hK.out _ _ (by (first|(with_reducible exact two_cells M7.out S7.out))) (fun hHeld=>?_)
    clear hK K
    try go_frame
    refine tkD ?_
    clear M6 S6 MD SD HR6 HR2 M7 S7
    go_wp2_with fail
    go_roundw
    case rel=>exact ⟨k+1,HKL.out,by go_num,HR7.out⟩
    case measure=>have:=HKL.out;simp [intOf];omega
  ·have hke:k=l.length:=by omega
   subst hke
   obtain ⟨r1,r2,r3⟩:=HR.out
   rw [List.take_length] at r1
   have R1:=hid r1
   have R2:=hid (C2.out.b.trans (r2.mono (by omega)))
   obtain ⟨hcd,hfd,hld⟩:=(r3.blk HD.out (by decide) (by decide)).all
   obtain ⟨hcr,hfr,hlr⟩:=(r3.blk C2.out.r (by decide) (by decide)).all
   clear r1 r2 r3 HR hlt
   go_wp2_with fail
   refine bodyPost_ret (v:=.agg (wC x q)) (by simp [results,results19,go_sem,hcr]) rfl (OwnQ.q (w:=w) ⟨q,rfl,own_fin (b:=1) R1.out R2.out⟩)
end Go.Proofs.Ytnhkojpbbdaedaa
