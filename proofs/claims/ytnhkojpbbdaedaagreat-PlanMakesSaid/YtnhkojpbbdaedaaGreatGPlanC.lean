/- plan.others: the closure that hands out what is another one: what it asks of a round. -/
import Derived.RangeFuncBound
import Derived.RangeFuncBox
import Derived.RangeFuncCalls
import Derived.RangeFuncLeaves
import Derived.OwnWalkIn
import Derived.TacticsInMore
import Derived.LoopNIn
import Derived.LoopIn
import Derived.Sort.BigQuietIn
import Derived.Test.YtnhkojpbbdaedaaGreatGPlanR
import Derived.Test.YtnhkojpbbdaedaaGreatPlanD
import Derived.Shelf.Abstract
import Derived.Laws.EntriesVeiled
import Derived.Maps.Own
import Derived.Deep.MidRow
import Derived.Test.YtnhkojpbbdaedaaGreatHoldS
namespace Go.Proofs.YtnhkojpbbdaedaaGreat
open Go.ChangeShapes Go.WideShapes Go.ChangeAt Go.RowKit Go.Proofs.Tryz
open Lib (hid)
set_option linter.unusedVariables false
set_option maxHeartbeats 4000000
set_option maxRecDepth 100000
section
attribute [local go_sem] Oper.semAt_some
theorem run_min2 (n:Nat) (W:World):(Builtin.min_ #[3,3] 3 #[.int .i64 (n:Int),.int .i64 (n:Int)]).run prog W=.ok (.int .i64 (n:Int)) W:=by simp [Builtin.min_,Builtin.min2,go_sem]
theorem getI_at {xs:List Int} {k:Nat} (h:k<xs.length):xs.getD k 0=xs[k]:=by rw [List.getD_eq_getElem?_getD,List.getElem?_eq_getElem h,Option.getD_some]
theorem getP_at {xs:List Pl} {k:Nat} (h:k<xs.length):xs.getD k ⟨0,0⟩=xs[k]:=by rw [List.getD_eq_getElem?_getD,List.getElem?_eq_getElem h,Option.getD_some]
theorem othi_any (pa pb:Option Addr) (n m ca cb:Nat) (w:World):Calls prog 28 #[.slice pa n ca,.slice pb m cb] w fun e w'=>e=.returned (.func (.func 57) #[] #[.pointer (some ⟨w.heap.size,0,none⟩),.pointer (some ⟨w.heap.size+1,0,none⟩)])∧w'=chgW (.slice pa n ca) (.slice pb m cb) 23 w:=by
 go_enter func28,ntmps28
 go_wp2_with fail
 go_ret
 exact ⟨rfl,rfl⟩
theorem othp_any (pa pb:Option Addr) (n m ca cb:Nat) (w:World):Calls prog 29 #[.slice pa n ca,.slice pb m cb] w fun e w'=>e=.returned (.func (.func 58) #[] #[.pointer (some ⟨w.heap.size,0,none⟩),.pointer (some ⟨w.heap.size+1,0,none⟩)])∧w'=chgW (.slice pa n ca) (.slice pb m cb) 27 w:=by
 go_enter func29,ntmps29
 go_wp2_with fail
 go_ret
 exact ⟨rfl,rfl⟩
theorem othi_stops (n:Nat) (hn:1≤n) (N:Nat→Prop) (xs ys:List Int) (hl:ys.length=xs.length) (pa pb:Option Addr) (ca cb:Nat) (b1 b2:Nat) (w:World) (h1:Blk w b1 23 #[.slice pa xs.length ca]) (h2:Blk w b2 23 #[.slice pb ys.length cb]) (n1:N b1) (n2:N b2)
 (hx:Ae w pa xs) (hy:Ae w pb ys) (nx:xs=[]∨∀q,pa=some q→N q.block) (ny:ys=[]∨∀q,pb=some q→N q.block) :
 SeqStopsK Fence.wide n prog 57 #[.pointer (some ⟨b1,0,none⟩),.pointer (some ⟨b2,0,none⟩)] (fun z:Fin xs.length=>#[.int .i64 (z.1:Int),.int .i64 (ys.getD z.1 0)]) (KP N) (fun l=>l.map Fin.val=difL xs ys) (fun pre=>pre.map Fin.val <+: difL xs ys) (difL xs ys).length w:=by
 rw [hl] at h2
 intro l J Jx W hWB hJ hJx hY h0
 have hlen:=hx.len
 have hW1:=h1.below hWB h1.lt
 have hW2:=h2.below hWB h2.lt
 have HW1:=hid hW1
 have HW2:=hid hW2
 have HX:=hid (hx.below hWB (Nat.le_refl _))
 have HY2:=hid (hy.below hWB (Nat.le_refl _))
 have HJ:=hid hJ
 have HY:=hid hY
 have H0:=hid h0
 have NX:=hid nx
 have NY:=hid ny
 have HLL:=hid hl
 have c1:=hW1.cell
 have c2:=hW2.cell
 have l1:=hW1.lt
 have l2:=hW2.lt
 have mi:=run_min2 xs.length
 clear hWB hJ hJx hY h0 hx hy nx ny h1 h2 hW1 hW2 hl
 refine callsIn_of_wp func57 rfl trivial ?_ rfl
 simp only [ntmps57,List.size_toArray,List.length_cons,List.length_nil,Nat.reduceAdd,Nat.reduceSub,Array.replicate_succ,Array.replicate_zero,List.push_toArray,List.append_toArray,List.nil_append,List.cons_append]
 gi_wp2
 gi_loopw [4,10] (fun _ k wr=>∃(m:Nat) (pre:List (Fin xs.length)),k=.int .i64 m∧m≤xs.length∧pre.map Fin.val=difTo xs ys m∧J pre wr∧KP N W wr) (fun _ k _=>xs.length-(intOf k).toNat)
 case atStart=>exact ⟨0,[],rfl,Nat.zero_le _,rfl,H0.out,KP.refl _⟩
 case round =>
  obtain ⟨m,pre,rfl,hm,hpre,hJp,hk⟩:=hrel
  have HPRE:=hid hpre
  have HJP:=hid hJp
  have HK:=hid hk
  clear hJp hpre c1 c2 l1 l2 H0
  by_cases hlt:m<xs.length
  ·have hlt2:m<ys.length:=by have:=HLL.out;omega
   have d1:=(hk.blk n1 HW1.out).cell
   have d2:=(hk.blk n2 HW2.out).cell
   have e1:=(hk.blk n1 HW1.out).lt
   have e2:=(hk.blk n2 HW2.out).lt
   obtain ⟨xb,xo,rfl,hxb,hxc⟩:=(hk.ints HX.out NX.out).at_ hlt
   obtain ⟨yb,yo,rfl,hyb,hyc⟩:=(hk.ints HY2.out NY.out).at_ hlt2
   have u0:=hxc m hlt
   have u1:=hyc m hlt2
   clear hxc hyc
   have hw:IntKind.i64.wrap ((m:Int)+1)=(m:Int)+1:=IntWalk.i64_in _ (by omega)
   have hq:(m:Int)<(xs.length:Int):=by omega
   have ES:=hid (fun e:xs[m]=ys[m]=>difTo_same (xs:=xs) (ys:=ys) (n:=m) (by rw [List.getElem?_eq_getElem hlt,List.getElem?_eq_getElem hlt2,e]))
   have EM:=hid (fun e:¬xs[m]=ys[m]=>difTo_more (xs:=xs) (ys:=ys) (n:=m) (by rw [List.getElem?_eq_getElem hlt,List.getElem?_eq_getElem hlt2];simpa using e))
   have EP:=hid (difTo_pre (xs:=xs) (ys:=ys) (n:=m+1) (m:=xs.length) hlt)
   have EV:=hid (getI_at hlt2)
   clear hk
   generalize xs[m]=a1 at *
   generalize ys[m]=a2 at *
   by_cases he:a1=a2
   ·have HE:=hid (ES.out he)
    have q0:(a1 != a2)=false:=by simp [he]
    clear he ES EM EP HY EV
    gi_wp2
    refine wpIn_region_quiet_lit rfl (by kernel_rfl) (by kernel_rfl) ?_
    repeat (gi_big_quiet_step (fail))
    refine BigFrame.wpQuietIn_skip (fun _ _ _ _=>trivial) rfl ?_
    simp only [Act.put,List.setIfInBounds_toArray,List.set_cons_zero,List.set_cons_succ]
    repeat (gi_big_quiet_step (fail))
    refine wpQuietIn_nil ?_
    rintro _ ⟨nq,rfl⟩
    gi_wp2
    go_roundw
    case rel=>exact ⟨m+1,pre,by go_num,by omega,by rw [HE.out];exact HPRE.out,HJ.out _ _ _ none HJP.out (Cp7 wr nq) (fun r e=>by cases e),HK.out.below (Ib (Below.refl _ _) _)⟩
    case measure=>simp [intOf];omega
   ·have HE:=hid (EM.out he)
    have q0:(a1 != a2)=true:=by simpa using he
    clear he ES EM
    have YV:=HY.out pre ⟨m,hlt⟩ wr.drew (HJ.out _ _ _ none HJP.out (Cp7 wr 1) (fun r e=>by cases e)) (by
     have:=EP.out.length_le
     rw [HE.out,List.length_append,←HPRE.out,List.length_map] at this
     simp [difL] at this ⊢;omega)
    rw [show (ys.getD (⟨m,hlt⟩:Fin xs.length).1 0)=_ from EV.out] at YV
    have HP2:=hid (show (pre++[(⟨m,hlt⟩:Fin xs.length)]).map Fin.val=difTo xs ys (m+1) by rw [HE.out,List.map_append,HPRE.out];rfl)
    have YV:=hid YV
    clear HY EV
    gi_wp2
    refine still_tail_in 16 (by kernel_rfl) (by kernel_rfl) ?_
    simp only [List.take_succ_cons,List.take_zero,List.drop_succ_cons,List.drop_zero]
    repeat still_step
    refine wpStill_nil ?_
    obtain ⟨fn,tmps,assign,body,hy,hR⟩:=YV.out
    have HRR:=hid hR
    clear hR
    gi_wp2
    refine HRR.out.mono ?_
    rintro e W3 (⟨rfl,hJ3,hk3⟩|⟨rfl,hJx3⟩)
    ·have HK3:=hid hk3
     have HJ3:=hid hJ3
     clear hk3 hJ3 HRR YV hy
     gi_wp2
     go_roundw
     case rel=>exact ⟨m+1,_,by go_num,by omega,HP2.out,HJ3.out,(HK.out.below (Af (Below.refl _ _))).trans HK3.out⟩
     case measure=>simp [intOf];omega
    ·have HJX:=hid hJx3
     clear hJx3 HRR YV hy
     gi_wp2
     refine bodyPost_ret (results_none rfl _ _ _) rfl ?_
     exact ⟨⟨_,rfl⟩,.inr ⟨_,by rw [HP2.out];exact EP.out,HJX.out⟩⟩
  ·have hme:m=xs.length:=by omega
   subst hme
   have d1:=(hk.blk n1 HW1.out).cell
   have d2:=(hk.blk n2 HW2.out).cell
   have e1:=(hk.blk n1 HW1.out).lt
   have e2:=(hk.blk n2 HW2.out).lt
   clear hk
   gi_wp2
   refine bodyPost_end (results_none rfl _ _ _) rfl ?_
   exact ⟨⟨_,rfl⟩,.inl ⟨_,HPRE.out,HJP.out⟩⟩
theorem othp_stops (n:Nat) (hn:1≤n) (N:Nat→Prop) (xs ys:List Pl) (hl:ys.length=xs.length) (pa pb:Option Addr) (ca cb:Nat) (b1 b2:Nat) (w:World) (h1:Blk w b1 27 #[.slice pa xs.length ca]) (h2:Blk w b2 27 #[.slice pb ys.length cb]) (n1:N b1) (n2:N b2)
 (hx:Au w pa xs) (hy:Au w pb ys) (nx:xs=[]∨∀q,pa=some q→N q.block) (ny:ys=[]∨∀q,pb=some q→N q.block) :
 SeqStopsK Fence.wide n prog 58 #[.pointer (some ⟨b1,0,none⟩),.pointer (some ⟨b2,0,none⟩)] (fun z:Fin xs.length=>#[.int .i64 (z.1:Int),.agg #[.int .i64 (ys.getD z.1 ⟨0,0⟩).kind,.int .i64 (ys.getD z.1 ⟨0,0⟩).id]]) (KP N) (fun l=>l.map Fin.val=difL xs ys) (fun pre=>pre.map Fin.val <+: difL xs ys) (difL xs ys).length w:=by
 rw [hl] at h2
 intro l J Jx W hWB hJ hJx hY h0
 have hlen:=hx.len
 have hW1:=h1.below hWB h1.lt
 have hW2:=h2.below hWB h2.lt
 have HW1:=hid hW1
 have HW2:=hid hW2
 have HX:=hid (hx.below hWB (Nat.le_refl _))
 have HY2:=hid (hy.below hWB (Nat.le_refl _))
 have HJ:=hid hJ
 have HY:=hid hY
 have H0:=hid h0
 have NX:=hid nx
 have NY:=hid ny
 have HLL:=hid hl
 have c1:=hW1.cell
 have c2:=hW2.cell
 have l1:=hW1.lt
 have l2:=hW2.lt
 have mi:=run_min2 xs.length
 clear hWB hJ hJx hY h0 hx hy nx ny h1 h2 hW1 hW2 hl
 refine callsIn_of_wp func58 rfl trivial ?_ rfl
 simp only [ntmps58,List.size_toArray,List.length_cons,List.length_nil,Nat.reduceAdd,Nat.reduceSub,Array.replicate_succ,Array.replicate_zero,List.push_toArray,List.append_toArray,List.nil_append,List.cons_append]
 gi_wp2
 gi_loopw [4,10] (fun _ k wr=>∃(m:Nat) (pre:List (Fin xs.length)),k=.int .i64 m∧m≤xs.length∧pre.map Fin.val=difTo xs ys m∧J pre wr∧KP N W wr) (fun _ k _=>xs.length-(intOf k).toNat)
 case atStart=>exact ⟨0,[],rfl,Nat.zero_le _,rfl,H0.out,KP.refl _⟩
 case round =>
  obtain ⟨m,pre,rfl,hm,hpre,hJp,hk⟩:=hrel
  have HPRE:=hid hpre
  have HJP:=hid hJp
  have HK:=hid hk
  clear hJp hpre c1 c2 l1 l2 H0
  by_cases hlt:m<xs.length
  ·have hlt2:m<ys.length:=by have:=HLL.out;omega
   have d1:=(hk.blk n1 HW1.out).cell
   have d2:=(hk.blk n2 HW2.out).cell
   have e1:=(hk.blk n1 HW1.out).lt
   have e2:=(hk.blk n2 HW2.out).lt
   obtain ⟨xb,xo,rfl,hxb,u0,u1⟩:=(hk.pls HX.out NX.out).cells hlt
   obtain ⟨yb,yo,rfl,hyb,u2,u3⟩:=(hk.pls HY2.out NY.out).cells hlt2
   have hw:IntKind.i64.wrap ((m:Int)+1)=(m:Int)+1:=IntWalk.i64_in _ (by omega)
   have hq:(m:Int)<(xs.length:Int):=by omega
   have ES:=hid (fun e:xs[m]=ys[m]=>difTo_same (xs:=xs) (ys:=ys) (n:=m) (by rw [List.getElem?_eq_getElem hlt,List.getElem?_eq_getElem hlt2,e]))
   have EM:=hid (fun e:¬xs[m]=ys[m]=>difTo_more (xs:=xs) (ys:=ys) (n:=m) (by rw [List.getElem?_eq_getElem hlt,List.getElem?_eq_getElem hlt2];simpa using e))
   have EP:=hid (difTo_pre (xs:=xs) (ys:=ys) (n:=m+1) (m:=xs.length) hlt)
   have EV:=hid (getP_at hlt2)
   clear hk
   generalize xs[m]=a1 at *
   generalize ys[m]=a2 at *
   obtain ⟨x0,x1⟩:=a1
   obtain ⟨y0,y1⟩:=a2
   simp only at u0 u1 u2 u3
   have hrun:=Kj x0 x1 y0 y1
   by_cases he:(⟨x0,x1⟩:Pl)=⟨y0,y1⟩
   ·have HE:=hid (ES.out he)
    simp only [he,decide_true,Bool.not_true] at hrun
    clear he ES EM EP HY EV
    gi_wp2
    refine wpIn_region_quiet_lit rfl (by kernel_rfl) (by kernel_rfl) ?_
    repeat (gi_big_quiet_step (fail))
    refine BigFrame.wpQuietIn_skip (fun _ _ _ _=>trivial) rfl ?_
    simp only [Act.put,List.setIfInBounds_toArray,List.set_cons_zero,List.set_cons_succ]
    repeat (gi_big_quiet_step (fail))
    refine wpQuietIn_nil ?_
    rintro _ ⟨nq,rfl⟩
    gi_wp2
    go_roundw
    case rel=>exact ⟨m+1,pre,by go_num,by omega,by rw [HE.out];exact HPRE.out,HJ.out _ _ _ none HJP.out (Cp7 wr nq) (fun r e=>by cases e),HK.out.below (Ib (Below.refl _ _) _)⟩
    case measure=>simp [intOf];omega
   ·have HE:=hid (EM.out he)
    simp only [he,decide_false,Bool.not_false] at hrun
    clear he ES EM
    have YV:=HY.out pre ⟨m,hlt⟩ wr.drew (HJ.out _ _ _ none HJP.out (Cp7 wr 1) (fun r e=>by cases e)) (by
     have:=EP.out.length_le
     rw [HE.out,List.length_append,←HPRE.out,List.length_map] at this
     simp [difL] at this ⊢;omega)
    rw [show (ys.getD (⟨m,hlt⟩:Fin xs.length).1 ⟨0,0⟩)=_ from EV.out] at YV
    have HP2:=hid (show (pre++[(⟨m,hlt⟩:Fin xs.length)]).map Fin.val=difTo xs ys (m+1) by rw [HE.out,List.map_append,HPRE.out];rfl)
    have YV:=hid YV
    clear HY EV
    gi_wp2
    refine still_tail_in 16 (by kernel_rfl) (by kernel_rfl) ?_
    simp only [List.take_succ_cons,List.take_zero,List.drop_succ_cons,List.drop_zero]
    repeat still_step
    refine wpStill_nil ?_
    obtain ⟨fn,tmps,assign,body,hy,hR⟩:=YV.out
    have HRR:=hid hR
    clear hR
    gi_wp2
    refine HRR.out.mono ?_
    rintro e W3 (⟨rfl,hJ3,hk3⟩|⟨rfl,hJx3⟩)
    ·have HK3:=hid hk3
     have HJ3:=hid hJ3
     clear hk3 hJ3 HRR YV hy
     gi_wp2
     go_roundw
     case rel=>exact ⟨m+1,_,by go_num,by omega,HP2.out,HJ3.out,(HK.out.below (Af (Below.refl _ _))).trans HK3.out⟩
     case measure=>simp [intOf];omega
    ·have HJX:=hid hJx3
     clear hJx3 HRR YV hy
     gi_wp2
     refine bodyPost_ret (results_none rfl _ _ _) rfl ?_
     exact ⟨⟨_,rfl⟩,.inr ⟨_,by rw [HP2.out];exact EP.out,HJX.out⟩⟩
  ·have hme:m=xs.length:=by omega
   subst hme
   have d1:=(hk.blk n1 HW1.out).cell
   have d2:=(hk.blk n2 HW2.out).cell
   have e1:=(hk.blk n1 HW1.out).lt
   have e2:=(hk.blk n2 HW2.out).lt
   clear hk
   gi_wp2
   refine bodyPost_end (results_none rfl _ _ _) rfl ?_
   exact ⟨⟨_,rfl⟩,.inl ⟨_,HPRE.out,HJP.out⟩⟩
end
section
open Go.RowKit Go
structure Np (w:World) (x:Wd) (p:Wp) (y:Wd) (q:Wp) (B:Nat) (ty:TypeId) (a1 a2:Value) (Ds:List Nat) (v:Value) (L:List Wr) (W:World):Prop where
 b:Below w.heap.size w W
 h0:Blk W w.heap.size 29 (wC x p)
 h1:Blk W (w.heap.size+1) 29 (wC y q)
 hv:Blk W (w.heap.size+1+1) 41 #[v]
 g:Dt 5 50 wrC (w.heap.size+3) W v L
 b1:Blk W B ty #[a1]
 b2:Blk W (B+1) ty #[a2]
 ds:∀D∈Ds,W.heap[D]?=some (.deferred (some []))
section
variable {w:World} {x y:Wd} {p q:Wp} {B:Nat} {ty:TypeId} {a1 a2 v v':Value} {Ds:List Nat} {L L':List Wr} {W W':World}
theorem Np.call (h:Np w x p y q B ty a1 a2 Ds v L W) (hb:Below W.heap.size W W'):Np w x p y q B ty a1 a2 Ds v L W' :=
 ⟨h.b.trans (hb.mono h.b.size),h.h0.call hb,h.h1.call hb,h.hv.call hb,h.g.call hb,h.b1.call hb,h.b2.call hb,fun D hD=>by
   have:=h.ds D hD
   exact (hb.block D (Array.getElem?_eq_some_iff.1 this).1).trans this⟩
theorem Np.kept {B0:Nat} {row:Option Nat} (h:Np w x p y q B ty a1 a2 Ds v L W) (hg:W.grownBy W' row) (hr:∀r,row=some r→B0≤r∧∃o:Obj,W.heap[r]?=some o∧o.isCells=false) (hB:w.heap.size≤B0) (hD:∀D∈Ds,D<B0) :
 Np w x p y q B ty a1 a2 Ds v L W':=by
 have hbk:∀{g:Nat} {t:TypeId} {cs:Array Value},Blk W g t cs→Blk W' g t cs:=fun hh=>hh.grown hg (fun e=>by
  obtain ⟨_,o,ho,hc⟩:=hr _ e.symm
  rw [show W.heap[_]?=_ from hh] at ho
  cases ho;cases hc)
 refine ⟨h.b.grown hg h.b.size (fun k e=>Nat.le_trans hB (hr k e).1),hbk h.h0,hbk h.h1,hbk h.hv,h.g.grown hg (fun r e ev=>?_),hbk h.b1,hbk h.b2,fun D hD2=>?_⟩
 ·obtain ⟨_,o,ho,hc⟩:=hr r e
  exact h.g.apart_ob ho hc ev.symm
 ·have:=h.ds D hD2
  exact (hg.block D (Array.getElem?_eq_some_iff.1 this).1 (fun e=>by have:=(hr D e.symm).1;have:=hD D hD2;omega)).trans this
theorem Np.mid (h:Np w x p y q B ty a1 a2 Ds v L W) (hg:W.grownBy W' v.ownBlock):Blk W' (w.heap.size+1+1) 41 #[v]:=h.hv.grown hg (h.g.apart_ty h.hv (by decide))
theorem Np.put (h:Np w x p y q B ty a1 a2 Ds v L W) (hty:ty≠50) (hB:w.heap.size+3≤B) (hg:W.grownBy W' v.ownBlock) (hG:Dt 5 50 wrC (w.heap.size+3) W' v' L') :
 Np w x p y q B ty a1 a2 Ds v' L' (W'.setCell ⟨w.heap.size+1+1,0,none⟩ v'):=by
 have hm:=h.mid hg
 have hs:=grownBy_setCell' W' (w.heap.size+1+1) v'
 have hne:∀{g:Nat} {t:TypeId} {cs:Array Value},Blk W g t cs→t≠50→g≠w.heap.size+1+1→Blk (W'.setCell ⟨w.heap.size+1+1,0,none⟩ v') g t cs:=fun hh ht hn =>
  (hh.grown hg (h.g.apart_ty hh ht)).far hn _
 refine ⟨(h.b.grown hg h.b.size (fun k e=>by have:=(h.g.block e).1;omega)).setCell (by show w.heap.size≤w.heap.size+1+1;omega) _,hne h.h0 (by decide) (by omega),hne h.h1 (by decide) (by omega),hm.set_ 0 _,hG.grown hs (fun r e ev=>by cases e;have:=(hG.block ev).1;omega),hne h.b1 hty (by omega),hne h.b2 hty (by omega),fun D hD=>?_⟩
 have h1:=h.ds D hD
 have h2:=(hg.block D (Array.getElem?_eq_some_iff.1 h1).1 (h.g.apart_ob h1 rfl)).trans h1
 refine (Below.heap_setCell W' _ v' D (fun e=>?_)).trans h2
 have e':D=w.heap.size+1+1:=e
 subst e'
 rw [show W'.heap[_]?=_ from hm] at h2
 cases h2
def NP (w:World) (B:Nat) (b:Nat):Prop:=b<w.heap.size∨b=B∨b=B+1
theorem Np.kp {W0:World} (h:Np w x p y q B ty a1 a2 Ds v L W) (hty:ty≠50) (hB:w.heap.size+3≤B) (hg:W.grownBy W' v.ownBlock) (h0:KP (NP w B) W0 W):KP (NP w B) W0 (W'.setCell ⟨w.heap.size+1+1,0,none⟩ v') :=
 (h0.grown hg (fun b e hn=>by
   rcases hn with hn|hn|hn
   ·have:=(h.g.block e).1;omega
   ·subst hn;exact h.g.apart_ty h.b1 hty e.symm
   ·subst hn;exact h.g.apart_ty h.b2 hty e.symm)).set (by unfold NP;omega) 0 v'
theorem Np.keeps (h:Np w x p y q B ty a1 a2 Ds v L W) (hg:W.grownBy W' v.ownBlock):KeepsOthers W (W'.setCell ⟨w.heap.size+1+1,0,none⟩ v') :=
 (KeepsOthers.of_grownBy hg (fun j o e ho=>by
   obtain ⟨_,cur,hh⟩:=h.g.block e
   rw [show W.heap[_]?=_ from hh] at ho
   cases ho;rfl)).trans (KeepsOthers.setCell _ _ _)
theorem Np.drew (h:Np w x p y q B ty a1 a2 Ds v L W):Np w x p y q B ty a1 a2 Ds v L W.drew:=h.call (Af (Below.refl _ _))
def SP (w:World) (x:Wd) (p:Wp) (y:Wd) (q:Wp) (W:World):Prop:=(∀i,W.cell? ⟨w.heap.size,i,none⟩=((wC x p)[i]?:Option Value))∧∀i,W.cell? ⟨w.heap.size+1,i,none⟩=((wC y q)[i]?:Option Value)
theorem Np.S (h:Np w x p y q B ty a1 a2 Ds v L W):SP w x p y q W:=⟨h.h0.cell,h.h1.cell⟩
theorem Np.midS (h:Np w x p y q B ty a1 a2 Ds v L W) (hg:W.grownBy W' v.ownBlock):SP w x p y q W':=⟨(h.h0.grown hg (h.g.apart_ty h.h0 (by decide))).cell,(h.h1.grown hg (h.g.apart_ty h.h1 (by decide))).cell⟩
theorem Np.fin {W0:World} {B0:Nat} (h:Np w x p y q B ty a1 a2 Ds v L W) (hb:Below W0.heap.size W0 W) (hty:ty≠50) (hB:w.heap.size+3≤B) (hg:W.grownBy W' v.ownBlock) (hG:Dt 5 50 wrC (w.heap.size+3) W' v' L') :
 KeepsFrom B0 W0 (W'.setCell ⟨w.heap.size+1+1,0,none⟩ v')∧KP (NP w B) W0 (W'.setCell ⟨w.heap.size+1+1,0,none⟩ v')∧Np w x p y q B ty a1 a2 Ds v' L' (W'.setCell ⟨w.heap.size+1+1,0,none⟩ v') :=
 ⟨((keeps_call hb).trans (h.keeps hg)).from _,h.kp hty hB hg ((KP.refl W0).below hb),h.put hty hB hg hG⟩
theorem Np.end3 {D1 D2 D3:Nat} (h:Np w x p y q B ty a1 a2 [D2,D1] v L W) (hK:W.heap[D3]?=some (.deferred (some []))) (h1:w.heap.size≤D1) (h2:D1<D2) (h3:D2<D3) :
 (W.putObj D3 (.deferred none)).heap[D2]?=some (.deferred (some []))∧((W.putObj D3 (.deferred none)).putObj D2 (.deferred none)).heap[D1]?=some (.deferred (some [])) ∧
   ∃a c,v=.slice a L.length c∧Dt 5 50 wrC (w.heap.size+3) (((W.putObj D3 (.deferred none)).putObj D2 (.deferred none)).putObj D1 (.deferred none)) (.slice a L.length c) L∧Below w.heap.size w (((W.putObj D3 (.deferred none)).putObj D2 (.deferred none)).putObj D1 (.deferred none)):=by
 have k2:=put_df (o:=.deferred none) (h.ds D2 (by simp)) (show D2≠D3 by omega)
 have k1:=put_df (o:=.deferred none) (put_df (o:=.deferred none) (h.ds D1 (by simp)) (show D1≠D3 by omega)) (show D1≠D2 by omega)
 have g1:=h.g.grown (grownBy_putObj' W D3 (.deferred none)) (fun r e ev=>by cases e;exact h.g.apart_ob hK rfl ev.symm)
 have g2:=g1.grown (grownBy_putObj' _ D2 (.deferred none)) (fun r e ev=>by cases e;exact g1.apart_ob k2 rfl ev.symm)
 have g3:=g2.grown (grownBy_putObj' _ D1 (.deferred none)) (fun r e ev=>by cases e;exact g2.apart_ob k1 rfl ev.symm)
 obtain ⟨a,c,rfl,hO⟩:=g3.own wrC_len
 exact ⟨k2,k1,a,c,rfl,g3,((h.b.trans (belowK_b (w:=w) (Nat.le_refl _) _ D3 _ _ (by omega) hK rfl rfl)).trans (belowK_b (w:=w) (Nat.le_refl _) _ D2 _ _ (by omega) k2 rfl rfl)).trans (belowK_b (w:=w) (Nat.le_refl _) _ D1 _ _ h1 k1 rfl rfl)⟩
end
end
section
open Go.RowKit Go Go.Shelf
attribute [local go_sem] Oper.semAt_some
theorem np_ints {w:World} {a:Option Addr} {xs:List Int} (B:Nat) (h:Ae w a xs):xs=[]∨∀q,a=some q→NP w B q.block:=h.2.imp id (by
 rintro ⟨b,off,rfl,hb,_⟩ q hq
 cases hq
 exact .inl hb)
theorem np_pls {w:World} {a:Option Addr} {xs:List Pl} (B:Nat) (h:Au w a xs):xs=[]∨∀q,a=some q→NP w B q.block:=h.2.imp id (by
 rintro ⟨b,off,rfl,hb,_⟩ q hq
 cases hq
 exact .inl hb)
theorem append_stepI {F:Fence} {n:Nat} {P:Program} {ops:Array Oper} {rest:List Oper} {o:Oper} {a:Act} {Q:Exit→Act→World→Prop} {w:World} (hgd:o.guard=none) (s x:Operand) (t:TypeId)
 (ho:o.op=.call { callee:=.builtin .append,args:=#[s,x],argTypes:=#[t,t] }) (v u v':Value) (w':World) (hs:a.eval s=v) (hx:a.eval x=u)
 (hrun:(Builtin.append_ #[t,t] o.type #[v,u]).run P w=.ok v' w') (h:wpListIn F n P ops Q rest (a.put o.dst v') w'):wpListIn F n P ops Q (o :: rest) a w :=
 wpListIn_plain hgd fun K hK=>by
  unfold Oper.wpIn
  refine ⟨?_,?_⟩
  ·simp [Oper.about,ho,resolve,Target.leads,Sem.run_pure]
  ·rw [Oper.semAt_plain F _ _ (by rw [ho];intro c hc';cases hc')]
   simp [execOp,ho,resolve,invoke,builtin,hs,hx,hrun,Result.andThen]
   exact hK _ _ h
theorem blk_from {β:Type} (B g:Nat) (t:TypeId) (f:β→Array Value):OwnFrom B (fun s W=>Blk W g t (f s)):=fun s X Y row hs hg hr =>
 hs.grown hg (fun e=>by
  obtain ⟨_,o,ho,hc⟩:=hr g e.symm
  rw [show X.heap[g]?=_ from hs] at ho
  cases ho;cases hc)
def fA (y:Wd) (n:Nat):Wr:=⟨0,(n:Int),y.at_.getD n 0,⟨0,0⟩⟩
def fC (y:Wd) (n:Nat):Wr:=⟨1,(n:Int),y.coins.getD n 0,⟨0,0⟩⟩
def fW (y:Wd) (n:Nat):Wr:=⟨2,(n:Int),0,y.wher.getD n ⟨0,0⟩⟩
theorem dif_filter {α:Type} [DecidableEq α] (z:α) {xs ys:List α} (h:ys.length=xs.length):difL xs ys=(List.range xs.length).filter fun n=>!decide (xs.getD n z=ys.getD n z):=by
 unfold difL difTo
 refine List.filter_congr fun n hn=>?_
 have h1:n<xs.length:=List.mem_range.1 hn
 have h2:n<ys.length:=by omega
 simp only [List.getD_eq_getElem?_getD,List.getElem?_eq_getElem h1,List.getElem?_eq_getElem h2,Option.getD_some,Option.some.injEq,decide_not]
theorem from_dif {x y:Wd} (h1:y.at_.length=x.at_.length) (h2:y.coins.length=x.coins.length) (h3:y.wher.length=x.wher.length) :
 ((difL x.at_ y.at_).map (fA y)++(difL x.coins y.coins).map (fC y))++(difL x.wher y.wher).map (fW y)=Ao3 x y:=by
 rw [dif_filter 0 h1,dif_filter 0 h2,dif_filter ⟨0,0⟩ h3,List.append_assoc]
 rfl
theorem snocP {n:Nat} (f:Nat→Wr) (pre:List (Fin n)) (z:Fin n) (L:List Wr):L++((pre++[z]).map Fin.val).map f=(L++(pre.map Fin.val).map f)++[f z.1]:=by simp
theorem pfrom_any (x y:Wd) (p q:Wp) (w:World) (hp:Ab w p x) (hq:Ab w q y) (hL:Like x y) (n1:x.at_.length≤1000) (n2:x.coins.length≤1000) (n3:x.wher.length≤1000) :
 Calls prog 10 #[.agg (wC x p),.agg (wC y q)] w fun e w'=>FromQ w (Ao3 x y) e w':=by
 have HP:=hid hp
 have HQ:=hid hq
 have L1:=hid hL.al
 have L2:=hid hL.cl
 have L3:=hid hL.wl
 have N1:=hid n1
 have N2:=hid n2
 have N3:=hid n3
 clear hp hq hL n1 n2 n3
 unfold FromQ
 rw [←from_dif L1.out L2.out L3.out]
 refine (callsIn_wide (n:=6)).1 ?_
 refine callsIn_of_wp_marks func10 rfl trivial ?_ rfl
 simp only [ntmps10,List.size_toArray,List.length_cons,List.length_nil,Nat.reduceAdd,Nat.reduceSub,Array.replicate_succ,Array.replicate_zero,List.push_toArray,List.append_toArray,List.nil_append,List.cons_append]
 have hb0:Below w.heap.size w (((w.alloc (.cells (wC x p) 29)).alloc (.cells (wC y q) 29)).alloc (.cells #[.slice none 0 0] 41)):=(((Below.refl _ w).alloc (Nat.le_refl _) _).alloc (by simp) _).alloc (by simp;omega) _
 have k0:=((Blk.new w 29 (wC x p)).alloc (.cells (wC y q) 29)).alloc (.cells #[.slice none 0 0] 41)
 have k1:=(Blk.newn (w.alloc (.cells (wC x p) 29)) 29 (wC y q) (n:=w.heap.size+1) (by simp)).alloc (.cells #[.slice none 0 0] 41)
 have k2:=Blk.newn ((w.alloc (.cells (wC x p) 29)).alloc (.cells (wC y q) 29)) 41 #[.slice none 0 0] (n:=w.heap.size+1+1) (by simp)
 have y0:(((w.alloc (.cells (wC x p) 29)).alloc (.cells (wC y q) 29)).alloc (.cells #[.slice none 0 0] 41)).heap.size=w.heap.size+1+1+1:=by simp
 gi_wp2_with (refine ⟨trivial,?_⟩;gi_at_call 28;refine (callsIn_wide.2 (othi_any _ _ _ _ _ _ _)).mono ?_;rintro e w' ⟨rfl,rfl⟩)
 have cb:=chgW_below (.slice p.at_ x.at_.length p.atc) (.slice q.at_ y.at_.length q.atc) 23 (((w.alloc (.cells (wC x p) 29)).alloc (.cells (wC y q) 29)).alloc (.cells #[.slice none 0 0] 41))
 have ca:=chgW_a (.slice p.at_ x.at_.length p.atc) (.slice q.at_ y.at_.length q.atc) 23 (((w.alloc (.cells (wC x p) 29)).alloc (.cells (wC y q) 29)).alloc (.cells #[.slice none 0 0] 41))
 have cc:=chgW_b (.slice p.at_ x.at_.length p.atc) (.slice q.at_ y.at_.length q.atc) 23 (((w.alloc (.cells (wC x p) 29)).alloc (.cells (wC y q) 29)).alloc (.cells #[.slice none 0 0] 41))
 rw [y0] at ca cc
 have nd:Np w x p y q (w.heap.size+1+1+1) 23 (.slice p.at_ x.at_.length p.atc) (.slice q.at_ y.at_.length q.atc) [] (.slice none 0 0) [] (chgW (.slice p.at_ x.at_.length p.atc) (.slice q.at_ y.at_.length q.atc) 23 (((w.alloc (.cells (wC x p) 29)).alloc (.cells (wC y q) 29)).alloc (.cells #[.slice none 0 0] 41))):=⟨hb0.trans (cb.mono hb0.size),k0.call cb,k1.call cb,k2.call cb,Dt.nil _,ca,cc,by simp⟩
 have hB3:w.heap.size+3≤w.heap.size+1+1+1:=by omega
 generalize chgW (.slice p.at_ x.at_.length p.atc) (.slice q.at_ y.at_.length q.atc) 23 (((w.alloc (.cells (wC x p) 29)).alloc (.cells (wC y q) 29)).alloc (.cells #[.slice none 0 0] 41))=V1 at *
 clear hb0 k0 k1 k2 y0 ca cb cc
 have HB3:=hid hB3
 clear hB3
 have hD:∀D∈([]:List Nat),D<V1.heap.size:=fun D hD=>(Array.getElem?_eq_some_iff.1 (nd.ds D hD)).1
 have HD:=hid hD
 clear hD
 have hbw:=nd.b
 refine wpIn_rangeFunc_ownH rfl (by omega) (gf:=57) (lb:=#[.pointer (some ⟨w.heap.size+1+1+1,0,none⟩),.pointer (some ⟨w.heap.size+1+1+1+1,0,none⟩)]) rfl trivial (enters_of func57 (by kernel_rfl) rfl)
  (othi_stops (6-1) (by omega) (NP w (w.heap.size+1+1+1)) x.at_ y.at_ L1.out _ _ _ _ (w.heap.size+1+1+1) (w.heap.size+1+1+1+1) V1 nd.b1 nd.b2 (.inr (.inl rfl)) (.inr (.inr rfl)) (HP.out.at_.below hbw (Nat.le_refl _)) (HQ.out.at_.below hbw (Nat.le_refl _)) (np_ints _ HP.out.at_) (np_ints _ HQ.out.at_)) KP.trans (fun W l o o' _ hl hc _=>KP.put W l o o' hl hc) (Below.refl _ _) (fun _=>rfl)
  (fun pre W=>∃v,Np w x p y q (w.heap.size+1+1+1) 23 (.slice p.at_ x.at_.length p.atc) (.slice q.at_ y.at_.length q.atc) [] v (([]:List Wr)++(pre.map Fin.val).map (fA y)) W)
  (fun _ _ _=>False)
  (fun s X Y row hs hg hr=>hs.imp fun v h=>h.kept hg hr nd.b.size HD.out)
  (fun _ _ _ _ _ hs _ _=>hs)
  ⟨_,by simpa using nd⟩
  (fun z a' _=>a'={ tmps:=#[.agg (wC x p),.agg (wC y q),.pointer (some ⟨w.heap.size,0,none⟩),.pointer (some ⟨w.heap.size+1,0,none⟩),.slice none 0 0,.pointer (some ⟨w.heap.size+1+1,0,none⟩),.int .i64 (z.1:Int),.int .i64 (y.at_.getD z.1 0),undef,undef,undef,undef,.pointer (some ⟨w.heap.size,8,none⟩),.slice p.at_ x.at_.length p.atc,.pointer (some ⟨w.heap.size+1,8,none⟩),.slice q.at_ y.at_.length q.atc,.func (.func 57) #[] #[.pointer (some ⟨w.heap.size+1+1+1,0,none⟩),.pointer (some ⟨w.heap.size+1+1+1+1,0,none⟩)],.int .i64 (z.1:Int),.int .i64 (y.at_.getD z.1 0),undef,undef,undef,undef,undef,undef,undef,undef,undef,undef,undef,undef,undef,undef,undef,undef,undef,undef,undef,undef,undef,undef,undef,undef,undef,undef,undef,undef,undef,undef,undef,undef,undef],defers:=[] })
  (fun _ _ _ _ _ _ hs _ _=>hs)
  ?assign ?body ?done ?stop
 case assign =>
  rintro l pre z W K hI hK
  gi_wp2
  exact hK _ _ (KeepsFrom.refl _ _) (KP.refl _) hI rfl
 case body =>
  rintro l pre z a' W hl _ ⟨v,nd⟩ rfl hlt
  have ND:=hid nd
  have HLEN:=hid (show (([]:List Wr)++(pre.map Fin.val).map (fA y)).length+1≤1000000 by
   have u1:=difL_len x.at_ y.at_
   have u2:=difL_len x.coins y.coins
   have u3:=difL_len x.wher y.wher
   have u4:=N1.out
   have u5:=N2.out
   have u6:=N3.out
   simp only [List.length_append,List.length_map,List.length_nil] at *;omega)
  have cv:W.cell? ⟨w.heap.size+1+1,0,none⟩=some v:=(nd.hv.cell 0).trans rfl
  have lv:=nd.hv.lt
  obtain ⟨z,hz⟩:=z
  obtain ⟨v',W9,hr,hG,hg⟩:=ND.out.g.one (t:=41) underlying41 wr_info rfl (by decide) (by decide) wrC_len wrC_one (⟨0,(z:Int),y.at_.getD z 0,⟨0,0⟩⟩:Wr) HLEN.out (by have:=ND.out.b2.lt;have:=HB3.out;omega)
  have HR:=hid (show (Builtin.append_ #[41,41] 41 #[v,.slice (some ⟨W.heap.size,0,none⟩) 1 1]).run prog (W.alloc (.cells #[.int .i64 0,.int .i64 (z:Int),.int .i64 (y.at_.getD z 0),.int .i64 0,.int .i64 0] 50))=.ok v' W9 from hr)
  obtain ⟨va,vm,vc,rfl⟩:=hG.form
  have HG:=hid hG
  have HGR:=hid hg
  have cm:=(ND.out.mid HGR.out).cell
  have fm:=(ND.out.mid HGR.out).frozen
  have lm:=(ND.out.mid HGR.out).lt
  clear hr hG hg nd hlt hbw
  dsimp only
  gi_wp2_with (gi_at_builtin;refine append_stepI rfl (.tmp 19) (.tmp 23) 41 rfl _ _ _ W9 rfl rfl HR.out ?_)
  exact ⟨(ND.out.fin (Below.refl _ _) (by decide) HB3.out HGR.out HG.out).1,(ND.out.fin (B0:=0) (Below.refl _ _) (by decide) HB3.out HGR.out HG.out).2.1,.slice va vm vc,by rw [snocP];exact (ND.out.fin (B0:=0) (Below.refl _ _) (by decide) HB3.out HGR.out HG.out).2.2⟩
 case stop =>
  rintro D c pre W _ _ h _
  exact h.elim
 case done =>
  rintro D1 ys W1 hD1 hS ⟨v,nd⟩ hK
  rw [hS,List.nil_append] at nd
  have c0:=nd.h0.cell
  have c1:=nd.h1.cell
  have l0:=nd.h0.lt
  have l1:=nd.h1.lt
  have cv:W1.cell? ⟨w.heap.size+1+1,0,none⟩=some v:=(nd.hv.cell 0).trans rfl
  have lv:=nd.hv.lt
  have OD1:=hid (show w.heap.size≤D1 from Nat.le_trans hbw.size hD1)
  clear hbw
  gi_wp2_with (refine ⟨trivial,?_⟩;gi_at_call 28;refine (callsIn_wide.2 (othi_any _ _ _ _ _ _ _)).mono ?_;rintro e w' ⟨rfl,rfl⟩)
  have cb:=chgW_below (.slice p.co x.coins.length p.coc) (.slice q.co y.coins.length q.coc) 23 W1
  have ca:=chgW_a (.slice p.co x.coins.length p.coc) (.slice q.co y.coins.length q.coc) 23 W1
  have cc:=chgW_b (.slice p.co x.coins.length p.coc) (.slice q.co y.coins.length q.coc) 23 W1
  have hB3:w.heap.size+3≤W1.heap.size:=by have:=nd.b2.lt;have:=HB3.out;omega
  have nx:=nd.call cb
  have hds:∀D∈([D1]:List Nat),(chgW (.slice p.co x.coins.length p.coc) (.slice q.co y.coins.length q.coc) 23 W1).heap[D]?=some (.deferred (some [])):=fun D hD=>by
   rcases List.mem_cons.1 hD with rfl|hD
   ·exact (cb.block _ (Array.getElem?_eq_some_iff.1 hK).1).trans hK
   ·exact nx.ds _ hD
  replace nd:Np w x p y q (W1.heap.size) 23 (.slice p.co x.coins.length p.coc) (.slice q.co y.coins.length q.coc) [D1] v ((difL x.at_ y.at_).map (fA y)) (chgW (.slice p.co x.coins.length p.coc) (.slice q.co y.coins.length q.coc) 23 W1):=⟨nx.b,nx.h0,nx.h1,nx.hv,nx.g,ca,cc,hds⟩
  clear nx hds hK HB3 HD
  generalize chgW (.slice p.co x.coins.length p.coc) (.slice q.co y.coins.length q.coc) 23 W1=V2 at *
  clear ca cb cc c0 c1 l0 l1 cv lv
  have HB3:=hid hB3
  clear hB3
  have hD:∀D∈([D1]:List Nat),D<V2.heap.size:=fun D hD=>(Array.getElem?_eq_some_iff.1 (nd.ds D hD)).1
  have HD:=hid hD
  clear hD
  have hbw:=nd.b
  refine wpIn_rangeFunc_ownH rfl (by omega) (gf:=57) (lb:=#[.pointer (some ⟨W1.heap.size,0,none⟩),.pointer (some ⟨W1.heap.size+1,0,none⟩)]) rfl trivial (enters_of func57 (by kernel_rfl) rfl)
   (othi_stops (6-1) (by omega) (NP w (W1.heap.size)) x.coins y.coins L2.out _ _ _ _ (W1.heap.size) (W1.heap.size+1) V2 nd.b1 nd.b2 (.inr (.inl rfl)) (.inr (.inr rfl)) (HP.out.co.below hbw (Nat.le_refl _)) (HQ.out.co.below hbw (Nat.le_refl _)) (np_ints _ HP.out.co) (np_ints _ HQ.out.co)) KP.trans (fun W l o o' _ hl hc _=>KP.put W l o o' hl hc) (Below.refl _ _) (fun _=>rfl)
   (fun pre W=>∃v,Np w x p y q (W1.heap.size) 23 (.slice p.co x.coins.length p.coc) (.slice q.co y.coins.length q.coc) [D1] v (((difL x.at_ y.at_).map (fA y))++(pre.map Fin.val).map (fC y)) W)
   (fun _ _ _=>False)
   (fun s X Y row hs hg hr=>hs.imp fun v h=>h.kept hg hr nd.b.size HD.out)
   (fun _ _ _ _ _ hs _ _=>hs)
   ⟨_,by simpa using nd⟩
   (fun z a' _=>a'={ tmps:=#[.agg (wC x p),.agg (wC y q),.pointer (some ⟨w.heap.size,0,none⟩),.pointer (some ⟨w.heap.size+1,0,none⟩),.slice none 0 0,.pointer (some ⟨w.heap.size+1+1,0,none⟩),undef,undef,.int .i64 (z.1:Int),.int .i64 (y.coins.getD z.1 0),undef,undef,.pointer (some ⟨w.heap.size,8,none⟩),.slice p.at_ x.at_.length p.atc,.pointer (some ⟨w.heap.size+1,8,none⟩),.slice q.at_ y.at_.length q.atc,.func (.func 57) #[] #[.pointer (some ⟨w.heap.size+1+1+1,0,none⟩),.pointer (some ⟨w.heap.size+1+1+1+1,0,none⟩)],undef,undef,undef,undef,undef,undef,undef,undef,.pointer (some ⟨w.heap.size,9,none⟩),.slice p.co x.coins.length p.coc,.pointer (some ⟨w.heap.size+1,9,none⟩),.slice q.co y.coins.length q.coc,.func (.func 57) #[] #[.pointer (some ⟨W1.heap.size,0,none⟩),.pointer (some ⟨W1.heap.size+1,0,none⟩)],.int .i64 (z.1:Int),.int .i64 (y.coins.getD z.1 0),undef,undef,undef,undef,undef,undef,undef,undef,undef,undef,undef,undef,undef,undef,undef,undef,undef,undef,undef,undef],defers:=[] })
   (fun _ _ _ _ _ _ hs _ _=>hs)
   ?assign ?body ?done ?stop
  case assign =>
   rintro l pre z W K hI hK
   gi_wp2
   exact hK _ _ (KeepsFrom.refl _ _) (KP.refl _) hI rfl
  case body =>
   rintro l pre z a' W hl _ ⟨v,nd⟩ rfl hlt
   have ND:=hid nd
   have HLEN:=hid (show (((difL x.at_ y.at_).map (fA y))++(pre.map Fin.val).map (fC y)).length+1≤1000000 by
    have u1:=difL_len x.at_ y.at_
    have u2:=difL_len x.coins y.coins
    have u3:=difL_len x.wher y.wher
    have u4:=N1.out
    have u5:=N2.out
    have u6:=N3.out
    simp only [List.length_append,List.length_map] at *;omega)
   have cv:W.cell? ⟨w.heap.size+1+1,0,none⟩=some v:=(nd.hv.cell 0).trans rfl
   have lv:=nd.hv.lt
   obtain ⟨z,hz⟩:=z
   obtain ⟨v',W9,hr,hG,hg⟩:=ND.out.g.one (t:=41) underlying41 wr_info rfl (by decide) (by decide) wrC_len wrC_one (⟨1,(z:Int),y.coins.getD z 0,⟨0,0⟩⟩:Wr) HLEN.out (by have:=ND.out.b2.lt;have:=HB3.out;omega)
   have HR:=hid (show (Builtin.append_ #[41,41] 41 #[v,.slice (some ⟨W.heap.size,0,none⟩) 1 1]).run prog (W.alloc (.cells #[.int .i64 1,.int .i64 (z:Int),.int .i64 (y.coins.getD z 0),.int .i64 0,.int .i64 0] 50))=.ok v' W9 from hr)
   obtain ⟨va,vm,vc,rfl⟩:=hG.form
   have HG:=hid hG
   have HGR:=hid hg
   have cm:=(ND.out.mid HGR.out).cell
   have fm:=(ND.out.mid HGR.out).frozen
   have lm:=(ND.out.mid HGR.out).lt
   clear hr hG hg nd hlt hbw
   dsimp only
   gi_wp2_with (gi_at_builtin;refine append_stepI rfl (.tmp 32) (.tmp 36) 41 rfl _ _ _ W9 rfl rfl HR.out ?_)
   exact ⟨(ND.out.fin (Below.refl _ _) (by decide) HB3.out HGR.out HG.out).1,(ND.out.fin (B0:=0) (Below.refl _ _) (by decide) HB3.out HGR.out HG.out).2.1,.slice va vm vc,by rw [snocP];exact (ND.out.fin (B0:=0) (Below.refl _ _) (by decide) HB3.out HGR.out HG.out).2.2⟩
  case stop =>
   rintro D c pre W _ _ h _
   exact h.elim
  case done =>
   rintro D2 ys W2 hD2 hS ⟨v,nd⟩ hK
   rw [hS] at nd
   have c0:=nd.h0.cell
   have c1:=nd.h1.cell
   have l0:=nd.h0.lt
   have l1:=nd.h1.lt
   have cv:W2.cell? ⟨w.heap.size+1+1,0,none⟩=some v:=(nd.hv.cell 0).trans rfl
   have lv:=nd.hv.lt
   have OD2:=hid (show D1<D2 from Nat.lt_of_lt_of_le (HD.out D1 (by simp)) hD2)
   clear hbw
   gi_wp2_with (refine ⟨trivial,?_⟩;gi_at_call 29;refine (callsIn_wide.2 (othp_any _ _ _ _ _ _ _)).mono ?_;rintro e w' ⟨rfl,rfl⟩)
   have cb:=chgW_below (.slice p.wh x.wher.length p.whc) (.slice q.wh y.wher.length q.whc) 27 W2
   have ca:=chgW_a (.slice p.wh x.wher.length p.whc) (.slice q.wh y.wher.length q.whc) 27 W2
   have cc:=chgW_b (.slice p.wh x.wher.length p.whc) (.slice q.wh y.wher.length q.whc) 27 W2
   have hB3:w.heap.size+3≤W2.heap.size:=by have:=nd.b2.lt;have:=HB3.out;omega
   have nx:=nd.call cb
   have hds:∀D∈([D2,D1]:List Nat),(chgW (.slice p.wh x.wher.length p.whc) (.slice q.wh y.wher.length q.whc) 27 W2).heap[D]?=some (.deferred (some [])):=fun D hD=>by
    rcases List.mem_cons.1 hD with rfl|hD
    ·exact (cb.block _ (Array.getElem?_eq_some_iff.1 hK).1).trans hK
    ·exact nx.ds _ hD
   replace nd:Np w x p y q (W2.heap.size) 27 (.slice p.wh x.wher.length p.whc) (.slice q.wh y.wher.length q.whc) [D2,D1] v ((difL x.at_ y.at_).map (fA y)++(difL x.coins y.coins).map (fC y)) (chgW (.slice p.wh x.wher.length p.whc) (.slice q.wh y.wher.length q.whc) 27 W2):=⟨nx.b,nx.h0,nx.h1,nx.hv,nx.g,ca,cc,hds⟩
   clear nx hds hK HB3 HD
   generalize chgW (.slice p.wh x.wher.length p.whc) (.slice q.wh y.wher.length q.whc) 27 W2=V3 at *
   clear ca cb cc c0 c1 l0 l1 cv lv
   have HB3:=hid hB3
   clear hB3
   have hD:∀D∈([D2,D1]:List Nat),D<V3.heap.size:=fun D hD=>(Array.getElem?_eq_some_iff.1 (nd.ds D hD)).1
   have HD:=hid hD
   clear hD
   have hbw:=nd.b
   refine wpIn_rangeFunc_ownH rfl (by omega) (gf:=58) (lb:=#[.pointer (some ⟨W2.heap.size,0,none⟩),.pointer (some ⟨W2.heap.size+1,0,none⟩)]) rfl trivial (enters_of func58 (by kernel_rfl) rfl)
    (othp_stops (6-1) (by omega) (NP w (W2.heap.size)) x.wher y.wher L3.out _ _ _ _ (W2.heap.size) (W2.heap.size+1) V3 nd.b1 nd.b2 (.inr (.inl rfl)) (.inr (.inr rfl)) (HP.out.wh.below hbw (Nat.le_refl _)) (HQ.out.wh.below hbw (Nat.le_refl _)) (np_pls _ HP.out.wh) (np_pls _ HQ.out.wh)) KP.trans (fun W l o o' _ hl hc _=>KP.put W l o o' hl hc) (Below.refl _ _) (fun _=>rfl)
    (fun pre W=>∃v,Np w x p y q (W2.heap.size) 27 (.slice p.wh x.wher.length p.whc) (.slice q.wh y.wher.length q.whc) [D2,D1] v (((difL x.at_ y.at_).map (fA y)++(difL x.coins y.coins).map (fC y))++(pre.map Fin.val).map (fW y)) W)
    (fun _ _ _=>False)
    (fun s X Y row hs hg hr=>hs.imp fun v h=>h.kept hg hr nd.b.size HD.out)
    (fun _ _ _ _ _ hs _ _=>hs)
    ⟨_,by simpa using nd⟩
    (fun z a' W=>∃Bx,W2.heap.size+1<Bx∧Blk W Bx 48 #[.int .i64 (y.wher.getD z.1 ⟨0,0⟩).kind,.int .i64 (y.wher.getD z.1 ⟨0,0⟩).id]∧a'={ tmps:=#[.agg (wC x p),.agg (wC y q),.pointer (some ⟨w.heap.size,0,none⟩),.pointer (some ⟨w.heap.size+1,0,none⟩),.slice none 0 0,.pointer (some ⟨w.heap.size+1+1,0,none⟩),undef,undef,undef,undef,.int .i64 (z.1:Int),.pointer (some ⟨Bx,0,none⟩),.pointer (some ⟨w.heap.size,8,none⟩),.slice p.at_ x.at_.length p.atc,.pointer (some ⟨w.heap.size+1,8,none⟩),.slice q.at_ y.at_.length q.atc,.func (.func 57) #[] #[.pointer (some ⟨w.heap.size+1+1+1,0,none⟩),.pointer (some ⟨w.heap.size+1+1+1+1,0,none⟩)],undef,undef,undef,undef,undef,undef,undef,undef,.pointer (some ⟨w.heap.size,9,none⟩),.slice p.co x.coins.length p.coc,.pointer (some ⟨w.heap.size+1,9,none⟩),.slice q.co y.coins.length q.coc,.func (.func 57) #[] #[.pointer (some ⟨W1.heap.size,0,none⟩),.pointer (some ⟨W1.heap.size+1,0,none⟩)],undef,undef,undef,undef,undef,undef,undef,undef,.pointer (some ⟨w.heap.size,10,none⟩),.slice p.wh x.wher.length p.whc,.pointer (some ⟨w.heap.size+1,10,none⟩),.slice q.wh y.wher.length q.whc,.func (.func 58) #[] #[.pointer (some ⟨W2.heap.size,0,none⟩),.pointer (some ⟨W2.heap.size+1,0,none⟩)],.int .i64 (z.1:Int),.agg #[.int .i64 (y.wher.getD z.1 ⟨0,0⟩).kind,.int .i64 (y.wher.getD z.1 ⟨0,0⟩).id],undef,undef,undef,undef,undef,undef,undef],defers:=[] })
    (fun z a' _ X Y row hs hg hr=>by obtain ⟨Bx,h1,h2,h3⟩:=hs;exact ⟨Bx,h1,blk_from V3.heap.size Bx 48 (fun (_:Unit)=>#[.int .i64 (y.wher.getD z.1 ⟨0,0⟩).kind,.int .i64 (y.wher.getD z.1 ⟨0,0⟩).id]) () X Y row h2 hg hr,h3⟩)
    ?assign ?body ?done ?stop
   case assign =>
    rintro l pre z W K ⟨v,nd⟩ hK
    gi_wp2
    have cb:=(Below.refl W.heap.size W).alloc (Nat.le_refl _) (.cells #[.int .i64 (y.wher.getD z.1 ⟨0,0⟩).kind,.int .i64 (y.wher.getD z.1 ⟨0,0⟩).id] 48)
    exact hK _ _ ((KeepsOthers.alloc _ _).from _) ((KP.refl W).below cb) ⟨v,nd.call cb⟩ ⟨W.heap.size,nd.b2.lt,Blk.new W _ _,rfl⟩
   case body =>
    rintro l pre z a' W hl _ ⟨v,nd⟩ ⟨Bx,hBx,bX,rfl⟩ hlt
    have ND:=hid nd
    have HLEN:=hid (show (((difL x.at_ y.at_).map (fA y)++(difL x.coins y.coins).map (fC y))++(pre.map Fin.val).map (fW y)).length+1≤1000000 by
     have u1:=difL_len x.at_ y.at_
     have u2:=difL_len x.coins y.coins
     have u3:=difL_len x.wher y.wher
     have u4:=N1.out
     have u5:=N2.out
     have u6:=N3.out
     simp only [List.length_append,List.length_map] at *;omega)
    have cv:W.cell? ⟨w.heap.size+1+1,0,none⟩=some v:=(nd.hv.cell 0).trans rfl
    have lv:=nd.hv.lt
    have cX:=bX.cell
    have lX:=bX.lt
    obtain ⟨z,hz⟩:=z
    obtain ⟨v',W9,hr,hG,hg⟩:=ND.out.g.one (t:=41) underlying41 wr_info rfl (by decide) (by decide) wrC_len wrC_one (⟨2,(z:Int),0,y.wher.getD z ⟨0,0⟩⟩:Wr) HLEN.out (by have:=ND.out.b2.lt;have:=HB3.out;omega)
    have HR:=hid (show (Builtin.append_ #[41,41] 41 #[v,.slice (some ⟨W.heap.size,0,none⟩) 1 1]).run prog (W.alloc (.cells #[.int .i64 2,.int .i64 (z:Int),.int .i64 0,.int .i64 (y.wher.getD z ⟨0,0⟩).kind,.int .i64 (y.wher.getD z ⟨0,0⟩).id] 50))=.ok v' W9 from hr)
    obtain ⟨va,vm,vc,rfl⟩:=hG.form
    have HG:=hid hG
    have HGR:=hid hg
    have cm:=(ND.out.mid HGR.out).cell
    have fm:=(ND.out.mid HGR.out).frozen
    have lm:=(ND.out.mid HGR.out).lt
    clear hr hG hg nd hlt hbw bX
    dsimp only
    gi_wp2_with (gi_at_builtin;refine append_stepI rfl (.tmp 45) (.tmp 49) 41 rfl _ _ _ W9 rfl rfl HR.out ?_)
    exact ⟨(ND.out.fin (Below.refl _ _) (by decide) HB3.out HGR.out HG.out).1,(ND.out.fin (B0:=0) (Below.refl _ _) (by decide) HB3.out HGR.out HG.out).2.1,.slice va vm vc,by have h9:=(ND.out.fin (B0:=0) (Below.refl _ _) (by decide) HB3.out HGR.out HG.out).2.2;have e9:=snocP (fW y) pre ⟨z,hz⟩ ((difL x.at_ y.at_).map (fA y)++(difL x.coins y.coins).map (fC y));rw [show (((difL x.at_ y.at_).map (fA y)++(difL x.coins y.coins).map (fC y))++(pre.map Fin.val).map (fW y))++[(⟨2,(z:Int),0,y.wher.getD z ⟨0,0⟩⟩:Wr)]=_ from e9.symm] at h9;simpa using h9⟩
   case stop =>
    rintro D c pre W _ _ h _
    exact h.elim
   case done =>
    rintro D3 ys W3 hD3 hS ⟨v,nd⟩ hK
    rw [hS] at nd
    have OD3:=hid (show D2<D3 from Nat.lt_of_lt_of_le (HD.out D2 (by simp)) hD3)
    obtain ⟨k2,k1,a,c,rfl,hG,hB⟩:=nd.end3 hK OD1.out OD2.out OD3.out
    have HGW:=hid hG
    have HBW:=hid hB
    have cv:W3.cell? ⟨w.heap.size+1+1,0,none⟩=some (.slice a (((difL x.at_ y.at_).map (fA y)++(difL x.coins y.coins).map (fC y))++(difL x.wher y.wher).map (fW y)).length c):=(nd.hv.cell 0).trans rfl
    have lv:=nd.hv.lt
    clear nd hbw hG hB hS
    gi_wp2
    refine ⟨by simp,.inl ⟨_,_,rfl,run_takeDeferred hK,?_⟩⟩
    refine ⟨by simp,.inl ⟨_,_,rfl,run_takeDeferred k2,?_⟩⟩
    refine ⟨by simp,.inl ⟨_,_,rfl,run_takeDeferred k1,?_⟩⟩
    exact ⟨_,results_tmp rfl _ _ _,a,c,by show Ending.returned (.slice a ((difL x.at_ y.at_).length+((difL x.coins y.coins).length+(difL x.wher y.wher).length)) c)=_;simp,HGW.out.wrc,HBW.out⟩
end
section
open Go.RowKit Go.ChangeMaps Go.MapKept
def KT (W W':World):Prop:=W.heap.size≤W'.heap.size∧∀(g:Nat) (o:Obj),W.heap[g]?=some o→(∀cs f,o≠.cells cs 3 f∧o≠.cells cs 48 f)→W'.heap[g]?=some o
theorem KT.refl (W:World):KT W W:=⟨Nat.le_refl _,fun _ _ h _=>h⟩
theorem KT.trans {A B C:World} (h:KT A B) (k:KT B C):KT A C:=⟨Nat.le_trans h.1 k.1,fun g o e n=>k.2 g o (h.2 g o e n) n⟩
theorem KT.below {W W':World} (hb:Below W.heap.size W W'):KT W W':=⟨hb.size,fun g o e _=>(hb.block g (Array.getElem?_eq_some_iff.1 e).1).trans e⟩
theorem KT.set {A W:World} (h:KT A W) {b:Nat} {t:TypeId} {cs:Array Value} (hb:Blk W b t cs) (ht:t=3∨t=48) (i:Nat) (v:Value):KT A (W.setCell ⟨b,i,none⟩ v) :=
 ⟨by have:=h.1;simp [World.setCell];omega,fun g o e n=>by
   have e2:=h.2 g o e n
   refine (Below.heap_setCell W ⟨b,i,none⟩ v g (fun hg=>?_)).trans e2
   subst hg
   rw [show W.heap[_]?=_ from hb] at e2
   cases e2
   rcases ht with rfl|rfl
   ·exact (n _ _).1 rfl
   ·exact (n _ _).2 rfl⟩
theorem KT.blk {A W:World} {g:Nat} {t:TypeId} {cs:Array Value} (h:KT A W) (hb:Blk A g t cs) (h1:t≠3) (h2:t≠48):Blk W g t cs :=
 h.2 g _ hb fun cs f=>⟨fun e=>by cases e;exact h1 rfl,fun e=>by cases e;exact h2 rfl⟩
theorem OwnR.blk_ {α:Type} {k:Nat} {e:TypeId} {enc:α→List Value} {n g:Nat} {W:World} {xs:List α} (h:OwnR k e enc n W (some ⟨g,0,none⟩) xs):∃cs,Blk W g e cs:=by
 rcases h.2 with ⟨_,h2⟩|⟨b,bs,h2,_,hb,_⟩
 ·cases h2
 ·cases h2;exact ⟨bs,hb⟩
def Chg (n:Nat) (q:Wp) (y:Wd) (W:World) (e:Ending) (W':World):Prop:=(∃v,e=.returned v)∧Ao n W' q y∧Below n W W'∧KT W W'
theorem seti_any (g len cap k:Nat) (v u:Int) (W:World) (hk:k<len) (hm:len≤maxLen) (hg:g<W.heap.size) (hc:W.cell? ⟨g,k,none⟩=some (.int .i64 u)) (hf:W.frozen? ⟨g,k,none⟩=false) :
 Calls prog 127 #[.slice (some ⟨g,0,none⟩) len cap,.int .i64 (k:Int),.int .i64 v] W fun e W'=>(∃z,e=.returned z)∧W'=W.setCell ⟨g,k,none⟩ (.int .i64 v):=by
 have h0:(0:Int)≤(k:Int):=by omega
 have h1:(k:Int)<(len:Int):=by omega
 have hWC:=@wC.eq_1
 go_enter func127,ntmps127
 go_wp2_with fail
 refine bodyPost_end (results_none rfl _ _ _) rfl ?_
 exact ⟨⟨_,rfl⟩,rfl⟩
theorem setp_any (g len cap k:Nat) (v u:Pl) (W:World) (hk:k<len) (hm:len≤maxLen) (hg:g<W.heap.size) (hc:W.cell? ⟨g,k*2,none⟩=some (.int .i64 u.kind)) (hd:W.cell? ⟨g,k*2+1,none⟩=some (.int .i64 u.id)) (hf:∀r,W.frozen? ⟨g,r,none⟩=false) :
 Calls prog 128 #[.slice (some ⟨g,0,none⟩) len cap,.int .i64 (k:Int),.agg #[.int .i64 v.kind,.int .i64 v.id]] W fun e W'=>(∃z,e=.returned z)∧W'=((W.alloc (.cells #[.int .i64 v.kind,.int .i64 v.id] 48)).setCell ⟨g,k*2,none⟩ (.int .i64 v.kind)).setCell ⟨g,k*2+1,none⟩ (.int .i64 v.id):=by
 have h0:(0:Int)≤(k:Int):=by omega
 have h1:(k:Int)<(len:Int):=by omega
 have hn:g≠W.heap.size:=by omega
 have hn2:W.heap.size≠g:=by omega
 obtain ⟨vk,vi⟩:=v
 have hWC:=@wC.eq_1
 go_enter func128,ntmps128
 go_wp2_with fail
 refine bodyPost_end (results_none rfl _ _ _) rfl ?_
 exact ⟨⟨_,rfl⟩,rfl⟩
section
variable (n:Nat) (x:Wd) (q:Wp) (k:Nat) (W:World) (ho:Ao n W q x) (hn:n≤W.heap.size)
include ho hn
theorem dbring_any (hk:k<x.at_.length) (v pk pi:Int):Calls prog 99 #[.agg (wC x q),.agg #[.int .i64 0,.int .i64 (k:Int),.int .i64 v,.int .i64 pk,.int .i64 pi]] W (Chg n q ⟨x.d,x.at_.set k v,x.coins,x.wher⟩ W):=by
 obtain ⟨qd,qa,qac,qk,qkc,qw,qwc⟩:=q
 have b0:=(((Below.refl W.heap.size W).alloc (Nat.le_refl _) (.cells (wC x ⟨qd,qa,qac,qk,qkc,qw,qwc⟩) 79)).alloc (by simp) (.cells #[.int .i64 0,.int .i64 (k:Int),.int .i64 v,.int .i64 pk,.int .i64 pi] 50))
 obtain ⟨g,hqg,hg0,hg1,cA,fA,hput⟩:=(ho.call b0).putAt hk
 simp only at hqg
 subst hqg
 have CA:=hid cA
 have FA:=hid fA
 have G0:=hid hg0
 have G1:=hid hg1
 have HPT:=hid hput
 clear cA fA hg0 hg1 hput
 have C0:=hid (Two.start 79 50 W (wC x ⟨qd,some ⟨g,0,none⟩,qac,qk,qkc,qw,qwc⟩) #[.int .i64 0,.int .i64 (k:Int),.int .i64 v,.int .i64 pk,.int .i64 pi])
 clear b0
 have hm:x.at_.length≤maxLen:=ho.world.at_.len
 obtain ⟨m1,m2,m3,_,_,_,_,-,-,ha,-,hc,-,hw⟩:=ho.ex
 have HOO:=hid ha
 have HO:=hid (ho.call C0.out.b)
 have HK:=hid hk
 have HM:=hid hm
 have HN:=hid hn
 clear ho ha hc hw hm hn
 have hWC:=@wC.eq_1
 go_enter func99,ntmps99
 go_wp2_with fail
 obtain ⟨cs,hb⟩:=HOO.out.blk_
 have HBK:=hid (hb.call C0.out.b)
 refine (seti_any g _ _ k v _ _ HK.out HM.out G1.out CA.out FA.out).mono ?_
 rintro e w1 ⟨⟨z,rfl⟩,rfl⟩
 have HP:=hid (HPT.out v)
 clear hb
 go_wp2_with fail
 refine bodyPost_end (results_none rfl _ _ _) rfl ?_
 exact ⟨⟨_,rfl⟩,HP.out,(C0.out.b.mono HN.out).setCell G0.out _,(KT.below C0.out.b).set HBK.out (.inl rfl) _ _⟩
theorem dpay_any (hk:k<x.coins.length) (v pk pi:Int):Calls prog 100 #[.agg (wC x q),.agg #[.int .i64 1,.int .i64 (k:Int),.int .i64 v,.int .i64 pk,.int .i64 pi]] W (Chg n q ⟨x.d,x.at_,x.coins.set k v,x.wher⟩ W):=by
 obtain ⟨qd,qa,qac,qk,qkc,qw,qwc⟩:=q
 have b0:=(((Below.refl W.heap.size W).alloc (Nat.le_refl _) (.cells (wC x ⟨qd,qa,qac,qk,qkc,qw,qwc⟩) 79)).alloc (by simp) (.cells #[.int .i64 1,.int .i64 (k:Int),.int .i64 v,.int .i64 pk,.int .i64 pi] 50))
 obtain ⟨g,hqg,hg0,hg1,cA,fA,hput⟩:=(ho.call b0).putCo hk
 simp only at hqg
 subst hqg
 have CA:=hid cA
 have FA:=hid fA
 have G0:=hid hg0
 have G1:=hid hg1
 have HPT:=hid hput
 clear cA fA hg0 hg1 hput
 have C0:=hid (Two.start 79 50 W (wC x ⟨qd,qa,qac,some ⟨g,0,none⟩,qkc,qw,qwc⟩) #[.int .i64 1,.int .i64 (k:Int),.int .i64 v,.int .i64 pk,.int .i64 pi])
 clear b0
 have hm:x.coins.length≤maxLen:=ho.world.co.len
 obtain ⟨m1,m2,m3,_,_,_,_,-,-,ha,-,hc,-,hw⟩:=ho.ex
 have HOO:=hid hc
 have HO:=hid (ho.call C0.out.b)
 have HK:=hid hk
 have HM:=hid hm
 have HN:=hid hn
 clear ho ha hc hw hm hn
 have hWC:=@wC.eq_1
 go_enter func100,ntmps100
 go_wp2_with fail
 obtain ⟨cs,hb⟩:=HOO.out.blk_
 have HBK:=hid (hb.call C0.out.b)
 refine (seti_any g _ _ k v _ _ HK.out HM.out G1.out CA.out FA.out).mono ?_
 rintro e w1 ⟨⟨z,rfl⟩,rfl⟩
 have HP:=hid (HPT.out v)
 clear hb
 go_wp2_with fail
 refine bodyPost_end (results_none rfl _ _ _) rfl ?_
 exact ⟨⟨_,rfl⟩,HP.out,(C0.out.b.mono HN.out).setCell G0.out _,(KT.below C0.out.b).set HBK.out (.inl rfl) _ _⟩
theorem dlay_any (hk:k<x.wher.length) (v:Int) (y:Pl):Calls prog 101 #[.agg (wC x q),.agg #[.int .i64 2,.int .i64 (k:Int),.int .i64 v,.int .i64 y.kind,.int .i64 y.id]] W (Chg n q ⟨x.d,x.at_,x.coins,x.wher.set k y⟩ W):=by
 obtain ⟨qd,qa,qac,qk,qkc,qw,qwc⟩:=q
 have b0:=(((Below.refl W.heap.size W).alloc (Nat.le_refl _) (.cells (wC x ⟨qd,qa,qac,qk,qkc,qw,qwc⟩) 79)).alloc (by simp) (.cells #[.int .i64 2,.int .i64 (k:Int),.int .i64 v,.int .i64 y.kind,.int .i64 y.id] 50))
 obtain ⟨g,hqg,hg0,hg1,⟨cA,cB⟩,fA,-⟩:=(ho.call b0).putPlace hk
 simp only at hqg
 subst hqg
 have CA:=hid cA
 have CB:=hid cB
 have FA:=hid fA
 have G0:=hid hg0
 have G1:=hid hg1
 clear cA cB fA hg0 hg1
 have C0:=hid (Two.start 79 50 W (wC x ⟨qd,qa,qac,qk,qkc,some ⟨g,0,none⟩,qwc⟩) #[.int .i64 2,.int .i64 (k:Int),.int .i64 v,.int .i64 y.kind,.int .i64 y.id])
 clear b0
 have hm:x.wher.length≤maxLen:=ho.world.wh.len
 obtain ⟨m1,m2,m3,_,_,_,_,-,-,ha,-,hc,-,hw⟩:=ho.ex
 have HOO:=hid hw
 have HO:=hid (ho.call C0.out.b)
 have HK:=hid hk
 have HM:=hid hm
 have HN:=hid hn
 clear ho ha hc hw hm hn
 have hWC:=@wC.eq_1
 go_enter func101,ntmps101
 go_wp2_with fail
 obtain ⟨cs,hb⟩:=HOO.out.blk_
 have HBK:=hid (hb.call C0.out.b)
 refine (setp_any g _ _ k y _ _ HK.out HM.out G1.out CA.out CB.out FA.out).mono ?_
 rintro e w1 ⟨⟨z,rfl⟩,rfl⟩
 obtain ⟨g',hqg',-,-,-,-,hput⟩:=(HO.out.alloc' (.cells #[.int .i64 y.kind,.int .i64 y.id] 48)).putPlace HK.out
 obtain rfl:g'=g:=by simpa using hqg'.symm
 have HP:=hid (hput y)
 have HBL:=hid (C0.out.b.alloc C0.out.b.size (.cells #[.int .i64 y.kind,.int .i64 y.id] 48))
 have HBB:=hid (HBK.out.alloc (.cells #[.int .i64 y.kind,.int .i64 y.id] 48))
 clear hput hb
 go_wp2_with fail
 refine bodyPost_end (results_none rfl _ _ _) rfl ?_
 exact ⟨⟨_,rfl⟩,HP.out,((HBL.out.mono HN.out).setCell G0.out _).setCell G0.out _,((KT.below HBL.out).set HBB.out (.inr rfl) _ _).set (HBB.out.set_ _ _) (.inr rfl) _ _⟩
end
end
section
open Go.RowKit Go.ChangeMaps Go.MapKept
theorem isKeyP (k:Int):IsKey (.int .i64) (.int .i64 k):=by simp [IsKey]
theorem ins_runP (b n:Nat) (es:Array MapEntry) (k:Int) (v:Value) (w:World) (h:w.heap[b]?=some (.map es n)) (hk:∀x∈es.toList,∃j:Int,x.key=.int .i64 j∧j≠k) :
 (Instr.mapUpdate 102 (.map (some b)) (.int .i64 k) v).run prog w=.ok () (setBlock w b (.map (es.push ⟨.int .i64 k,v,n⟩) (n+1))):=by
 have hk1:∀x∈es.toList,IsKey (.int .i64) x.key:=by
  intro x hx;obtain ⟨j,e,_⟩:=hk x hx;rw [e];exact isKeyP j
 have hf:Instr.findNow (.int .i64) (.int .i64 k) es.toList 0=some none:=by
  rcases findNow_spec (isKeyP k) es.toList 0 hk1 with ⟨e,_⟩|⟨j,x,_,e2,e3⟩
  ·exact e
  ·obtain ⟨q,e4,e5⟩:=hk x (List.mem_of_getElem? e2)
   rw [e3] at e4
   obtain rfl:k=q:=by simpa using e4
   exact absurd rfl e5
 simp [Instr.mapUpdate,run_underlying underlying102,MapKept.run_getObj_map h,MapKept.run_checkKey underlying3 (isKeyP k),MapKept.run_findKey underlying3 hf,MapKept.run_setObj_map _ h,Result.andThen,setBlock]
def wrF (k:Int):Nat:=if k=0 then 99 else if k=1 then 100 else 101
def wrE:Array MapEntry:=#[⟨.int .i64 0,.func (.func 99) #[] #[],0⟩,⟨.int .i64 1,.func (.func 100) #[] #[],1⟩,⟨.int .i64 2,.func (.func 101) #[] #[],2⟩]
theorem look_runP (b:Nat) (w:World) (k:Int) (hk:k=0∨k=1∨k=2) (h:w.heap[b]?=some (.map wrE 3)) :
 (Instr.lookup 102 (.map (some b)) (.int .i64 k) true).run prog w=.ok (.tuple #[.func (.func (wrF k)) #[] #[],.bool true]) w:=by
 have hk1:∀x∈wrE.toList,IsKey (.int .i64) x.key:=by
  intro x hx;simp [wrE] at hx;rcases hx with rfl|rfl|rfl<;>exact isKeyP _
 rcases findNow_spec (isKeyP k) wrE.toList 0 hk1 with ⟨_,e⟩|⟨j,x,e1,e2,e3⟩
 ·exfalso
  rcases hk with rfl|rfl|rfl
  ·exact e ⟨.int .i64 0,.func (.func 99) #[] #[],0⟩ (by simp [wrE]) rfl
  ·exact e ⟨.int .i64 1,.func (.func 100) #[] #[],1⟩ (by simp [wrE]) rfl
  ·exact e ⟨.int .i64 2,.func (.func 101) #[] #[],2⟩ (by simp [wrE]) rfl
 ·have hx:x.val=.func (.func (wrF k)) #[] #[]:=by
   have hm:=List.mem_of_getElem? e2
   simp [wrE] at hm
   rcases hm with rfl|rfl|rfl<;>(simp at e3;subst e3;rfl)
  simp [Instr.lookup,run_underlying underlying102,MapKept.run_getObj_map h,MapKept.run_checkKey underlying3 (isKeyP k),MapKept.run_findKey underlying3 e1,Result.andThen,hx]
theorem heap_newP (w:World) (o:Obj):(w.alloc o).heap[w.heap.size]?=some o:=by
 show (w.heap.push _)[w.heap.size]?=some _;simp
theorem below_setP {w0 w:World} {b m:Nat} {es:Array MapEntry} {o':Obj} (h:w.heap[b]?=some (.map es m)) (hb:Below w0.heap.size w0 w) (h0:w0.heap.size≤b):Below w0.heap.size w0 (setBlock w b o') :=
 ⟨hb.os,hb.tape,hb.output,by simpa [setBlock] using hb.size,fun j hj=>(heap_setBlock_other h _ (by omega)).trans (hb.block j hj)⟩
theorem writers_any (W:World):Calls prog 62 #[] W fun e W1=>∃b,e=.returned (.map (some b))∧W1.heap[b]?=some (.map wrE 3)∧Below W.heap.size W W1:=by
 have hmk:=run_makeMap (P:=prog) 102 W
 have h0:=heap_newP W (.map #[] 0)
 have b0:=(Below.refl W.heap.size W).alloc (Nat.le_refl _) (.map #[] 0)
 have i0:=ins_runP W.heap.size 0 #[] 0 (.func (.func 99) #[] #[]) (W.alloc (.map #[] 0)) h0 (by simp)
 have h1:=heap_setBlock_same h0 (.map (#[].push ⟨.int .i64 0,.func (.func 99) #[] #[],0⟩) (0+1))
 have b1:=below_setP (o':=.map (#[].push ⟨.int .i64 0,.func (.func 99) #[] #[],0⟩) (0+1)) h0 b0 (Nat.le_refl _)
 have H0:=hid h0
 clear h0 b0
 generalize setBlock (W.alloc (.map #[] 0)) W.heap.size (.map (#[].push ⟨.int .i64 0,.func (.func 99) #[] #[],0⟩) (0+1))=V1 at *
 have i1:=ins_runP W.heap.size _ _ 1 (.func (.func 100) #[] #[]) V1 h1 (by simp)
 have h2:=heap_setBlock_same h1 (.map ((#[].push ⟨.int .i64 0,.func (.func 99) #[] #[],0⟩).push ⟨.int .i64 1,.func (.func 100) #[] #[],0+1⟩) (0+1+1))
 have b2:=below_setP (o':=.map ((#[].push ⟨.int .i64 0,.func (.func 99) #[] #[],0⟩).push ⟨.int .i64 1,.func (.func 100) #[] #[],0+1⟩) (0+1+1)) h1 b1 (Nat.le_refl _)
 clear h1 b1
 generalize setBlock V1 W.heap.size (.map ((#[].push ⟨.int .i64 0,.func (.func 99) #[] #[],0⟩).push ⟨.int .i64 1,.func (.func 100) #[] #[],0+1⟩) (0+1+1))=V2 at *
 have i2:=ins_runP W.heap.size _ _ 2 (.func (.func 101) #[] #[]) V2 h2 (by simp)
 have h3:=heap_setBlock_same h2 (.map (((#[].push ⟨.int .i64 0,.func (.func 99) #[] #[],0⟩).push ⟨.int .i64 1,.func (.func 100) #[] #[],0+1⟩).push ⟨.int .i64 2,.func (.func 101) #[] #[],0+1+1⟩) (0+1+1+1))
 have b3:=below_setP (o':=.map (((#[].push ⟨.int .i64 0,.func (.func 99) #[] #[],0⟩).push ⟨.int .i64 1,.func (.func 100) #[] #[],0+1⟩).push ⟨.int .i64 2,.func (.func 101) #[] #[],0+1+1⟩) (0+1+1+1)) h2 b2 (Nat.le_refl _)
 clear h2 b2
 generalize setBlock V2 W.heap.size (.map (((#[].push ⟨.int .i64 0,.func (.func 99) #[] #[],0⟩).push ⟨.int .i64 1,.func (.func 100) #[] #[],0+1⟩).push ⟨.int .i64 2,.func (.func 101) #[] #[],0+1+1⟩) (0+1+1+1))=V3 at *
 have H3:=hid h3
 have B3:=hid b3
 clear h3 b3
 have hWC:=@wC.eq_1
 go_enter func62,ntmps62
 go_wp2_with fail
 go_ret
 exact ⟨_,rfl,H3.out,B3.out⟩
theorem chg_any (n:Nat) (y:Wd) (q:Wp) (W:World) (ho:Ao n W q y) (hn:n≤W.heap.size) (c:Wr) (hm:mayX y c=true):Calls prog (wrF c.kind) #[.agg (wC y q),.agg #[.int .i64 c.kind,.int .i64 c.id,.int .i64 c.num,.int .i64 c.pl.kind,.int .i64 c.pl.id]] W (Chg n q (doX y c) W):=by
 obtain ⟨k,i,v,⟨pk,pi⟩⟩:=c
 simp only [mayX,Bool.and_eq_true,Bool.or_eq_true,decide_eq_true_eq] at hm
 obtain ⟨h0,hm⟩:=hm
 obtain ⟨j,rfl⟩:∃j:Nat,i=j:=⟨i.toNat,by omega⟩
 rcases hm with ⟨rfl,hj⟩|⟨rfl,hj⟩|⟨rfl,hj⟩
 ·exact dbring_any n y q j W ho hn (by omega) v pk pi
 ·exact dpay_any n y q j W ho hn (by omega) v pk pi
 ·exact dlay_any n y q j W ho hn (by omega) v ⟨pk,pi⟩
theorem mayk18 {y:Wd} {c:Wr} (hm:mayX y c=true):c.kind=0∨c.kind=1∨c.kind=2:=by
 simp only [mayX,Bool.and_eq_true,Bool.or_eq_true,decide_eq_true_eq] at hm
 rcases hm.2 with ⟨h,_⟩|⟨h,_⟩|⟨h,_⟩<;>simp [h]
theorem wrf_enter (k:Int) (args:Array Value) (w:World):(callFunc (wrF k) args).run prog w=.ok (.enter (wrF k) args) w:=by
 unfold wrF
 split
 ·exact enters_of func99 (by kernel_rfl) rfl args w
 ·split
  ·exact enters_of func100 (by kernel_rfl) rfl args w
  ·exact enters_of func101 (by kernel_rfl) rfl args w
structure DoR (n:Nat) (q:Wp) (x:Wd) (l:List Wr) (V:World) (k:Nat) (W:World):Prop where
 o:Ao n W q (allP x (l.take k))
 b:Below n V W
 t:KT V W
theorem DoR.call {n:Nat} {q:Wp} {x:Wd} {l:List Wr} {V W W':World} {k:Nat} (h:DoR n q x l V k W) (hn:n≤W.heap.size) (hb:Below W.heap.size W W'):DoR n q x l V k W':=⟨h.o.call hb,h.b.trans (hb.mono hn),h.t.trans (KT.below hb)⟩
theorem ddo_any (n:Nat) (x:Wd) (q:Wp) (la:Option Addr) (lc:Nat) (l:List Wr) (w0 W:World) (ho:Ao n W q x) (hn:n≤W.heap.size) (h0:w0.heap.size≤n) (hb:Below w0.heap.size w0 W) (hl:WrsAt w0 la l) (hm:∀c∈l,mayX x c=true) :
 Calls prog 33 #[.agg (wC x q),.slice la l.length lc] W (Chg n q (allP x l) W):=by
 have b0:=(Below.refl W.heap.size W).alloc (Nat.le_refl _) (.cells (wC x q) 79)
 have HB0:=hid b0
 have HD:=hid (Blk.new W 79 (wC x q))
 have HO:=hid (ho.call b0)
 have HBW:=hid (bl hb b0)
 have HN:=hid hn
 have HZ:=hid h0
 have HL:=hid hl
 have HM:=hid hm
 have hln:=hl.len
 clear b0 ho hn h0 hb hl hm
 have hWC:=@wC.eq_1
 go_enter func33,ntmps33
 go_wp2_with fail
 refine (writers_any _).mono ?_
 rintro e V ⟨mb,rfl,hmp,b1⟩
 have HMP:=hid hmp
 have HML:=hid (Array.getElem?_eq_some_iff.1 hmp).1
 have HD1:=hid (HD.out.call b1)
 have HR0:=hid (show DoR n q x l V 0 V from ⟨HO.out.call b1,Below.refl _ _,KT.refl _⟩)
 have HB1:=hid (bl HB0.out b1)
 have HBV:=hid (bl HBW.out b1)
 have HNV:=hid (Nat.le_trans HN.out HB1.out.size)
 clear hmp b1 HB0 HBW HO HD
 go_wp2_with fail
 go_loopw [12] (fun i wr=>∃k:Nat,k≤l.length∧i=.int .i64 k∧DoR n q x l V k wr) (fun i _=>l.length-(intOf i).toNat)
 case atStart=>exact ⟨0,Nat.zero_le _,rfl,HR0.out⟩
 case round =>
  obtain ⟨k,hk,rfl,hR⟩:=hrel
  have HR:=hid hR
  clear hR
  by_cases hlt:k<l.length
  ·obtain ⟨b,o,rfl,hbk,c0,c1,c2,c3,c4⟩:=WrsAt.cells HL.out hlt
   have HBR:=hid (HBV.out.trans (HR.out.b.mono HZ.out))
   have HMC:=hid (HM.out l[k] (List.getElem_mem hlt))
   have HMO:=hid (allP_more x hlt)
   have HKL:=hid hlt
   have HSZ:=hid (Nat.le_trans HNV.out HR.out.b.size)
   have wk:IntKind.i64.wrap ((k:Int)+1)=(k:Int)+1:=IntWalk.i64_in _ (by omega)
   have d0:=(HBR.out.cell (p:=⟨b,o+k*5,none⟩) hbk).trans c0
   have d1:=(HBR.out.cell (p:=⟨b,o+k*5+1,none⟩) hbk).trans c1
   have d2:=(HBR.out.cell (p:=⟨b,o+k*5+2,none⟩) hbk).trans c2
   have d3:=(HBR.out.cell (p:=⟨b,o+k*5+3,none⟩) hbk).trans c3
   have d4:=(HBR.out.cell (p:=⟨b,o+k*5+4,none⟩) hbk).trans c4
   have hbl:b<wr.heap.size:=Nat.lt_of_lt_of_le hbk HBR.out.size
   have HDR:=hid (HR.out.t.blk HD1.out (by decide) (by decide))
   obtain ⟨hcd,hfd,hld⟩:=HDR.out.all
   have HMR:=hid (HR.out.t.2 mb _ HMP.out fun cs f=>⟨nofun,nofun⟩)
   clear c0 c1 c2 c3 c4 hbk
   generalize l[k]=c at *
   have hmk:=mayk18 HMC.out
   obtain ⟨ck,ci,cn,⟨cpk,cpi⟩⟩:=c
   simp only at d0 d1 d2 d3 d4
   have ba:=(Below.refl wr.heap.size wr).alloc (Nat.le_refl _) (.cells #[.int .i64 ck,.int .i64 ci,.int .i64 cn,.int .i64 cpk,.int .i64 cpi] 50)
   have hlk:=look_runP mb (wr.alloc (.cells #[.int .i64 ck,.int .i64 ci,.int .i64 cn,.int .i64 cpk,.int .i64 cpi] 50)) ck hmk ((ba.block mb (Array.getElem?_eq_some_iff.1 HMR.out).1).trans HMR.out)
   have hent:=wrf_enter ck
   have HC:=hid (chg_any n _ q _ (HR.out.o.call ba) (Nat.le_trans HSZ.out ba.size) ⟨ck,ci,cn,⟨cpk,cpi⟩⟩ (by rw [(Gw8 (l.take k) x).may];exact HMC.out))
   have HLS:=hid (Gw8 (l.take k) x).shape.val
   have HR1:=hid (HR.out.call HSZ.out ba)
   clear ba hmk
   obtain ⟨F,hF⟩:∃F,wrF ck=F:=⟨_,rfl⟩
   rw [hF] at hlk hent HC
   clear hF
   go_wp2_with fail
   have hcc:=HC.out
   rw [HLS.out] at hcc
   refine hcc.mono ?_
   rintro e w3 ⟨⟨z,rfl⟩,ho3,hb3,hk3⟩
   have HR3:=hid (show DoR n q x l V (k+1) w3 from ⟨by rw [HMO.out];exact ho3,HR1.out.b.trans hb3,HR1.out.t.trans hk3⟩)
   clear hcc HC HR1 HR hcd hfd hld HDR HMR ho3 hb3 hk3 hlk hent d0 d1 d2 d3 d4 hbl HBR
   go_wp2_with fail
   go_roundw
   case rel=>exact ⟨k+1,HKL.out,by go_num,HR3.out⟩
   case measure=>have:=HKL.out;simp [intOf];omega
  ·have hke:k=l.length:=by omega
   subst hke
   have hR:=HR.out
   obtain ⟨r1,r2,r3⟩:=hR
   rw [List.take_length] at r1
   have R1:=hid r1
   have R2:=hid r2
   have R3:=hid r3
   clear r1 r2 r3 HR
   go_wp2_with fail
   refine bodyPost_end (results_none rfl _ _ _) rfl ?_
   exact ⟨⟨_,rfl⟩,R1.out,(HB1.out.mono HN.out).trans R2.out,(KT.below HB1.out).trans R3.out⟩
def LeftQ (L:List Wr) (w0 w:World) (e:Ending) (w':World):Prop:=∃(a:Option Addr) (c:Nat),e=.returned (.slice a L.length c)∧WrsAt w0 a L∧Below w.heap.size w w'
def leftL (s:Sl):List Wr:=if s.phase=5 then s.plan.drop s.step.toNat else []
theorem setP_left (y:Wd) (s:Sl):setP y s=allP y (leftL s):=by
 unfold setP leftL
 split<;>rfl
theorem left_may {x:Wd} {s:Sl} (h:MayS x s):∀c∈leftL s,mayX x c=true:=by
 unfold leftL
 split
 ·rename_i hp
  exact fun c hc=>(h hp).2.2 c (List.mem_of_mem_drop hc)
 ·simp
theorem run_max0 (j:Nat) (W:World):(Builtin.max_ #[3,3] 3 #[.int .i64 (j:Int),.int .i64 0]).run prog W=.ok (.int .i64 (j:Int)) W:=by
 simp [Builtin.max_,Builtin.max2,go_sem]
 omega
theorem run_minL (j m:Nat) (h:j≤m) (W:World):(Builtin.min_ #[3,3] 3 #[.int .i64 (j:Int),.int .i64 (m:Int)]).run prog W=.ok (.int .i64 (j:Int)) W:=by
 rcases Nat.eq_or_lt_of_le h with rfl|h2
 ·simp [Builtin.min_,Builtin.min2,go_sem]
 ·simp [Builtin.min_,Builtin.min2,go_sem];omega
theorem left_any (x:Wd) (s:Sl) (w0 w:World) (hp:WrcAt w0 s.pa s.pc s.plan) (hm:MayS x s) :
 Calls prog 34 #[.agg #[.int .i64 s.player,.slice s.la s.ls.length s.lc,.int .i64 s.next,.int .i64 s.phase,.int .i64 s.step,.int .i64 s.c.kind,.int .i64 s.c.dir,.int .i64 s.c.item,.int .i64 s.c.box,.int .i64 s.c.who,.slice s.ga s.c.gives.length s.gc,.int .i64 s.c.pay,.slice s.wa s.c.wants.length s.wc,.int .i64 s.c.fee,.slice s.fa s.foot.length s.fc,.int .i64 s.has,.slice s.pa s.plan.length s.pc,.int .i64 s.r.err,.int .i64 s.r.kind,.int .i64 s.r.room,.slice s.rpa s.r.players.length s.rpc,.slice s.ria s.r.items.length s.ric,.int .i64 s.r.coins,.bool s.stale,.int .i64 s.tries,.int .i64 s.ver,.int .i64 s.room,.slice s.ca s.copies.length s.cc,.slice s.ha s.heads.length s.hc,.int .i64 s.purse]] w (LeftQ (leftL s) w0 w):=by
 have HB:=hid ((Below.refl w.heap.size w).alloc (Nat.le_refl _) (.cells #[.int .i64 s.player,.slice s.la s.ls.length s.lc,.int .i64 s.next,.int .i64 s.phase,.int .i64 s.step,.int .i64 s.c.kind,.int .i64 s.c.dir,.int .i64 s.c.item,.int .i64 s.c.box,.int .i64 s.c.who,.slice s.ga s.c.gives.length s.gc,.int .i64 s.c.pay,.slice s.wa s.c.wants.length s.wc,.int .i64 s.c.fee,.slice s.fa s.foot.length s.fc,.int .i64 s.has,.slice s.pa s.plan.length s.pc,.int .i64 s.r.err,.int .i64 s.r.kind,.int .i64 s.r.room,.slice s.rpa s.r.players.length s.rpc,.slice s.ria s.r.items.length s.ric,.int .i64 s.r.coins,.bool s.stale,.int .i64 s.tries,.int .i64 s.ver,.int .i64 s.room,.slice s.ca s.copies.length s.cc,.slice s.ha s.heads.length s.hc,.int .i64 s.purse] 57))
 by_cases hph:s.phase=5
 ·have q0:(s.phase != 5)=false:=by simp [hph]
  obtain ⟨hs0,hs1,-⟩:=hm hph
  obtain ⟨j,hj⟩:∃j:Nat,s.step=j:=⟨s.step.toNat,by omega⟩
  have hj2:j≤s.plan.length:=by omega
  have HLL:=hid (show leftL s=s.plan.drop j by rw [leftL,if_pos hph,hj];rfl)
  have HD:=hid (hp.drop hj2).1
  rw [HLL.out]
  have hcut:=fun W=>wr_cut W s.pa s.plan.length s.pc j hj2
  have hmx:=run_max0 j
  have hmn:=run_minL j s.plan.length hj2
  have HLD:=hid (show (s.plan.drop j).length=s.plan.length-j by simp)
  clear hp hm hs0 hs1 hph
  obtain ⟨player,ls,la,lc,next,phase,step,c,ga,gc,wa,wc,foot,fa,fc,has,plan,pa,pc,r,rpa,rpc,ria,ric,stale,tries,ver,room,copies,ca,cc,heads,ha,hc,purse⟩:=s
  simp only at hj q0
  subst hj
  have hWC:=@wC.eq_1
  go_enter func34,ntmps34
  go_wp2_with fail
  go_ret
  exact ⟨_,_,by rw [HLD.out];rfl,HD.out,HB.out⟩
 ·have q0:(s.phase != 5)=true:=by simpa using hph
  have HLL:=hid (show leftL s=[] by rw [leftL,if_neg hph])
  rw [HLL.out]
  clear hp hm hph
  have hWC:=@wC.eq_1
  go_enter func34,ntmps34
  go_wp2_with fail
  go_ret
  exact ⟨none,0,rfl,⟨by simp,.inl rfl⟩,HB.out⟩
end
section
open Go.RowKit Go
theorem Ao.pnew {n:Nat} {W:World} {pd:Dp} {q:Wp} {y:Wd} (h:Ao n W q y):PNew n W pd q y:=by
 have hw:=h.world
 obtain ⟨m1,m2,m3,h1,h2,h3,_,hd,-,ha,-,hc,-,hwh⟩:=h.ex
 exact ⟨.inr hd,ha.less h1,hc.less (by omega),hwh.less (by omega),hw⟩
theorem wrs_one {W:World} {b:Nat} {t:TypeId} {c:Wr} (h:Blk W b t #[.int .i64 c.kind,.int .i64 c.id,.int .i64 c.num,.int .i64 c.pl.kind,.int .i64 c.pl.id]):WrsAt W (some ⟨b,0,none⟩) [c]:=by
 refine ⟨by simp [maxLen],.inr ⟨b,0,rfl,h.lt,fun i hi j hj=>?_⟩⟩
 obtain rfl:i=0:=by simpa using hi
 have:=h.cell j
 simp only [Nat.zero_mul,Nat.zero_add] at this ⊢
 rw [this]
 simp [wrC]
theorem exec_load {ρ:Operand→Value} {o:Oper} {t:TypeId} {a:Operand} {P:Program} {w:World} {u:Value} (ho:o.op=.load t a) (h:(Instr.loadAt t (ρ a)).run P w=.ok u w):(execOp ρ o).run P w=.ok (.value u) w:=by
 simp [execOp,ho,h,Result.andThen]
theorem sess_size:(prog.info? 57).map (·.size)=some 30:=by kernel_rfl
theorem slC_cells (s:Sl):(slC s).toArray.all (·.oneCell')=true:=all_oneCell_toArray fun v hv=>by
 simp only [slC,List.mem_cons,List.not_mem_nil,or_false] at hv
 rcases hv with rfl|rfl|rfl|rfl|rfl|rfl|rfl|rfl|rfl|rfl|rfl|rfl|rfl|rfl|rfl|rfl|rfl|rfl|rfl|rfl|rfl|rfl|rfl|rfl|rfl|rfl|rfl|rfl|rfl|rfl<;>rfl
theorem blk_range {W:World} {b:Nat} {t:TypeId} {L:List Value} (h:Blk W b t L.toArray):W.rangeAt b 0 L:=fun j v hv=>by
 have:=h.cell j
 rw [Nat.zero_add]
 exact this.trans (by simpa using hv)
theorem load_sess {b o:Nat} {s:Sl} {W:World} (h:W.rangeAt b o (slC s)):(Instr.loadAt 57 (.pointer (some ⟨b,o,none⟩))).run prog W=.ok (.agg (slC s).toArray) W :=
 run_loadAt_mid W b o _ (slC s) _ h underlying57 rfl sess_size
theorem there_new (w:World) (Z:Array Value) (t:TypeId):(w.alloc (.cells Z t)).there w.heap.size 0 Z.size:=fun j hj=>by
 have h:=Blk.new w t Z
 rw [Nat.zero_add]
 exact ⟨by rw [h.cell j];simp;omega,h.frozen j⟩
theorem blk_sets {b:Nat} {t:TypeId}:∀(vs:List Value) (o:Nat) {W:World} {C:Array Value},Blk W b t C→∃D:Array Value,D.size=C.size∧Blk (W.setCells b o vs) b t D
 | [],_,_,C,h=>⟨C,rfl,h⟩
 | v :: r,o,W,C,h=>by
   obtain ⟨D,hD,h2⟩:=blk_sets r (o+1) (h.set_ o v)
   exact ⟨D,by simpa using hD,h2⟩
theorem below_sets {w:World} {n b:Nat} (hn:n≤b):∀(vs:List Value) (o:Nat) {W:World},Below n w W→Below n w (W.setCells b o vs)
 | [],_,_,h=>h
 | v :: r,o,W,h=>below_sets hn r (o+1) (h.setCell (p:=⟨b,o,none⟩) hn v)
theorem blk_stored {W:World} {b:Nat} {t:TypeId} {C:Array Value} {vs:List Value} (h:Blk W b t C) (hz:C.size=vs.length):Blk (W.setCells b 0 vs) b t vs.toArray:=by
 obtain ⟨D,hD,h2⟩:=blk_sets vs 0 h
 have hr:=World.rangeAt_setCells_same W b 0 vs (fun j hj=>by
  rw [Nat.zero_add]
  exact ⟨by rw [h.cell j];simp;omega,h.frozen j⟩)
 have e:D=vs.toArray:=by
  apply Array.ext_getElem?
  intro j
  by_cases hj:j<vs.length
  ·have h3:=hr j vs[j] (List.getElem?_eq_getElem hj)
   rw [Nat.zero_add,h2.cell j] at h3
   rw [h3];simp [hj]
  ·rw [Array.getElem?_eq_none (by omega)];simp;omega
 rw [←e];exact h2
theorem left_as (x:Wd) (s:Sl) (w0 w:World) (hp:WrcAt w0 s.pa s.pc s.plan) (hm:MayS x s):Calls prog 34 #[.agg (slC s).toArray] w (LeftQ (leftL s) w0 w):=left_any x s w0 w hp hm
theorem load_draft {b:Nat} {x:Wd} {q:Wp} {W:World} (h:∀i,W.cell? ⟨b,i,none⟩=((wC x q)[i]?:Option Value)):(Instr.loadAt 79 (.pointer (some ⟨b,0,none⟩))).run prog W=.ok (.agg (wC x q)) W:=by
 go_simp
theorem two_cells {W:World} {a b:Nat} {A:Array Value} {L:List Value} {t s:TypeId} (h1:Blk W a t A) (h2:Blk W b s L.toArray):(∀i,W.cell? ⟨a,i,none⟩=(A[i]?:Option Value))∧W.rangeAt b 0 L:=⟨h1.cell,blk_range h2⟩
def OwnQ (w:World) (x y:Wd) (e:Ending) (w':World):Prop:=∃q:Wp,e=.returned (.agg (wC x q))∧Ao w.heap.size w' q y∧Below w.heap.size w w'
theorem OwnQ.q {w:World} {x y:Wd} {pd:Dp} {e:Ending} {w':World} (h:OwnQ w x y e w'):WorldQ w x pd y e w':=by
 obtain ⟨q,rfl,h2,h3⟩:=h
 exact ⟨q,rfl,h2.pnew,h3⟩
theorem own_fin {w W:World} {b:Nat} {x y:Wd} {q:Wp} (ho:Ao (w.heap.size+b+1) W q y) (hb:Below w.heap.size w W):Ao w.heap.size (((((((((((W.setCell ⟨w.heap.size+b,0,none⟩ (.slice q.d.ex x.d.exits.length q.d.exc)).setCell ⟨w.heap.size+b,1,none⟩ (.slice q.d.pl x.d.players.length q.d.plc)).setCell ⟨w.heap.size+b,2,none⟩ (.slice q.d.co x.d.coins.length q.d.coc)).setCell ⟨w.heap.size+b,3,none⟩ (.slice q.d.it x.d.items.length q.d.itc)).setCell ⟨w.heap.size+b,4,none⟩ (.slice q.d.bo x.d.boxes.length q.d.boc)).setCell ⟨w.heap.size+b,5,none⟩ (.int .i64 x.d.room)).setCell ⟨w.heap.size+b,6,none⟩ (.int .i64 x.d.player)).setCell ⟨w.heap.size+b,7,none⟩ (.int .i64 x.d.box)).setCell ⟨w.heap.size+b,8,none⟩ (.slice q.at_ x.at_.length q.atc)).setCell ⟨w.heap.size+b,9,none⟩ (.slice q.co x.coins.length q.coc)).setCell ⟨w.heap.size+b,10,none⟩ (.slice q.wh x.wher.length q.whc)) q y∧Below w.heap.size w (((((((((((W.setCell ⟨w.heap.size+b,0,none⟩ (.slice q.d.ex x.d.exits.length q.d.exc)).setCell ⟨w.heap.size+b,1,none⟩ (.slice q.d.pl x.d.players.length q.d.plc)).setCell ⟨w.heap.size+b,2,none⟩ (.slice q.d.co x.d.coins.length q.d.coc)).setCell ⟨w.heap.size+b,3,none⟩ (.slice q.d.it x.d.items.length q.d.itc)).setCell ⟨w.heap.size+b,4,none⟩ (.slice q.d.bo x.d.boxes.length q.d.boc)).setCell ⟨w.heap.size+b,5,none⟩ (.int .i64 x.d.room)).setCell ⟨w.heap.size+b,6,none⟩ (.int .i64 x.d.player)).setCell ⟨w.heap.size+b,7,none⟩ (.int .i64 x.d.box)).setCell ⟨w.heap.size+b,8,none⟩ (.slice q.at_ x.at_.length q.atc)).setCell ⟨w.heap.size+b,9,none⟩ (.slice q.co x.coins.length q.coc)).setCell ⟨w.heap.size+b,10,none⟩ (.slice q.wh x.wher.length q.whc)):=by
 refine ⟨Ao.less (n:=w.heap.size+b+1) ?_ (by omega),?_⟩
 ·iterate 11 refine Ao.set (q:=w.heap.size+b) ?_ (by omega) _ _
  exact ho
 ·iterate 11 refine Below.setCell ?_ (by show w.heap.size≤w.heap.size+b;omega) _
  exact hb
theorem pall_own (x:Wd) (p:Wp) (la:Option Addr) (lc:Nat) (l:List Wr) (w:World) (h:Ab w p x) (hf:FewW x) (hl:WrsAt w la l) (hm:∀c∈l,mayX x c=true):Calls prog 12 #[.agg (wC x p),.slice la l.length lc] w (OwnQ w x (allP x l)):=by
 have C0:=hid (Two.start 29 29 w (wC x p) zC)
 have H:=hid h
 have HF:=hid hf
 have HM:=hid hm
 have HL:=hid hl
 clear hm hl h hf
 have hWC:=@wC.eq_1
 have hZC:=@zC.eq_1
 go_enter func12,ntmps12
 go_wp2_with fail
 refine (Gi x p _ (H.out.below C0.out.b (Nat.le_refl _)) HF.out).mono ?_
 rintro e w1 ⟨q,rfl,ho,b1⟩
 have C1:=hid (C0.out.call b1)
 have HO:=hid (ho.less C0.out.size)
 clear ho b1 C0
 obtain ⟨m,hm⟩:∃m,w1.heap.size=m:=⟨_,rfl⟩
 go_upto_region 2 with fail
 have HD:=hid (Blk.newn w1 79 (wC x q) hm)
 have C2:=hid (C1.out.call (b_a (.cells (wC x q) 79)))
 have HO2:=hid (HO.out.alloc' (.cells (wC x q) 79))
 refine gen_pl (fun V=>Blk V m 79 (wC x q)∧Two 29 29 w V (wC x p) zC∧Ao (w.heap.size+2) V q x) ⟨HD.out,C2.out,HO2.out⟩ (fun V hV=>?_)
 clear HD C2 HO2 C1 HO hm
 have HD:=hid hV.1
 have C2:=hid hV.2.1
 have HO2:=hid hV.2.2
 clear hV
 obtain ⟨hcd,hfd,hld⟩:=HD.out.all
 go_wp2_with fail
 refine (ddo_any (w.heap.size+2) x q la lc l w V HO2.out C2.out.size (by omega) C2.out.b HL.out HM.out).mono ?_
 rintro e w3 ⟨⟨z,rfl⟩,ho3,b3,k3⟩
 have HO3:=hid ho3
 have HB3:=hid (C2.out.b.trans (b3.mono (by omega)))
 replace hcd:=(k3.blk HD.out (by decide) (by decide)).cell
 replace hld:=(k3.blk HD.out (by decide) (by decide)).lt
 replace hfd:=(k3.blk HD.out (by decide) (by decide)).frozen
 obtain ⟨hcr,hfr,hlr⟩:=(k3.blk C2.out.r (by decide) (by decide)).all
 clear ho3 b3 k3 C2 HO2 HD
 go_wp2_with fail
 refine bodyPost_ret (v:=.agg (wC x q)) (by simp [results,results12,go_sem,hcr]) rfl ⟨q,rfl,own_fin (b:=1) HO3.out HB3.out⟩
theorem pall_any (x:Wd) (p:Wp) (la:Option Addr) (lc:Nat) (l:List Wr) (w:World) (h:Ab w p x) (hf:FewW x) (hl:WrsAt w la l) (hm:∀c∈l,mayX x c=true):Calls prog 12 #[.agg (wC x p),.slice la l.length lc] w fun e w'=>WorldQ w x p.d (allP x l) e w' :=
 (pall_own x p la lc l w h hf hl hm).mono fun _ _ h=>h.q
theorem pdo_any (x:Wd) (p:Wp) (c:Wr) (w:World) (h:Ab w p x) (hf:FewW x) (hm:mayX x c=true):Calls prog 14 #[.agg (wC x p),.agg #[.int .i64 c.kind,.int .i64 c.id,.int .i64 c.num,.int .i64 c.pl.kind,.int .i64 c.pl.id]] w fun e w'=>WorldQ w x p.d (doX x c) e w':=by
 have C0:=hid (Tri.start 29 50 29 w (wC x p) #[.int .i64 c.kind,.int .i64 c.id,.int .i64 c.num,.int .i64 c.pl.kind,.int .i64 c.pl.id] zC)
 have H:=hid h
 have HF:=hid hf
 have HM:=hid (show ∀d∈[c],mayX x d=true from fun d hd=>by rw [List.mem_singleton.1 hd];exact hm)
 clear hm h hf
 have hWC:=@wC.eq_1
 have hZC:=@zC.eq_1
 go_enter func14,ntmps14
 go_upto_region 1 with fail
 generalize ((w.alloc (.cells (wC x p) 29)).alloc (.cells #[.int .i64 c.kind,.int .i64 c.id,.int .i64 c.num,.int .i64 c.pl.kind,.int .i64 c.pl.id] 50)).alloc (.cells zC 29)=V0 at *
 obtain ⟨hca,hfa,hla⟩:=C0.out.a.all
 obtain ⟨hcm,hfm,hlm⟩:=C0.out.m.all
 obtain ⟨m,hm⟩:∃m,V0.heap.size=m:=⟨_,rfl⟩
 have HW:=hid (wrs_one (c:=c) (Blk.newn V0 50 #[.int .i64 c.kind,.int .i64 c.id,.int .i64 c.num,.int .i64 c.pl.kind,.int .i64 c.pl.id] hm))
 have C1:=hid (C0.out.call (b_a (.cells #[.int .i64 c.kind,.int .i64 c.id,.int .i64 c.num,.int .i64 c.pl.kind,.int .i64 c.pl.id] 50)))
 have HSZ:=hid C0.out.size
 go_wp2_with fail
 try simp only [hm]
 generalize V0.alloc (.cells #[.int .i64 c.kind,.int .i64 c.id,.int .i64 c.num,.int .i64 c.pl.kind,.int .i64 c.pl.id] 50)=V1 at *
 refine (pall_own x p _ _ [c] V1 (H.out.below C1.out.b (Nat.le_refl _)) HF.out HW.out HM.out).mono ?_
 rintro e w3 ⟨q,rfl,ho,b3⟩
 have C3:=hid (C1.out.call b3)
 have HO3:=hid (show Ao (w.heap.size+2+1) w3 q (allP x [c]) from ho.less (by have:=C1.out.size;omega))
 clear ho b3 C1 C0 hca hfa hla hcm hfm hlm hm
 obtain ⟨hcr,hfr,hlr⟩:=C3.out.r.all
 go_wp2_with fail
 refine bodyPost_ret (v:=.agg (wC x q)) (by simp [results,results14,go_sem,hcr]) rfl (OwnQ.q (w:=w) ⟨q,rfl,own_fin (b:=2) HO3.out C3.out.b⟩)
structure SetO (n:Nat) (q:Wp) (x:Wd) (l:List Sl) (V:World) (k:Nat) (W:World):Prop where
 o:Ao n W q (setW x (l.take k))
 b:Below n V W
 t:KT V W
theorem SetO.call {n:Nat} {q:Wp} {x:Wd} {l:List Sl} {V W W':World} {k:Nat} (h:SetO n q x l V k W) (hn:n≤W.heap.size) (hb:Below W.heap.size W W'):SetO n q x l V k W':=⟨h.o.call hb,h.b.trans (hb.mono hn),h.t.trans (KT.below hb)⟩
theorem ddo_as {x y:Wd} (hs:Like x y) {z:Wd} (n:Nat) (q:Wp) {la:Option Addr} {lc:Nat} {l:List Wr} {w0 W:World} (ho:Ao n W q y) (hn:n≤W.heap.size) (h0:w0.heap.size≤n) (hb:Below w0.heap.size w0 W) (hl:WrsAt w0 la l) (hm:∀c∈l,mayX x c=true) (hz:allP y l=z) :
 Calls prog 33 #[.agg (wC x q),.slice la l.length lc] W (Chg n q z W):=by
 subst hz
 have h2:=ddo_any n y q la lc l w0 W ho hn h0 hb hl fun c hc=>by rw [hs.may];exact hm c hc
 rw [hs.shape.val] at h2
 exact h2
theorem pset_any (x:Wd) (p:Wp) (la:Option Addr) (lc:Nat) (l:List Sl) (w:World) (h:Ab w p x) (hf:FewW x) (hl:PlansAt w la l) (hm:∀s∈l,MayS x s):Calls prog 17 #[.agg (wC x p),.slice la l.length lc] w fun e w'=>WorldQ w x p.d (setW x l) e w':=by
 have C0:=hid (Two.start 29 29 w (wC x p) zC)
 have H:=hid h
 have HF:=hid hf
 have HM:=hid hm
 have HL:=hid hl
 have hln:=hl.row.len
 clear hm hl h hf
 have hWC:=@wC.eq_1
 have hZC:=@zC.eq_1
 go_enter func17,ntmps17
 go_wp2_with fail
 refine (Gi x p _ (H.out.below C0.out.b (Nat.le_refl _)) HF.out).mono ?_
 rintro e w1 ⟨q,rfl,ho,b1⟩
 have C1:=hid (C0.out.call b1)
 have HO:=hid (ho.less C0.out.size)
 clear ho b1 C0
 obtain ⟨m,hm⟩:∃m,w1.heap.size=m:=⟨_,rfl⟩
 go_upto_region 2 with fail
 have HD:=hid (Blk.newn w1 79 (wC x q) hm)
 have C2:=hid (C1.out.call (b_a (.cells (wC x q) 79)))
 have HO2:=hid (HO.out.alloc' (.cells (wC x q) 79))
 refine gen_pl (fun V=>Blk V m 79 (wC x q)∧Two 29 29 w V (wC x p) zC∧Ao (w.heap.size+2) V q x) ⟨HD.out,C2.out,HO2.out⟩ (fun V hV=>?_)
 clear HD C2 HO2 C1 HO hm
 have HD:=hid hV.1
 have C2:=hid hV.2.1
 have HO2:=hid hV.2.2
 clear hV
 have HR0:=hid (show SetO (w.heap.size+2) q x l V 0 V from ⟨HO2.out,Below.refl _ _,KT.refl _⟩)
 go_wp2_with fail
 go_loopw [13] (fun i wr=>∃k:Nat,k≤l.length∧i=.int .i64 k∧SetO (w.heap.size+2) q x l V k wr) (fun i _=>l.length-(intOf i).toNat)
 case atStart=>exact ⟨0,Nat.zero_le _,rfl,HR0.out⟩
 case round =>
  obtain ⟨k,hk,rfl,hR⟩:=hrel
  have HR:=hid hR
  clear hR
  by_cases hlt:k<l.length
  ·obtain ⟨b,o,rfl,hbk,hc⟩:=HL.out.row.at_ hlt
   have HBR:=hid (C2.out.b.trans (HR.out.b.mono (by omega)))
   have HMC:=hid (HM.out l[k] (List.getElem_mem hlt))
   have HWP:=hid (HL.out.ok l[k] (List.getElem_mem hlt))
   have HMO:=hid (setW_more x hlt)
   have HKL:=hid hlt
   have HSZ:=hid (Nat.le_trans C2.out.size HR.out.b.size)
   have wk:IntKind.i64.wrap ((k:Int)+1)=(k:Int)+1:=IntWalk.i64_in _ (by omega)
   have HRG:=hid (show wr.rangeAt b (o+k*30) (slC l[k]) from fun j v hv=>((HBR.out.cell (p:=⟨b,o+k*30+j,none⟩) hbk).trans (hc k hlt j (by have:=(List.getElem?_eq_some_iff.1 hv).1;rw [slC_len] at this;exact this))).trans hv)
   have hbl:b<wr.heap.size:=Nat.lt_of_lt_of_le hbk HBR.out.size
   clear hc hbk
   generalize l[k]=s at *
   obtain ⟨sb,hsb⟩:∃sb,wr.heap.size=sb:=⟨_,rfl⟩
   have HH:=hid hsb
   have HDR:=hid (HR.out.t.blk HD.out (by decide) (by decide))
   clear hsb
   go_upto_region 5 with first
    | refine wpList_load_mid rfl 57 (.tmp 15) rfl b (o+k*30) rfl (slC s) _ HRG.out underlying57 rfl sess_size ?_
    | refine wpList_store_mid rfl 57 (.tmp 7) (.tmp 16) rfl wr.heap.size 0 (slC s).toArray rfl rfl (there_new wr _ _) sess_size (slC_cells s) ?_
   refine gen_pl (fun V=>Below wr.heap.size wr V∧Blk V wr.heap.size 57 (slC s).toArray) ⟨below_sets (Nat.le_refl _) _ _ ((Below.refl _ wr).alloc (Nat.le_refl _) _),blk_stored (vs:=slC s) (Blk.new wr _ _) rfl⟩ (fun V5 hV=>?_)
   have B5:=hid hV.1
   have SB:=hid hV.2
   clear hV
   have HR1:=hid (HR.out.call HSZ.out B5.out)
   have HS1:=hid (Nat.le_trans HSZ.out B5.out.size)
   have HDD:=hid (HDR.out.call B5.out)
   rw [HH.out]
   rw [HH.out] at SB
   clear HR HBR HSZ hbl HRG HDR B5 HH
   have MD:=hid (HDD.out.call (Af (Below.refl _ _)))
   have SD:=hid (SB.out.call (Af (Below.refl _ _)))
   have HR2:=hid (HR1.out.call HS1.out (Af (Below.refl _ _)))
   have HS2:=hid (show w.heap.size+2≤V5.drew.heap.size from HS1.out)
   clear HDD SB HR1 HS1
   as_aux_lemma =>
    refine tkS (S:=(fun w'=>(∀i,w'.cell? ⟨m,i,none⟩=((wC x q)[i]?:Option Value))∧w'.rangeAt sb 0 (slC s))) (by (first|(with_reducible exact two_cells MD.out SD.out))) (fun hHeld=>?_)
    refine tkl [0,1] ?_
    refine tW ?_ (hy:=by exact fun ww hSw=>exec_load rfl (load_draft hSw.1))
    try go_frame
    refine tW ?_ (hy:=by exact fun ww hSw=>exec_load rfl (load_sess hSw.2))
    try go_frame
    refine rdy1 2 (fun K hK=>?_)
    go_simp
    refine (left_as x s w _ HWP.out HMC.out).mono ?_;rintro e w6 ⟨la6,lc6,rfl,hl6,b6⟩;have M6:=hid (MD.out.call b6);have S6:=hid (SD.out.call b6);have HL6:=hid hl6;have HR6:=hid (HR2.out.call HS2.out b6);have HS6:=hid (Nat.le_trans HS2.out b6.size);clear hl6 b6
    try go_wp2_with fail
    refine hK.out _ _ (by (first|(with_reducible exact two_cells M6.out S6.out))) (fun hHeld=>?_)
    clear hK K
    try go_frame
    refine rdy1 3 (fun K hK=>?_)
    go_simp
    refine (ddo_as (setW_like (l.take k) x) (w.heap.size+2) q HR6.out.o HS6.out (by omega) (C2.out.b.trans (HR6.out.b.mono (by omega))) HL6.out (left_may HMC.out) rfl).mono ?_;rintro e w7 ⟨⟨z,rfl⟩,ho7,b7,k7⟩;have M7:=hid (k7.blk M6.out (by decide) (by decide));have S7:=hid (k7.blk S6.out (by decide) (by decide));have HR7:=hid (show SetO (w.heap.size+2) q x l V (k+1) w7 from ⟨by rw [HMO.out,setP_left];exact ho7,HR6.out.b.trans b7,HR6.out.t.trans k7⟩);clear ho7 b7 k7
    try go_wp2_with fail
    refine hK.out _ _ (by (first|(with_reducible exact two_cells M7.out S7.out))) (fun hHeld=>?_)
    clear hK K
    try go_frame
    refine tkD ?_
    clear M6 S6 MD SD HR6 HR2 M7 S7
    go_wp2_with fail
    go_roundw
    case rel=>exact ⟨k+1,HKL.out,by go_num,HR7.out⟩
    case measure=>have:=HKL.out;simp [intOf];omega
  ·have hke:k=l.length:=by omega
   subst hke
   obtain ⟨r1,r2,r3⟩:=HR.out
   rw [List.take_length] at r1
   have R1:=hid r1
   have R2:=hid (C2.out.b.trans (r2.mono (by omega)))
   obtain ⟨hcd,hfd,hld⟩:=(r3.blk HD.out (by decide) (by decide)).all
   obtain ⟨hcr,hfr,hlr⟩:=(r3.blk C2.out.r (by decide) (by decide)).all
   clear r1 r2 r3 HR hlt
   go_wp2_with fail
   refine bodyPost_ret (v:=.agg (wC x q)) (by simp [results,results17,go_sem,hcr]) rfl (OwnQ.q (w:=w) ⟨q,rfl,own_fin (b:=1) R1.out R2.out⟩)
end
section
section
variable {x y:Wd} {p:Wp} {W:World}
theorem worldQ_as (hs:Like x y) {z:Wd} {e:Ending} {w':World} (h:WorldQ W y p.d z e w'):WorldQ W x p.d z e w':=by
 obtain ⟨q,rfl,h2,h3⟩:=h
 exact ⟨q,by rw [hs.shape.val],h2,h3⟩
theorem pdo_as (hs:Like x y) {z:Wd} (c:Wr) (h:Ab W p y) (hf:FewW y) (hm:mayX y c=true) (hz:doX y c=z):Calls prog 14 #[.agg (wC x p),.agg #[.int .i64 c.kind,.int .i64 c.id,.int .i64 c.num,.int .i64 c.pl.kind,.int .i64 c.pl.id]] W fun e w'=>WorldQ W x p.d z e w':=by
 subst hz
 have h2:=pdo_any y p c W h hf hm
 rw [hs.shape.val] at h2
 exact h2.mono fun e w' h3=>worldQ_as hs h3
theorem pall_as (hs:Like x y) {z:Wd} {la:Option Addr} {lc n:Nat} {l:List Wr} (hn:l.length=n) (h:Ab W p y) (hf:FewW y) (hl:WrsAt W la l) (hm:∀c∈l,mayX y c=true) (hz:allP y l=z):Calls prog 12 #[.agg (wC x p),.slice la n lc] W fun e w'=>WorldQ W x p.d z e w':=by
 subst hn hz
 have h2:=pall_any y p la lc l W h hf hl hm
 rw [hs.shape.val] at h2
 exact h2.mono fun e w' h3=>worldQ_as hs h3
theorem pset_as (hs:Like x y) {z:Wd} {la:Option Addr} {lc n:Nat} {l:List Sl} (hn:l.length=n) (h:Ab W p y) (hf:FewW y) (hl:PlansAt W la l) (hm:∀s∈l,MayS y s) (hz:setW y l=z):Calls prog 17 #[.agg (wC x p),.slice la n lc] W fun e w'=>WorldQ W x p.d z e w':=by
 subst hn hz
 have h2:=pset_any y p la lc l W h hf hl hm
 rw [hs.shape.val] at h2
 exact h2.mono fun e w' h3=>worldQ_as hs h3
theorem own_q {z:Wd} {e:Ending} {w':World} (hd:Ce W p.d z.d) (h:∃q:Wp,e=.returned (.agg (wC x q))∧Cc W.heap.size w' p.d q z∧Below W.heap.size W w'):WorldQ W x p.d z e w':=by
 obtain ⟨q,rfl,h2,h3⟩:=h
 exact ⟨q,rfl,h2.pnew hd h3,h3⟩
theorem pfrom_as {q:Wp} {y z:Wd} {L:List Wr} (hx:Like x z) (hy:Like x y) (h:Ab W p z) (h2:Ab W q y) (n1:x.at_.length≤1000) (n2:x.coins.length≤1000) (n3:x.wher.length≤1000) (hL:Ao3 z y=L) :
 Calls prog 10 #[.agg (wC x p),.agg (wC x q)] W fun e w'=>FromQ W L e w':=by
 subst hL
 have h3:=pfrom_any z y p q W h h2 (hx.symm.trans hy) (by rw [hx.al];exact n1) (by rw [hx.cl];exact n2) (by rw [hx.wl];exact n3)
 rw [hx.shape.val,hy.shape.val] at h3
 exact h3
theorem wsame_as {L M:List Wr} {n m:Nat} {a b:Option Addr} {ca cb:Nat} {r:Bool} (hn:L.length=n) (hm:M.length=m) (h1:WrsAt W a L) (h2:WrsAt W b M) (hr:decide (L=M)=r):Calls prog 13 #[.slice a n ca,.slice b m cb] W fun e w'=>e=.returned (.bool r)∧Below W.heap.size W w':=by
 subst hn hm hr
 exact wrsame_any a b ca cb L M W h1 h2
theorem psame_as {q:Wp} {y z:Wd} {r:Bool} (hy:Like x y) (hz:Like x z) (h1:Ab W p y) (h2:Ab W q z) (hr:decide (y=z)=r):Calls prog 11 #[.agg (wC x p),.agg (wC x q)] W fun e w'=>e=.returned (.bool r)∧Below W.heap.size W w':=by
 subst hr
 exact Ab5 hy.shape hz.shape p q W h1 h2
end
end
end Go.Proofs.YtnhkojpbbdaedaaGreat
