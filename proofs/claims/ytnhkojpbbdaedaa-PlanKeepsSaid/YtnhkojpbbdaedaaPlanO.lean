/- plan.others: the closure that hands out what is another one: what it asks of a round. -/
import Derived.RangeFuncBound
import Derived.RangeFuncBox
import Derived.RangeFuncCalls
import Derived.RangeFuncLeaves
import Derived.OwnWalkIn
import Derived.TacticsInMore
import Derived.LoopNIn
import Derived.LoopIn
import Derived.Sort.BigQuietIn
import Derived.Test.YtnhkojpbbdaedaaGRight
import Derived.Test.YtnhkojpbbdaedaaGEq
import Derived.Test.YtnhkojpbbdaedaaPlanMath
import Derived.Test.YtnhkojpbbdaedaaFootDif
import Derived.Test.YtnhkojpbbdaedaaKeepP
import Derived.Test.YtnhkojpbbdaedaaStillIn
namespace Go.Proofs.Ytnhkojpbbdaedaa
open Go.ChangeShapes Go.WideShapes Go.ChangeAt Go.RowKit Go.Proofs.Try
open Lib (hid)
set_option linter.unusedVariables false
set_option maxHeartbeats 1000000
set_option maxRecDepth 100000
open Go.RowKit
attribute [local go_sem] Oper.semAt_some
theorem run_min2 (n:Nat) (W:World):(Builtin.min_ #[3,3] 3 #[.int .i64 (n:Int),.int .i64 (n:Int)]).run prog W=.ok (.int .i64 (n:Int)) W:=by simp [Builtin.min_,Builtin.min2,go_sem]
theorem getI_at {xs:List Int} {k:Nat} (h:k<xs.length):xs.getD k 0=xs[k]:=by rw [List.getD_eq_getElem?_getD,List.getElem?_eq_getElem h,Option.getD_some]
theorem getP_at {xs:List Pl} {k:Nat} (h:k<xs.length):xs.getD k ⟨0,0⟩=xs[k]:=by rw [List.getD_eq_getElem?_getD,List.getElem?_eq_getElem h,Option.getD_some]
theorem othi_any (pa pb:Option Addr) (n m ca cb:Nat) (w:World):Calls prog 23 #[.slice pa n ca,.slice pb m cb] w fun e w'=>e=.returned (.func (.func 30) #[] #[.pointer (some ⟨w.heap.size,0,none⟩),.pointer (some ⟨w.heap.size+1,0,none⟩)])∧w'=chgW (.slice pa n ca) (.slice pb m cb) 23 w:=by
 go_enter func23,ntmps23
 go_wp2_with fail
 go_ret
 exact ⟨rfl,rfl⟩
theorem othp_any (pa pb:Option Addr) (n m ca cb:Nat) (w:World):Calls prog 24 #[.slice pa n ca,.slice pb m cb] w fun e w'=>e=.returned (.func (.func 31) #[] #[.pointer (some ⟨w.heap.size,0,none⟩),.pointer (some ⟨w.heap.size+1,0,none⟩)])∧w'=chgW (.slice pa n ca) (.slice pb m cb) 27 w:=by
 go_enter func24,ntmps24
 go_wp2_with fail
 go_ret
 exact ⟨rfl,rfl⟩
theorem othi_stops (n:Nat) (hn:1≤n) (N:Nat→Prop) (xs ys:List Int) (hl:ys.length=xs.length) (pa pb:Option Addr) (ca cb:Nat) (b1 b2:Nat) (w:World) (h1:Blk w b1 23 #[.slice pa xs.length ca]) (h2:Blk w b2 23 #[.slice pb ys.length cb]) (n1:N b1) (n2:N b2)
 (hx:Ae w pa xs) (hy:Ae w pb ys) (nx:xs=[]∨∀q,pa=some q→N q.block) (ny:ys=[]∨∀q,pb=some q→N q.block) :
 SeqStopsK Fence.wide n prog 30 #[.pointer (some ⟨b1,0,none⟩),.pointer (some ⟨b2,0,none⟩)] (fun z:Fin xs.length=>#[.int .i64 (z.1:Int),.int .i64 (ys.getD z.1 0)]) (KP N) (fun l=>l.map Fin.val=difL xs ys) (fun pre=>pre.map Fin.val <+: difL xs ys) (difL xs ys).length w:=by
 rw [hl] at h2
 intro l J Jx W hWB hJ hJx hY h0
 have hlen:=hx.len
 have hW1:=h1.below hWB h1.lt
 have hW2:=h2.below hWB h2.lt
 have HW1:=hid hW1
 have HW2:=hid hW2
 have HX:=hid (hx.below hWB (Nat.le_refl _))
 have HY2:=hid (hy.below hWB (Nat.le_refl _))
 have HJ:=hid hJ
 have HY:=hid hY
 have H0:=hid h0
 have NX:=hid nx
 have NY:=hid ny
 have HLL:=hid hl
 have c1:=hW1.cell
 have c2:=hW2.cell
 have l1:=hW1.lt
 have l2:=hW2.lt
 have mi:=run_min2 xs.length
 clear hWB hJ hJx hY h0 hx hy nx ny h1 h2 hW1 hW2 hl
 refine callsIn_of_wp func30 rfl trivial ?_ rfl
 simp only [ntmps30,List.size_toArray,List.length_cons,List.length_nil,Nat.reduceAdd,Nat.reduceSub,Array.replicate_succ,Array.replicate_zero,List.push_toArray,List.append_toArray,List.nil_append,List.cons_append]
 gi_wp2
 gi_loopw [4,10] (fun _ k wr=>∃(m:Nat) (pre:List (Fin xs.length)),k=.int .i64 m∧m≤xs.length∧pre.map Fin.val=difTo xs ys m∧J pre wr∧KP N W wr) (fun _ k _=>xs.length-(intOf k).toNat)
 case atStart=>exact ⟨0,[],rfl,Nat.zero_le _,rfl,H0.out,KP.refl _⟩
 case round =>
  obtain ⟨m,pre,rfl,hm,hpre,hJp,hk⟩:=hrel
  have HPRE:=hid hpre
  have HJP:=hid hJp
  have HK:=hid hk
  clear hJp hpre c1 c2 l1 l2 H0
  by_cases hlt:m<xs.length
  ·have hlt2:m<ys.length:=by have:=HLL.out;omega
   have d1:=(hk.blk n1 HW1.out).cell
   have d2:=(hk.blk n2 HW2.out).cell
   have e1:=(hk.blk n1 HW1.out).lt
   have e2:=(hk.blk n2 HW2.out).lt
   obtain ⟨xb,xo,rfl,hxb,hxc⟩:=(hk.ints HX.out NX.out).at_ hlt
   obtain ⟨yb,yo,rfl,hyb,hyc⟩:=(hk.ints HY2.out NY.out).at_ hlt2
   have u0:=hxc m hlt
   have u1:=hyc m hlt2
   clear hxc hyc
   have hw:IntKind.i64.wrap ((m:Int)+1)=(m:Int)+1:=IntWalk.i64_in _ (by omega)
   have hq:(m:Int)<(xs.length:Int):=by omega
   have ES:=hid (fun e:xs[m]=ys[m]=>difTo_same (xs:=xs) (ys:=ys) (n:=m) (by rw [List.getElem?_eq_getElem hlt,List.getElem?_eq_getElem hlt2,e]))
   have EM:=hid (fun e:¬xs[m]=ys[m]=>difTo_more (xs:=xs) (ys:=ys) (n:=m) (by rw [List.getElem?_eq_getElem hlt,List.getElem?_eq_getElem hlt2];simpa using e))
   have EP:=hid (difTo_pre (xs:=xs) (ys:=ys) (n:=m+1) (m:=xs.length) hlt)
   have EV:=hid (getI_at hlt2)
   clear hk
   generalize xs[m]=a1 at *
   generalize ys[m]=a2 at *
   by_cases he:a1=a2
   ·have HE:=hid (ES.out he)
    have q0:(a1 != a2)=false:=by simp [he]
    clear he ES EM EP HY EV
    gi_wp2
    refine wpIn_region_quiet_lit rfl (by kernel_rfl) (by kernel_rfl) ?_
    repeat (gi_big_quiet_step (fail))
    refine BigFrame.wpQuietIn_skip (fun _ _ _ _=>trivial) rfl ?_
    simp only [Act.put,List.setIfInBounds_toArray,List.set_cons_zero,List.set_cons_succ]
    repeat (gi_big_quiet_step (fail))
    refine wpQuietIn_nil ?_
    rintro _ ⟨nq,rfl⟩
    gi_wp2
    go_roundw
    case rel=>exact ⟨m+1,pre,by go_num,by omega,by rw [HE.out];exact HPRE.out,HJ.out _ _ _ none HJP.out (Cp7 wr nq) (fun r e=>by cases e),HK.out.below (Ib (Below.refl _ _) _)⟩
    case measure=>simp [intOf];omega
   ·have HE:=hid (EM.out he)
    have q0:(a1 != a2)=true:=by simpa using he
    clear he ES EM
    have YV:=HY.out pre ⟨m,hlt⟩ wr.drew (HJ.out _ _ _ none HJP.out (Cp7 wr 1) (fun r e=>by cases e)) (by
     have:=EP.out.length_le
     rw [HE.out,List.length_append,←HPRE.out,List.length_map] at this
     simp [difL] at this ⊢;omega)
    rw [show (ys.getD (⟨m,hlt⟩:Fin xs.length).1 0)=_ from EV.out] at YV
    have HP2:=hid (show (pre++[(⟨m,hlt⟩:Fin xs.length)]).map Fin.val=difTo xs ys (m+1) by rw [HE.out,List.map_append,HPRE.out];rfl)
    have YV:=hid YV
    clear HY EV
    gi_wp2
    refine still_tail_in 16 (by kernel_rfl) (by kernel_rfl) ?_
    simp only [List.take_succ_cons,List.take_zero,List.drop_succ_cons,List.drop_zero]
    repeat still_step
    refine wpStill_nil ?_
    obtain ⟨fn,tmps,assign,body,hy,hR⟩:=YV.out
    have HRR:=hid hR
    clear hR
    gi_wp2
    refine HRR.out.mono ?_
    rintro e W3 (⟨rfl,hJ3,hk3⟩|⟨rfl,hJx3⟩)
    ·have HK3:=hid hk3
     have HJ3:=hid hJ3
     clear hk3 hJ3 HRR YV hy
     gi_wp2
     go_roundw
     case rel=>exact ⟨m+1,_,by go_num,by omega,HP2.out,HJ3.out,(HK.out.below (Af (Below.refl _ _))).trans HK3.out⟩
     case measure=>simp [intOf];omega
    ·have HJX:=hid hJx3
     clear hJx3 HRR YV hy
     gi_wp2
     refine bodyPost_ret (results_none rfl _ _ _) rfl ?_
     exact ⟨⟨_,rfl⟩,.inr ⟨_,by rw [HP2.out];exact EP.out,HJX.out⟩⟩
  ·have hme:m=xs.length:=by omega
   subst hme
   have d1:=(hk.blk n1 HW1.out).cell
   have d2:=(hk.blk n2 HW2.out).cell
   have e1:=(hk.blk n1 HW1.out).lt
   have e2:=(hk.blk n2 HW2.out).lt
   clear hk
   gi_wp2
   refine bodyPost_end (results_none rfl _ _ _) rfl ?_
   exact ⟨⟨_,rfl⟩,.inl ⟨_,HPRE.out,HJP.out⟩⟩
theorem othp_stops (n:Nat) (hn:1≤n) (N:Nat→Prop) (xs ys:List Pl) (hl:ys.length=xs.length) (pa pb:Option Addr) (ca cb:Nat) (b1 b2:Nat) (w:World) (h1:Blk w b1 27 #[.slice pa xs.length ca]) (h2:Blk w b2 27 #[.slice pb ys.length cb]) (n1:N b1) (n2:N b2)
 (hx:Au w pa xs) (hy:Au w pb ys) (nx:xs=[]∨∀q,pa=some q→N q.block) (ny:ys=[]∨∀q,pb=some q→N q.block) :
 SeqStopsK Fence.wide n prog 31 #[.pointer (some ⟨b1,0,none⟩),.pointer (some ⟨b2,0,none⟩)] (fun z:Fin xs.length=>#[.int .i64 (z.1:Int),.agg #[.int .i64 (ys.getD z.1 ⟨0,0⟩).kind,.int .i64 (ys.getD z.1 ⟨0,0⟩).id]]) (KP N) (fun l=>l.map Fin.val=difL xs ys) (fun pre=>pre.map Fin.val <+: difL xs ys) (difL xs ys).length w:=by
 rw [hl] at h2
 intro l J Jx W hWB hJ hJx hY h0
 have hlen:=hx.len
 have hW1:=h1.below hWB h1.lt
 have hW2:=h2.below hWB h2.lt
 have HW1:=hid hW1
 have HW2:=hid hW2
 have HX:=hid (hx.below hWB (Nat.le_refl _))
 have HY2:=hid (hy.below hWB (Nat.le_refl _))
 have HJ:=hid hJ
 have HY:=hid hY
 have H0:=hid h0
 have NX:=hid nx
 have NY:=hid ny
 have HLL:=hid hl
 have c1:=hW1.cell
 have c2:=hW2.cell
 have l1:=hW1.lt
 have l2:=hW2.lt
 have mi:=run_min2 xs.length
 clear hWB hJ hJx hY h0 hx hy nx ny h1 h2 hW1 hW2 hl
 refine callsIn_of_wp func31 rfl trivial ?_ rfl
 simp only [ntmps31,List.size_toArray,List.length_cons,List.length_nil,Nat.reduceAdd,Nat.reduceSub,Array.replicate_succ,Array.replicate_zero,List.push_toArray,List.append_toArray,List.nil_append,List.cons_append]
 gi_wp2
 gi_loopw [4,10] (fun _ k wr=>∃(m:Nat) (pre:List (Fin xs.length)),k=.int .i64 m∧m≤xs.length∧pre.map Fin.val=difTo xs ys m∧J pre wr∧KP N W wr) (fun _ k _=>xs.length-(intOf k).toNat)
 case atStart=>exact ⟨0,[],rfl,Nat.zero_le _,rfl,H0.out,KP.refl _⟩
 case round =>
  obtain ⟨m,pre,rfl,hm,hpre,hJp,hk⟩:=hrel
  have HPRE:=hid hpre
  have HJP:=hid hJp
  have HK:=hid hk
  clear hJp hpre c1 c2 l1 l2 H0
  by_cases hlt:m<xs.length
  ·have hlt2:m<ys.length:=by have:=HLL.out;omega
   have d1:=(hk.blk n1 HW1.out).cell
   have d2:=(hk.blk n2 HW2.out).cell
   have e1:=(hk.blk n1 HW1.out).lt
   have e2:=(hk.blk n2 HW2.out).lt
   obtain ⟨xb,xo,rfl,hxb,u0,u1⟩:=(hk.pls HX.out NX.out).cells hlt
   obtain ⟨yb,yo,rfl,hyb,u2,u3⟩:=(hk.pls HY2.out NY.out).cells hlt2
   have hw:IntKind.i64.wrap ((m:Int)+1)=(m:Int)+1:=IntWalk.i64_in _ (by omega)
   have hq:(m:Int)<(xs.length:Int):=by omega
   have ES:=hid (fun e:xs[m]=ys[m]=>difTo_same (xs:=xs) (ys:=ys) (n:=m) (by rw [List.getElem?_eq_getElem hlt,List.getElem?_eq_getElem hlt2,e]))
   have EM:=hid (fun e:¬xs[m]=ys[m]=>difTo_more (xs:=xs) (ys:=ys) (n:=m) (by rw [List.getElem?_eq_getElem hlt,List.getElem?_eq_getElem hlt2];simpa using e))
   have EP:=hid (difTo_pre (xs:=xs) (ys:=ys) (n:=m+1) (m:=xs.length) hlt)
   have EV:=hid (getP_at hlt2)
   clear hk
   generalize xs[m]=a1 at *
   generalize ys[m]=a2 at *
   obtain ⟨x0,x1⟩:=a1
   obtain ⟨y0,y1⟩:=a2
   simp only at u0 u1 u2 u3
   have hrun:=Kj x0 x1 y0 y1
   by_cases he:(⟨x0,x1⟩:Pl)=⟨y0,y1⟩
   ·have HE:=hid (ES.out he)
    simp only [he,decide_true,Bool.not_true] at hrun
    clear he ES EM EP HY EV
    gi_wp2
    refine wpIn_region_quiet_lit rfl (by kernel_rfl) (by kernel_rfl) ?_
    repeat (gi_big_quiet_step (fail))
    refine BigFrame.wpQuietIn_skip (fun _ _ _ _=>trivial) rfl ?_
    simp only [Act.put,List.setIfInBounds_toArray,List.set_cons_zero,List.set_cons_succ]
    repeat (gi_big_quiet_step (fail))
    refine wpQuietIn_nil ?_
    rintro _ ⟨nq,rfl⟩
    gi_wp2
    go_roundw
    case rel=>exact ⟨m+1,pre,by go_num,by omega,by rw [HE.out];exact HPRE.out,HJ.out _ _ _ none HJP.out (Cp7 wr nq) (fun r e=>by cases e),HK.out.below (Ib (Below.refl _ _) _)⟩
    case measure=>simp [intOf];omega
   ·have HE:=hid (EM.out he)
    simp only [he,decide_false,Bool.not_false] at hrun
    clear he ES EM
    have YV:=HY.out pre ⟨m,hlt⟩ wr.drew (HJ.out _ _ _ none HJP.out (Cp7 wr 1) (fun r e=>by cases e)) (by
     have:=EP.out.length_le
     rw [HE.out,List.length_append,←HPRE.out,List.length_map] at this
     simp [difL] at this ⊢;omega)
    rw [show (ys.getD (⟨m,hlt⟩:Fin xs.length).1 ⟨0,0⟩)=_ from EV.out] at YV
    have HP2:=hid (show (pre++[(⟨m,hlt⟩:Fin xs.length)]).map Fin.val=difTo xs ys (m+1) by rw [HE.out,List.map_append,HPRE.out];rfl)
    have YV:=hid YV
    clear HY EV
    gi_wp2
    refine still_tail_in 16 (by kernel_rfl) (by kernel_rfl) ?_
    simp only [List.take_succ_cons,List.take_zero,List.drop_succ_cons,List.drop_zero]
    repeat still_step
    refine wpStill_nil ?_
    obtain ⟨fn,tmps,assign,body,hy,hR⟩:=YV.out
    have HRR:=hid hR
    clear hR
    gi_wp2
    refine HRR.out.mono ?_
    rintro e W3 (⟨rfl,hJ3,hk3⟩|⟨rfl,hJx3⟩)
    ·have HK3:=hid hk3
     have HJ3:=hid hJ3
     clear hk3 hJ3 HRR YV hy
     gi_wp2
     go_roundw
     case rel=>exact ⟨m+1,_,by go_num,by omega,HP2.out,HJ3.out,(HK.out.below (Af (Below.refl _ _))).trans HK3.out⟩
     case measure=>simp [intOf];omega
    ·have HJX:=hid hJx3
     clear hJx3 HRR YV hy
     gi_wp2
     refine bodyPost_ret (results_none rfl _ _ _) rfl ?_
     exact ⟨⟨_,rfl⟩,.inr ⟨_,by rw [HP2.out];exact EP.out,HJX.out⟩⟩
  ·have hme:m=xs.length:=by omega
   subst hme
   have d1:=(hk.blk n1 HW1.out).cell
   have d2:=(hk.blk n2 HW2.out).cell
   have e1:=(hk.blk n1 HW1.out).lt
   have e2:=(hk.blk n2 HW2.out).lt
   clear hk
   gi_wp2
   refine bodyPost_end (results_none rfl _ _ _) rfl ?_
   exact ⟨⟨_,rfl⟩,.inl ⟨_,HPRE.out,HJP.out⟩⟩
end Go.Proofs.Ytnhkojpbbdaedaa
