/- line.Get: what it answers, and that its lists are new. -/
import Derived.Test.YtaeclpjofclbeaaDoorGLineT
namespace Go.Proofs.YtaeclpjofclbeaaDoor
open Go.ChangeShapes Go.WideShapes Go.ChangeAt Go.RowKit
open Lib (hid)
set_option linter.unusedVariables false
open Go.RowKit Go
def GetsN (w:World) (ws:List (List UInt8)) (e:Ending) (w':World):Prop :=
 ∃c ga gc wa wc,c=Ng ws∧e=.returned (.tuple #[.agg (cC c ga gc wa wc),.int .i64 (if La ws then 0 else 2)])∧Ae w' ga c.gives∧Ae w' wa c.wants∧Dx7 ga c.gives (w.heap.size+1)∧Dx7 wa c.wants (w.heap.size+1)∧Below w.heap.size w w'
set_option maxRecDepth 100000 in
set_option maxHeartbeats 2000000 in
theorem get_new (s:ByteArray) (w:World) (hs:s.size≤500000) (ht:Tabs w):Calls Tryd.prog 31 #[.string s] w (GetsN w (Aq s.data.toList)):=by
 have HS:=hid hs
 have HT:=hid ht
 have HW:=hid (Kz hs)
 clear hs ht
 obtain ⟨p0,t0⟩:=Ce6.start w
 have P0:=hid p0
 have T0:=hid t0
 clear p0 t0
 unfold Bp at P0 T0
 have hCC:=@cC.eq_1
 go_enter Tryd.func31,Tryd.ntmps31
 go_wp2_with fail
 refine (Ec9 s _ (by have:=HS.out;omega)).mono ?_
 rintro e w1 ⟨v,rfl,hv,b1⟩
 have P1:=hid (P0.below b1)
 have T1:=hid (T0.below b1)
 have V1:=hid hv
 clear b1 hv P0 T0
 generalize Aq s.data.toList=ws at *
 go_wp2_with fail
 refine (lread_any _ v ws _ (fun W' hg=>HT.below ((P1.grown hg).1) lr0) T1.out V1.out HW.out).mono ?_
 rintro e w2 ⟨ga,gc,wa,wc,rfl,t2,hg⟩
 have P2:=hid (P1.grown hg)
 have T2:=hid t2
 clear t2 hg P1 T1 V1
 have hres:=P2.2.2.cell
 have hfr:=P2.2.2.frozen
 unfold Bp at hres
 cases hb:Ej5 ws
 ·have HB:=hid hb
  have hq:((Vx ws).2.2&&decide ((Vx ws).2.1=[]))=false:=hb
  have HQ:=hid hq
  rw [HQ.out]
  clear hb hq
  go_wp2_with fail
  generalize hW:((((((((w2.setCell ⟨w.heap.size,0,none⟩ _).setCell ⟨w.heap.size,1,none⟩ _).setCell ⟨w.heap.size,2,none⟩ _).setCell ⟨w.heap.size,3,none⟩ _).setCell ⟨w.heap.size,4,none⟩ _).setCell ⟨w.heap.size,5,none⟩ _).setCell ⟨w.heap.size,6,none⟩ _).setCell ⟨w.heap.size,7,none⟩ _).setCell ⟨w.heap.size,8,none⟩ _=W'
  obtain ⟨k1,k2⟩:=fin9 P2.2.2 _ _ _ _ _ _ _ _ _ hW.symm
  have hc:=k1.cell
  have hcb:La ws=false:=by unfold La;rw [HB.out];rfl
  have hcc:Ng ws=Dh:=by unfold Ng;rw [hcb];rfl
  refine bodyPost_ret (v:=.tuple #[.agg #[.int .i64 0,.int .i64 0,.int .i64 0,.int .i64 0,.int .i64 0,.slice none 0 0,.int .i64 0,.slice none 0 0,.int .i64 0],.int .i64 2]) (by simp [results,Tryd.results31,go_sem,hc]) rfl ?_
  exact ⟨Dh,none,0,none,0,hcc.symm,by rw [hcb];rfl,Ae.nil _ _,Ae.nil _ _,.inl rfl,.inl rfl,P2.1.grown k2 (by have:=P2.2.1;omega) (fun k e=>by have:=Option.some.inj e;omega)⟩
 ·have HB:=hid hb
  have hq:((Vx ws).2.2&&decide ((Vx ws).2.1=[]))=true:=hb
  have HQ:=hid hq
  rw [HQ.out]
  clear hb hq
  have HX:=hid (show La ws=mayB (Vx ws).1∧Ng ws=if mayB (Vx ws).1 then (Vx ws).1 else Dh by
   have:La ws=mayB (Vx ws).1:=by unfold La;rw [HB.out];rfl
   exact ⟨this,by unfold Ng;rw [this]⟩)
  clear HB HQ HW HS
  generalize (Vx ws).1=c at *
  have hcc:=T2.blk.cell
  go_wp2_with fail
  refine (Ha c ga wa gc wc _ T2.gi T2.wi).mono ?_
  rintro e w3 ⟨rfl,b3⟩
  have P3:=hid (P2.below b3)
  have T3:=hid (T2.below b3)
  clear b3 hcc hres hfr P2 T2
  have hres:=P3.2.2.cell
  have hfr:=P3.2.2.frozen
  have hcc:=T3.blk.cell
  unfold Bp at hres
  cases hm:mayB c
  ·have HM:=hid hm
   clear hm
   go_wp2_with fail
   generalize hW:((((((((w3.setCell ⟨w.heap.size,0,none⟩ _).setCell ⟨w.heap.size,1,none⟩ _).setCell ⟨w.heap.size,2,none⟩ _).setCell ⟨w.heap.size,3,none⟩ _).setCell ⟨w.heap.size,4,none⟩ _).setCell ⟨w.heap.size,5,none⟩ _).setCell ⟨w.heap.size,6,none⟩ _).setCell ⟨w.heap.size,7,none⟩ _).setCell ⟨w.heap.size,8,none⟩ _=W'
   obtain ⟨k1,k2⟩:=fin9 P3.2.2 _ _ _ _ _ _ _ _ _ hW.symm
   have hc:=k1.cell
   have hcb:La ws=false:=by rw [HX.1,HM.out]
   have hcz:Ng ws=Dh:=by rw [HX.2,HM.out];rfl
   refine bodyPost_ret (v:=.tuple #[.agg #[.int .i64 0,.int .i64 0,.int .i64 0,.int .i64 0,.int .i64 0,.slice none 0 0,.int .i64 0,.slice none 0 0,.int .i64 0],.int .i64 2]) (by simp [results,Tryd.results31,go_sem,hc]) rfl ?_
   exact ⟨Dh,none,0,none,0,hcz.symm,by rw [hcb];rfl,Ae.nil _ _,Ae.nil _ _,.inl rfl,.inl rfl,P3.1.grown k2 (by have:=P3.2.1;omega) (fun k e=>by have:=Option.some.inj e;omega)⟩
  ·have HM:=hid hm
   clear hm
   go_wp2_with fail
   generalize hW:((((((((w3.setCell ⟨w.heap.size,0,none⟩ _).setCell ⟨w.heap.size,1,none⟩ _).setCell ⟨w.heap.size,2,none⟩ _).setCell ⟨w.heap.size,3,none⟩ _).setCell ⟨w.heap.size,4,none⟩ _).setCell ⟨w.heap.size,5,none⟩ _).setCell ⟨w.heap.size,6,none⟩ _).setCell ⟨w.heap.size,7,none⟩ _).setCell ⟨w.heap.size,8,none⟩ _=W'
   obtain ⟨k1,k2⟩:=fin9 P3.2.2 _ _ _ _ _ _ _ _ _ hW.symm
   have hc:=k1.cell
   have hcb:La ws=true:=by rw [HX.1,HM.out]
   have hcz:Ng ws=c:=by rw [HX.2,HM.out];rfl
   refine bodyPost_ret (v:=.tuple #[.agg (cC c ga gc wa wc),.int .i64 0]) (by simp [results,Tryd.results31,go_sem,hc]) rfl ?_
   exact ⟨c,ga,gc,wa,wc,hcz.symm,by rw [hcb];rfl,T3.gi.grown (v:=bv w.heap.size) k2 (T3.go.off (by omega)),T3.wi.grown (v:=bv w.heap.size) k2 (T3.wo.off (by omega)),T3.go,T3.wo,P3.1.grown k2 (by have:=P3.2.1;omega) (fun k e=>by have:=Option.some.inj e;omega)⟩
end Go.Proofs.YtaeclpjofclbeaaDoor
