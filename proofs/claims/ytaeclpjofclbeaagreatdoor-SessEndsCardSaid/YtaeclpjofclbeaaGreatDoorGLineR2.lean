/- line: the document's own Get, of kinds 1 to 7. -/
import Derived.Test.YtaeclpjofclbeaaGreatDoorGLineR1
namespace Go.Proofs.YtaeclpjofclbeaaGreatDoor
open Go.ChangeShapes Go.WideShapes Go.ChangeAt Go.RowKit Go.Proofs.Tryz
open List (setIfInBounds_toArray set_cons_zero set_cons_succ)
open Lib (hid)
set_option linter.unusedVariables false
set_option maxHeartbeats 32000000
set_option maxRecDepth 100000
section
open Go.RowKit Go
theorem Fz2 (s:ByteArray) (w:World) (hs:s.size≤500000) (x:List UInt8) (hx:(Aq s.data.toList)[0]?=some x) (y:List UInt8) (hy:(Aq s.data.toList)[1]?=some y) (hk:Ct x=1):Calls prog 8 #[.string s] w (Gets w (Aq s.data.toList)):=by
 have HS:=hid hs
 have HW:=hid (Kz hs)
 have HX:=hid hx
 have HK:=hid hk
 clear hs hx hk
 have HY:=hid hy
 clear hy
 have P0:=hid (GetW.start w)
 unfold Bp at P0
 go_enter func8,ntmps8
 go_wp2_with fail
 refine (Fu s _ (by have:=HS.out;omega)).mono ?_
 rintro e w1 ⟨v,rfl,hv,b1⟩
 have P1:=hid (P0.below b1)
 clear P0 b1
 generalize Aq s.data.toList=ws at *
 obtain ⟨a,cap,rfl,hl,hcs⟩:=hv
 have hn:0<ws.length:=(List.getElem?_eq_some_iff.1 HX.out).1
 obtain ⟨b,off,rfl,hb,hcs⟩:∃b off,a=some ⟨b,off,none⟩∧b<w1.heap.size∧∀i (hi:i<ws.length),w1.cell? ⟨b,off+i,none⟩=some (str ws[i]):=by
  rcases hcs with h|h
  ·rw [h] at hn;simp at hn
  ·exact h
 have HV:=hid (show Strs w1 (.slice (some ⟨b,off,none⟩) ws.length cap) ws from ⟨_,_,rfl,hl,.inr ⟨b,off,rfl,hb,hcs⟩⟩)
 have c0:=hcs 0 hn
 rw [Nat.add_zero,show ws[0]=x from (List.getElem?_eq_some_iff.1 HX.out).2] at c0
 unfold str at c0
 have hn0:((ws.length:Int)==0)=false:=by rw [beq_eq_false_iff_ne];omega
 unfold maxLen at hl
 have HL:=hid HW.2
 have HB:=hid hb
 have HCS:=hid hcs
 clear hb hcs
 go_wp2_with fail
 refine (Gs x _).mono ?_
 rintro e w2 ⟨rfl,b2⟩
 rw [HK.out]
 have c1:=fun i hi=>(b2.cell (p:=⟨b,off+i,none⟩) HB.out).trans (HCS.out i hi)
 have P2:=hid (P1.below b2)
 have hbz:=b2.size
 have HV2:=hid (HV.below b2)
 have HC1:=hid c1
 clear b2 c0 hn0 P1 HV c1 HCS
 have c1:=HC1.out 1 (by have:=(List.getElem?_eq_some_iff.1 HY.out).1;omega)
 rw [show ws[1]'(List.getElem?_eq_some_iff.1 HY.out).1=y from (List.getElem?_eq_some_iff.1 HY.out).2] at c1
 unfold str at c1
 have l0:1<ws.length:=(List.getElem?_eq_some_iff.1 HY.out).1
 have l1:(1:Int)<(ws.length:Int):=by omega
 have HE:=hid (show Zc ws 1=dirN y by unfold Zc;rw [if_pos l0];simp [List.getD,HY.out])
 have hb2:b<w2.heap.size:=Nat.lt_of_lt_of_le HB.out hbz
 have c1:=fun o:Obj=>(World.cell?_alloc_lt (w:=w2) (a:=⟨b,off+1,none⟩) (o:=o) hb2).trans c1
 clear l0 hb2
 go_wp2_with fail
 refine (Bq6 y _).mono ?_
 rintro e w' ⟨rfl,rfl⟩
 have HD:=hid (show ws.getD 0 []=x by simp [List.getD,HX.out])
 have HC:=hid (show ⟨1,dirN y,0,0,0,[],0,[],0⟩=Kt ws by unfold Kt;rw [HD.out,HK.out];simp [Ri,Dh,HE.out])
 have G:=hid (GetG.alloc (c:=⟨1,dirN y,0,0,0,[],0,[],0⟩) P2.out rfl rfl (cs:=#[.int .i64 1,.int .i64 (dirN y),.int .i64 0,.int .i64 0,.int .i64 0,.slice none 0 0,.int .i64 0,.slice none 0 0,.int .i64 0]) rfl)
 have HV:=hid (HV2.below (b_a (.cells #[.int .i64 1,.int .i64 (dirN y),.int .i64 0,.int .i64 0,.int .i64 0,.slice none 0 0,.int .i64 0,.slice none 0 0,.int .i64 0] 29)))
 clear HV2 P2
 go_wp2_with fail
 refine (Bw ⟨1,dirN y,0,0,0,[],0,[],0⟩ none none 0 0 _ G.2.2.gi G.2.2.wi).mono ?_
 rintro e w3 ⟨rfl,b3⟩
 have G3:=hid (G.below b3)
 have HV3:=hid (HV.below b3)
 clear b3
 have hcc:=G3.2.2.blk.cell
 have hres:=G3.1.2.2.cell
 have hfr:=G3.1.2.2.frozen
 unfold Bp at hres
 cases hm:Ak ⟨1,dirN y,0,0,0,[],0,[],0⟩
 ·have HM:=hid ((Ej _).trans hm)
  clear hm
  go_wp2_with fail
  generalize hW:((((((((w3.setCell ⟨w.heap.size,0,none⟩ _).setCell ⟨w.heap.size,1,none⟩ _).setCell ⟨w.heap.size,2,none⟩ _).setCell ⟨w.heap.size,3,none⟩ _).setCell ⟨w.heap.size,4,none⟩ _).setCell ⟨w.heap.size,5,none⟩ _).setCell ⟨w.heap.size,6,none⟩ _).setCell ⟨w.heap.size,7,none⟩ _).setCell ⟨w.heap.size,8,none⟩ _=W'
  obtain ⟨k1,k2⟩:=fin9 G3.1.2.2 _ _ _ _ _ _ _ _ _ hW.symm
  have hc:=k1.cell
  refine bodyPost_ret (v:=.tuple #[.agg #[.int .i64 0,.int .i64 0,.int .i64 0,.int .i64 0,.int .i64 0,.slice none 0 0,.int .i64 0,.slice none 0 0,.int .i64 0],.int .i64 2]) (by simp [results,results8,go_sem,hc]) rfl ?_
  exact Ii G3.1 ⟨k1,k2⟩ (by unfold refB;rw [←HC.out,HM.out];rfl)
 ·have HM:=hid ((Ej _).trans hm)
  clear hm
  go_wp2_with fail
  refine (Hm ⟨1,dirN y,0,0,0,[],0,[],0⟩ none none 0 0 _ HM.out G3.2.2.gi G3.2.2.wi).mono ?_
  rintro e w4 ⟨u,rfl,hu,b4⟩
  have G4:=hid (G3.below b4)
  have HV4:=hid (HV3.below b4)
  have HU:=hid hu
  clear b4 hu hcc hres hfr
  go_wp2_with fail
  refine (Hu _ HU.out HV4.out).mono ?_
  rintro e w5 ⟨rfl,b5⟩
  have G5:=hid (G4.below b5)
  clear b5
  have hcc:=G5.2.2.blk.cell
  have hres:=G5.1.2.2.cell
  have hfr:=G5.1.2.2.frozen
  unfold Bp at hres
  by_cases he:wordsOf ⟨1,dirN y,0,0,0,[],0,[],0⟩=ws
  ·have HE:=hid he
   rw [decide_eq_true he]
   clear he
   go_wp2_with fail
   generalize hW:((((((((w5.setCell ⟨w.heap.size,0,none⟩ _).setCell ⟨w.heap.size,1,none⟩ _).setCell ⟨w.heap.size,2,none⟩ _).setCell ⟨w.heap.size,3,none⟩ _).setCell ⟨w.heap.size,4,none⟩ _).setCell ⟨w.heap.size,5,none⟩ _).setCell ⟨w.heap.size,6,none⟩ _).setCell ⟨w.heap.size,7,none⟩ _).setCell ⟨w.heap.size,8,none⟩ _=W'
   obtain ⟨k1,k2⟩:=fin9 G5.1.2.2 _ _ _ _ _ _ _ _ _ hW.symm
   have hc:=k1.cell
   refine bodyPost_ret (v:=.tuple #[.agg #[.int .i64 1,.int .i64 (dirN y),.int .i64 0,.int .i64 0,.int .i64 0,.slice none 0 0,.int .i64 0,.slice none 0 0,.int .i64 0],.int .i64 0]) (by simp [results,results8,go_sem,hc]) rfl ?_
   exact Pk G5.out HC.out k2 (by unfold refB;rw [←HC.out,HM.out,HE.out];simp)
  ·have HE:=hid he
   rw [decide_eq_false he]
   clear he
   go_wp2_with fail
   generalize hW:((((((((w5.setCell ⟨w.heap.size,0,none⟩ _).setCell ⟨w.heap.size,1,none⟩ _).setCell ⟨w.heap.size,2,none⟩ _).setCell ⟨w.heap.size,3,none⟩ _).setCell ⟨w.heap.size,4,none⟩ _).setCell ⟨w.heap.size,5,none⟩ _).setCell ⟨w.heap.size,6,none⟩ _).setCell ⟨w.heap.size,7,none⟩ _).setCell ⟨w.heap.size,8,none⟩ _=W'
   obtain ⟨k1,k2⟩:=fin9 G5.1.2.2 _ _ _ _ _ _ _ _ _ hW.symm
   have hc:=k1.cell
   refine bodyPost_ret (v:=.tuple #[.agg #[.int .i64 0,.int .i64 0,.int .i64 0,.int .i64 0,.int .i64 0,.slice none 0 0,.int .i64 0,.slice none 0 0,.int .i64 0],.int .i64 2]) (by simp [results,results8,go_sem,hc]) rfl ?_
   exact Ii G5.1 ⟨k1,k2⟩ (by unfold refB;rw [←HC.out,decide_eq_false HE.out];simp)
theorem Fz1 (s:ByteArray) (w:World) (hs:s.size≤500000) (x:List UInt8) (hx:(Aq s.data.toList)[0]?=some x) (hy:(Aq s.data.toList).length≤1) (hk:Ct x=1):Calls prog 8 #[.string s] w (Gets w (Aq s.data.toList)):=by
 have HS:=hid hs
 have HW:=hid (Kz hs)
 have HX:=hid hx
 have HK:=hid hk
 clear hs hx hk
 have HY:=hid hy
 clear hy
 have P0:=hid (GetW.start w)
 unfold Bp at P0
 go_enter func8,ntmps8
 go_wp2_with fail
 refine (Fu s _ (by have:=HS.out;omega)).mono ?_
 rintro e w1 ⟨v,rfl,hv,b1⟩
 have P1:=hid (P0.below b1)
 clear P0 b1
 generalize Aq s.data.toList=ws at *
 obtain ⟨a,cap,rfl,hl,hcs⟩:=hv
 have hn:0<ws.length:=(List.getElem?_eq_some_iff.1 HX.out).1
 obtain ⟨b,off,rfl,hb,hcs⟩:∃b off,a=some ⟨b,off,none⟩∧b<w1.heap.size∧∀i (hi:i<ws.length),w1.cell? ⟨b,off+i,none⟩=some (str ws[i]):=by
  rcases hcs with h|h
  ·rw [h] at hn;simp at hn
  ·exact h
 have HV:=hid (show Strs w1 (.slice (some ⟨b,off,none⟩) ws.length cap) ws from ⟨_,_,rfl,hl,.inr ⟨b,off,rfl,hb,hcs⟩⟩)
 have c0:=hcs 0 hn
 rw [Nat.add_zero,show ws[0]=x from (List.getElem?_eq_some_iff.1 HX.out).2] at c0
 unfold str at c0
 have hn0:((ws.length:Int)==0)=false:=by rw [beq_eq_false_iff_ne];omega
 unfold maxLen at hl
 have HL:=hid HW.2
 have HB:=hid hb
 have HCS:=hid hcs
 clear hb hcs
 go_wp2_with fail
 refine (Gs x _).mono ?_
 rintro e w2 ⟨rfl,b2⟩
 rw [HK.out]
 have c1:=fun i hi=>(b2.cell (p:=⟨b,off+i,none⟩) HB.out).trans (HCS.out i hi)
 have P2:=hid (P1.below b2)
 have hbz:=b2.size
 have HV2:=hid (HV.below b2)
 have HC1:=hid c1
 clear b2 c0 hn0 P1 HV c1 HCS
 have l0:¬1<ws.length:=by have:=HY.out;omega
 have l1:¬(1:Int)<(ws.length:Int):=by omega
 have HE:=hid (show Zc ws 1=0 by unfold Zc;rw [if_neg l0])
 clear l0
 have HD:=hid (show ws.getD 0 []=x by simp [List.getD,HX.out])
 have HC:=hid (show ⟨1,0,0,0,0,[],0,[],0⟩=Kt ws by unfold Kt;rw [HD.out,HK.out];simp [Ri,Dh,HE.out])
 have G:=hid (GetG.alloc (c:=⟨1,0,0,0,0,[],0,[],0⟩) P2.out rfl rfl (cs:=#[.int .i64 1,.int .i64 0,.int .i64 0,.int .i64 0,.int .i64 0,.slice none 0 0,.int .i64 0,.slice none 0 0,.int .i64 0]) rfl)
 have HV:=hid (HV2.below (b_a (.cells #[.int .i64 1,.int .i64 0,.int .i64 0,.int .i64 0,.int .i64 0,.slice none 0 0,.int .i64 0,.slice none 0 0,.int .i64 0] 29)))
 clear HV2 P2
 go_wp2_with fail
 refine (Bw ⟨1,0,0,0,0,[],0,[],0⟩ none none 0 0 _ G.2.2.gi G.2.2.wi).mono ?_
 rintro e w3 ⟨rfl,b3⟩
 have G3:=hid (G.below b3)
 have HV3:=hid (HV.below b3)
 clear b3
 have hcc:=G3.2.2.blk.cell
 have hres:=G3.1.2.2.cell
 have hfr:=G3.1.2.2.frozen
 unfold Bp at hres
 cases hm:Ak ⟨1,0,0,0,0,[],0,[],0⟩
 ·have HM:=hid ((Ej _).trans hm)
  clear hm
  go_wp2_with fail
  generalize hW:((((((((w3.setCell ⟨w.heap.size,0,none⟩ _).setCell ⟨w.heap.size,1,none⟩ _).setCell ⟨w.heap.size,2,none⟩ _).setCell ⟨w.heap.size,3,none⟩ _).setCell ⟨w.heap.size,4,none⟩ _).setCell ⟨w.heap.size,5,none⟩ _).setCell ⟨w.heap.size,6,none⟩ _).setCell ⟨w.heap.size,7,none⟩ _).setCell ⟨w.heap.size,8,none⟩ _=W'
  obtain ⟨k1,k2⟩:=fin9 G3.1.2.2 _ _ _ _ _ _ _ _ _ hW.symm
  have hc:=k1.cell
  refine bodyPost_ret (v:=.tuple #[.agg #[.int .i64 0,.int .i64 0,.int .i64 0,.int .i64 0,.int .i64 0,.slice none 0 0,.int .i64 0,.slice none 0 0,.int .i64 0],.int .i64 2]) (by simp [results,results8,go_sem,hc]) rfl ?_
  exact Ii G3.1 ⟨k1,k2⟩ (by unfold refB;rw [←HC.out,HM.out];rfl)
 ·have HM:=hid ((Ej _).trans hm)
  clear hm
  go_wp2_with fail
  refine (Hm ⟨1,0,0,0,0,[],0,[],0⟩ none none 0 0 _ HM.out G3.2.2.gi G3.2.2.wi).mono ?_
  rintro e w4 ⟨u,rfl,hu,b4⟩
  have G4:=hid (G3.below b4)
  have HV4:=hid (HV3.below b4)
  have HU:=hid hu
  clear b4 hu hcc hres hfr
  go_wp2_with fail
  refine (Hu _ HU.out HV4.out).mono ?_
  rintro e w5 ⟨rfl,b5⟩
  have G5:=hid (G4.below b5)
  clear b5
  have hcc:=G5.2.2.blk.cell
  have hres:=G5.1.2.2.cell
  have hfr:=G5.1.2.2.frozen
  unfold Bp at hres
  by_cases he:wordsOf ⟨1,0,0,0,0,[],0,[],0⟩=ws
  ·have HE:=hid he
   rw [decide_eq_true he]
   clear he
   go_wp2_with fail
   generalize hW:((((((((w5.setCell ⟨w.heap.size,0,none⟩ _).setCell ⟨w.heap.size,1,none⟩ _).setCell ⟨w.heap.size,2,none⟩ _).setCell ⟨w.heap.size,3,none⟩ _).setCell ⟨w.heap.size,4,none⟩ _).setCell ⟨w.heap.size,5,none⟩ _).setCell ⟨w.heap.size,6,none⟩ _).setCell ⟨w.heap.size,7,none⟩ _).setCell ⟨w.heap.size,8,none⟩ _=W'
   obtain ⟨k1,k2⟩:=fin9 G5.1.2.2 _ _ _ _ _ _ _ _ _ hW.symm
   have hc:=k1.cell
   refine bodyPost_ret (v:=.tuple #[.agg #[.int .i64 1,.int .i64 0,.int .i64 0,.int .i64 0,.int .i64 0,.slice none 0 0,.int .i64 0,.slice none 0 0,.int .i64 0],.int .i64 0]) (by simp [results,results8,go_sem,hc]) rfl ?_
   exact Pk G5.out HC.out k2 (by unfold refB;rw [←HC.out,HM.out,HE.out];simp)
  ·have HE:=hid he
   rw [decide_eq_false he]
   clear he
   go_wp2_with fail
   generalize hW:((((((((w5.setCell ⟨w.heap.size,0,none⟩ _).setCell ⟨w.heap.size,1,none⟩ _).setCell ⟨w.heap.size,2,none⟩ _).setCell ⟨w.heap.size,3,none⟩ _).setCell ⟨w.heap.size,4,none⟩ _).setCell ⟨w.heap.size,5,none⟩ _).setCell ⟨w.heap.size,6,none⟩ _).setCell ⟨w.heap.size,7,none⟩ _).setCell ⟨w.heap.size,8,none⟩ _=W'
   obtain ⟨k1,k2⟩:=fin9 G5.1.2.2 _ _ _ _ _ _ _ _ _ hW.symm
   have hc:=k1.cell
   refine bodyPost_ret (v:=.tuple #[.agg #[.int .i64 0,.int .i64 0,.int .i64 0,.int .i64 0,.int .i64 0,.slice none 0 0,.int .i64 0,.slice none 0 0,.int .i64 0],.int .i64 2]) (by simp [results,results8,go_sem,hc]) rfl ?_
   exact Ii G5.1 ⟨k1,k2⟩ (by unfold refB;rw [←HC.out,decide_eq_false HE.out];simp)
theorem Fz0 (s:ByteArray) (w:World) (hs:s.size≤500000) (x:List UInt8) (hx:(Aq s.data.toList)[0]?=some x) (y:List UInt8) (hy:(Aq s.data.toList)[2]?=some y) (hk:Ct x=2):Calls prog 8 #[.string s] w (Gets w (Aq s.data.toList)):=by
 have HS:=hid hs
 have HW:=hid (Kz hs)
 have HX:=hid hx
 have HK:=hid hk
 clear hs hx hk
 have HY:=hid hy
 clear hy
 have P0:=hid (GetW.start w)
 unfold Bp at P0
 go_enter func8,ntmps8
 go_wp2_with fail
 refine (Fu s _ (by have:=HS.out;omega)).mono ?_
 rintro e w1 ⟨v,rfl,hv,b1⟩
 have P1:=hid (P0.below b1)
 clear P0 b1
 generalize Aq s.data.toList=ws at *
 obtain ⟨a,cap,rfl,hl,hcs⟩:=hv
 have hn:0<ws.length:=(List.getElem?_eq_some_iff.1 HX.out).1
 obtain ⟨b,off,rfl,hb,hcs⟩:∃b off,a=some ⟨b,off,none⟩∧b<w1.heap.size∧∀i (hi:i<ws.length),w1.cell? ⟨b,off+i,none⟩=some (str ws[i]):=by
  rcases hcs with h|h
  ·rw [h] at hn;simp at hn
  ·exact h
 have HV:=hid (show Strs w1 (.slice (some ⟨b,off,none⟩) ws.length cap) ws from ⟨_,_,rfl,hl,.inr ⟨b,off,rfl,hb,hcs⟩⟩)
 have c0:=hcs 0 hn
 rw [Nat.add_zero,show ws[0]=x from (List.getElem?_eq_some_iff.1 HX.out).2] at c0
 unfold str at c0
 have hn0:((ws.length:Int)==0)=false:=by rw [beq_eq_false_iff_ne];omega
 unfold maxLen at hl
 have HL:=hid HW.2
 have HB:=hid hb
 have HCS:=hid hcs
 clear hb hcs
 go_wp2_with fail
 refine (Gs x _).mono ?_
 rintro e w2 ⟨rfl,b2⟩
 rw [HK.out]
 have c1:=fun i hi=>(b2.cell (p:=⟨b,off+i,none⟩) HB.out).trans (HCS.out i hi)
 have P2:=hid (P1.below b2)
 have hbz:=b2.size
 have HV2:=hid (HV.below b2)
 have HC1:=hid c1
 clear b2 c0 hn0 P1 HV c1 HCS
 go_wp2_with fail
 refine (Qt 1 _ (HV2.below (b_a _)) HW.1 HW.2 (by omega) (by omega)).mono ?_
 rintro e w' ⟨rfl,rfl⟩
 have c1:=HC1.out 2 (by have:=(List.getElem?_eq_some_iff.1 HY.out).1;omega)
 rw [show ws[2]'(List.getElem?_eq_some_iff.1 HY.out).1=y from (List.getElem?_eq_some_iff.1 HY.out).2] at c1
 unfold str at c1
 have l0:2<ws.length:=(List.getElem?_eq_some_iff.1 HY.out).1
 have l1:(2:Int)<(ws.length:Int):=by omega
 have HE:=hid (show Zc ws 2=dirN y by unfold Zc;rw [if_pos l0];simp [List.getD,HY.out])
 have hb2:b<w2.heap.size:=Nat.lt_of_lt_of_le HB.out hbz
 have c1:=fun o:Obj=>(World.cell?_alloc_lt (w:=w2) (a:=⟨b,off+2,none⟩) (o:=o) hb2).trans c1
 clear l0 hb2
 go_wp2_with fail
 refine (Bq6 y _).mono ?_
 rintro e w' ⟨rfl,rfl⟩
 have HD:=hid (show ws.getD 0 []=x by simp [List.getD,HX.out])
 have HC:=hid (show ⟨2,dirN y,0,0,latN ws 1,[],0,[],0⟩=Kt ws by unfold Kt;rw [HD.out,HK.out];simp [Ri,Dh,HE.out])
 have G:=hid (GetG.alloc (c:=⟨2,dirN y,0,0,latN ws 1,[],0,[],0⟩) P2.out rfl rfl (cs:=#[.int .i64 2,.int .i64 (dirN y),.int .i64 0,.int .i64 0,.int .i64 (latN ws 1),.slice none 0 0,.int .i64 0,.slice none 0 0,.int .i64 0]) rfl)
 have HV:=hid (HV2.below (b_a (.cells #[.int .i64 2,.int .i64 (dirN y),.int .i64 0,.int .i64 0,.int .i64 (latN ws 1),.slice none 0 0,.int .i64 0,.slice none 0 0,.int .i64 0] 29)))
 clear HV2 P2
 go_wp2_with fail
 refine (Bw ⟨2,dirN y,0,0,latN ws 1,[],0,[],0⟩ none none 0 0 _ G.2.2.gi G.2.2.wi).mono ?_
 rintro e w3 ⟨rfl,b3⟩
 have G3:=hid (G.below b3)
 have HV3:=hid (HV.below b3)
 clear b3
 have hcc:=G3.2.2.blk.cell
 have hres:=G3.1.2.2.cell
 have hfr:=G3.1.2.2.frozen
 unfold Bp at hres
 cases hm:Ak ⟨2,dirN y,0,0,latN ws 1,[],0,[],0⟩
 ·have HM:=hid ((Ej _).trans hm)
  clear hm
  go_wp2_with fail
  generalize hW:((((((((w3.setCell ⟨w.heap.size,0,none⟩ _).setCell ⟨w.heap.size,1,none⟩ _).setCell ⟨w.heap.size,2,none⟩ _).setCell ⟨w.heap.size,3,none⟩ _).setCell ⟨w.heap.size,4,none⟩ _).setCell ⟨w.heap.size,5,none⟩ _).setCell ⟨w.heap.size,6,none⟩ _).setCell ⟨w.heap.size,7,none⟩ _).setCell ⟨w.heap.size,8,none⟩ _=W'
  obtain ⟨k1,k2⟩:=fin9 G3.1.2.2 _ _ _ _ _ _ _ _ _ hW.symm
  have hc:=k1.cell
  refine bodyPost_ret (v:=.tuple #[.agg #[.int .i64 0,.int .i64 0,.int .i64 0,.int .i64 0,.int .i64 0,.slice none 0 0,.int .i64 0,.slice none 0 0,.int .i64 0],.int .i64 2]) (by simp [results,results8,go_sem,hc]) rfl ?_
  exact Ii G3.1 ⟨k1,k2⟩ (by unfold refB;rw [←HC.out,HM.out];rfl)
 ·have HM:=hid ((Ej _).trans hm)
  clear hm
  go_wp2_with fail
  refine (Hm ⟨2,dirN y,0,0,latN ws 1,[],0,[],0⟩ none none 0 0 _ HM.out G3.2.2.gi G3.2.2.wi).mono ?_
  rintro e w4 ⟨u,rfl,hu,b4⟩
  have G4:=hid (G3.below b4)
  have HV4:=hid (HV3.below b4)
  have HU:=hid hu
  clear b4 hu hcc hres hfr
  go_wp2_with fail
  refine (Hu _ HU.out HV4.out).mono ?_
  rintro e w5 ⟨rfl,b5⟩
  have G5:=hid (G4.below b5)
  clear b5
  have hcc:=G5.2.2.blk.cell
  have hres:=G5.1.2.2.cell
  have hfr:=G5.1.2.2.frozen
  unfold Bp at hres
  by_cases he:wordsOf ⟨2,dirN y,0,0,latN ws 1,[],0,[],0⟩=ws
  ·have HE:=hid he
   rw [decide_eq_true he]
   clear he
   go_wp2_with fail
   generalize hW:((((((((w5.setCell ⟨w.heap.size,0,none⟩ _).setCell ⟨w.heap.size,1,none⟩ _).setCell ⟨w.heap.size,2,none⟩ _).setCell ⟨w.heap.size,3,none⟩ _).setCell ⟨w.heap.size,4,none⟩ _).setCell ⟨w.heap.size,5,none⟩ _).setCell ⟨w.heap.size,6,none⟩ _).setCell ⟨w.heap.size,7,none⟩ _).setCell ⟨w.heap.size,8,none⟩ _=W'
   obtain ⟨k1,k2⟩:=fin9 G5.1.2.2 _ _ _ _ _ _ _ _ _ hW.symm
   have hc:=k1.cell
   refine bodyPost_ret (v:=.tuple #[.agg #[.int .i64 2,.int .i64 (dirN y),.int .i64 0,.int .i64 0,.int .i64 (latN ws 1),.slice none 0 0,.int .i64 0,.slice none 0 0,.int .i64 0],.int .i64 0]) (by simp [results,results8,go_sem,hc]) rfl ?_
   exact Pk G5.out HC.out k2 (by unfold refB;rw [←HC.out,HM.out,HE.out];simp)
  ·have HE:=hid he
   rw [decide_eq_false he]
   clear he
   go_wp2_with fail
   generalize hW:((((((((w5.setCell ⟨w.heap.size,0,none⟩ _).setCell ⟨w.heap.size,1,none⟩ _).setCell ⟨w.heap.size,2,none⟩ _).setCell ⟨w.heap.size,3,none⟩ _).setCell ⟨w.heap.size,4,none⟩ _).setCell ⟨w.heap.size,5,none⟩ _).setCell ⟨w.heap.size,6,none⟩ _).setCell ⟨w.heap.size,7,none⟩ _).setCell ⟨w.heap.size,8,none⟩ _=W'
   obtain ⟨k1,k2⟩:=fin9 G5.1.2.2 _ _ _ _ _ _ _ _ _ hW.symm
   have hc:=k1.cell
   refine bodyPost_ret (v:=.tuple #[.agg #[.int .i64 0,.int .i64 0,.int .i64 0,.int .i64 0,.int .i64 0,.slice none 0 0,.int .i64 0,.slice none 0 0,.int .i64 0],.int .i64 2]) (by simp [results,results8,go_sem,hc]) rfl ?_
   exact Ii G5.1 ⟨k1,k2⟩ (by unfold refB;rw [←HC.out,decide_eq_false HE.out];simp)
theorem Fy9 (s:ByteArray) (w:World) (hs:s.size≤500000) (x:List UInt8) (hx:(Aq s.data.toList)[0]?=some x) (hy:(Aq s.data.toList).length≤2) (hk:Ct x=2):Calls prog 8 #[.string s] w (Gets w (Aq s.data.toList)):=by
 have HS:=hid hs
 have HW:=hid (Kz hs)
 have HX:=hid hx
 have HK:=hid hk
 clear hs hx hk
 have HY:=hid hy
 clear hy
 have P0:=hid (GetW.start w)
 unfold Bp at P0
 go_enter func8,ntmps8
 go_wp2_with fail
 refine (Fu s _ (by have:=HS.out;omega)).mono ?_
 rintro e w1 ⟨v,rfl,hv,b1⟩
 have P1:=hid (P0.below b1)
 clear P0 b1
 generalize Aq s.data.toList=ws at *
 obtain ⟨a,cap,rfl,hl,hcs⟩:=hv
 have hn:0<ws.length:=(List.getElem?_eq_some_iff.1 HX.out).1
 obtain ⟨b,off,rfl,hb,hcs⟩:∃b off,a=some ⟨b,off,none⟩∧b<w1.heap.size∧∀i (hi:i<ws.length),w1.cell? ⟨b,off+i,none⟩=some (str ws[i]):=by
  rcases hcs with h|h
  ·rw [h] at hn;simp at hn
  ·exact h
 have HV:=hid (show Strs w1 (.slice (some ⟨b,off,none⟩) ws.length cap) ws from ⟨_,_,rfl,hl,.inr ⟨b,off,rfl,hb,hcs⟩⟩)
 have c0:=hcs 0 hn
 rw [Nat.add_zero,show ws[0]=x from (List.getElem?_eq_some_iff.1 HX.out).2] at c0
 unfold str at c0
 have hn0:((ws.length:Int)==0)=false:=by rw [beq_eq_false_iff_ne];omega
 unfold maxLen at hl
 have HL:=hid HW.2
 have HB:=hid hb
 have HCS:=hid hcs
 clear hb hcs
 go_wp2_with fail
 refine (Gs x _).mono ?_
 rintro e w2 ⟨rfl,b2⟩
 rw [HK.out]
 have c1:=fun i hi=>(b2.cell (p:=⟨b,off+i,none⟩) HB.out).trans (HCS.out i hi)
 have P2:=hid (P1.below b2)
 have hbz:=b2.size
 have HV2:=hid (HV.below b2)
 have HC1:=hid c1
 clear b2 c0 hn0 P1 HV c1 HCS
 go_wp2_with fail
 refine (Qt 1 _ (HV2.below (b_a _)) HW.1 HW.2 (by omega) (by omega)).mono ?_
 rintro e w' ⟨rfl,rfl⟩
 have l0:¬2<ws.length:=by have:=HY.out;omega
 have l1:¬(2:Int)<(ws.length:Int):=by omega
 have HE:=hid (show Zc ws 2=0 by unfold Zc;rw [if_neg l0])
 clear l0
 have HD:=hid (show ws.getD 0 []=x by simp [List.getD,HX.out])
 have HC:=hid (show ⟨2,0,0,0,latN ws 1,[],0,[],0⟩=Kt ws by unfold Kt;rw [HD.out,HK.out];simp [Ri,Dh,HE.out])
 have G:=hid (GetG.alloc (c:=⟨2,0,0,0,latN ws 1,[],0,[],0⟩) P2.out rfl rfl (cs:=#[.int .i64 2,.int .i64 0,.int .i64 0,.int .i64 0,.int .i64 (latN ws 1),.slice none 0 0,.int .i64 0,.slice none 0 0,.int .i64 0]) rfl)
 have HV:=hid (HV2.below (b_a (.cells #[.int .i64 2,.int .i64 0,.int .i64 0,.int .i64 0,.int .i64 (latN ws 1),.slice none 0 0,.int .i64 0,.slice none 0 0,.int .i64 0] 29)))
 clear HV2 P2
 go_wp2_with fail
 refine (Bw ⟨2,0,0,0,latN ws 1,[],0,[],0⟩ none none 0 0 _ G.2.2.gi G.2.2.wi).mono ?_
 rintro e w3 ⟨rfl,b3⟩
 have G3:=hid (G.below b3)
 have HV3:=hid (HV.below b3)
 clear b3
 have hcc:=G3.2.2.blk.cell
 have hres:=G3.1.2.2.cell
 have hfr:=G3.1.2.2.frozen
 unfold Bp at hres
 cases hm:Ak ⟨2,0,0,0,latN ws 1,[],0,[],0⟩
 ·have HM:=hid ((Ej _).trans hm)
  clear hm
  go_wp2_with fail
  generalize hW:((((((((w3.setCell ⟨w.heap.size,0,none⟩ _).setCell ⟨w.heap.size,1,none⟩ _).setCell ⟨w.heap.size,2,none⟩ _).setCell ⟨w.heap.size,3,none⟩ _).setCell ⟨w.heap.size,4,none⟩ _).setCell ⟨w.heap.size,5,none⟩ _).setCell ⟨w.heap.size,6,none⟩ _).setCell ⟨w.heap.size,7,none⟩ _).setCell ⟨w.heap.size,8,none⟩ _=W'
  obtain ⟨k1,k2⟩:=fin9 G3.1.2.2 _ _ _ _ _ _ _ _ _ hW.symm
  have hc:=k1.cell
  refine bodyPost_ret (v:=.tuple #[.agg #[.int .i64 0,.int .i64 0,.int .i64 0,.int .i64 0,.int .i64 0,.slice none 0 0,.int .i64 0,.slice none 0 0,.int .i64 0],.int .i64 2]) (by simp [results,results8,go_sem,hc]) rfl ?_
  exact Ii G3.1 ⟨k1,k2⟩ (by unfold refB;rw [←HC.out,HM.out];rfl)
 ·have HM:=hid ((Ej _).trans hm)
  clear hm
  go_wp2_with fail
  refine (Hm ⟨2,0,0,0,latN ws 1,[],0,[],0⟩ none none 0 0 _ HM.out G3.2.2.gi G3.2.2.wi).mono ?_
  rintro e w4 ⟨u,rfl,hu,b4⟩
  have G4:=hid (G3.below b4)
  have HV4:=hid (HV3.below b4)
  have HU:=hid hu
  clear b4 hu hcc hres hfr
  go_wp2_with fail
  refine (Hu _ HU.out HV4.out).mono ?_
  rintro e w5 ⟨rfl,b5⟩
  have G5:=hid (G4.below b5)
  clear b5
  have hcc:=G5.2.2.blk.cell
  have hres:=G5.1.2.2.cell
  have hfr:=G5.1.2.2.frozen
  unfold Bp at hres
  by_cases he:wordsOf ⟨2,0,0,0,latN ws 1,[],0,[],0⟩=ws
  ·have HE:=hid he
   rw [decide_eq_true he]
   clear he
   go_wp2_with fail
   generalize hW:((((((((w5.setCell ⟨w.heap.size,0,none⟩ _).setCell ⟨w.heap.size,1,none⟩ _).setCell ⟨w.heap.size,2,none⟩ _).setCell ⟨w.heap.size,3,none⟩ _).setCell ⟨w.heap.size,4,none⟩ _).setCell ⟨w.heap.size,5,none⟩ _).setCell ⟨w.heap.size,6,none⟩ _).setCell ⟨w.heap.size,7,none⟩ _).setCell ⟨w.heap.size,8,none⟩ _=W'
   obtain ⟨k1,k2⟩:=fin9 G5.1.2.2 _ _ _ _ _ _ _ _ _ hW.symm
   have hc:=k1.cell
   refine bodyPost_ret (v:=.tuple #[.agg #[.int .i64 2,.int .i64 0,.int .i64 0,.int .i64 0,.int .i64 (latN ws 1),.slice none 0 0,.int .i64 0,.slice none 0 0,.int .i64 0],.int .i64 0]) (by simp [results,results8,go_sem,hc]) rfl ?_
   exact Pk G5.out HC.out k2 (by unfold refB;rw [←HC.out,HM.out,HE.out];simp)
  ·have HE:=hid he
   rw [decide_eq_false he]
   clear he
   go_wp2_with fail
   generalize hW:((((((((w5.setCell ⟨w.heap.size,0,none⟩ _).setCell ⟨w.heap.size,1,none⟩ _).setCell ⟨w.heap.size,2,none⟩ _).setCell ⟨w.heap.size,3,none⟩ _).setCell ⟨w.heap.size,4,none⟩ _).setCell ⟨w.heap.size,5,none⟩ _).setCell ⟨w.heap.size,6,none⟩ _).setCell ⟨w.heap.size,7,none⟩ _).setCell ⟨w.heap.size,8,none⟩ _=W'
   obtain ⟨k1,k2⟩:=fin9 G5.1.2.2 _ _ _ _ _ _ _ _ _ hW.symm
   have hc:=k1.cell
   refine bodyPost_ret (v:=.tuple #[.agg #[.int .i64 0,.int .i64 0,.int .i64 0,.int .i64 0,.int .i64 0,.slice none 0 0,.int .i64 0,.slice none 0 0,.int .i64 0],.int .i64 2]) (by simp [results,results8,go_sem,hc]) rfl ?_
   exact Ii G5.1 ⟨k1,k2⟩ (by unfold refB;rw [←HC.out,decide_eq_false HE.out];simp)
theorem Go9 (s:ByteArray) (w:World) (hs:s.size≤500000) (x:List UInt8) (hx:(Aq s.data.toList)[0]?=some x) (hk:Ct x=3):Calls prog 8 #[.string s] w (Gets w (Aq s.data.toList)):=by
 have HS:=hid hs
 have HW:=hid (Kz hs)
 have HX:=hid hx
 have HK:=hid hk
 clear hs hx hk
 have P0:=hid (GetW.start w)
 unfold Bp at P0
 go_enter func8,ntmps8
 go_wp2_with fail
 refine (Fu s _ (by have:=HS.out;omega)).mono ?_
 rintro e w1 ⟨v,rfl,hv,b1⟩
 have P1:=hid (P0.below b1)
 clear P0 b1
 generalize Aq s.data.toList=ws at *
 obtain ⟨a,cap,rfl,hl,hcs⟩:=hv
 have hn:0<ws.length:=(List.getElem?_eq_some_iff.1 HX.out).1
 obtain ⟨b,off,rfl,hb,hcs⟩:∃b off,a=some ⟨b,off,none⟩∧b<w1.heap.size∧∀i (hi:i<ws.length),w1.cell? ⟨b,off+i,none⟩=some (str ws[i]):=by
  rcases hcs with h|h
  ·rw [h] at hn;simp at hn
  ·exact h
 have HV:=hid (show Strs w1 (.slice (some ⟨b,off,none⟩) ws.length cap) ws from ⟨_,_,rfl,hl,.inr ⟨b,off,rfl,hb,hcs⟩⟩)
 have c0:=hcs 0 hn
 rw [Nat.add_zero,show ws[0]=x from (List.getElem?_eq_some_iff.1 HX.out).2] at c0
 unfold str at c0
 have hn0:((ws.length:Int)==0)=false:=by rw [beq_eq_false_iff_ne];omega
 unfold maxLen at hl
 have HL:=hid HW.2
 have HB:=hid hb
 have HCS:=hid hcs
 clear hb hcs
 go_wp2_with fail
 refine (Gs x _).mono ?_
 rintro e w2 ⟨rfl,b2⟩
 rw [HK.out]
 have c1:=fun i hi=>(b2.cell (p:=⟨b,off+i,none⟩) HB.out).trans (HCS.out i hi)
 have P2:=hid (P1.below b2)
 have hbz:=b2.size
 have HV2:=hid (HV.below b2)
 have HC1:=hid c1
 clear b2 c0 hn0 P1 HV c1 HCS
 go_wp2_with fail
 refine (Qt 1 _ (HV2.below (b_a _)) HW.1 HW.2 (by omega) (by omega)).mono ?_
 rintro e w' ⟨rfl,rfl⟩
 have HD:=hid (show ws.getD 0 []=x by simp [List.getD,HX.out])
 have HC:=hid (show ⟨3,0,latN ws 1,0,0,[],0,[],0⟩=Kt ws by unfold Kt;rw [HD.out,HK.out];simp [Ri,Dh])
 have G:=hid (GetG.alloc (c:=⟨3,0,latN ws 1,0,0,[],0,[],0⟩) P2.out rfl rfl (cs:=#[.int .i64 3,.int .i64 0,.int .i64 (latN ws 1),.int .i64 0,.int .i64 0,.slice none 0 0,.int .i64 0,.slice none 0 0,.int .i64 0]) rfl)
 have HV:=hid (HV2.below (b_a (.cells #[.int .i64 3,.int .i64 0,.int .i64 (latN ws 1),.int .i64 0,.int .i64 0,.slice none 0 0,.int .i64 0,.slice none 0 0,.int .i64 0] 29)))
 clear HV2 P2
 go_wp2_with fail
 refine (Bw ⟨3,0,latN ws 1,0,0,[],0,[],0⟩ none none 0 0 _ G.2.2.gi G.2.2.wi).mono ?_
 rintro e w3 ⟨rfl,b3⟩
 have G3:=hid (G.below b3)
 have HV3:=hid (HV.below b3)
 clear b3
 have hcc:=G3.2.2.blk.cell
 have hres:=G3.1.2.2.cell
 have hfr:=G3.1.2.2.frozen
 unfold Bp at hres
 cases hm:Ak ⟨3,0,latN ws 1,0,0,[],0,[],0⟩
 ·have HM:=hid ((Ej _).trans hm)
  clear hm
  go_wp2_with fail
  generalize hW:((((((((w3.setCell ⟨w.heap.size,0,none⟩ _).setCell ⟨w.heap.size,1,none⟩ _).setCell ⟨w.heap.size,2,none⟩ _).setCell ⟨w.heap.size,3,none⟩ _).setCell ⟨w.heap.size,4,none⟩ _).setCell ⟨w.heap.size,5,none⟩ _).setCell ⟨w.heap.size,6,none⟩ _).setCell ⟨w.heap.size,7,none⟩ _).setCell ⟨w.heap.size,8,none⟩ _=W'
  obtain ⟨k1,k2⟩:=fin9 G3.1.2.2 _ _ _ _ _ _ _ _ _ hW.symm
  have hc:=k1.cell
  refine bodyPost_ret (v:=.tuple #[.agg #[.int .i64 0,.int .i64 0,.int .i64 0,.int .i64 0,.int .i64 0,.slice none 0 0,.int .i64 0,.slice none 0 0,.int .i64 0],.int .i64 2]) (by simp [results,results8,go_sem,hc]) rfl ?_
  exact Ii G3.1 ⟨k1,k2⟩ (by unfold refB;rw [←HC.out,HM.out];rfl)
 ·have HM:=hid ((Ej _).trans hm)
  clear hm
  go_wp2_with fail
  refine (Hm ⟨3,0,latN ws 1,0,0,[],0,[],0⟩ none none 0 0 _ HM.out G3.2.2.gi G3.2.2.wi).mono ?_
  rintro e w4 ⟨u,rfl,hu,b4⟩
  have G4:=hid (G3.below b4)
  have HV4:=hid (HV3.below b4)
  have HU:=hid hu
  clear b4 hu hcc hres hfr
  go_wp2_with fail
  refine (Hu _ HU.out HV4.out).mono ?_
  rintro e w5 ⟨rfl,b5⟩
  have G5:=hid (G4.below b5)
  clear b5
  have hcc:=G5.2.2.blk.cell
  have hres:=G5.1.2.2.cell
  have hfr:=G5.1.2.2.frozen
  unfold Bp at hres
  by_cases he:wordsOf ⟨3,0,latN ws 1,0,0,[],0,[],0⟩=ws
  ·have HE:=hid he
   rw [decide_eq_true he]
   clear he
   go_wp2_with fail
   generalize hW:((((((((w5.setCell ⟨w.heap.size,0,none⟩ _).setCell ⟨w.heap.size,1,none⟩ _).setCell ⟨w.heap.size,2,none⟩ _).setCell ⟨w.heap.size,3,none⟩ _).setCell ⟨w.heap.size,4,none⟩ _).setCell ⟨w.heap.size,5,none⟩ _).setCell ⟨w.heap.size,6,none⟩ _).setCell ⟨w.heap.size,7,none⟩ _).setCell ⟨w.heap.size,8,none⟩ _=W'
   obtain ⟨k1,k2⟩:=fin9 G5.1.2.2 _ _ _ _ _ _ _ _ _ hW.symm
   have hc:=k1.cell
   refine bodyPost_ret (v:=.tuple #[.agg #[.int .i64 3,.int .i64 0,.int .i64 (latN ws 1),.int .i64 0,.int .i64 0,.slice none 0 0,.int .i64 0,.slice none 0 0,.int .i64 0],.int .i64 0]) (by simp [results,results8,go_sem,hc]) rfl ?_
   exact Pk G5.out HC.out k2 (by unfold refB;rw [←HC.out,HM.out,HE.out];simp)
  ·have HE:=hid he
   rw [decide_eq_false he]
   clear he
   go_wp2_with fail
   generalize hW:((((((((w5.setCell ⟨w.heap.size,0,none⟩ _).setCell ⟨w.heap.size,1,none⟩ _).setCell ⟨w.heap.size,2,none⟩ _).setCell ⟨w.heap.size,3,none⟩ _).setCell ⟨w.heap.size,4,none⟩ _).setCell ⟨w.heap.size,5,none⟩ _).setCell ⟨w.heap.size,6,none⟩ _).setCell ⟨w.heap.size,7,none⟩ _).setCell ⟨w.heap.size,8,none⟩ _=W'
   obtain ⟨k1,k2⟩:=fin9 G5.1.2.2 _ _ _ _ _ _ _ _ _ hW.symm
   have hc:=k1.cell
   refine bodyPost_ret (v:=.tuple #[.agg #[.int .i64 0,.int .i64 0,.int .i64 0,.int .i64 0,.int .i64 0,.slice none 0 0,.int .i64 0,.slice none 0 0,.int .i64 0],.int .i64 2]) (by simp [results,results8,go_sem,hc]) rfl ?_
   exact Ii G5.1 ⟨k1,k2⟩ (by unfold refB;rw [←HC.out,decide_eq_false HE.out];simp)
end
section
open Go.RowKit Go
theorem Go8 (s:ByteArray) (w:World) (hs:s.size≤500000) (x:List UInt8) (hx:(Aq s.data.toList)[0]?=some x) (hk:Ct x=4):Calls prog 8 #[.string s] w (Gets w (Aq s.data.toList)):=by
 have HS:=hid hs
 have HW:=hid (Kz hs)
 have HX:=hid hx
 have HK:=hid hk
 clear hs hx hk
 have P0:=hid (GetW.start w)
 unfold Bp at P0
 go_enter func8,ntmps8
 go_wp2_with fail
 refine (Fu s _ (by have:=HS.out;omega)).mono ?_
 rintro e w1 ⟨v,rfl,hv,b1⟩
 have P1:=hid (P0.below b1)
 clear P0 b1
 generalize Aq s.data.toList=ws at *
 obtain ⟨a,cap,rfl,hl,hcs⟩:=hv
 have hn:0<ws.length:=(List.getElem?_eq_some_iff.1 HX.out).1
 obtain ⟨b,off,rfl,hb,hcs⟩:∃b off,a=some ⟨b,off,none⟩∧b<w1.heap.size∧∀i (hi:i<ws.length),w1.cell? ⟨b,off+i,none⟩=some (str ws[i]):=by
  rcases hcs with h|h
  ·rw [h] at hn;simp at hn
  ·exact h
 have HV:=hid (show Strs w1 (.slice (some ⟨b,off,none⟩) ws.length cap) ws from ⟨_,_,rfl,hl,.inr ⟨b,off,rfl,hb,hcs⟩⟩)
 have c0:=hcs 0 hn
 rw [Nat.add_zero,show ws[0]=x from (List.getElem?_eq_some_iff.1 HX.out).2] at c0
 unfold str at c0
 have hn0:((ws.length:Int)==0)=false:=by rw [beq_eq_false_iff_ne];omega
 unfold maxLen at hl
 have HL:=hid HW.2
 have HB:=hid hb
 have HCS:=hid hcs
 clear hb hcs
 go_wp2_with fail
 refine (Gs x _).mono ?_
 rintro e w2 ⟨rfl,b2⟩
 rw [HK.out]
 have c1:=fun i hi=>(b2.cell (p:=⟨b,off+i,none⟩) HB.out).trans (HCS.out i hi)
 have P2:=hid (P1.below b2)
 have HV2:=hid (HV.below b2)
 have HC1:=hid c1
 clear b2 c0 hn0 P1 HV c1 HCS
 go_wp2_with fail
 refine (Qt 1 _ (HV2.below (b_a _)) HW.1 HW.2 (by omega) (by omega)).mono ?_
 rintro e w' ⟨rfl,rfl⟩
 have HD:=hid (show ws.getD 0 []=x by simp [List.getD,HX.out])
 have HC:=hid (show ⟨4,0,latN ws 1,0,0,[],0,[],0⟩=Kt ws by unfold Kt;rw [HD.out,HK.out];simp [Ri,Dh])
 have G:=hid (GetG.alloc (c:=⟨4,0,latN ws 1,0,0,[],0,[],0⟩) P2.out rfl rfl (cs:=#[.int .i64 4,.int .i64 0,.int .i64 (latN ws 1),.int .i64 0,.int .i64 0,.slice none 0 0,.int .i64 0,.slice none 0 0,.int .i64 0]) rfl)
 have HV:=hid (HV2.below (b_a (.cells #[.int .i64 4,.int .i64 0,.int .i64 (latN ws 1),.int .i64 0,.int .i64 0,.slice none 0 0,.int .i64 0,.slice none 0 0,.int .i64 0] 29)))
 clear HV2 P2
 go_wp2_with fail
 refine (Bw ⟨4,0,latN ws 1,0,0,[],0,[],0⟩ none none 0 0 _ G.2.2.gi G.2.2.wi).mono ?_
 rintro e w3 ⟨rfl,b3⟩
 have G3:=hid (G.below b3)
 have HV3:=hid (HV.below b3)
 clear b3
 have hcc:=G3.2.2.blk.cell
 have hres:=G3.1.2.2.cell
 have hfr:=G3.1.2.2.frozen
 unfold Bp at hres
 cases hm:Ak ⟨4,0,latN ws 1,0,0,[],0,[],0⟩
 ·have HM:=hid ((Ej _).trans hm)
  clear hm
  go_wp2_with fail
  generalize hW:((((((((w3.setCell ⟨w.heap.size,0,none⟩ _).setCell ⟨w.heap.size,1,none⟩ _).setCell ⟨w.heap.size,2,none⟩ _).setCell ⟨w.heap.size,3,none⟩ _).setCell ⟨w.heap.size,4,none⟩ _).setCell ⟨w.heap.size,5,none⟩ _).setCell ⟨w.heap.size,6,none⟩ _).setCell ⟨w.heap.size,7,none⟩ _).setCell ⟨w.heap.size,8,none⟩ _=W'
  obtain ⟨k1,k2⟩:=fin9 G3.1.2.2 _ _ _ _ _ _ _ _ _ hW.symm
  have hc:=k1.cell
  refine bodyPost_ret (v:=.tuple #[.agg #[.int .i64 0,.int .i64 0,.int .i64 0,.int .i64 0,.int .i64 0,.slice none 0 0,.int .i64 0,.slice none 0 0,.int .i64 0],.int .i64 2]) (by simp [results,results8,go_sem,hc]) rfl ?_
  exact Ii G3.1 ⟨k1,k2⟩ (by unfold refB;rw [←HC.out,HM.out];rfl)
 ·have HM:=hid ((Ej _).trans hm)
  clear hm
  go_wp2_with fail
  refine (Hm ⟨4,0,latN ws 1,0,0,[],0,[],0⟩ none none 0 0 _ HM.out G3.2.2.gi G3.2.2.wi).mono ?_
  rintro e w4 ⟨u,rfl,hu,b4⟩
  have G4:=hid (G3.below b4)
  have HV4:=hid (HV3.below b4)
  have HU:=hid hu
  clear b4 hu hcc hres hfr
  go_wp2_with fail
  refine (Hu _ HU.out HV4.out).mono ?_
  rintro e w5 ⟨rfl,b5⟩
  have G5:=hid (G4.below b5)
  clear b5
  have hcc:=G5.2.2.blk.cell
  have hres:=G5.1.2.2.cell
  have hfr:=G5.1.2.2.frozen
  unfold Bp at hres
  by_cases he:wordsOf ⟨4,0,latN ws 1,0,0,[],0,[],0⟩=ws
  ·have HE:=hid he
   rw [decide_eq_true he]
   clear he
   go_wp2_with fail
   generalize hW:((((((((w5.setCell ⟨w.heap.size,0,none⟩ _).setCell ⟨w.heap.size,1,none⟩ _).setCell ⟨w.heap.size,2,none⟩ _).setCell ⟨w.heap.size,3,none⟩ _).setCell ⟨w.heap.size,4,none⟩ _).setCell ⟨w.heap.size,5,none⟩ _).setCell ⟨w.heap.size,6,none⟩ _).setCell ⟨w.heap.size,7,none⟩ _).setCell ⟨w.heap.size,8,none⟩ _=W'
   obtain ⟨k1,k2⟩:=fin9 G5.1.2.2 _ _ _ _ _ _ _ _ _ hW.symm
   have hc:=k1.cell
   refine bodyPost_ret (v:=.tuple #[.agg #[.int .i64 4,.int .i64 0,.int .i64 (latN ws 1),.int .i64 0,.int .i64 0,.slice none 0 0,.int .i64 0,.slice none 0 0,.int .i64 0],.int .i64 0]) (by simp [results,results8,go_sem,hc]) rfl ?_
   exact Pk G5.out HC.out k2 (by unfold refB;rw [←HC.out,HM.out,HE.out];simp)
  ·have HE:=hid he
   rw [decide_eq_false he]
   clear he
   go_wp2_with fail
   generalize hW:((((((((w5.setCell ⟨w.heap.size,0,none⟩ _).setCell ⟨w.heap.size,1,none⟩ _).setCell ⟨w.heap.size,2,none⟩ _).setCell ⟨w.heap.size,3,none⟩ _).setCell ⟨w.heap.size,4,none⟩ _).setCell ⟨w.heap.size,5,none⟩ _).setCell ⟨w.heap.size,6,none⟩ _).setCell ⟨w.heap.size,7,none⟩ _).setCell ⟨w.heap.size,8,none⟩ _=W'
   obtain ⟨k1,k2⟩:=fin9 G5.1.2.2 _ _ _ _ _ _ _ _ _ hW.symm
   have hc:=k1.cell
   refine bodyPost_ret (v:=.tuple #[.agg #[.int .i64 0,.int .i64 0,.int .i64 0,.int .i64 0,.int .i64 0,.slice none 0 0,.int .i64 0,.slice none 0 0,.int .i64 0],.int .i64 2]) (by simp [results,results8,go_sem,hc]) rfl ?_
   exact Ii G5.1 ⟨k1,k2⟩ (by unfold refB;rw [←HC.out,decide_eq_false HE.out];simp)
theorem Go7 (s:ByteArray) (w:World) (hs:s.size≤500000) (x:List UInt8) (hx:(Aq s.data.toList)[0]?=some x) (hk:Ct x=5):Calls prog 8 #[.string s] w (Gets w (Aq s.data.toList)):=by
 have HS:=hid hs
 have HW:=hid (Kz hs)
 have HX:=hid hx
 have HK:=hid hk
 clear hs hx hk
 have P0:=hid (GetW.start w)
 unfold Bp at P0
 go_enter func8,ntmps8
 go_wp2_with fail
 refine (Fu s _ (by have:=HS.out;omega)).mono ?_
 rintro e w1 ⟨v,rfl,hv,b1⟩
 have P1:=hid (P0.below b1)
 clear P0 b1
 generalize Aq s.data.toList=ws at *
 obtain ⟨a,cap,rfl,hl,hcs⟩:=hv
 have hn:0<ws.length:=(List.getElem?_eq_some_iff.1 HX.out).1
 obtain ⟨b,off,rfl,hb,hcs⟩:∃b off,a=some ⟨b,off,none⟩∧b<w1.heap.size∧∀i (hi:i<ws.length),w1.cell? ⟨b,off+i,none⟩=some (str ws[i]):=by
  rcases hcs with h|h
  ·rw [h] at hn;simp at hn
  ·exact h
 have HV:=hid (show Strs w1 (.slice (some ⟨b,off,none⟩) ws.length cap) ws from ⟨_,_,rfl,hl,.inr ⟨b,off,rfl,hb,hcs⟩⟩)
 have c0:=hcs 0 hn
 rw [Nat.add_zero,show ws[0]=x from (List.getElem?_eq_some_iff.1 HX.out).2] at c0
 unfold str at c0
 have hn0:((ws.length:Int)==0)=false:=by rw [beq_eq_false_iff_ne];omega
 unfold maxLen at hl
 have HL:=hid HW.2
 have HB:=hid hb
 have HCS:=hid hcs
 clear hb hcs
 go_wp2_with fail
 refine (Gs x _).mono ?_
 rintro e w2 ⟨rfl,b2⟩
 rw [HK.out]
 have c1:=fun i hi=>(b2.cell (p:=⟨b,off+i,none⟩) HB.out).trans (HCS.out i hi)
 have P2:=hid (P1.below b2)
 have HV2:=hid (HV.below b2)
 have HC1:=hid c1
 clear b2 c0 hn0 P1 HV c1 HCS
 go_wp2_with fail
 refine (Qt 1 _ (HV2.below (b_a _)) HW.1 HW.2 (by omega) (by omega)).mono ?_
 rintro e w' ⟨rfl,rfl⟩
 go_wp2_with fail
 refine (Qt 3 _ (HV2.below (b_a _)) HW.1 HW.2 (by omega) (by omega)).mono ?_
 rintro e w' ⟨rfl,rfl⟩
 have HD:=hid (show ws.getD 0 []=x by simp [List.getD,HX.out])
 have HC:=hid (show ⟨5,0,latN ws 1,latN ws 3,0,[],0,[],0⟩=Kt ws by unfold Kt;rw [HD.out,HK.out];simp [Ri,Dh])
 have G:=hid (GetG.alloc (c:=⟨5,0,latN ws 1,latN ws 3,0,[],0,[],0⟩) P2.out rfl rfl (cs:=#[.int .i64 5,.int .i64 0,.int .i64 (latN ws 1),.int .i64 (latN ws 3),.int .i64 0,.slice none 0 0,.int .i64 0,.slice none 0 0,.int .i64 0]) rfl)
 have HV:=hid (HV2.below (b_a (.cells #[.int .i64 5,.int .i64 0,.int .i64 (latN ws 1),.int .i64 (latN ws 3),.int .i64 0,.slice none 0 0,.int .i64 0,.slice none 0 0,.int .i64 0] 29)))
 clear HV2 P2
 go_wp2_with fail
 refine (Bw ⟨5,0,latN ws 1,latN ws 3,0,[],0,[],0⟩ none none 0 0 _ G.2.2.gi G.2.2.wi).mono ?_
 rintro e w3 ⟨rfl,b3⟩
 have G3:=hid (G.below b3)
 have HV3:=hid (HV.below b3)
 clear b3
 have hcc:=G3.2.2.blk.cell
 have hres:=G3.1.2.2.cell
 have hfr:=G3.1.2.2.frozen
 unfold Bp at hres
 cases hm:Ak ⟨5,0,latN ws 1,latN ws 3,0,[],0,[],0⟩
 ·have HM:=hid ((Ej _).trans hm)
  clear hm
  go_wp2_with fail
  generalize hW:((((((((w3.setCell ⟨w.heap.size,0,none⟩ _).setCell ⟨w.heap.size,1,none⟩ _).setCell ⟨w.heap.size,2,none⟩ _).setCell ⟨w.heap.size,3,none⟩ _).setCell ⟨w.heap.size,4,none⟩ _).setCell ⟨w.heap.size,5,none⟩ _).setCell ⟨w.heap.size,6,none⟩ _).setCell ⟨w.heap.size,7,none⟩ _).setCell ⟨w.heap.size,8,none⟩ _=W'
  obtain ⟨k1,k2⟩:=fin9 G3.1.2.2 _ _ _ _ _ _ _ _ _ hW.symm
  have hc:=k1.cell
  refine bodyPost_ret (v:=.tuple #[.agg #[.int .i64 0,.int .i64 0,.int .i64 0,.int .i64 0,.int .i64 0,.slice none 0 0,.int .i64 0,.slice none 0 0,.int .i64 0],.int .i64 2]) (by simp [results,results8,go_sem,hc]) rfl ?_
  exact Ii G3.1 ⟨k1,k2⟩ (by unfold refB;rw [←HC.out,HM.out];rfl)
 ·have HM:=hid ((Ej _).trans hm)
  clear hm
  go_wp2_with fail
  refine (Hm ⟨5,0,latN ws 1,latN ws 3,0,[],0,[],0⟩ none none 0 0 _ HM.out G3.2.2.gi G3.2.2.wi).mono ?_
  rintro e w4 ⟨u,rfl,hu,b4⟩
  have G4:=hid (G3.below b4)
  have HV4:=hid (HV3.below b4)
  have HU:=hid hu
  clear b4 hu hcc hres hfr
  go_wp2_with fail
  refine (Hu _ HU.out HV4.out).mono ?_
  rintro e w5 ⟨rfl,b5⟩
  have G5:=hid (G4.below b5)
  clear b5
  have hcc:=G5.2.2.blk.cell
  have hres:=G5.1.2.2.cell
  have hfr:=G5.1.2.2.frozen
  unfold Bp at hres
  by_cases he:wordsOf ⟨5,0,latN ws 1,latN ws 3,0,[],0,[],0⟩=ws
  ·have HE:=hid he
   rw [decide_eq_true he]
   clear he
   go_wp2_with fail
   generalize hW:((((((((w5.setCell ⟨w.heap.size,0,none⟩ _).setCell ⟨w.heap.size,1,none⟩ _).setCell ⟨w.heap.size,2,none⟩ _).setCell ⟨w.heap.size,3,none⟩ _).setCell ⟨w.heap.size,4,none⟩ _).setCell ⟨w.heap.size,5,none⟩ _).setCell ⟨w.heap.size,6,none⟩ _).setCell ⟨w.heap.size,7,none⟩ _).setCell ⟨w.heap.size,8,none⟩ _=W'
   obtain ⟨k1,k2⟩:=fin9 G5.1.2.2 _ _ _ _ _ _ _ _ _ hW.symm
   have hc:=k1.cell
   refine bodyPost_ret (v:=.tuple #[.agg #[.int .i64 5,.int .i64 0,.int .i64 (latN ws 1),.int .i64 (latN ws 3),.int .i64 0,.slice none 0 0,.int .i64 0,.slice none 0 0,.int .i64 0],.int .i64 0]) (by simp [results,results8,go_sem,hc]) rfl ?_
   exact Pk G5.out HC.out k2 (by unfold refB;rw [←HC.out,HM.out,HE.out];simp)
  ·have HE:=hid he
   rw [decide_eq_false he]
   clear he
   go_wp2_with fail
   generalize hW:((((((((w5.setCell ⟨w.heap.size,0,none⟩ _).setCell ⟨w.heap.size,1,none⟩ _).setCell ⟨w.heap.size,2,none⟩ _).setCell ⟨w.heap.size,3,none⟩ _).setCell ⟨w.heap.size,4,none⟩ _).setCell ⟨w.heap.size,5,none⟩ _).setCell ⟨w.heap.size,6,none⟩ _).setCell ⟨w.heap.size,7,none⟩ _).setCell ⟨w.heap.size,8,none⟩ _=W'
   obtain ⟨k1,k2⟩:=fin9 G5.1.2.2 _ _ _ _ _ _ _ _ _ hW.symm
   have hc:=k1.cell
   refine bodyPost_ret (v:=.tuple #[.agg #[.int .i64 0,.int .i64 0,.int .i64 0,.int .i64 0,.int .i64 0,.slice none 0 0,.int .i64 0,.slice none 0 0,.int .i64 0],.int .i64 2]) (by simp [results,results8,go_sem,hc]) rfl ?_
   exact Ii G5.1 ⟨k1,k2⟩ (by unfold refB;rw [←HC.out,decide_eq_false HE.out];simp)
theorem Go6 (s:ByteArray) (w:World) (hs:s.size≤500000) (x:List UInt8) (hx:(Aq s.data.toList)[0]?=some x) (hk:Ct x=6):Calls prog 8 #[.string s] w (Gets w (Aq s.data.toList)):=by
 have HS:=hid hs
 have HW:=hid (Kz hs)
 have HX:=hid hx
 have HK:=hid hk
 clear hs hx hk
 have P0:=hid (GetW.start w)
 unfold Bp at P0
 go_enter func8,ntmps8
 go_wp2_with fail
 refine (Fu s _ (by have:=HS.out;omega)).mono ?_
 rintro e w1 ⟨v,rfl,hv,b1⟩
 have P1:=hid (P0.below b1)
 clear P0 b1
 generalize Aq s.data.toList=ws at *
 obtain ⟨a,cap,rfl,hl,hcs⟩:=hv
 have hn:0<ws.length:=(List.getElem?_eq_some_iff.1 HX.out).1
 obtain ⟨b,off,rfl,hb,hcs⟩:∃b off,a=some ⟨b,off,none⟩∧b<w1.heap.size∧∀i (hi:i<ws.length),w1.cell? ⟨b,off+i,none⟩=some (str ws[i]):=by
  rcases hcs with h|h
  ·rw [h] at hn;simp at hn
  ·exact h
 have HV:=hid (show Strs w1 (.slice (some ⟨b,off,none⟩) ws.length cap) ws from ⟨_,_,rfl,hl,.inr ⟨b,off,rfl,hb,hcs⟩⟩)
 have c0:=hcs 0 hn
 rw [Nat.add_zero,show ws[0]=x from (List.getElem?_eq_some_iff.1 HX.out).2] at c0
 unfold str at c0
 have hn0:((ws.length:Int)==0)=false:=by rw [beq_eq_false_iff_ne];omega
 unfold maxLen at hl
 have HL:=hid HW.2
 have HB:=hid hb
 have HCS:=hid hcs
 clear hb hcs
 go_wp2_with fail
 refine (Gs x _).mono ?_
 rintro e w2 ⟨rfl,b2⟩
 rw [HK.out]
 have c1:=fun i hi=>(b2.cell (p:=⟨b,off+i,none⟩) HB.out).trans (HCS.out i hi)
 have P2:=hid (P1.below b2)
 have HV2:=hid (HV.below b2)
 have HC1:=hid c1
 clear b2 c0 hn0 P1 HV c1 HCS
 go_wp2_with fail
 refine (Qt 1 _ (HV2.below (b_a _)) HW.1 HW.2 (by omega) (by omega)).mono ?_
 rintro e w' ⟨rfl,rfl⟩
 go_wp2_with fail
 refine (Qt 3 _ (HV2.below (b_a _)) HW.1 HW.2 (by omega) (by omega)).mono ?_
 rintro e w' ⟨rfl,rfl⟩
 have HD:=hid (show ws.getD 0 []=x by simp [List.getD,HX.out])
 have HC:=hid (show ⟨6,0,latN ws 1,latN ws 3,0,[],0,[],0⟩=Kt ws by unfold Kt;rw [HD.out,HK.out];simp [Ri,Dh])
 have G:=hid (GetG.alloc (c:=⟨6,0,latN ws 1,latN ws 3,0,[],0,[],0⟩) P2.out rfl rfl (cs:=#[.int .i64 6,.int .i64 0,.int .i64 (latN ws 1),.int .i64 (latN ws 3),.int .i64 0,.slice none 0 0,.int .i64 0,.slice none 0 0,.int .i64 0]) rfl)
 have HV:=hid (HV2.below (b_a (.cells #[.int .i64 6,.int .i64 0,.int .i64 (latN ws 1),.int .i64 (latN ws 3),.int .i64 0,.slice none 0 0,.int .i64 0,.slice none 0 0,.int .i64 0] 29)))
 clear HV2 P2
 go_wp2_with fail
 refine (Bw ⟨6,0,latN ws 1,latN ws 3,0,[],0,[],0⟩ none none 0 0 _ G.2.2.gi G.2.2.wi).mono ?_
 rintro e w3 ⟨rfl,b3⟩
 have G3:=hid (G.below b3)
 have HV3:=hid (HV.below b3)
 clear b3
 have hcc:=G3.2.2.blk.cell
 have hres:=G3.1.2.2.cell
 have hfr:=G3.1.2.2.frozen
 unfold Bp at hres
 cases hm:Ak ⟨6,0,latN ws 1,latN ws 3,0,[],0,[],0⟩
 ·have HM:=hid ((Ej _).trans hm)
  clear hm
  go_wp2_with fail
  generalize hW:((((((((w3.setCell ⟨w.heap.size,0,none⟩ _).setCell ⟨w.heap.size,1,none⟩ _).setCell ⟨w.heap.size,2,none⟩ _).setCell ⟨w.heap.size,3,none⟩ _).setCell ⟨w.heap.size,4,none⟩ _).setCell ⟨w.heap.size,5,none⟩ _).setCell ⟨w.heap.size,6,none⟩ _).setCell ⟨w.heap.size,7,none⟩ _).setCell ⟨w.heap.size,8,none⟩ _=W'
  obtain ⟨k1,k2⟩:=fin9 G3.1.2.2 _ _ _ _ _ _ _ _ _ hW.symm
  have hc:=k1.cell
  refine bodyPost_ret (v:=.tuple #[.agg #[.int .i64 0,.int .i64 0,.int .i64 0,.int .i64 0,.int .i64 0,.slice none 0 0,.int .i64 0,.slice none 0 0,.int .i64 0],.int .i64 2]) (by simp [results,results8,go_sem,hc]) rfl ?_
  exact Ii G3.1 ⟨k1,k2⟩ (by unfold refB;rw [←HC.out,HM.out];rfl)
 ·have HM:=hid ((Ej _).trans hm)
  clear hm
  go_wp2_with fail
  refine (Hm ⟨6,0,latN ws 1,latN ws 3,0,[],0,[],0⟩ none none 0 0 _ HM.out G3.2.2.gi G3.2.2.wi).mono ?_
  rintro e w4 ⟨u,rfl,hu,b4⟩
  have G4:=hid (G3.below b4)
  have HV4:=hid (HV3.below b4)
  have HU:=hid hu
  clear b4 hu hcc hres hfr
  go_wp2_with fail
  refine (Hu _ HU.out HV4.out).mono ?_
  rintro e w5 ⟨rfl,b5⟩
  have G5:=hid (G4.below b5)
  clear b5
  have hcc:=G5.2.2.blk.cell
  have hres:=G5.1.2.2.cell
  have hfr:=G5.1.2.2.frozen
  unfold Bp at hres
  by_cases he:wordsOf ⟨6,0,latN ws 1,latN ws 3,0,[],0,[],0⟩=ws
  ·have HE:=hid he
   rw [decide_eq_true he]
   clear he
   go_wp2_with fail
   generalize hW:((((((((w5.setCell ⟨w.heap.size,0,none⟩ _).setCell ⟨w.heap.size,1,none⟩ _).setCell ⟨w.heap.size,2,none⟩ _).setCell ⟨w.heap.size,3,none⟩ _).setCell ⟨w.heap.size,4,none⟩ _).setCell ⟨w.heap.size,5,none⟩ _).setCell ⟨w.heap.size,6,none⟩ _).setCell ⟨w.heap.size,7,none⟩ _).setCell ⟨w.heap.size,8,none⟩ _=W'
   obtain ⟨k1,k2⟩:=fin9 G5.1.2.2 _ _ _ _ _ _ _ _ _ hW.symm
   have hc:=k1.cell
   refine bodyPost_ret (v:=.tuple #[.agg #[.int .i64 6,.int .i64 0,.int .i64 (latN ws 1),.int .i64 (latN ws 3),.int .i64 0,.slice none 0 0,.int .i64 0,.slice none 0 0,.int .i64 0],.int .i64 0]) (by simp [results,results8,go_sem,hc]) rfl ?_
   exact Pk G5.out HC.out k2 (by unfold refB;rw [←HC.out,HM.out,HE.out];simp)
  ·have HE:=hid he
   rw [decide_eq_false he]
   clear he
   go_wp2_with fail
   generalize hW:((((((((w5.setCell ⟨w.heap.size,0,none⟩ _).setCell ⟨w.heap.size,1,none⟩ _).setCell ⟨w.heap.size,2,none⟩ _).setCell ⟨w.heap.size,3,none⟩ _).setCell ⟨w.heap.size,4,none⟩ _).setCell ⟨w.heap.size,5,none⟩ _).setCell ⟨w.heap.size,6,none⟩ _).setCell ⟨w.heap.size,7,none⟩ _).setCell ⟨w.heap.size,8,none⟩ _=W'
   obtain ⟨k1,k2⟩:=fin9 G5.1.2.2 _ _ _ _ _ _ _ _ _ hW.symm
   have hc:=k1.cell
   refine bodyPost_ret (v:=.tuple #[.agg #[.int .i64 0,.int .i64 0,.int .i64 0,.int .i64 0,.int .i64 0,.slice none 0 0,.int .i64 0,.slice none 0 0,.int .i64 0],.int .i64 2]) (by simp [results,results8,go_sem,hc]) rfl ?_
   exact Ii G5.1 ⟨k1,k2⟩ (by unfold refB;rw [←HC.out,decide_eq_false HE.out];simp)
theorem Go5 (s:ByteArray) (w:World) (hs:s.size≤500000) (x:List UInt8) (hx:(Aq s.data.toList)[0]?=some x) (hk:Ct x=7):Calls prog 8 #[.string s] w (Gets w (Aq s.data.toList)):=by
 have HS:=hid hs
 have HW:=hid (Kz hs)
 have HX:=hid hx
 have HK:=hid hk
 clear hs hx hk
 have P0:=hid (GetW.start w)
 unfold Bp at P0
 go_enter func8,ntmps8
 go_wp2_with fail
 refine (Fu s _ (by have:=HS.out;omega)).mono ?_
 rintro e w1 ⟨v,rfl,hv,b1⟩
 have P1:=hid (P0.below b1)
 clear P0 b1
 generalize Aq s.data.toList=ws at *
 obtain ⟨a,cap,rfl,hl,hcs⟩:=hv
 have hn:0<ws.length:=(List.getElem?_eq_some_iff.1 HX.out).1
 obtain ⟨b,off,rfl,hb,hcs⟩:∃b off,a=some ⟨b,off,none⟩∧b<w1.heap.size∧∀i (hi:i<ws.length),w1.cell? ⟨b,off+i,none⟩=some (str ws[i]):=by
  rcases hcs with h|h
  ·rw [h] at hn;simp at hn
  ·exact h
 have HV:=hid (show Strs w1 (.slice (some ⟨b,off,none⟩) ws.length cap) ws from ⟨_,_,rfl,hl,.inr ⟨b,off,rfl,hb,hcs⟩⟩)
 have c0:=hcs 0 hn
 rw [Nat.add_zero,show ws[0]=x from (List.getElem?_eq_some_iff.1 HX.out).2] at c0
 unfold str at c0
 have hn0:((ws.length:Int)==0)=false:=by rw [beq_eq_false_iff_ne];omega
 unfold maxLen at hl
 have HL:=hid HW.2
 have HB:=hid hb
 have HCS:=hid hcs
 clear hb hcs
 go_wp2_with fail
 refine (Gs x _).mono ?_
 rintro e w2 ⟨rfl,b2⟩
 rw [HK.out]
 have c1:=fun i hi=>(b2.cell (p:=⟨b,off+i,none⟩) HB.out).trans (HCS.out i hi)
 have P2:=hid (P1.below b2)
 have HV2:=hid (HV.below b2)
 have HC1:=hid c1
 clear b2 c0 hn0 P1 HV c1 HCS
 go_wp2_with fail
 refine (Qt 1 _ (HV2.below (b_a _)) HW.1 HW.2 (by omega) (by omega)).mono ?_
 rintro e w' ⟨rfl,rfl⟩
 go_wp2_with fail
 refine (Qt 3 _ (HV2.below (b_a _)) HW.1 HW.2 (by omega) (by omega)).mono ?_
 rintro e w' ⟨rfl,rfl⟩
 have HD:=hid (show ws.getD 0 []=x by simp [List.getD,HX.out])
 have HC:=hid (show ⟨7,0,latN ws 1,0,latN ws 3,[],0,[],0⟩=Kt ws by unfold Kt;rw [HD.out,HK.out];simp [Ri,Dh])
 have G:=hid (GetG.alloc (c:=⟨7,0,latN ws 1,0,latN ws 3,[],0,[],0⟩) P2.out rfl rfl (cs:=#[.int .i64 7,.int .i64 0,.int .i64 (latN ws 1),.int .i64 0,.int .i64 (latN ws 3),.slice none 0 0,.int .i64 0,.slice none 0 0,.int .i64 0]) rfl)
 have HV:=hid (HV2.below (b_a (.cells #[.int .i64 7,.int .i64 0,.int .i64 (latN ws 1),.int .i64 0,.int .i64 (latN ws 3),.slice none 0 0,.int .i64 0,.slice none 0 0,.int .i64 0] 29)))
 clear HV2 P2
 go_wp2_with fail
 refine (Bw ⟨7,0,latN ws 1,0,latN ws 3,[],0,[],0⟩ none none 0 0 _ G.2.2.gi G.2.2.wi).mono ?_
 rintro e w3 ⟨rfl,b3⟩
 have G3:=hid (G.below b3)
 have HV3:=hid (HV.below b3)
 clear b3
 have hcc:=G3.2.2.blk.cell
 have hres:=G3.1.2.2.cell
 have hfr:=G3.1.2.2.frozen
 unfold Bp at hres
 cases hm:Ak ⟨7,0,latN ws 1,0,latN ws 3,[],0,[],0⟩
 ·have HM:=hid ((Ej _).trans hm)
  clear hm
  go_wp2_with fail
  generalize hW:((((((((w3.setCell ⟨w.heap.size,0,none⟩ _).setCell ⟨w.heap.size,1,none⟩ _).setCell ⟨w.heap.size,2,none⟩ _).setCell ⟨w.heap.size,3,none⟩ _).setCell ⟨w.heap.size,4,none⟩ _).setCell ⟨w.heap.size,5,none⟩ _).setCell ⟨w.heap.size,6,none⟩ _).setCell ⟨w.heap.size,7,none⟩ _).setCell ⟨w.heap.size,8,none⟩ _=W'
  obtain ⟨k1,k2⟩:=fin9 G3.1.2.2 _ _ _ _ _ _ _ _ _ hW.symm
  have hc:=k1.cell
  refine bodyPost_ret (v:=.tuple #[.agg #[.int .i64 0,.int .i64 0,.int .i64 0,.int .i64 0,.int .i64 0,.slice none 0 0,.int .i64 0,.slice none 0 0,.int .i64 0],.int .i64 2]) (by simp [results,results8,go_sem,hc]) rfl ?_
  exact Ii G3.1 ⟨k1,k2⟩ (by unfold refB;rw [←HC.out,HM.out];rfl)
 ·have HM:=hid ((Ej _).trans hm)
  clear hm
  go_wp2_with fail
  refine (Hm ⟨7,0,latN ws 1,0,latN ws 3,[],0,[],0⟩ none none 0 0 _ HM.out G3.2.2.gi G3.2.2.wi).mono ?_
  rintro e w4 ⟨u,rfl,hu,b4⟩
  have G4:=hid (G3.below b4)
  have HV4:=hid (HV3.below b4)
  have HU:=hid hu
  clear b4 hu hcc hres hfr
  go_wp2_with fail
  refine (Hu _ HU.out HV4.out).mono ?_
  rintro e w5 ⟨rfl,b5⟩
  have G5:=hid (G4.below b5)
  clear b5
  have hcc:=G5.2.2.blk.cell
  have hres:=G5.1.2.2.cell
  have hfr:=G5.1.2.2.frozen
  unfold Bp at hres
  by_cases he:wordsOf ⟨7,0,latN ws 1,0,latN ws 3,[],0,[],0⟩=ws
  ·have HE:=hid he
   rw [decide_eq_true he]
   clear he
   go_wp2_with fail
   generalize hW:((((((((w5.setCell ⟨w.heap.size,0,none⟩ _).setCell ⟨w.heap.size,1,none⟩ _).setCell ⟨w.heap.size,2,none⟩ _).setCell ⟨w.heap.size,3,none⟩ _).setCell ⟨w.heap.size,4,none⟩ _).setCell ⟨w.heap.size,5,none⟩ _).setCell ⟨w.heap.size,6,none⟩ _).setCell ⟨w.heap.size,7,none⟩ _).setCell ⟨w.heap.size,8,none⟩ _=W'
   obtain ⟨k1,k2⟩:=fin9 G5.1.2.2 _ _ _ _ _ _ _ _ _ hW.symm
   have hc:=k1.cell
   refine bodyPost_ret (v:=.tuple #[.agg #[.int .i64 7,.int .i64 0,.int .i64 (latN ws 1),.int .i64 0,.int .i64 (latN ws 3),.slice none 0 0,.int .i64 0,.slice none 0 0,.int .i64 0],.int .i64 0]) (by simp [results,results8,go_sem,hc]) rfl ?_
   exact Pk G5.out HC.out k2 (by unfold refB;rw [←HC.out,HM.out,HE.out];simp)
  ·have HE:=hid he
   rw [decide_eq_false he]
   clear he
   go_wp2_with fail
   generalize hW:((((((((w5.setCell ⟨w.heap.size,0,none⟩ _).setCell ⟨w.heap.size,1,none⟩ _).setCell ⟨w.heap.size,2,none⟩ _).setCell ⟨w.heap.size,3,none⟩ _).setCell ⟨w.heap.size,4,none⟩ _).setCell ⟨w.heap.size,5,none⟩ _).setCell ⟨w.heap.size,6,none⟩ _).setCell ⟨w.heap.size,7,none⟩ _).setCell ⟨w.heap.size,8,none⟩ _=W'
   obtain ⟨k1,k2⟩:=fin9 G5.1.2.2 _ _ _ _ _ _ _ _ _ hW.symm
   have hc:=k1.cell
   refine bodyPost_ret (v:=.tuple #[.agg #[.int .i64 0,.int .i64 0,.int .i64 0,.int .i64 0,.int .i64 0,.slice none 0 0,.int .i64 0,.slice none 0 0,.int .i64 0],.int .i64 2]) (by simp [results,results8,go_sem,hc]) rfl ?_
   exact Ii G5.1 ⟨k1,k2⟩ (by unfold refB;rw [←HC.out,decide_eq_false HE.out];simp)
end
section
open Go.RowKit Go
theorem Dz4 {ws:List (List UInt8)} {st j:Nat} (h:j<(Ew ws st).length):∃hi:st+j<ws.length,(Ew ws st)[j]=ws[st+j]∧¬ws[st+j]=Dc:=by
 have hp:Ew ws st <+: ws.drop st:=List.takeWhile_prefix _
 have hl:=hp.length_le
 rw [List.length_drop] at hl
 have hi:st+j<ws.length:=by omega
 have e:(Ew ws st)[j]=ws[st+j]:=by
  rw [hp.getElem h,List.getElem_drop]
 refine ⟨hi,e,?_⟩
 rw [←e]
 have:=List.all_takeWhile (p:=Xa) (l:=ws.drop st)
 have:=List.all_eq_true.1 this (Ew ws st)[j] (List.getElem_mem h)
 simpa [Xa] using this
theorem Xb (ws:List (List UInt8)) (st:Nat):(Ew ws st).length≤ws.length:=by
 have:=(List.takeWhile_prefix (p:=Xa) (l:=ws.drop st)).length_le
 rw [List.length_drop] at this
 unfold Ew;omega
theorem Dp4 {p:List UInt8→Bool}:∀(l:List (List UInt8)),(l.takeWhile p).length ≥ l.length∨∃h:(l.takeWhile p).length<l.length,p (l[(l.takeWhile p).length])=false
 | []=>.inl lr0
 | x :: l=>by
   cases hx:p x
   ·right;simp [hx]
   ·rcases Dp4 (p:=p) l with h|⟨h,e⟩
    ·left;simp [hx];exact h
    ·right;simp only [List.takeWhile_cons,hx,if_true,List.length_cons];exact ⟨by omega,by simpa using e⟩
theorem Bu1 (ws:List (List UInt8)) (st:Nat):¬st+(Ew ws st).length<ws.length∨∃h:st+(Ew ws st).length<ws.length,ws[st+(Ew ws st).length]=Dc:=by
 rcases Dp4 (p:=Xa) (ws.drop st) with h|⟨h,e⟩
 ·left;rw [List.length_drop] at h;unfold Ew;omega
 ·right
  have h2:=h
  rw [List.length_drop] at h2
  refine ⟨by unfold Ew;omega,?_⟩
  rw [List.getElem_drop] at e
  simpa [Xa,Ew] using e
def Zf (W0:World) (C o:Nat) (cs:Array Value) (L:List (List UInt8)) (j:Nat) (wr:World):Prop :=
 ∃lv,W0.grownBy wr (some C)∧Blk wr C 29 (cs.setIfInBounds o lv)∧wr.ownsRow W0.heap.size 3 1 lv j ((L.take j).map nv)∧(j=0→lv=.slice none 0 0)
theorem Gl3 {cs:Array Value} {o:Nat} {v:Value} (h:cs[o]?=some v):cs.setIfInBounds o v=cs:=by
 apply Array.ext_getElem?
 intro j
 rw [Array.getElem?_setIfInBounds]
 split
 ·rename_i e;subst e;rw [h];split
  ·rfl
  ·rename_i h2;exact absurd (Array.getElem?_eq_some_iff.1 h).1 h2
 ·rfl
theorem Zf.start {W0:World} {C o:Nat} {cs:Array Value} {L:List (List UInt8)} (hb:Blk W0 C 29 cs) (ho:cs[o]?=some (.slice none 0 0)):Zf W0 C o cs L 0 W0 :=
 ⟨.slice none 0 0,Xi _ _,by rw [Gl3 ho];exact hb,World.ownsRow_nil _ _ _ _,fun _=>rfl⟩
theorem Cf6 {W0 wr W2:World} {C o j:Nat} {cs:Array Value} {L:List (List UInt8)} {lv lv':Value} (hC:C<W0.heap.size) (hj:j<L.length) (h3:W0.grownBy wr (some C)) (h4:Blk wr C 29 (cs.setIfInBounds o lv)) (h5:wr.ownsRow W0.heap.size 3 1 lv j ((L.take j).map nv))
 (hown:W2.ownsRow W0.heap.size 3 1 lv' (j+1) ((L.take j).map nv++[nv L[j]])) (hg:wr.grownBy W2 lv.ownBlock):Zf W0 C o cs L (j+1) (W2.setCell ⟨C,o,none⟩ lv'):=by
 have b3:=(h4.grow hg (Ax2 h5 hC)).set_ o lv'
 rw [Dq0] at b3
 have hg2:W0.grownBy W2 (some C):=⟨hg.os.trans h3.os,hg.tape.trans h3.tape,hg.output.trans h3.output,Nat.le_trans h3.size hg.size,fun k hk hne=>(hg.block k (Nat.lt_of_lt_of_le hk h3.size) (fun e=>by have:=(h5.lt k e.symm).1;omega)).trans (h3.block k hk hne)⟩
 refine ⟨lv',Da hg2 (lgrown_set W2 ⟨C,o,none⟩ lv') (.inl rfl),b3,?_,fun e=>by omega⟩
 have:=hown.kept (w':=W2.setCell ⟨C,o,none⟩ lv') (row:=some C) (lgrown_set W2 ⟨C,o,none⟩ lv') (.inr (Ax2 hown hC).symm)
 rw [List.take_succ_eq_append_getElem hj,List.map_append]
 exact this
section
variable {w W W0 wr:World} {C:Nat} {c:Cm} {ga wa:Option Addr} {gc wc:Nat} {L:List (List UInt8)}
theorem GetW.grown (h:GetW w W) {W':World} (hg:W.grownBy W' (some C)) (hC:w.heap.size<C):GetW w W' :=
 ⟨h.1.grown hg (by have:=h.2.1;omega) (fun k e=>by have:=Option.some.inj e;omega),Nat.le_trans h.2.1 hg.size,h.2.2.grow hg (by intro e;have:=Option.some.inj e;omega)⟩
theorem TSt.setF_ (st:TSt W C c ga gc wa wc) (f:Fd) (n:Int):TSt (W.setCell ⟨C,f.off,none⟩ (.int .i64 n)) C (setF c n f) ga gc wa wc∧W.grownBy (W.setCell ⟨C,f.off,none⟩ (.int .i64 n)) (some C):=by
 have hg:=lgrown_set W ⟨C,f.off,none⟩ (.int .i64 n)
 have e1:(setF c n f).gives=c.gives:=by cases f<;>rfl
 have e2:(setF c n f).wants=c.wants:=by cases f<;>rfl
 refine ⟨⟨?_,?_,?_,?_,?_,?_,?_⟩,hg⟩
 ·have:=st.blk.set_ f.off (.int .i64 n)
  cases f<;>exact this
 ·rw [e1];exact st.gi.grown (v:=bv C) hg (st.go.off lr0)
 ·rw [e2];exact st.wi.grown (v:=bv C) hg (st.wo.off lr0)
 ·rw [e1];exact st.gn
 ·rw [e2];exact st.wn
 ·rw [e1];exact st.go
 ·rw [e2];exact st.wo
theorem GetG.setF_ (h:GetG w C c ga gc wa wc W) (f:Fd) (n:Int):GetG w C (setF c n f) ga gc wa wc (W.setCell ⟨C,f.off,none⟩ (.int .i64 n)):=by
 obtain ⟨h1,h2,h3⟩:=h
 obtain ⟨k1,k2⟩:=h3.setF_ f n
 exact ⟨GetW.grown h1 k2 h2,h2,k1⟩
theorem Bu2 (h:GetG w C c ga gc wa wc W0) (g:Bool) (hr:Zf W0 C (An3 g) (cC c ga gc wa wc) L L.length wr) (hl:L.length≤1000000) :
 ∃a cap,GetG w C (lsetL c g (Us L)) (if g then a else ga) (if g then cap else gc) (if g then wa else a) (if g then wc else cap) wr:=by
 obtain ⟨h1,h2,st⟩:=h
 obtain ⟨lv,hg,hb,hrow,hn⟩:=hr
 obtain ⟨a,cap,rfl⟩:=Ai6 hrow
 rw [List.take_of_length_le lr0] at hrow
 have em:L.map nv=(Us L).map (Value.int .i64):=by unfold Us;rw [List.map_map];rfl
 have e0:(Us L).length=L.length:=List.length_map ..
 have hC:=st.blk.lt
 rw [em] at hrow
 have hI:=Cp4 hrow e0.symm (by rw [e0];unfold maxLen;omega)
 have hO:Dx7 a (Us L) C:=by
  refine .inr fun p hp=>?_
  subst hp
  have:=(hrow.lt p.block rfl).1
  omega
 have hN:LNil a cap (Us L):=fun e=>by
  have:L.length=0:=by rw [←e0,e];rfl
  have:=hn this
  simp only [Value.slice.injEq] at this
  exact ⟨this.1,this.2.2⟩
 rw [←e0] at hb
 refine ⟨a,cap,GetW.grown h1 hg h2,h2,?_⟩
 cases g with
 | true=>exact ⟨hb,hI,st.wi.grown (v:=bv C) hg (st.wo.off lr0),hN,st.wn,hO,st.wo⟩
 | false=>exact ⟨hb,st.gi.grown (v:=bv C) hg (st.go.off lr0),hI,st.gn,hN,st.go,hO⟩
theorem Strs.grown {v:Value} {xs:List (List UInt8)} {W':World} {t:TypeId} {cs:Array Value} (h:Strs W v xs) (hg:W.grownBy W' (some C)) (hB:Blk W C t cs) (hn:Br2 cs):Strs W' v xs:=by
 obtain ⟨a,cap,rfl,hl,h⟩:=h
 refine ⟨a,cap,rfl,hl,?_⟩
 rcases h with h|⟨b,off,rfl,hb,hc⟩
 ·exact .inl h
 ·refine .inr ⟨b,off,rfl,Nat.lt_of_lt_of_le hb hg.size,fun i hi=>?_⟩
  refine hg.cell (hc i hi) (fun e=>?_)
  obtain rfl:b=C:=Option.some.inj e
  have:=hc i hi
  rw [hB.cell] at this
  exact hn _ _ this
theorem Strs.cellAt {b off n cap:Nat} {xs:List (List UInt8)} (h:Strs W (.slice (some ⟨b,off,none⟩) n cap) xs) (i:Nat) (hi:i<xs.length):W.cell? ⟨b,off+i,none⟩=some (str xs[i]):=by
 obtain ⟨a,cap2,e,hl,h⟩:=h
 simp only [Value.slice.injEq] at e
 obtain ⟨rfl,-,-⟩:=e
 rcases h with h|⟨b2,o2,e,hb,hc⟩
 ·subst h;simp at hi
 ·obtain ⟨rfl,rfl⟩:b=b2∧off=o2:=by simpa using e
  exact hc i hi
end
end
section
open Go.RowKit Go
theorem Go4 (s:ByteArray) (w:World) (hs:s.size≤500000) (x:List UInt8) (hx:(Aq s.data.toList)[0]?=some x) (hk:Ct x=8):Calls prog 8 #[.string s] w (Gets w (Aq s.data.toList)):=by
 have HS:=hid hs
 have HW:=hid (Kz hs)
 have HX:=hid hx
 have HK:=hid hk
 clear hs hx hk
 have P0:=hid (GetW.start w)
 unfold Bp at P0
 go_enter func8,ntmps8
 go_wp2_with fail
 refine (Fu s _ (by have:=HS.out;omega)).mono ?_
 rintro e w1 ⟨v,rfl,hv,b1⟩
 have P1:=hid (P0.below b1)
 clear P0 b1
 generalize Aq s.data.toList=ws at *
 obtain ⟨a,cap,rfl,hl,hcs⟩:=hv
 have hn:0<ws.length:=(List.getElem?_eq_some_iff.1 HX.out).1
 obtain ⟨b,off,rfl,hb,hcs⟩:∃b off,a=some ⟨b,off,none⟩∧b<w1.heap.size∧∀i (hi:i<ws.length),w1.cell? ⟨b,off+i,none⟩=some (str ws[i]):=by
  rcases hcs with h|h
  ·rw [h] at hn;simp at hn
  ·exact h
 have HV:=hid (show Strs w1 (.slice (some ⟨b,off,none⟩) ws.length cap) ws from ⟨_,_,rfl,hl,.inr ⟨b,off,rfl,hb,hcs⟩⟩)
 have c0:=hcs 0 hn
 rw [Nat.add_zero,show ws[0]=x from (List.getElem?_eq_some_iff.1 HX.out).2] at c0
 unfold str at c0
 have hn0:((ws.length:Int)==0)=false:=by rw [beq_eq_false_iff_ne];omega
 unfold maxLen at hl
 have HL:=hid HW.2
 have HB:=hid hb
 have HCS:=hid hcs
 clear hb hcs
 go_wp2_with fail
 refine (Gs x _).mono ?_
 rintro e w2 ⟨rfl,b2⟩
 rw [HK.out]
 have c1:=fun i hi=>(b2.cell (p:=⟨b,off+i,none⟩) HB.out).trans (HCS.out i hi)
 have P2:=hid (P1.below b2)
 have hbz:=b2.size
 have HV2:=hid (HV.below b2)
 have HC1:=hid c1
 clear b2 c0 hn0 P1 HV c1 HCS
 go_wp2_with fail
 refine (Qt 1 _ (HV2.below (b_a _)) HW.1 HW.2 (by omega) (by omega)).mono ?_
 rintro e w' ⟨rfl,rfl⟩
 have HD:=hid (show ws.getD 0 []=x by simp [List.getD,HX.out])
 have G0:=hid (GetG.alloc (c:=⟨8,0,0,0,latN ws 1,[],0,[],0⟩) P2.out rfl rfl (cs:=#[.int .i64 8,.int .i64 0,.int .i64 0,.int .i64 0,.int .i64 (latN ws 1),.slice none 0 0,.int .i64 0,.slice none 0 0,.int .i64 0]) rfl)
 have HV0:=hid (HV2.below (b_a (.cells #[.int .i64 8,.int .i64 0,.int .i64 0,.int .i64 0,.int .i64 (latN ws 1),.slice none 0 0,.int .i64 0,.slice none 0 0,.int .i64 0] 29)))
 clear HV2 P2
 go_wp2_with fail
 generalize hW0:w2.alloc (.cells #[.int .i64 8,.int .i64 0,.int .i64 0,.int .i64 0,.int .i64 (latN ws 1),.slice none 0 0,.int .i64 0,.slice none 0 0,.int .i64 0] 29)=W0 at *
 clear hW0
 generalize w2.heap.size=C at *
 go_loopw [8] (fun t wr=>∃q:Nat,t=.int .i64 (q:Int)∧∃j:Nat,q=3+j∧j≤(Ew ws 3).length∧Zf W0 C 5 #[.int .i64 8,.int .i64 0,.int .i64 0,.int .i64 0,.int .i64 (latN ws 1),.slice none 0 0,.int .i64 0,.slice none 0 0,.int .i64 0] (Ew ws 3) j wr) (fun t _=>ws.length+10-(intOf t).toNat)
 case atStart=>exact ⟨3,rfl,0,rfl,Nat.zero_le _,Zf.start G0.2.2.blk rfl⟩
 case round =>
  obtain ⟨q,rfl,j,hq,hj,hr⟩:=hrel
  have HQ:=hid hq
  clear hq
  by_cases hlt:j<(Ew ws 3).length
  ·obtain ⟨hi,hE,hne⟩:=Dz4 hlt
   obtain ⟨lv,h3,h4,h5,h6⟩:=hr
   have HVr:=hid (HV0.grown h3 G0.2.2.blk (Nb _ _ _ _ _))
   have c1:=HVr.cellAt (3+j) hi
   have HA:=hid (Bs8 (List.getElem?_eq_getElem hi))
   generalize hy:ws[3+j]=y at *
   clear hy
   rw [←HQ.out] at c1 hi HA
   unfold str at c1
   have hne1:(y != [99,111,105,110,115])=true:=by simpa [Dc] using hne
   have hne2:(y==[99,111,105,110,115])=false:=by simpa [Dc] using hne
   have R3:=hid h3
   have R4:=hid h4
   have R5:=hid h5
   have HEL:=hid hE
   clear h3 h4 h5 h6 hne hE
   have hsl:=Xb ws 3
   obtain ⟨lv',W2,hrun,hown,hg,hm⟩:=lappend_int (W:=wr.drew) R5.out (numN y:Int) (by have:=HL.out;omega) R3.size
   obtain ⟨a2,cp2,rfl⟩:=Ai6 hown
   have hown2:W2.ownsRow W0.heap.size 3 1 (.slice a2 (j+1) cp2) (j+1) (((Ew ws 3).take j).map nv++[nv (Ew ws 3)[j]]):=by rw [HEL.out];exact hown
   have hCw:=G0.2.2.blk.lt
   have b2:Blk W2 C 29 _:=Blk.grow (W:=wr.drew) R4.out hg (Ax2 R5.out hCw)
   have L0:wr.drew.cell? ⟨C,5,none⟩=some lv:=Blk.cell (w:=wr.drew) R4.out 5
   have L1:(wr.drew.alloc (.cells #[.int .i64 (numN y:Int)] 3)).cell? ⟨C,5,none⟩=some lv:=(Blk.alloc (w:=wr.drew) R4.out _).cell 5
   have L4:wr.cell? ⟨C,5,none⟩=some lv:=L0
   have L5:(wr.alloc (.cells #[.int .i64 (numN y:Int)] 3)).cell? ⟨C,5,none⟩=some lv:=L1
   have L2:W2.cell? ⟨C,5,none⟩=some lv:=b2.cell 5
   have L3:=b2.frozen 5
   have HVd:=hid (show Strs wr.drew (.slice (some ⟨b,off,none⟩) ws.length cap) ws from HVr.out)
   have HN2:=hid (Cf6 hCw hlt R3.out R4.out R5.out hown2 ⟨hg.os,hg.tape,hg.output,hg.size,hg.block⟩)
   have HG:=hid hrun
   clear hrun hown hg hm hCw b2 hown2 hsl
   go_wp2_with fail
   clear c1 hne1 hne2
   refine tkS (S:=(fun _=>True)) (by (trivial)) (fun hHeld=>?_)
   refine tkl [0,2,3] ?_
   iterate 3
    refine tW ?_
    try go_frame
   refine wpAnyH_ready (rs:=[1,4]) (by kernel_rfl) (by simp) (AllReadyH.cons (by simp only [List.getElem?_toArray,List.getElem?_cons_succ,List.getElem?_cons_zero];rfl) (fun K hK=>?_) (AllReadyH.cons (by simp only [List.getElem?_toArray,List.getElem?_cons_succ,List.getElem?_cons_zero];rfl) (fun K hK=>?_) AllReadyH.nil))
   ·
    go_simp
    try go_wp2_with fail
    refine hK.out _ _ (by (trivial)) (fun hHeld=>?_)
    clear hK K
    try go_frame
    refine rdy1 4 (fun K hK=>?_)
    go_simp
    go_at_call 23
    refine (Qt q wr.drew HVd.out HW.1 HW.2 (by omega) (by have:=HL.out;omega)).mono ?_
    rintro e w' ⟨rfl,rfl⟩
    rw [HA.out]
    try go_wp2_with fail
    refine hK.out _ _ trivial (fun hHeld=>?_)
    clear hK K
    try simp only [Act.put,setIfInBounds_toArray,set_cons_zero,set_cons_succ]
    refine rdy1 5 (fun K hK=>?_)
    go_simp
    try go_wp2_with fail
    refine hK.out _ _ (by (trivial)) (fun hHeld=>?_)
    clear hK K
    try go_frame
    refine rdy1 6 (fun K hK=>?_)
    refine Gb rfl (.tmp 94) (.tmp 98) 27 rfl lv _ (.slice a2 (j+1) cp2) W2 rfl rfl HG.out ?_
    refine hK.out _ _ (by (trivial)) (fun hHeld=>?_)
    clear hK K
    try go_frame
    refine tkl [7] (tW ?_)
    try go_frame
    refine rdy1 8 (fun K hK=>?_)
    go_simp
    try go_wp2_with fail
    refine hK.out _ _ (by (trivial)) (fun hHeld=>?_)
    clear hK K
    try go_frame
    refine tkD ?_
    go_wp2_with fail
    go_roundw
    case rel=>exact ⟨q+1,by go_num,j+1,by have:=HQ.out;omega,by omega,HN2.out⟩
    case measure=>simp [intOf];omega
   ·
    go_simp
    go_at_call 23
    refine (Qt q wr.drew HVd.out HW.1 HW.2 (by omega) (by have:=HL.out;omega)).mono ?_
    rintro e w' ⟨rfl,rfl⟩
    rw [HA.out]
    try go_wp2_with fail
    refine hK.out _ _ trivial (fun hHeld=>?_)
    clear hK K
    try simp only [Act.put,setIfInBounds_toArray,set_cons_zero,set_cons_succ]
    refine wpAnyH_ready (rs:=[1,5]) (by kernel_rfl) (by simp) (AllReadyH.cons (by simp only [List.getElem?_toArray,List.getElem?_cons_succ,List.getElem?_cons_zero];rfl) (fun K hK=>?_) (AllReadyH.cons (by simp only [List.getElem?_toArray,List.getElem?_cons_succ,List.getElem?_cons_zero];rfl) (fun K hK=>?_) AllReadyH.nil))
    ·
     go_simp
     try go_wp2_with fail
     refine hK.out _ _ (by (trivial)) (fun hHeld=>?_)
     clear hK K
     try go_frame
     refine rdy1 5 (fun K hK=>?_)
     go_simp
     try go_wp2_with fail
     refine hK.out _ _ (by (trivial)) (fun hHeld=>?_)
     clear hK K
     try go_frame
     refine rdy1 6 (fun K hK=>?_)
     refine Gb rfl (.tmp 94) (.tmp 98) 27 rfl lv _ (.slice a2 (j+1) cp2) W2 rfl rfl HG.out ?_
     refine hK.out _ _ (by (trivial)) (fun hHeld=>?_)
     clear hK K
     try go_frame
     refine tkl [7] (tW ?_)
     try go_frame
     refine rdy1 8 (fun K hK=>?_)
     go_simp
     try go_wp2_with fail
     refine hK.out _ _ (by (trivial)) (fun hHeld=>?_)
     clear hK K
     try go_frame
     refine tkD ?_
     go_wp2_with fail
     go_roundw
     case rel=>exact ⟨q+1,by go_num,j+1,by have:=HQ.out;omega,by omega,HN2.out⟩
     case measure=>simp [intOf];omega
    ·
     go_simp
     try go_wp2_with fail
     refine hK.out _ _ (by (trivial)) (fun hHeld=>?_)
     clear hK K
     try go_frame
     refine rdy1 1 (fun K hK=>?_)
     go_simp
     try go_wp2_with fail
     refine hK.out _ _ (by (trivial)) (fun hHeld=>?_)
     clear hK K
     try go_frame
     refine rdy1 6 (fun K hK=>?_)
     refine Gb rfl (.tmp 94) (.tmp 98) 27 rfl lv _ (.slice a2 (j+1) cp2) W2 rfl rfl HG.out ?_
     refine hK.out _ _ (by (trivial)) (fun hHeld=>?_)
     clear hK K
     try go_frame
     refine tkl [7] (tW ?_)
     try go_frame
     refine rdy1 8 (fun K hK=>?_)
     go_simp
     try go_wp2_with fail
     refine hK.out _ _ (by (trivial)) (fun hHeld=>?_)
     clear hK K
     try go_frame
     refine tkD ?_
     go_wp2_with fail
     go_roundw
     case rel=>exact ⟨q+1,by go_num,j+1,by have:=HQ.out;omega,by omega,HN2.out⟩
     case measure=>simp [intOf];omega
  ·have hje:j=(Ew ws 3).length:=by omega
   subst hje
   obtain ⟨a1,p1,hG1⟩:=Bu2 G0.out true hr (by have:=HL.out;have:=Xb ws 3;omega)
   have G1:=hid (show GetG w C ⟨8,0,0,0,latN ws 1,Us (Ew ws 3),0,[],0⟩ a1 p1 none 0 wr from hG1)
   obtain ⟨lv,h3,h4,h5,h6⟩:=hr
   have HVr:=hid (HV0.grown h3 G0.2.2.blk (Nb _ _ _ _ _))
   have hql:q≤1000003:=by have:=HQ.out;have:=Xb ws 3;have:=HL.out;omega
   have HI1:=hid (show q=i1 ws from HQ.out)
   have HST:=hid (Bu1 ws 3)
   clear h3 h4 h5 h6 hG1 hlt hj lv
   have K6:=G1.2.2.blk.cell 6
   have F6:=G1.2.2.blk.frozen 6
   rcases HST.out with hi|⟨hi,hco⟩
   ·rw [←HQ.out] at hi
    have hi2:ws.length≤q:=by omega
    clear HST
    go_wp2_with fail
    refine (Qt ((q:Int)+1) _ HVr.out HW.1 HW.2 (by omega) (by omega)).mono ?_
    rintro e w' ⟨rfl,rfl⟩
    go_wp2_with fail
    clear K6 F6
    have G2:=hid (show GetG w C ⟨8,0,0,0,latN ws 1,Us (Ew ws 3),latN ws ((q:Int)+1),[],0⟩ a1 p1 none 0 (wr.setCell ⟨C,6,none⟩ (.int .i64 (latN ws ((q:Int)+1)))) from G1.setF_ .pay (latN ws ((q:Int)+1)))
    have HV2:=hid (show Strs (wr.setCell ⟨C,6,none⟩ (.int .i64 (latN ws ((q:Int)+1)))) (.slice (some ⟨b,off,none⟩) ws.length cap) ws from HVr.grown (G1.2.2.setF_ .pay (latN ws ((q:Int)+1))).2 G1.2.2.blk (Nb _ _ _ _ _))
    obtain ⟨GS,hgs⟩:∃GS,GS=Us (Ew ws 3):=⟨_,rfl⟩
    obtain ⟨PAY,hpay⟩:∃PAY,PAY=latN ws ((q:Int)+1):=⟨_,rfl⟩
    rw [←hgs,←hpay] at G2
    try rw [←hpay] at HV2
    try rw [←hpay]
    have HGS:=hid hgs
    have HPAY:=hid hpay
    clear hgs hpay
    generalize wr.setCell ⟨C,6,none⟩ (.int .i64 PAY)=W1 at *
    go_loopw [8] (fun t wr=>∃r:Nat,t=.int .i64 (r:Int)∧∃j:Nat,r=(i1 ws+3)+j∧j≤(Ew ws (i1 ws+3)).length∧Zf W1 C 7 #[.int .i64 8,.int .i64 0,.int .i64 0,.int .i64 0,.int .i64 (latN ws 1),.slice a1 GS.length p1,.int .i64 PAY,.slice none 0 0,.int .i64 0] (Ew ws (i1 ws+3)) j wr) (fun t _=>ws.length+1000-(intOf t).toNat)
    case atStart=>exact ⟨q+3,by go_num,0,by have:=HI1.out;omega,Nat.zero_le _,Zf.start G2.2.2.blk rfl⟩
    case round =>
     obtain ⟨r,rfl,j,hq,hj,hr⟩:=hrel
     have HQb:=hid hq
     clear hq
     by_cases hlt:j<(Ew ws (i1 ws+3)).length
     ·obtain ⟨hi,hE,hne⟩:=Dz4 hlt
      obtain ⟨lv,h3,h4,h5,h6⟩:=hr
      have HVrb:=hid (HV2.grown h3 G2.2.2.blk (Nb _ _ _ _ _))
      have c1:=HVrb.cellAt ((i1 ws+3)+j) hi
      have HAb:=hid (Bs8 (List.getElem?_eq_getElem hi))
      generalize hy:ws[(i1 ws+3)+j]=y at *
      clear hy
      rw [←HQb.out] at c1 hi HAb
      unfold str at c1
      have hne1:(y != [99,111,105,110,115])=true:=by simpa [Dc] using hne
      have hne2:(y==[99,111,105,110,115])=false:=by simpa [Dc] using hne
      have R3b:=hid h3
      have R4b:=hid h4
      have R5b:=hid h5
      have HELb:=hid hE
      clear h3 h4 h5 h6 hne hE
      have hsl:=Xb ws (i1 ws+3)
      obtain ⟨lv',W2,hrun,hown,hg,hm⟩:=lappend_int (W:=wr.drew) R5b.out (numN y:Int) (by have:=HL.out;omega) R3b.size
      obtain ⟨a2,cp2,rfl⟩:=Ai6 hown
      have hown2:W2.ownsRow W1.heap.size 3 1 (.slice a2 (j+1) cp2) (j+1) (((Ew ws (i1 ws+3)).take j).map nv++[nv (Ew ws (i1 ws+3))[j]]):=by rw [HELb.out];exact hown
      have hCw:=G2.2.2.blk.lt
      have b2:Blk W2 C 29 _:=Blk.grow (W:=wr.drew) R4b.out hg (Ax2 R5b.out hCw)
      have L0:wr.drew.cell? ⟨C,7,none⟩=some lv:=Blk.cell (w:=wr.drew) R4b.out 7
      have L1:(wr.drew.alloc (.cells #[.int .i64 (numN y:Int)] 3)).cell? ⟨C,7,none⟩=some lv:=(Blk.alloc (w:=wr.drew) R4b.out _).cell 7
      have L4:wr.cell? ⟨C,7,none⟩=some lv:=L0
      have L5:(wr.alloc (.cells #[.int .i64 (numN y:Int)] 3)).cell? ⟨C,7,none⟩=some lv:=L1
      have L2:W2.cell? ⟨C,7,none⟩=some lv:=b2.cell 7
      have L3:=b2.frozen 7
      have HVdb:=hid (show Strs wr.drew (.slice (some ⟨b,off,none⟩) ws.length cap) ws from HVrb.out)
      have HN2b:=hid (Cf6 hCw hlt R3b.out R4b.out R5b.out hown2 ⟨hg.os,hg.tape,hg.output,hg.size,hg.block⟩)
      have HGb:=hid hrun
      clear hrun hown hg hm hCw b2 hown2 hsl
      go_wp2_with fail
      clear c1 hne1 hne2
      refine tkS (S:=(fun _=>True)) (by (trivial)) (fun hHeld=>?_)
      refine tkl [0,2,3] ?_
      iterate 3
       refine tW ?_
       try go_frame
      refine wpAnyH_ready (rs:=[1,4]) (by kernel_rfl) (by simp) (AllReadyH.cons (by simp only [List.getElem?_toArray,List.getElem?_cons_succ,List.getElem?_cons_zero];rfl) (fun K hK=>?_) (AllReadyH.cons (by simp only [List.getElem?_toArray,List.getElem?_cons_succ,List.getElem?_cons_zero];rfl) (fun K hK=>?_) AllReadyH.nil))
      ·
       go_simp
       try go_wp2_with fail
       refine hK.out _ _ (by (trivial)) (fun hHeld=>?_)
       clear hK K
       try go_frame
       refine rdy1 4 (fun K hK=>?_)
       go_simp
       go_at_call 23
       refine (Qt r wr.drew HVdb.out HW.1 HW.2 (by omega) (by have:=HL.out;omega)).mono ?_
       rintro e w' ⟨rfl,rfl⟩
       rw [HAb.out]
       try go_wp2_with fail
       refine hK.out _ _ trivial (fun hHeld=>?_)
       clear hK K
       try simp only [Act.put,setIfInBounds_toArray,set_cons_zero,set_cons_succ]
       refine rdy1 5 (fun K hK=>?_)
       go_simp
       try go_wp2_with fail
       refine hK.out _ _ (by (trivial)) (fun hHeld=>?_)
       clear hK K
       try go_frame
       refine rdy1 6 (fun K hK=>?_)
       refine Gb rfl (.tmp 122) (.tmp 126) 27 rfl lv _ (.slice a2 (j+1) cp2) W2 rfl rfl HGb.out ?_
       refine hK.out _ _ (by (trivial)) (fun hHeld=>?_)
       clear hK K
       try go_frame
       refine tkl [7] (tW ?_)
       try go_frame
       refine rdy1 8 (fun K hK=>?_)
       go_simp
       try go_wp2_with fail
       refine hK.out _ _ (by (trivial)) (fun hHeld=>?_)
       clear hK K
       try go_frame
       refine tkD ?_
       go_wp2_with fail
       go_roundw
       case rel=>exact ⟨r+1,by go_num,j+1,by have:=HQb.out;omega,by omega,HN2b.out⟩
       case measure=>simp [intOf];omega
      ·
       go_simp
       go_at_call 23
       refine (Qt r wr.drew HVdb.out HW.1 HW.2 (by omega) (by have:=HL.out;omega)).mono ?_
       rintro e w' ⟨rfl,rfl⟩
       rw [HAb.out]
       try go_wp2_with fail
       refine hK.out _ _ trivial (fun hHeld=>?_)
       clear hK K
       try simp only [Act.put,setIfInBounds_toArray,set_cons_zero,set_cons_succ]
       refine wpAnyH_ready (rs:=[1,5]) (by kernel_rfl) (by simp) (AllReadyH.cons (by simp only [List.getElem?_toArray,List.getElem?_cons_succ,List.getElem?_cons_zero];rfl) (fun K hK=>?_) (AllReadyH.cons (by simp only [List.getElem?_toArray,List.getElem?_cons_succ,List.getElem?_cons_zero];rfl) (fun K hK=>?_) AllReadyH.nil))
       ·
        go_simp
        try go_wp2_with fail
        refine hK.out _ _ (by (trivial)) (fun hHeld=>?_)
        clear hK K
        try go_frame
        refine rdy1 5 (fun K hK=>?_)
        go_simp
        try go_wp2_with fail
        refine hK.out _ _ (by (trivial)) (fun hHeld=>?_)
        clear hK K
        try go_frame
        refine rdy1 6 (fun K hK=>?_)
        refine Gb rfl (.tmp 122) (.tmp 126) 27 rfl lv _ (.slice a2 (j+1) cp2) W2 rfl rfl HGb.out ?_
        refine hK.out _ _ (by (trivial)) (fun hHeld=>?_)
        clear hK K
        try go_frame
        refine tkl [7] (tW ?_)
        try go_frame
        refine rdy1 8 (fun K hK=>?_)
        go_simp
        try go_wp2_with fail
        refine hK.out _ _ (by (trivial)) (fun hHeld=>?_)
        clear hK K
        try go_frame
        refine tkD ?_
        go_wp2_with fail
        go_roundw
        case rel=>exact ⟨r+1,by go_num,j+1,by have:=HQb.out;omega,by omega,HN2b.out⟩
        case measure=>simp [intOf];omega
       ·
        go_simp
        try go_wp2_with fail
        refine hK.out _ _ (by (trivial)) (fun hHeld=>?_)
        clear hK K
        try go_frame
        refine rdy1 1 (fun K hK=>?_)
        go_simp
        try go_wp2_with fail
        refine hK.out _ _ (by (trivial)) (fun hHeld=>?_)
        clear hK K
        try go_frame
        refine rdy1 6 (fun K hK=>?_)
        refine Gb rfl (.tmp 122) (.tmp 126) 27 rfl lv _ (.slice a2 (j+1) cp2) W2 rfl rfl HGb.out ?_
        refine hK.out _ _ (by (trivial)) (fun hHeld=>?_)
        clear hK K
        try go_frame
        refine tkl [7] (tW ?_)
        try go_frame
        refine rdy1 8 (fun K hK=>?_)
        go_simp
        try go_wp2_with fail
        refine hK.out _ _ (by (trivial)) (fun hHeld=>?_)
        clear hK K
        try go_frame
        refine tkD ?_
        go_wp2_with fail
        go_roundw
        case rel=>exact ⟨r+1,by go_num,j+1,by have:=HQb.out;omega,by omega,HN2b.out⟩
        case measure=>simp [intOf];omega
     ·have hje:j=(Ew ws (i1 ws+3)).length:=by omega
      subst hje
      obtain ⟨a2,p2,hG3⟩:=Bu2 G2.out false hr (by have:=HL.out;have:=Xb ws (i1 ws+3);omega)
      have G3:=hid (show GetG w C ⟨8,0,0,0,latN ws 1,GS,PAY,Us (Ew ws (i1 ws+3)),0⟩ a1 p1 a2 p2 wr from hG3)
      obtain ⟨lv,h3,h4,h5,h6⟩:=hr
      have HVr2:=hid (HV2.grown h3 G2.2.2.blk (Nb _ _ _ _ _))
      have hrl:r≤2000010:=by have:=HQb.out;have:=Xb ws (i1 ws+3);have:=Xb ws 3;have:=HL.out;have h9:i1 ws=3+(Ew ws 3).length:=rfl;omega
      have HI2:=hid (show r=i2 ws from HQb.out)
      have HSU:=hid (Bu1 ws (i1 ws+3))
      clear h3 h4 h5 h6 hG3 hlt hj lv
      have K8:=G3.2.2.blk.cell 8
      have F8:=G3.2.2.blk.frozen 8
      rcases HSU.out with hi|⟨hi,hco⟩
      ·rw [←HQb.out] at hi
       have hi3:ws.length≤r:=by omega
       clear HSU
       go_wp2_with fail
       refine (Qt ((r:Int)+1) _ HVr2.out HW.1 HW.2 (by omega) (by omega)).mono ?_
       rintro e w' ⟨rfl,rfl⟩
       clear K8 F8
       obtain ⟨WS,hws⟩:∃WS,WS=Us (Ew ws (i1 ws+3)):=⟨_,rfl⟩
       obtain ⟨FEE,hfee⟩:∃FEE,FEE=latN ws ((r:Int)+1):=⟨_,rfl⟩
       have G:=hid (show GetG w C ⟨8,0,0,0,latN ws 1,GS,PAY,WS,FEE⟩ a1 p1 a2 p2 (wr.setCell ⟨C,8,none⟩ (.int .i64 FEE)) from by rw [hws,hfee];exact G3.setF_ .fee (latN ws ((r:Int)+1)))
       have HV:=hid (show Strs (wr.setCell ⟨C,8,none⟩ (.int .i64 FEE)) (.slice (some ⟨b,off,none⟩) ws.length cap) ws from by rw [hfee];exact HVr2.grown (G3.2.2.setF_ .fee (latN ws ((r:Int)+1))).2 G3.2.2.blk (Nb _ _ _ _ _))
       have HC:=hid (show (⟨8,0,0,0,latN ws 1,GS,PAY,WS,FEE⟩:Cm)=Kt ws by
        unfold Kt;rw [HD.out,HK.out,hws,hfee,HGS.out,HPAY.out,HI2.out,HI1.out];rfl)
       rw [←hfee]
       have K8:=G3.2.2.blk.cell 8
       have F8:=G3.2.2.blk.frozen 8
       have hcc:=G.2.2.blk.cell
       clear hws hfee
       go_wp2_with fail
       refine (Bw ⟨8,0,0,0,latN ws 1,GS,PAY,WS,FEE⟩ a1 a2 p1 p2 _ G.2.2.gi G.2.2.wi).mono ?_
       rintro e w3 ⟨rfl,b3⟩
       have G3:=hid (G.below b3)
       have HV3:=hid (HV.below b3)
       clear b3
       have hcc:=G3.2.2.blk.cell
       have hres:=G3.1.2.2.cell
       have hfr:=G3.1.2.2.frozen
       unfold Bp at hres
       cases hm:Ak ⟨8,0,0,0,latN ws 1,GS,PAY,WS,FEE⟩
       ·have HM:=hid ((Ej _).trans hm)
        clear hm
        go_wp2_with fail
        generalize hW:((((((((w3.setCell ⟨w.heap.size,0,none⟩ _).setCell ⟨w.heap.size,1,none⟩ _).setCell ⟨w.heap.size,2,none⟩ _).setCell ⟨w.heap.size,3,none⟩ _).setCell ⟨w.heap.size,4,none⟩ _).setCell ⟨w.heap.size,5,none⟩ _).setCell ⟨w.heap.size,6,none⟩ _).setCell ⟨w.heap.size,7,none⟩ _).setCell ⟨w.heap.size,8,none⟩ _=W'
        obtain ⟨k1,k2⟩:=fin9 G3.1.2.2 _ _ _ _ _ _ _ _ _ hW.symm
        have hc:=k1.cell
        refine bodyPost_ret (v:=.tuple #[.agg #[.int .i64 0,.int .i64 0,.int .i64 0,.int .i64 0,.int .i64 0,.slice none 0 0,.int .i64 0,.slice none 0 0,.int .i64 0],.int .i64 2]) (by simp [results,results8,go_sem,hc]) rfl ?_
        exact Ii G3.1 ⟨k1,k2⟩ (by unfold refB;rw [←HC.out,HM.out];rfl)
       ·have HM:=hid ((Ej _).trans hm)
        clear hm
        go_wp2_with fail
        refine (Hm ⟨8,0,0,0,latN ws 1,GS,PAY,WS,FEE⟩ a1 a2 p1 p2 _ HM.out G3.2.2.gi G3.2.2.wi).mono ?_
        rintro e w4 ⟨u,rfl,hu,b4⟩
        have G4:=hid (G3.below b4)
        have HV4:=hid (HV3.below b4)
        have HU:=hid hu
        clear b4 hu hcc hres hfr
        go_wp2_with fail
        refine (Hu _ HU.out HV4.out).mono ?_
        rintro e w5 ⟨rfl,b5⟩
        have G5:=hid (G4.below b5)
        clear b5
        have hcc:=G5.2.2.blk.cell
        have hres:=G5.1.2.2.cell
        have hfr:=G5.1.2.2.frozen
        unfold Bp at hres
        by_cases he:wordsOf ⟨8,0,0,0,latN ws 1,GS,PAY,WS,FEE⟩=ws
        ·have HE:=hid he
         rw [decide_eq_true he]
         clear he
         go_wp2_with fail
         generalize hW:((((((((w5.setCell ⟨w.heap.size,0,none⟩ _).setCell ⟨w.heap.size,1,none⟩ _).setCell ⟨w.heap.size,2,none⟩ _).setCell ⟨w.heap.size,3,none⟩ _).setCell ⟨w.heap.size,4,none⟩ _).setCell ⟨w.heap.size,5,none⟩ _).setCell ⟨w.heap.size,6,none⟩ _).setCell ⟨w.heap.size,7,none⟩ _).setCell ⟨w.heap.size,8,none⟩ _=W'
         obtain ⟨k1,k2⟩:=fin9 G5.1.2.2 _ _ _ _ _ _ _ _ _ hW.symm
         have hc:=k1.cell
         refine bodyPost_ret (v:=.tuple #[.agg #[.int .i64 8,.int .i64 0,.int .i64 0,.int .i64 0,.int .i64 (latN ws 1),.slice a1 GS.length p1,.int .i64 PAY,.slice a2 WS.length p2,.int .i64 FEE],.int .i64 0]) (by simp [results,results8,go_sem,hc]) rfl ?_
         exact Pk G5.out HC.out k2 (by unfold refB;rw [←HC.out,HM.out,HE.out];simp)
        ·have HE:=hid he
         rw [decide_eq_false he]
         clear he
         go_wp2_with fail
         generalize hW:((((((((w5.setCell ⟨w.heap.size,0,none⟩ _).setCell ⟨w.heap.size,1,none⟩ _).setCell ⟨w.heap.size,2,none⟩ _).setCell ⟨w.heap.size,3,none⟩ _).setCell ⟨w.heap.size,4,none⟩ _).setCell ⟨w.heap.size,5,none⟩ _).setCell ⟨w.heap.size,6,none⟩ _).setCell ⟨w.heap.size,7,none⟩ _).setCell ⟨w.heap.size,8,none⟩ _=W'
         obtain ⟨k1,k2⟩:=fin9 G5.1.2.2 _ _ _ _ _ _ _ _ _ hW.symm
         have hc:=k1.cell
         refine bodyPost_ret (v:=.tuple #[.agg #[.int .i64 0,.int .i64 0,.int .i64 0,.int .i64 0,.int .i64 0,.slice none 0 0,.int .i64 0,.slice none 0 0,.int .i64 0],.int .i64 2]) (by simp [results,results8,go_sem,hc]) rfl ?_
         exact Ii G5.1 ⟨k1,k2⟩ (by unfold refB;rw [←HC.out,decide_eq_false HE.out];simp)
      ·have c1:=HVr2.cellAt _ hi
       rw [hco,←HQb.out] at c1
       rw [←HQb.out] at hi
       unfold str Dc at c1
       clear HSU hco
       go_wp2_with fail
       refine (Qt ((r:Int)+1) _ HVr2.out HW.1 HW.2 (by omega) (by omega)).mono ?_
       rintro e w' ⟨rfl,rfl⟩
       clear K8 F8
       obtain ⟨WS,hws⟩:∃WS,WS=Us (Ew ws (i1 ws+3)):=⟨_,rfl⟩
       obtain ⟨FEE,hfee⟩:∃FEE,FEE=latN ws ((r:Int)+1):=⟨_,rfl⟩
       have G:=hid (show GetG w C ⟨8,0,0,0,latN ws 1,GS,PAY,WS,FEE⟩ a1 p1 a2 p2 (wr.setCell ⟨C,8,none⟩ (.int .i64 FEE)) from by rw [hws,hfee];exact G3.setF_ .fee (latN ws ((r:Int)+1)))
       have HV:=hid (show Strs (wr.setCell ⟨C,8,none⟩ (.int .i64 FEE)) (.slice (some ⟨b,off,none⟩) ws.length cap) ws from by rw [hfee];exact HVr2.grown (G3.2.2.setF_ .fee (latN ws ((r:Int)+1))).2 G3.2.2.blk (Nb _ _ _ _ _))
       have HC:=hid (show (⟨8,0,0,0,latN ws 1,GS,PAY,WS,FEE⟩:Cm)=Kt ws by
        unfold Kt;rw [HD.out,HK.out,hws,hfee,HGS.out,HPAY.out,HI2.out,HI1.out];rfl)
       rw [←hfee]
       have K8:=G3.2.2.blk.cell 8
       have F8:=G3.2.2.blk.frozen 8
       have hcc:=G.2.2.blk.cell
       clear hws hfee
       go_wp2_with fail
       refine (Bw ⟨8,0,0,0,latN ws 1,GS,PAY,WS,FEE⟩ a1 a2 p1 p2 _ G.2.2.gi G.2.2.wi).mono ?_
       rintro e w3 ⟨rfl,b3⟩
       have G3:=hid (G.below b3)
       have HV3:=hid (HV.below b3)
       clear b3
       have hcc:=G3.2.2.blk.cell
       have hres:=G3.1.2.2.cell
       have hfr:=G3.1.2.2.frozen
       unfold Bp at hres
       cases hm:Ak ⟨8,0,0,0,latN ws 1,GS,PAY,WS,FEE⟩
       ·have HM:=hid ((Ej _).trans hm)
        clear hm
        go_wp2_with fail
        generalize hW:((((((((w3.setCell ⟨w.heap.size,0,none⟩ _).setCell ⟨w.heap.size,1,none⟩ _).setCell ⟨w.heap.size,2,none⟩ _).setCell ⟨w.heap.size,3,none⟩ _).setCell ⟨w.heap.size,4,none⟩ _).setCell ⟨w.heap.size,5,none⟩ _).setCell ⟨w.heap.size,6,none⟩ _).setCell ⟨w.heap.size,7,none⟩ _).setCell ⟨w.heap.size,8,none⟩ _=W'
        obtain ⟨k1,k2⟩:=fin9 G3.1.2.2 _ _ _ _ _ _ _ _ _ hW.symm
        have hc:=k1.cell
        refine bodyPost_ret (v:=.tuple #[.agg #[.int .i64 0,.int .i64 0,.int .i64 0,.int .i64 0,.int .i64 0,.slice none 0 0,.int .i64 0,.slice none 0 0,.int .i64 0],.int .i64 2]) (by simp [results,results8,go_sem,hc]) rfl ?_
        exact Ii G3.1 ⟨k1,k2⟩ (by unfold refB;rw [←HC.out,HM.out];rfl)
       ·have HM:=hid ((Ej _).trans hm)
        clear hm
        go_wp2_with fail
        refine (Hm ⟨8,0,0,0,latN ws 1,GS,PAY,WS,FEE⟩ a1 a2 p1 p2 _ HM.out G3.2.2.gi G3.2.2.wi).mono ?_
        rintro e w4 ⟨u,rfl,hu,b4⟩
        have G4:=hid (G3.below b4)
        have HV4:=hid (HV3.below b4)
        have HU:=hid hu
        clear b4 hu hcc hres hfr
        go_wp2_with fail
        refine (Hu _ HU.out HV4.out).mono ?_
        rintro e w5 ⟨rfl,b5⟩
        have G5:=hid (G4.below b5)
        clear b5
        have hcc:=G5.2.2.blk.cell
        have hres:=G5.1.2.2.cell
        have hfr:=G5.1.2.2.frozen
        unfold Bp at hres
        by_cases he:wordsOf ⟨8,0,0,0,latN ws 1,GS,PAY,WS,FEE⟩=ws
        ·have HE:=hid he
         rw [decide_eq_true he]
         clear he
         go_wp2_with fail
         generalize hW:((((((((w5.setCell ⟨w.heap.size,0,none⟩ _).setCell ⟨w.heap.size,1,none⟩ _).setCell ⟨w.heap.size,2,none⟩ _).setCell ⟨w.heap.size,3,none⟩ _).setCell ⟨w.heap.size,4,none⟩ _).setCell ⟨w.heap.size,5,none⟩ _).setCell ⟨w.heap.size,6,none⟩ _).setCell ⟨w.heap.size,7,none⟩ _).setCell ⟨w.heap.size,8,none⟩ _=W'
         obtain ⟨k1,k2⟩:=fin9 G5.1.2.2 _ _ _ _ _ _ _ _ _ hW.symm
         have hc:=k1.cell
         refine bodyPost_ret (v:=.tuple #[.agg #[.int .i64 8,.int .i64 0,.int .i64 0,.int .i64 0,.int .i64 (latN ws 1),.slice a1 GS.length p1,.int .i64 PAY,.slice a2 WS.length p2,.int .i64 FEE],.int .i64 0]) (by simp [results,results8,go_sem,hc]) rfl ?_
         exact Pk G5.out HC.out k2 (by unfold refB;rw [←HC.out,HM.out,HE.out];simp)
        ·have HE:=hid he
         rw [decide_eq_false he]
         clear he
         go_wp2_with fail
         generalize hW:((((((((w5.setCell ⟨w.heap.size,0,none⟩ _).setCell ⟨w.heap.size,1,none⟩ _).setCell ⟨w.heap.size,2,none⟩ _).setCell ⟨w.heap.size,3,none⟩ _).setCell ⟨w.heap.size,4,none⟩ _).setCell ⟨w.heap.size,5,none⟩ _).setCell ⟨w.heap.size,6,none⟩ _).setCell ⟨w.heap.size,7,none⟩ _).setCell ⟨w.heap.size,8,none⟩ _=W'
         obtain ⟨k1,k2⟩:=fin9 G5.1.2.2 _ _ _ _ _ _ _ _ _ hW.symm
         have hc:=k1.cell
         refine bodyPost_ret (v:=.tuple #[.agg #[.int .i64 0,.int .i64 0,.int .i64 0,.int .i64 0,.int .i64 0,.slice none 0 0,.int .i64 0,.slice none 0 0,.int .i64 0],.int .i64 2]) (by simp [results,results8,go_sem,hc]) rfl ?_
         exact Ii G5.1 ⟨k1,k2⟩ (by unfold refB;rw [←HC.out,decide_eq_false HE.out];simp)
   ·have c1:=HVr.cellAt _ hi
    rw [hco,←HQ.out] at c1
    rw [←HQ.out] at hi
    unfold str Dc at c1
    clear HST hco
    go_wp2_with fail
    refine (Qt ((q:Int)+1) _ HVr.out HW.1 HW.2 (by omega) (by omega)).mono ?_
    rintro e w' ⟨rfl,rfl⟩
    go_wp2_with fail
    clear K6 F6
    have G2:=hid (show GetG w C ⟨8,0,0,0,latN ws 1,Us (Ew ws 3),latN ws ((q:Int)+1),[],0⟩ a1 p1 none 0 (wr.setCell ⟨C,6,none⟩ (.int .i64 (latN ws ((q:Int)+1)))) from G1.setF_ .pay (latN ws ((q:Int)+1)))
    have HV2:=hid (show Strs (wr.setCell ⟨C,6,none⟩ (.int .i64 (latN ws ((q:Int)+1)))) (.slice (some ⟨b,off,none⟩) ws.length cap) ws from HVr.grown (G1.2.2.setF_ .pay (latN ws ((q:Int)+1))).2 G1.2.2.blk (Nb _ _ _ _ _))
    obtain ⟨GS,hgs⟩:∃GS,GS=Us (Ew ws 3):=⟨_,rfl⟩
    obtain ⟨PAY,hpay⟩:∃PAY,PAY=latN ws ((q:Int)+1):=⟨_,rfl⟩
    rw [←hgs,←hpay] at G2
    try rw [←hpay] at HV2
    try rw [←hpay]
    have HGS:=hid hgs
    have HPAY:=hid hpay
    clear hgs hpay
    generalize wr.setCell ⟨C,6,none⟩ (.int .i64 PAY)=W1 at *
    go_loopw [8] (fun t wr=>∃r:Nat,t=.int .i64 (r:Int)∧∃j:Nat,r=(i1 ws+3)+j∧j≤(Ew ws (i1 ws+3)).length∧Zf W1 C 7 #[.int .i64 8,.int .i64 0,.int .i64 0,.int .i64 0,.int .i64 (latN ws 1),.slice a1 GS.length p1,.int .i64 PAY,.slice none 0 0,.int .i64 0] (Ew ws (i1 ws+3)) j wr) (fun t _=>ws.length+1000-(intOf t).toNat)
    case atStart=>exact ⟨q+3,by go_num,0,by have:=HI1.out;omega,Nat.zero_le _,Zf.start G2.2.2.blk rfl⟩
    case round =>
     obtain ⟨r,rfl,j,hq,hj,hr⟩:=hrel
     have HQb:=hid hq
     clear hq
     by_cases hlt:j<(Ew ws (i1 ws+3)).length
     ·obtain ⟨hi,hE,hne⟩:=Dz4 hlt
      obtain ⟨lv,h3,h4,h5,h6⟩:=hr
      have HVrb:=hid (HV2.grown h3 G2.2.2.blk (Nb _ _ _ _ _))
      have c1:=HVrb.cellAt ((i1 ws+3)+j) hi
      have HAb:=hid (Bs8 (List.getElem?_eq_getElem hi))
      generalize hy:ws[(i1 ws+3)+j]=y at *
      clear hy
      rw [←HQb.out] at c1 hi HAb
      unfold str at c1
      have hne1:(y != [99,111,105,110,115])=true:=by simpa [Dc] using hne
      have hne2:(y==[99,111,105,110,115])=false:=by simpa [Dc] using hne
      have R3b:=hid h3
      have R4b:=hid h4
      have R5b:=hid h5
      have HELb:=hid hE
      clear h3 h4 h5 h6 hne hE
      have hsl:=Xb ws (i1 ws+3)
      obtain ⟨lv',W2,hrun,hown,hg,hm⟩:=lappend_int (W:=wr.drew) R5b.out (numN y:Int) (by have:=HL.out;omega) R3b.size
      obtain ⟨a2,cp2,rfl⟩:=Ai6 hown
      have hown2:W2.ownsRow W1.heap.size 3 1 (.slice a2 (j+1) cp2) (j+1) (((Ew ws (i1 ws+3)).take j).map nv++[nv (Ew ws (i1 ws+3))[j]]):=by rw [HELb.out];exact hown
      have hCw:=G2.2.2.blk.lt
      have b2:Blk W2 C 29 _:=Blk.grow (W:=wr.drew) R4b.out hg (Ax2 R5b.out hCw)
      have L0:wr.drew.cell? ⟨C,7,none⟩=some lv:=Blk.cell (w:=wr.drew) R4b.out 7
      have L1:(wr.drew.alloc (.cells #[.int .i64 (numN y:Int)] 3)).cell? ⟨C,7,none⟩=some lv:=(Blk.alloc (w:=wr.drew) R4b.out _).cell 7
      have L4:wr.cell? ⟨C,7,none⟩=some lv:=L0
      have L5:(wr.alloc (.cells #[.int .i64 (numN y:Int)] 3)).cell? ⟨C,7,none⟩=some lv:=L1
      have L2:W2.cell? ⟨C,7,none⟩=some lv:=b2.cell 7
      have L3:=b2.frozen 7
      have HVdb:=hid (show Strs wr.drew (.slice (some ⟨b,off,none⟩) ws.length cap) ws from HVrb.out)
      have HN2b:=hid (Cf6 hCw hlt R3b.out R4b.out R5b.out hown2 ⟨hg.os,hg.tape,hg.output,hg.size,hg.block⟩)
      have HGb:=hid hrun
      clear hrun hown hg hm hCw b2 hown2 hsl
      go_wp2_with fail
      clear c1 hne1 hne2
      refine tkS (S:=(fun _=>True)) (by (trivial)) (fun hHeld=>?_)
      refine tkl [0,2,3] ?_
      iterate 3
       refine tW ?_
       try go_frame
      refine wpAnyH_ready (rs:=[1,4]) (by kernel_rfl) (by simp) (AllReadyH.cons (by simp only [List.getElem?_toArray,List.getElem?_cons_succ,List.getElem?_cons_zero];rfl) (fun K hK=>?_) (AllReadyH.cons (by simp only [List.getElem?_toArray,List.getElem?_cons_succ,List.getElem?_cons_zero];rfl) (fun K hK=>?_) AllReadyH.nil))
      ·
       go_simp
       try go_wp2_with fail
       refine hK.out _ _ (by (trivial)) (fun hHeld=>?_)
       clear hK K
       try go_frame
       refine rdy1 4 (fun K hK=>?_)
       go_simp
       go_at_call 23
       refine (Qt r wr.drew HVdb.out HW.1 HW.2 (by omega) (by have:=HL.out;omega)).mono ?_
       rintro e w' ⟨rfl,rfl⟩
       rw [HAb.out]
       try go_wp2_with fail
       refine hK.out _ _ trivial (fun hHeld=>?_)
       clear hK K
       try simp only [Act.put,setIfInBounds_toArray,set_cons_zero,set_cons_succ]
       refine rdy1 5 (fun K hK=>?_)
       go_simp
       try go_wp2_with fail
       refine hK.out _ _ (by (trivial)) (fun hHeld=>?_)
       clear hK K
       try go_frame
       refine rdy1 6 (fun K hK=>?_)
       refine Gb rfl (.tmp 122) (.tmp 126) 27 rfl lv _ (.slice a2 (j+1) cp2) W2 rfl rfl HGb.out ?_
       refine hK.out _ _ (by (trivial)) (fun hHeld=>?_)
       clear hK K
       try go_frame
       refine tkl [7] (tW ?_)
       try go_frame
       refine rdy1 8 (fun K hK=>?_)
       go_simp
       try go_wp2_with fail
       refine hK.out _ _ (by (trivial)) (fun hHeld=>?_)
       clear hK K
       try go_frame
       refine tkD ?_
       go_wp2_with fail
       go_roundw
       case rel=>exact ⟨r+1,by go_num,j+1,by have:=HQb.out;omega,by omega,HN2b.out⟩
       case measure=>simp [intOf];omega
      ·
       go_simp
       go_at_call 23
       refine (Qt r wr.drew HVdb.out HW.1 HW.2 (by omega) (by have:=HL.out;omega)).mono ?_
       rintro e w' ⟨rfl,rfl⟩
       rw [HAb.out]
       try go_wp2_with fail
       refine hK.out _ _ trivial (fun hHeld=>?_)
       clear hK K
       try simp only [Act.put,setIfInBounds_toArray,set_cons_zero,set_cons_succ]
       refine wpAnyH_ready (rs:=[1,5]) (by kernel_rfl) (by simp) (AllReadyH.cons (by simp only [List.getElem?_toArray,List.getElem?_cons_succ,List.getElem?_cons_zero];rfl) (fun K hK=>?_) (AllReadyH.cons (by simp only [List.getElem?_toArray,List.getElem?_cons_succ,List.getElem?_cons_zero];rfl) (fun K hK=>?_) AllReadyH.nil))
       ·
        go_simp
        try go_wp2_with fail
        refine hK.out _ _ (by (trivial)) (fun hHeld=>?_)
        clear hK K
        try go_frame
        refine rdy1 5 (fun K hK=>?_)
        go_simp
        try go_wp2_with fail
        refine hK.out _ _ (by (trivial)) (fun hHeld=>?_)
        clear hK K
        try go_frame
        refine rdy1 6 (fun K hK=>?_)
        refine Gb rfl (.tmp 122) (.tmp 126) 27 rfl lv _ (.slice a2 (j+1) cp2) W2 rfl rfl HGb.out ?_
        refine hK.out _ _ (by (trivial)) (fun hHeld=>?_)
        clear hK K
        try go_frame
        refine tkl [7] (tW ?_)
        try go_frame
        refine rdy1 8 (fun K hK=>?_)
        go_simp
        try go_wp2_with fail
        refine hK.out _ _ (by (trivial)) (fun hHeld=>?_)
        clear hK K
        try go_frame
        refine tkD ?_
        go_wp2_with fail
        go_roundw
        case rel=>exact ⟨r+1,by go_num,j+1,by have:=HQb.out;omega,by omega,HN2b.out⟩
        case measure=>simp [intOf];omega
       ·
        go_simp
        try go_wp2_with fail
        refine hK.out _ _ (by (trivial)) (fun hHeld=>?_)
        clear hK K
        try go_frame
        refine rdy1 1 (fun K hK=>?_)
        go_simp
        try go_wp2_with fail
        refine hK.out _ _ (by (trivial)) (fun hHeld=>?_)
        clear hK K
        try go_frame
        refine rdy1 6 (fun K hK=>?_)
        refine Gb rfl (.tmp 122) (.tmp 126) 27 rfl lv _ (.slice a2 (j+1) cp2) W2 rfl rfl HGb.out ?_
        refine hK.out _ _ (by (trivial)) (fun hHeld=>?_)
        clear hK K
        try go_frame
        refine tkl [7] (tW ?_)
        try go_frame
        refine rdy1 8 (fun K hK=>?_)
        go_simp
        try go_wp2_with fail
        refine hK.out _ _ (by (trivial)) (fun hHeld=>?_)
        clear hK K
        try go_frame
        refine tkD ?_
        go_wp2_with fail
        go_roundw
        case rel=>exact ⟨r+1,by go_num,j+1,by have:=HQb.out;omega,by omega,HN2b.out⟩
        case measure=>simp [intOf];omega
     ·have hje:j=(Ew ws (i1 ws+3)).length:=by omega
      subst hje
      obtain ⟨a2,p2,hG3⟩:=Bu2 G2.out false hr (by have:=HL.out;have:=Xb ws (i1 ws+3);omega)
      have G3:=hid (show GetG w C ⟨8,0,0,0,latN ws 1,GS,PAY,Us (Ew ws (i1 ws+3)),0⟩ a1 p1 a2 p2 wr from hG3)
      obtain ⟨lv,h3,h4,h5,h6⟩:=hr
      have HVr2:=hid (HV2.grown h3 G2.2.2.blk (Nb _ _ _ _ _))
      have hrl:r≤2000010:=by have:=HQb.out;have:=Xb ws (i1 ws+3);have:=Xb ws 3;have:=HL.out;have h9:i1 ws=3+(Ew ws 3).length:=rfl;omega
      have HI2:=hid (show r=i2 ws from HQb.out)
      have HSU:=hid (Bu1 ws (i1 ws+3))
      clear h3 h4 h5 h6 hG3 hlt hj lv
      have K8:=G3.2.2.blk.cell 8
      have F8:=G3.2.2.blk.frozen 8
      rcases HSU.out with hi|⟨hi,hco⟩
      ·rw [←HQb.out] at hi
       have hi3:ws.length≤r:=by omega
       clear HSU
       go_wp2_with fail
       refine (Qt ((r:Int)+1) _ HVr2.out HW.1 HW.2 (by omega) (by omega)).mono ?_
       rintro e w' ⟨rfl,rfl⟩
       clear K8 F8
       obtain ⟨WS,hws⟩:∃WS,WS=Us (Ew ws (i1 ws+3)):=⟨_,rfl⟩
       obtain ⟨FEE,hfee⟩:∃FEE,FEE=latN ws ((r:Int)+1):=⟨_,rfl⟩
       have G:=hid (show GetG w C ⟨8,0,0,0,latN ws 1,GS,PAY,WS,FEE⟩ a1 p1 a2 p2 (wr.setCell ⟨C,8,none⟩ (.int .i64 FEE)) from by rw [hws,hfee];exact G3.setF_ .fee (latN ws ((r:Int)+1)))
       have HV:=hid (show Strs (wr.setCell ⟨C,8,none⟩ (.int .i64 FEE)) (.slice (some ⟨b,off,none⟩) ws.length cap) ws from by rw [hfee];exact HVr2.grown (G3.2.2.setF_ .fee (latN ws ((r:Int)+1))).2 G3.2.2.blk (Nb _ _ _ _ _))
       have HC:=hid (show (⟨8,0,0,0,latN ws 1,GS,PAY,WS,FEE⟩:Cm)=Kt ws by
        unfold Kt;rw [HD.out,HK.out,hws,hfee,HGS.out,HPAY.out,HI2.out,HI1.out];rfl)
       rw [←hfee]
       have K8:=G3.2.2.blk.cell 8
       have F8:=G3.2.2.blk.frozen 8
       have hcc:=G.2.2.blk.cell
       clear hws hfee
       go_wp2_with fail
       refine (Bw ⟨8,0,0,0,latN ws 1,GS,PAY,WS,FEE⟩ a1 a2 p1 p2 _ G.2.2.gi G.2.2.wi).mono ?_
       rintro e w3 ⟨rfl,b3⟩
       have G3:=hid (G.below b3)
       have HV3:=hid (HV.below b3)
       clear b3
       have hcc:=G3.2.2.blk.cell
       have hres:=G3.1.2.2.cell
       have hfr:=G3.1.2.2.frozen
       unfold Bp at hres
       cases hm:Ak ⟨8,0,0,0,latN ws 1,GS,PAY,WS,FEE⟩
       ·have HM:=hid ((Ej _).trans hm)
        clear hm
        go_wp2_with fail
        generalize hW:((((((((w3.setCell ⟨w.heap.size,0,none⟩ _).setCell ⟨w.heap.size,1,none⟩ _).setCell ⟨w.heap.size,2,none⟩ _).setCell ⟨w.heap.size,3,none⟩ _).setCell ⟨w.heap.size,4,none⟩ _).setCell ⟨w.heap.size,5,none⟩ _).setCell ⟨w.heap.size,6,none⟩ _).setCell ⟨w.heap.size,7,none⟩ _).setCell ⟨w.heap.size,8,none⟩ _=W'
        obtain ⟨k1,k2⟩:=fin9 G3.1.2.2 _ _ _ _ _ _ _ _ _ hW.symm
        have hc:=k1.cell
        refine bodyPost_ret (v:=.tuple #[.agg #[.int .i64 0,.int .i64 0,.int .i64 0,.int .i64 0,.int .i64 0,.slice none 0 0,.int .i64 0,.slice none 0 0,.int .i64 0],.int .i64 2]) (by simp [results,results8,go_sem,hc]) rfl ?_
        exact Ii G3.1 ⟨k1,k2⟩ (by unfold refB;rw [←HC.out,HM.out];rfl)
       ·have HM:=hid ((Ej _).trans hm)
        clear hm
        go_wp2_with fail
        refine (Hm ⟨8,0,0,0,latN ws 1,GS,PAY,WS,FEE⟩ a1 a2 p1 p2 _ HM.out G3.2.2.gi G3.2.2.wi).mono ?_
        rintro e w4 ⟨u,rfl,hu,b4⟩
        have G4:=hid (G3.below b4)
        have HV4:=hid (HV3.below b4)
        have HU:=hid hu
        clear b4 hu hcc hres hfr
        go_wp2_with fail
        refine (Hu _ HU.out HV4.out).mono ?_
        rintro e w5 ⟨rfl,b5⟩
        have G5:=hid (G4.below b5)
        clear b5
        have hcc:=G5.2.2.blk.cell
        have hres:=G5.1.2.2.cell
        have hfr:=G5.1.2.2.frozen
        unfold Bp at hres
        by_cases he:wordsOf ⟨8,0,0,0,latN ws 1,GS,PAY,WS,FEE⟩=ws
        ·have HE:=hid he
         rw [decide_eq_true he]
         clear he
         go_wp2_with fail
         generalize hW:((((((((w5.setCell ⟨w.heap.size,0,none⟩ _).setCell ⟨w.heap.size,1,none⟩ _).setCell ⟨w.heap.size,2,none⟩ _).setCell ⟨w.heap.size,3,none⟩ _).setCell ⟨w.heap.size,4,none⟩ _).setCell ⟨w.heap.size,5,none⟩ _).setCell ⟨w.heap.size,6,none⟩ _).setCell ⟨w.heap.size,7,none⟩ _).setCell ⟨w.heap.size,8,none⟩ _=W'
         obtain ⟨k1,k2⟩:=fin9 G5.1.2.2 _ _ _ _ _ _ _ _ _ hW.symm
         have hc:=k1.cell
         refine bodyPost_ret (v:=.tuple #[.agg #[.int .i64 8,.int .i64 0,.int .i64 0,.int .i64 0,.int .i64 (latN ws 1),.slice a1 GS.length p1,.int .i64 PAY,.slice a2 WS.length p2,.int .i64 FEE],.int .i64 0]) (by simp [results,results8,go_sem,hc]) rfl ?_
         exact Pk G5.out HC.out k2 (by unfold refB;rw [←HC.out,HM.out,HE.out];simp)
        ·have HE:=hid he
         rw [decide_eq_false he]
         clear he
         go_wp2_with fail
         generalize hW:((((((((w5.setCell ⟨w.heap.size,0,none⟩ _).setCell ⟨w.heap.size,1,none⟩ _).setCell ⟨w.heap.size,2,none⟩ _).setCell ⟨w.heap.size,3,none⟩ _).setCell ⟨w.heap.size,4,none⟩ _).setCell ⟨w.heap.size,5,none⟩ _).setCell ⟨w.heap.size,6,none⟩ _).setCell ⟨w.heap.size,7,none⟩ _).setCell ⟨w.heap.size,8,none⟩ _=W'
         obtain ⟨k1,k2⟩:=fin9 G5.1.2.2 _ _ _ _ _ _ _ _ _ hW.symm
         have hc:=k1.cell
         refine bodyPost_ret (v:=.tuple #[.agg #[.int .i64 0,.int .i64 0,.int .i64 0,.int .i64 0,.int .i64 0,.slice none 0 0,.int .i64 0,.slice none 0 0,.int .i64 0],.int .i64 2]) (by simp [results,results8,go_sem,hc]) rfl ?_
         exact Ii G5.1 ⟨k1,k2⟩ (by unfold refB;rw [←HC.out,decide_eq_false HE.out];simp)
      ·have c1:=HVr2.cellAt _ hi
       rw [hco,←HQb.out] at c1
       rw [←HQb.out] at hi
       unfold str Dc at c1
       clear HSU hco
       go_wp2_with fail
       refine (Qt ((r:Int)+1) _ HVr2.out HW.1 HW.2 (by omega) (by omega)).mono ?_
       rintro e w' ⟨rfl,rfl⟩
       clear K8 F8
       obtain ⟨WS,hws⟩:∃WS,WS=Us (Ew ws (i1 ws+3)):=⟨_,rfl⟩
       obtain ⟨FEE,hfee⟩:∃FEE,FEE=latN ws ((r:Int)+1):=⟨_,rfl⟩
       have G:=hid (show GetG w C ⟨8,0,0,0,latN ws 1,GS,PAY,WS,FEE⟩ a1 p1 a2 p2 (wr.setCell ⟨C,8,none⟩ (.int .i64 FEE)) from by rw [hws,hfee];exact G3.setF_ .fee (latN ws ((r:Int)+1)))
       have HV:=hid (show Strs (wr.setCell ⟨C,8,none⟩ (.int .i64 FEE)) (.slice (some ⟨b,off,none⟩) ws.length cap) ws from by rw [hfee];exact HVr2.grown (G3.2.2.setF_ .fee (latN ws ((r:Int)+1))).2 G3.2.2.blk (Nb _ _ _ _ _))
       have HC:=hid (show (⟨8,0,0,0,latN ws 1,GS,PAY,WS,FEE⟩:Cm)=Kt ws by
        unfold Kt;rw [HD.out,HK.out,hws,hfee,HGS.out,HPAY.out,HI2.out,HI1.out];rfl)
       rw [←hfee]
       have K8:=G3.2.2.blk.cell 8
       have F8:=G3.2.2.blk.frozen 8
       have hcc:=G.2.2.blk.cell
       clear hws hfee
       go_wp2_with fail
       refine (Bw ⟨8,0,0,0,latN ws 1,GS,PAY,WS,FEE⟩ a1 a2 p1 p2 _ G.2.2.gi G.2.2.wi).mono ?_
       rintro e w3 ⟨rfl,b3⟩
       have G3:=hid (G.below b3)
       have HV3:=hid (HV.below b3)
       clear b3
       have hcc:=G3.2.2.blk.cell
       have hres:=G3.1.2.2.cell
       have hfr:=G3.1.2.2.frozen
       unfold Bp at hres
       cases hm:Ak ⟨8,0,0,0,latN ws 1,GS,PAY,WS,FEE⟩
       ·have HM:=hid ((Ej _).trans hm)
        clear hm
        go_wp2_with fail
        generalize hW:((((((((w3.setCell ⟨w.heap.size,0,none⟩ _).setCell ⟨w.heap.size,1,none⟩ _).setCell ⟨w.heap.size,2,none⟩ _).setCell ⟨w.heap.size,3,none⟩ _).setCell ⟨w.heap.size,4,none⟩ _).setCell ⟨w.heap.size,5,none⟩ _).setCell ⟨w.heap.size,6,none⟩ _).setCell ⟨w.heap.size,7,none⟩ _).setCell ⟨w.heap.size,8,none⟩ _=W'
        obtain ⟨k1,k2⟩:=fin9 G3.1.2.2 _ _ _ _ _ _ _ _ _ hW.symm
        have hc:=k1.cell
        refine bodyPost_ret (v:=.tuple #[.agg #[.int .i64 0,.int .i64 0,.int .i64 0,.int .i64 0,.int .i64 0,.slice none 0 0,.int .i64 0,.slice none 0 0,.int .i64 0],.int .i64 2]) (by simp [results,results8,go_sem,hc]) rfl ?_
        exact Ii G3.1 ⟨k1,k2⟩ (by unfold refB;rw [←HC.out,HM.out];rfl)
       ·have HM:=hid ((Ej _).trans hm)
        clear hm
        go_wp2_with fail
        refine (Hm ⟨8,0,0,0,latN ws 1,GS,PAY,WS,FEE⟩ a1 a2 p1 p2 _ HM.out G3.2.2.gi G3.2.2.wi).mono ?_
        rintro e w4 ⟨u,rfl,hu,b4⟩
        have G4:=hid (G3.below b4)
        have HV4:=hid (HV3.below b4)
        have HU:=hid hu
        clear b4 hu hcc hres hfr
        go_wp2_with fail
        refine (Hu _ HU.out HV4.out).mono ?_
        rintro e w5 ⟨rfl,b5⟩
        have G5:=hid (G4.below b5)
        clear b5
        have hcc:=G5.2.2.blk.cell
        have hres:=G5.1.2.2.cell
        have hfr:=G5.1.2.2.frozen
        unfold Bp at hres
        by_cases he:wordsOf ⟨8,0,0,0,latN ws 1,GS,PAY,WS,FEE⟩=ws
        ·have HE:=hid he
         rw [decide_eq_true he]
         clear he
         go_wp2_with fail
         generalize hW:((((((((w5.setCell ⟨w.heap.size,0,none⟩ _).setCell ⟨w.heap.size,1,none⟩ _).setCell ⟨w.heap.size,2,none⟩ _).setCell ⟨w.heap.size,3,none⟩ _).setCell ⟨w.heap.size,4,none⟩ _).setCell ⟨w.heap.size,5,none⟩ _).setCell ⟨w.heap.size,6,none⟩ _).setCell ⟨w.heap.size,7,none⟩ _).setCell ⟨w.heap.size,8,none⟩ _=W'
         obtain ⟨k1,k2⟩:=fin9 G5.1.2.2 _ _ _ _ _ _ _ _ _ hW.symm
         have hc:=k1.cell
         refine bodyPost_ret (v:=.tuple #[.agg #[.int .i64 8,.int .i64 0,.int .i64 0,.int .i64 0,.int .i64 (latN ws 1),.slice a1 GS.length p1,.int .i64 PAY,.slice a2 WS.length p2,.int .i64 FEE],.int .i64 0]) (by simp [results,results8,go_sem,hc]) rfl ?_
         exact Pk G5.out HC.out k2 (by unfold refB;rw [←HC.out,HM.out,HE.out];simp)
        ·have HE:=hid he
         rw [decide_eq_false he]
         clear he
         go_wp2_with fail
         generalize hW:((((((((w5.setCell ⟨w.heap.size,0,none⟩ _).setCell ⟨w.heap.size,1,none⟩ _).setCell ⟨w.heap.size,2,none⟩ _).setCell ⟨w.heap.size,3,none⟩ _).setCell ⟨w.heap.size,4,none⟩ _).setCell ⟨w.heap.size,5,none⟩ _).setCell ⟨w.heap.size,6,none⟩ _).setCell ⟨w.heap.size,7,none⟩ _).setCell ⟨w.heap.size,8,none⟩ _=W'
         obtain ⟨k1,k2⟩:=fin9 G5.1.2.2 _ _ _ _ _ _ _ _ _ hW.symm
         have hc:=k1.cell
         refine bodyPost_ret (v:=.tuple #[.agg #[.int .i64 0,.int .i64 0,.int .i64 0,.int .i64 0,.int .i64 0,.slice none 0 0,.int .i64 0,.slice none 0 0,.int .i64 0],.int .i64 2]) (by simp [results,results8,go_sem,hc]) rfl ?_
         exact Ii G5.1 ⟨k1,k2⟩ (by unfold refB;rw [←HC.out,decide_eq_false HE.out];simp)
end
section
open Go.RowKit Go
theorem Ej4 (s:ByteArray) (w:World) (hs:s.size≤500000) (hx:Aq s.data.toList=[]):Calls prog 8 #[.string s] w (Gets w (Aq s.data.toList)):=by
 have HS:=hid hs
 have HX:=hid hx
 clear hs hx
 have P0:=hid (GetW.start w)
 unfold Bp at P0
 go_enter func8,ntmps8
 go_wp2_with fail
 refine (Fu s _ (by have:=HS.out;omega)).mono ?_
 rintro e w1 ⟨v,rfl,hv,b1⟩
 have P1:=hid (P0.below b1)
 clear P0 b1
 rw [HX.out] at hv ⊢
 obtain ⟨a,cap,rfl,-,-⟩:=hv
 have hres:=P1.2.2.cell
 have hfr:=P1.2.2.frozen
 unfold Bp at hres
 go_wp2_with fail
 generalize hW:((((((((w1.setCell ⟨w.heap.size,0,none⟩ _).setCell ⟨w.heap.size,1,none⟩ _).setCell ⟨w.heap.size,2,none⟩ _).setCell ⟨w.heap.size,3,none⟩ _).setCell ⟨w.heap.size,4,none⟩ _).setCell ⟨w.heap.size,5,none⟩ _).setCell ⟨w.heap.size,6,none⟩ _).setCell ⟨w.heap.size,7,none⟩ _).setCell ⟨w.heap.size,8,none⟩ _=W'
 obtain ⟨k1,k2⟩:=fin9 P1.2.2 _ _ _ _ _ _ _ _ _ hW.symm
 have hc:=k1.cell
 refine bodyPost_ret (v:=.tuple #[.agg #[.int .i64 0,.int .i64 0,.int .i64 0,.int .i64 0,.int .i64 0,.slice none 0 0,.int .i64 0,.slice none 0 0,.int .i64 0],.int .i64 2]) (by simp [results,results8,go_sem,hc]) rfl ?_
 exact Ii P1.out ⟨k1,k2⟩ (by rw [HX.out];decide)
theorem En5 (x:List UInt8):∃k:Nat,Ct x=(k:Int)∧k≤10:=by
 by_cases h:Qq x=true
 ·have hm:x∈kindNames:=of_decide_eq_true h
  simp only [kindNames,List.mem_cons,List.not_mem_nil,or_false] at hm
  rcases hm with rfl|rfl|rfl|rfl|rfl|rfl|rfl|rfl|rfl|rfl
  ·exact ⟨1,by decide,by decide⟩
  ·exact ⟨2,by decide,by decide⟩
  ·exact ⟨3,by decide,by decide⟩
  ·exact ⟨4,by decide,by decide⟩
  ·exact ⟨5,by decide,by decide⟩
  ·exact ⟨6,by decide,by decide⟩
  ·exact ⟨7,by decide,by decide⟩
  ·exact ⟨8,by decide,by decide⟩
  ·exact ⟨9,by decide,by decide⟩
  ·exact ⟨10,by decide,by decide⟩
 ·exact ⟨0,by unfold Ct;rw [if_neg h];rfl,by decide⟩
theorem lrefget_any (s:ByteArray) (w:World) (hs:s.size≤500000):Calls prog 8 #[.string s] w (Gets w (Aq s.data.toList)):=by
 by_cases h0:Aq s.data.toList=[]
 ·exact Ej4 s w hs h0
 have hp:0<(Aq s.data.toList).length:=List.length_pos_iff.2 h0
 have hx:(Aq s.data.toList)[0]?=some (Aq s.data.toList)[0]:=List.getElem?_eq_getElem hp
 generalize (Aq s.data.toList)[0]=x at hx
 obtain ⟨k,hk,h10⟩:=En5 x
 have hc:k=0∨k=1∨k=2∨k=3∨k=4∨k=5∨k=6∨k=7∨k=8∨k=9∨k=10:=by omega
 rcases hc with rfl|rfl|rfl|rfl|rfl|rfl|rfl|rfl|rfl|rfl|rfl
 ·exact Gp0 s w hs x hx hk
 ·by_cases hl:(Aq s.data.toList).length≤1
  ·exact Fz1 s w hs x hx hl hk
  ·exact Fz2 s w hs x hx _ (List.getElem?_eq_getElem (by omega)) hk
 ·by_cases hl:(Aq s.data.toList).length≤2
  ·exact Fy9 s w hs x hx hl hk
  ·exact Fz0 s w hs x hx _ (List.getElem?_eq_getElem (by omega)) hk
 ·exact Go9 s w hs x hx hk
 ·exact Go8 s w hs x hx hk
 ·exact Go7 s w hs x hx hk
 ·exact Go6 s w hs x hx hk
 ·exact Go5 s w hs x hx hk
 ·exact Go4 s w hs x hx hk
 ·exact Go1 s w hs x hx hk
 ·exact Fz3 s w hs x hx hk
end
end Go.Proofs.YtaeclpjofclbeaaGreatDoor
