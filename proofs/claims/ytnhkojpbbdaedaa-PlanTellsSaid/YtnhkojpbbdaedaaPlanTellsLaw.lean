/- PlanTells: the changes from one world to another one, and what they make, as the document has it. -/
import Derived.Test.YtnhkojpbbdaedaaPlanAw
namespace Go.Proofs.Ytnhkojpbbdaedaa
open Go.ChangeShapes Go.WideShapes Go.ChangeAt Go.RowKit Go.Proofs.Try
open Lib (hid)
set_option linter.unusedVariables false
set_option maxRecDepth 100000
open Go.RowKit
theorem two_desc {V w:World} {n:Nat} {x y:Wd} {p q:Wp} (hY:Blk V n 29 (wC y q)) (hb:Below w.heap.size w V) (hn:w.heap.size≤n) (hx:Ab w p x) (hy:Ab w q y) (ha:y.at_.length=x.at_.length) (hc:y.coins.length=x.coins.length) (hw:y.wher.length=x.wher.length) :
 ∃(qz:Wp) (z:Wd),z=⟨x.d,y.at_,y.coins,y.wher⟩∧Blk (((((((((V.setCell ⟨n,0,none⟩ (.slice p.d.ex x.d.exits.length p.d.exc)).setCell ⟨n,1,none⟩ (.slice p.d.pl x.d.players.length p.d.plc)).setCell ⟨n,2,none⟩ (.slice p.d.co x.d.coins.length p.d.coc)).setCell ⟨n,3,none⟩ (.slice p.d.it x.d.items.length p.d.itc)).setCell ⟨n,4,none⟩ (.slice p.d.bo x.d.boxes.length p.d.boc)).setCell ⟨n,5,none⟩ (.int .i64 x.d.room)).setCell ⟨n,6,none⟩ (.int .i64 x.d.player)).setCell ⟨n,7,none⟩ (.int .i64 x.d.box))) n 29 (wC x qz)∧Ab (((((((((V.setCell ⟨n,0,none⟩ (.slice p.d.ex x.d.exits.length p.d.exc)).setCell ⟨n,1,none⟩ (.slice p.d.pl x.d.players.length p.d.plc)).setCell ⟨n,2,none⟩ (.slice p.d.co x.d.coins.length p.d.coc)).setCell ⟨n,3,none⟩ (.slice p.d.it x.d.items.length p.d.itc)).setCell ⟨n,4,none⟩ (.slice p.d.bo x.d.boxes.length p.d.boc)).setCell ⟨n,5,none⟩ (.int .i64 x.d.room)).setCell ⟨n,6,none⟩ (.int .i64 x.d.player)).setCell ⟨n,7,none⟩ (.int .i64 x.d.box))) qz z∧Like x z∧Below w.heap.size w (((((((((V.setCell ⟨n,0,none⟩ (.slice p.d.ex x.d.exits.length p.d.exc)).setCell ⟨n,1,none⟩ (.slice p.d.pl x.d.players.length p.d.plc)).setCell ⟨n,2,none⟩ (.slice p.d.co x.d.coins.length p.d.coc)).setCell ⟨n,3,none⟩ (.slice p.d.it x.d.items.length p.d.itc)).setCell ⟨n,4,none⟩ (.slice p.d.bo x.d.boxes.length p.d.boc)).setCell ⟨n,5,none⟩ (.int .i64 x.d.room)).setCell ⟨n,6,none⟩ (.int .i64 x.d.player)).setCell ⟨n,7,none⟩ (.int .i64 x.d.box))):=by
 have hB:Below w.heap.size w (((((((((V.setCell ⟨n,0,none⟩ (.slice p.d.ex x.d.exits.length p.d.exc)).setCell ⟨n,1,none⟩ (.slice p.d.pl x.d.players.length p.d.plc)).setCell ⟨n,2,none⟩ (.slice p.d.co x.d.coins.length p.d.coc)).setCell ⟨n,3,none⟩ (.slice p.d.it x.d.items.length p.d.itc)).setCell ⟨n,4,none⟩ (.slice p.d.bo x.d.boxes.length p.d.boc)).setCell ⟨n,5,none⟩ (.int .i64 x.d.room)).setCell ⟨n,6,none⟩ (.int .i64 x.d.player)).setCell ⟨n,7,none⟩ (.int .i64 x.d.box))):=by
  iterate 8 refine Below.setCell ?_ hn _
  exact hb
 refine ⟨⟨p.d,q.at_,q.atc,q.co,q.coc,q.wh,q.whc⟩,_,rfl,?_,⟨hx.d.below hB (Nat.le_refl _),hy.at_.below hB (Nat.le_refl _),hy.co.below hB (Nat.le_refl _),Ar.below hy.wh hB (Nat.le_refl _)⟩,⟨rfl,ha,hc,hw⟩,hB⟩
 have h2:=((((((((hY.set_ 0 (.slice p.d.ex x.d.exits.length p.d.exc)).set_ 1 (.slice p.d.pl x.d.players.length p.d.plc)).set_ 2 (.slice p.d.co x.d.coins.length p.d.coc)).set_ 3 (.slice p.d.it x.d.items.length p.d.itc)).set_ 4 (.slice p.d.bo x.d.boxes.length p.d.boc)).set_ 5 (.int .i64 x.d.room)).set_ 6 (.int .i64 x.d.player)).set_ 7 (.int .i64 x.d.box))
 simp only [List.setIfInBounds_toArray,List.set_cons_zero,List.set_cons_succ,ha,hc,hw] at h2
 exact h2
theorem Blk.holdsp {w W:World} {n:Nat} {t:TypeId} {A:Array Value} (h:Blk W n t A) (hb:Below w.heap.size w W):Ac w n A W:=⟨hb,h.lt,h.cell⟩
theorem full_eqs {x:Wd} (h:fullB x=true):x.at_.length=x.d.players.length∧x.coins.length=x.d.players.length∧x.wher.length=x.d.items.length:=by
 simp [fullB] at h;exact h
theorem few_lens {x:Wd} (h:fewB x=true):x.at_.length≤40∧x.coins.length≤40∧x.wher.length≤40:=by
 simp [fewB] at h;omega
set_option maxHeartbeats 2000000 in
theorem walk_planTells (x:Wd) (p:Wp) (y:Wd) (q:Wp) (la:Option Addr) (lc:Nat) (l:List Wr) (w:World) (h:Ab w p x) (hv:Ab w q y) (hl:WrcAt w la lc l):Calls prog 3 #[.agg (wC x p),.agg (wC y q),.slice la l.length lc] w fun e w'=>e=.returned (.bool true)∧Below w.heap.size w w':=by
 have HW:=hid h
 have HV:=hid hv
 have HL:=hid hl
 have hln:=Ar.len hl.1
 clear hl
 obtain ⟨f1,hf1⟩:∃b,fewB x=b:=⟨_,rfl⟩
 obtain ⟨f2,hf2⟩:∃b,fewB y=b:=⟨_,rfl⟩
 obtain ⟨f3,hf3⟩:∃b,fullB x=b:=⟨_,rfl⟩
 obtain ⟨f4,hf4⟩:∃b,fullB y=b:=⟨_,rfl⟩
 have HF1:=hid hf1
 have HF2:=hid hf2
 have HF3:=hid hf3
 have HF4:=hid hf4
 clear hf1 hf2 hf3 hf4
 have hlx1:=h.at_.len
 have hlx2:=h.co.len
 have hlx3:=h.wh.len
 have hly1:=hv.at_.len
 have hly3:=hv.wh.len
 have P0:=Ac.pair w (wC x p) (wC y q) 29 29
 have X_0:=hid P0.1
 have Y_0:=hid P0.2
 have YB_0:=hid (show Blk ((w.alloc (.cells (wC x p) 29)).alloc (.cells (wC y q) 29)) (w.heap.size+1) 29 (wC y q) from Blk.newn _ _ _ (by simp))
 clear P0 h hv
 have hWC:=@wC.eq_1
 have hZC:=@zC.eq_1
 go_enter func3,ntmps3
 go_wp2_with fail
 generalize (w.alloc (.cells (wC x p) 29)).alloc (.cells (wC y q) 29)=V0 at *
 have B_0:=hid X_0.out.1
 refine (awake18_any _).mono ?_
 rintro e u1 ⟨rfl,b1⟩
 have B_1:=hid (bl B_0.out b1)
 have X_1:=hid (X_0.out.call b1)
 have Y_1:=hid (Y_0.out.call b1)
 have YB_1:=hid (YB_0.out.call b1)
 clear b1 B_0 X_0 Y_0 YB_0
 have hcX:=X_1.out.2.2
 have hlX:=X_1.out.2.1
 have hcY:=Y_1.out.2.2
 have hlY:=Y_1.out.2.1
 go_wp2_with fail
 refine (El x p _).mono ?_
 rintro e u2 ⟨rfl,b2⟩
 rw [HF1.out]
 clear hcX hlX hcY hlY
 have B_2:=hid (bl B_1.out b2)
 have X_2:=hid (X_1.out.call b2)
 have Y_2:=hid (Y_1.out.call b2)
 have YB_2:=hid (YB_1.out.call b2)
 clear b2 B_1 X_1 Y_1 YB_1
 have hcX:=X_2.out.2.2
 have hlX:=X_2.out.2.1
 have hcY:=Y_2.out.2.2
 have hlY:=Y_2.out.2.1
 cases f1
 ·
  go_wp2_with fail
  refine (awake18_any _).mono ?_
  rintro e u3 ⟨rfl,b3⟩
  clear hcX hlX hcY hlY
  have B_3:=hid (bl B_2.out b3)
  have X_3:=hid (X_2.out.call b3)
  have Y_3:=hid (Y_2.out.call b3)
  have YB_3:=hid (YB_2.out.call b3)
  clear b3 B_2 X_2 Y_2 YB_2
  have hcX:=X_3.out.2.2
  have hlX:=X_3.out.2.1
  have hcY:=Y_3.out.2.2
  have hlY:=Y_3.out.2.1
  go_wp2_with fail
  go_ret
  exact ⟨rfl,B_3.out⟩
 go_wp2_with fail
 refine (El y q _).mono ?_
 rintro e u3 ⟨rfl,b3⟩
 rw [HF2.out]
 clear hcX hlX hcY hlY
 have B_3:=hid (bl B_2.out b3)
 have X_3:=hid (X_2.out.call b3)
 have Y_3:=hid (Y_2.out.call b3)
 have YB_3:=hid (YB_2.out.call b3)
 clear b3 B_2 X_2 Y_2 YB_2
 have hcX:=X_3.out.2.2
 have hlX:=X_3.out.2.1
 have hcY:=Y_3.out.2.2
 have hlY:=Y_3.out.2.1
 cases f2
 ·
  go_wp2_with fail
  refine (awake18_any _).mono ?_
  rintro e u4 ⟨rfl,b4⟩
  clear hcX hlX hcY hlY
  have B_4:=hid (bl B_3.out b4)
  have X_4:=hid (X_3.out.call b4)
  have Y_4:=hid (Y_3.out.call b4)
  have YB_4:=hid (YB_3.out.call b4)
  clear b4 B_3 X_3 Y_3 YB_3
  have hcX:=X_4.out.2.2
  have hlX:=X_4.out.2.1
  have hcY:=Y_4.out.2.2
  have hlY:=Y_4.out.2.1
  go_wp2_with fail
  go_ret
  exact ⟨rfl,B_4.out⟩
 go_wp2_with fail
 refine (rfull_any x p _).mono ?_
 rintro e u4 ⟨rfl,b4⟩
 rw [HF3.out]
 clear hcX hlX hcY hlY
 have B_4:=hid (bl B_3.out b4)
 have X_4:=hid (X_3.out.call b4)
 have Y_4:=hid (Y_3.out.call b4)
 have YB_4:=hid (YB_3.out.call b4)
 clear b4 B_3 X_3 Y_3 YB_3
 have hcX:=X_4.out.2.2
 have hlX:=X_4.out.2.1
 have hcY:=Y_4.out.2.2
 have hlY:=Y_4.out.2.1
 cases f3
 ·
  go_wp2_with fail
  refine (awake18_any _).mono ?_
  rintro e u5 ⟨rfl,b5⟩
  clear hcX hlX hcY hlY
  have B_5:=hid (bl B_4.out b5)
  have X_5:=hid (X_4.out.call b5)
  have Y_5:=hid (Y_4.out.call b5)
  have YB_5:=hid (YB_4.out.call b5)
  clear b5 B_4 X_4 Y_4 YB_4
  have hcX:=X_5.out.2.2
  have hlX:=X_5.out.2.1
  have hcY:=Y_5.out.2.2
  have hlY:=Y_5.out.2.1
  go_wp2_with fail
  go_ret
  exact ⟨rfl,B_5.out⟩
 go_wp2_with fail
 refine (rfull_any y q _).mono ?_
 rintro e u5 ⟨rfl,b5⟩
 rw [HF4.out]
 clear hcX hlX hcY hlY
 have B_5:=hid (bl B_4.out b5)
 have X_5:=hid (X_4.out.call b5)
 have Y_5:=hid (Y_4.out.call b5)
 have YB_5:=hid (YB_4.out.call b5)
 clear b5 B_4 X_4 Y_4 YB_4
 have hcX:=X_5.out.2.2
 have hlX:=X_5.out.2.1
 have hcY:=Y_5.out.2.2
 have hlY:=Y_5.out.2.1
 cases f4
 ·
  go_wp2_with fail
  refine (awake18_any _).mono ?_
  rintro e u6 ⟨rfl,b6⟩
  clear hcX hlX hcY hlY
  have B_6:=hid (bl B_5.out b6)
  have X_6:=hid (X_5.out.call b6)
  have Y_6:=hid (Y_5.out.call b6)
  have YB_6:=hid (YB_5.out.call b6)
  clear b6 B_5 X_5 Y_5 YB_5
  have hcX:=X_6.out.2.2
  have hlX:=X_6.out.2.1
  have hcY:=Y_6.out.2.2
  have hlY:=Y_6.out.2.1
  go_wp2_with fail
  go_ret
  exact ⟨rfl,B_6.out⟩
 by_cases ea:y.at_.length=x.at_.length
 rotate_left
 ·have qa:((x.at_.length:Int) != (y.at_.length:Int))=true:=by simp;omega
  go_wp2_with fail
  refine (awake18_any _).mono ?_
  rintro e u6 ⟨rfl,b6⟩
  clear hcX hlX hcY hlY
  have B_6:=hid (bl B_5.out b6)
  have X_6:=hid (X_5.out.call b6)
  have Y_6:=hid (Y_5.out.call b6)
  have YB_6:=hid (YB_5.out.call b6)
  clear b6 B_5 X_5 Y_5 YB_5
  have hcX:=X_6.out.2.2
  have hlX:=X_6.out.2.1
  have hcY:=Y_6.out.2.2
  have hlY:=Y_6.out.2.1
  go_wp2_with fail
  go_ret
  exact ⟨rfl,B_6.out⟩
 have qa:((x.at_.length:Int) != (y.at_.length:Int))=false:=by simp;omega
 by_cases ew:y.wher.length=x.wher.length
 rotate_left
 ·have qw:((x.wher.length:Int) != (y.wher.length:Int))=true:=by simp;omega
  go_wp2_with fail
  refine (awake18_any _).mono ?_
  rintro e u6 ⟨rfl,b6⟩
  clear hcX hlX hcY hlY
  have B_6:=hid (bl B_5.out b6)
  have X_6:=hid (X_5.out.call b6)
  have Y_6:=hid (Y_5.out.call b6)
  have YB_6:=hid (YB_5.out.call b6)
  clear b6 B_5 X_5 Y_5 YB_5
  have hcX:=X_6.out.2.2
  have hlX:=X_6.out.2.1
  have hcY:=Y_6.out.2.2
  have hlY:=Y_6.out.2.1
  go_wp2_with fail
  go_ret
  exact ⟨rfl,B_6.out⟩
 have qw:((x.wher.length:Int) != (y.wher.length:Int))=false:=by simp;omega
 by_cases el:l.length≤60
 rotate_left
 ·have ql:(60:Int)<(l.length:Int):=by omega
  clear el
  go_wp2_with fail
  refine (awake18_any _).mono ?_
  rintro e u6 ⟨rfl,b6⟩
  clear hcX hlX hcY hlY
  have B_6:=hid (bl B_5.out b6)
  have X_6:=hid (X_5.out.call b6)
  have Y_6:=hid (Y_5.out.call b6)
  have YB_6:=hid (YB_5.out.call b6)
  clear b6 B_5 X_5 Y_5 YB_5
  have hcX:=X_6.out.2.2
  have hlX:=X_6.out.2.1
  have hcY:=Y_6.out.2.2
  have hlY:=Y_6.out.2.1
  go_wp2_with fail
  go_ret
  exact ⟨rfl,B_6.out⟩
 have ql:(l.length:Int)≤60:=by omega
 have hfY:=YB_5.out.frozen
 go_upto_region 4 with fail
 clear hfY
 clear hcX hlX hcY hlY
 have hfe:=full_eqs HF3.out
 have hfe2:=full_eqs HF4.out
 obtain ⟨qz,z,hz,hYB,hWZ,hLZ,hB⟩:=two_desc YB_5.out B_5.out (by omega) HW.out HV.out ea (by omega) ew
 have X_6:=hid ((((((((X_5.out.far (b:=w.heap.size+1) (by omega) (by omega) 0 (.slice p.d.ex x.d.exits.length p.d.exc)).far (b:=w.heap.size+1) (by omega) (by omega) 1 (.slice p.d.pl x.d.players.length p.d.plc)).far (b:=w.heap.size+1) (by omega) (by omega) 2 (.slice p.d.co x.d.coins.length p.d.coc)).far (b:=w.heap.size+1) (by omega) (by omega) 3 (.slice p.d.it x.d.items.length p.d.itc)).far (b:=w.heap.size+1) (by omega) (by omega) 4 (.slice p.d.bo x.d.boxes.length p.d.boc)).far (b:=w.heap.size+1) (by omega) (by omega) 5 (.int .i64 x.d.room)).far (b:=w.heap.size+1) (by omega) (by omega) 6 (.int .i64 x.d.player)).far (b:=w.heap.size+1) (by omega) (by omega) 7 (.int .i64 x.d.box))
 have B_6:=hid hB
 have Y_6:=hid (hYB.holdsp hB)
 have WZ_6:=hid hWZ
 have WX_6:=hid (HW.out.below hB (Nat.le_refl _))
 have HZ:=hid hz
 have HLZ:=hid hLZ
 have HFW:=hid (Vu HF1.out)
 have N3:=hid (few_lens HF1.out)
 clear hz hYB hWZ hLZ hB hfe hfe2 qa qw hly1 hly3 X_5 B_5 Y_5 YB_5
 generalize ((((((((u5.setCell ⟨w.heap.size+1,0,none⟩ (.slice p.d.ex x.d.exits.length p.d.exc)).setCell ⟨w.heap.size+1,1,none⟩ (.slice p.d.pl x.d.players.length p.d.plc)).setCell ⟨w.heap.size+1,2,none⟩ (.slice p.d.co x.d.coins.length p.d.coc)).setCell ⟨w.heap.size+1,3,none⟩ (.slice p.d.it x.d.items.length p.d.itc)).setCell ⟨w.heap.size+1,4,none⟩ (.slice p.d.bo x.d.boxes.length p.d.boc)).setCell ⟨w.heap.size+1,5,none⟩ (.int .i64 x.d.room)).setCell ⟨w.heap.size+1,6,none⟩ (.int .i64 x.d.player)).setCell ⟨w.heap.size+1,7,none⟩ (.int .i64 x.d.box))=V9 at *
 have hcX:=X_6.out.2.2
 have hlX:=X_6.out.2.1
 have hcY:=Y_6.out.2.2
 have hlY:=Y_6.out.2.1
 clear ea ew
 obtain ⟨L,hL⟩:∃L,Ao3 x z=L:=⟨_,rfl⟩
 have HFR:=hid hL
 clear hL
 clear hcX hlX hcY hlY
 have KS:Hid (∀w',Below V9.heap.size V9 w'→Below V9.heap.size V9 w'∧(∀ii,w'.cell? ⟨w.heap.size,ii,none⟩=((wC x p)[ii]?:Option Value))∧(∀ii,w'.cell? ⟨w.heap.size+1,ii,none⟩=((wC x qz)[ii]?:Option Value))):=hid (fun w' hb=>⟨hb,fun ii=>(hb.cell (p:=⟨w.heap.size,ii,none⟩) X_6.out.2.1).trans (X_6.out.2.2 ii),fun ii=>(hb.cell (p:=⟨w.heap.size+1,ii,none⟩) Y_6.out.2.1).trans (Y_6.out.2.2 ii)⟩)
 have D0:=hid (Af (Below.refl V9.heap.size V9))
 refine tkS (S:=(fun w'=>Below V9.heap.size V9 w'∧(∀ii,w'.cell? ⟨w.heap.size,ii,none⟩=((wC x p)[ii]?:Option Value))∧(∀ii,w'.cell? ⟨w.heap.size+1,ii,none⟩=((wC x qz)[ii]?:Option Value)))) (by (first|(with_reducible exact KS.out _ D0.out))) (fun hHeld=>?_)
 generalize V9.drew=x0 at *
 refine tkl [0,1,3,4] ?_
 iterate 4
  refine tW ?_
  try go_frame
 refine rdy1 2 (fun K hK=>?_)
 go_simp
 refine (pfrom_as (Like.refl x) HLZ.out (WX_6.out.call D0.out) (WZ_6.out.call D0.out) (by have:=N3.out;omega) (by have:=N3.out;omega) (by have:=N3.out;omega) HFR.out).mono ?_;rintro e x1 ⟨a1,c1,rfl,g1,hb9⟩;have D1:=hid (Aa D0.out D0.out.size hb9);have R11:=hid g1;clear hb9 g1
 try go_wp2_with fail
 refine hK.out _ _ (by (first|(with_reducible exact KS.out _ D1.out))) (fun hHeld=>?_)
 clear hK K
 try go_frame
 refine rdy1 5 (fun K hK=>?_)
 go_simp
 refine (qfrom_as (Like.refl x) HLZ.out (WX_6.out.call D1.out) (WZ_6.out.call D1.out) (by have:=N3.out;omega) (by have:=N3.out;omega) (by have:=N3.out;omega) HFR.out).mono ?_;rintro e x2 ⟨a2,c2,rfl,g2,hb9⟩;have D2:=hid (Aa D1.out D1.out.size hb9);have R12:=hid (R11.out.call hb9);have R22:=hid g2;clear hb9 R11 g2
 try go_wp2_with fail
 refine hK.out _ _ (by (first|(with_reducible exact KS.out _ D2.out))) (fun hHeld=>?_)
 clear hK K
 try go_frame
 refine rdy1 6 (fun K hK=>?_)
 go_simp
 refine (wsame_as rfl rfl R12.out.1 R22.out.1 (decide_eq_true rfl)).mono ?_;rintro e x3 ⟨rfl,hb9⟩;have D3:=hid (Aa D2.out D2.out.size hb9);have R13:=hid (R12.out.call hb9);have R23:=hid (R22.out.call hb9);clear hb9 R12 R22
 try go_wp2_with fail
 refine hK.out _ _ (by (first|(with_reducible exact KS.out _ D3.out))) (fun hHeld=>?_)
 clear hK K
 try go_frame
 refine tkl [7] (tW ?_)
 try go_frame
 refine tkD ?_
 clear hHeld KS
 have B_7:=hid (bl B_6.out D3.out)
 have X_7:=hid (X_6.out.call D3.out)
 have Y_7:=hid (Y_6.out.call D3.out)
 have WX_7:=hid (WX_6.out.call D3.out)
 have WZ_7:=hid (WZ_6.out.call D3.out)
 clear B_6 X_6 Y_6 WX_6 WZ_6 D0 D1 D2 D3 R13 R23
 have hcX:=X_7.out.2.2
 have hlX:=X_7.out.2.1
 have hcY:=Y_7.out.2.2
 have hlY:=Y_7.out.2.1
 go_wp2_with fail
 clear hcX hlX hcY hlY
 go_loopw [7] (fun i wr=>∃k:Nat,k≤l.length∧i=.int .i64 k∧(∀c∈l.take k,mayX x c=true)∧Below x3.heap.size x3 wr) (fun i _=>l.length-(intOf i).toNat)
 case atStart=>exact ⟨0,Nat.zero_le _,rfl,by simp,Below.refl _ _⟩
 case round =>
  obtain ⟨k,hk,rfl,hm,hb⟩:=hrel
  have HM:=hid hm
  have HB:=hid hb
  clear hm hb
  by_cases hlt:k<l.length
  ·obtain ⟨b,o,rfl,hbb,c0,c1,c2,c3,c4⟩:=WrsAt.cells HL.out.1 hlt
   have BW:=hid (bl B_7.out HB.out)
   have d0:=(BW.out.cell (p:=⟨b,o+k*5,none⟩) hbb).trans c0
   have d1:=(BW.out.cell (p:=⟨b,o+k*5+1,none⟩) hbb).trans c1
   have d2:=(BW.out.cell (p:=⟨b,o+k*5+2,none⟩) hbb).trans c2
   have d3:=(BW.out.cell (p:=⟨b,o+k*5+3,none⟩) hbb).trans c3
   have d4:=(BW.out.cell (p:=⟨b,o+k*5+4,none⟩) hbb).trans c4
   have HMO:=hid (List.take_succ_eq_append_getElem hlt)
   have HKL:=hid hlt
   have wk:IntKind.i64.wrap ((k:Int)+1)=(k:Int)+1:=IntWalk.i64_in _ (by omega)
   have hcX:=(X_7.out.call HB.out).2.2
   have hlX:=(X_7.out.call HB.out).2.1
   clear c0 c1 c2 c3 c4 hbb
   generalize l[k]=c at *
   obtain ⟨ck,ci,cn,⟨cpk,cpi⟩⟩:=c
   simp only at d0 d1 d2 d3 d4
   go_upto_region 9 with fail
   go_still_tail 5,(by kernel_rfl)
   change wpList _ _ _ _ _ wr.drew
   have HB1:=hid (Af HB.out)
   clear d0 d1 d2 d3 d4 hcX hlX
   generalize wr.drew=w2 at *
   go_wp2_with fail
   refine (rpmay_any x p ⟨ck,ci,cn,⟨cpk,cpi⟩⟩ _).mono ?_
   rintro e w3 ⟨rfl,b3⟩
   have HB3:=hid (bl HB1.out b3)
   clear b3 HB HB1 BW
   cases hmc:mayX x ⟨ck,ci,cn,⟨cpk,cpi⟩⟩
   ·clear hmc
    go_wp2_with fail
    go_ret
    exact ⟨rfl,bl B_7.out HB3.out⟩
   ·have HMC:=hid hmc
    clear hmc
    go_wp2_with fail
    go_roundw
    case rel=>exact ⟨k+1,HKL.out,by go_num,by rw [HMO.out];exact fun c hc=>by rcases List.mem_append.1 hc with h|h;exact HM.out c h;rw [List.mem_singleton.1 h];exact HMC.out,HB3.out⟩
    case measure=>have:=HKL.out;simp [intOf];omega
  ·have hke:k=l.length:=by omega
   subst hke
   have HMA:=hid (show ∀c∈l,mayX x c=true from fun c hc=>HM.out c (by rw [List.take_length];exact hc))
   clear HM hlt hk
   have X_8:=hid (X_7.out.call HB.out)
   have Y_8:=hid (Y_7.out.call HB.out)
   have B_8:=hid (bl B_7.out HB.out)
   have WX_8:=hid (WX_7.out.call HB.out)
   have WL_8:=hid (HL.out.below B_8.out (Nat.le_refl _))
   clear X_7 Y_7 B_7 WX_7 WZ_7 HB
   obtain ⟨A,hA⟩:∃A,allP x l=A:=⟨_,rfl⟩
   have HA:=hid hA
   have HLA:=hid (show Like x A from hA ▸ Gw8 l x)
   clear hA
   by_cases hnil:l=[]
   ·have hcX:=X_8.out.2.2
    have hlX:=X_8.out.2.1
    have hcY:=Y_8.out.2.2
    have hlY:=Y_8.out.2.1
    have q0:((l.length:Int)==0)=true:=by simp [hnil]
    clear hnil
    go_upto_region 11 with fail
    clear hcX hlX hcY hlY
    have KS:Hid (∀w',Below wr.heap.size wr w'→Below wr.heap.size wr w'∧(∀ii,w'.cell? ⟨w.heap.size,ii,none⟩=((wC x p)[ii]?:Option Value))∧(∀ii,w'.cell? ⟨w.heap.size+1,ii,none⟩=((wC x qz)[ii]?:Option Value))):=hid (fun w' hb=>⟨hb,fun ii=>(hb.cell (p:=⟨w.heap.size,ii,none⟩) X_8.out.2.1).trans (X_8.out.2.2 ii),fun ii=>(hb.cell (p:=⟨w.heap.size+1,ii,none⟩) Y_8.out.2.1).trans (Y_8.out.2.2 ii)⟩)
    have D0:=hid (Af (Below.refl wr.heap.size wr))
    refine tkS (S:=(fun w'=>Below wr.heap.size wr w'∧(∀ii,w'.cell? ⟨w.heap.size,ii,none⟩=((wC x p)[ii]?:Option Value))∧(∀ii,w'.cell? ⟨w.heap.size+1,ii,none⟩=((wC x qz)[ii]?:Option Value)))) (by (first|(with_reducible exact KS.out _ D0.out))) (fun hHeld=>?_)
    generalize wr.drew=x0 at *
    refine tkl [0,1,3,4] ?_
    iterate 4
     refine tW ?_
     try go_frame
    refine rdy1 2 (fun K hK=>?_)
    go_simp
    refine (pall_as (Like.refl x) rfl (WX_8.out.call D0.out) HFW.out (WL_8.out.call D0.out).1 HMA.out HA.out).mono ?_;rintro e x1 ⟨q1,rfl,g1,hb9⟩;have D1:=hid (Aa D0.out D0.out.size hb9);have R11:=hid g1;clear hb9 g1
    try go_wp2_with fail
    refine hK.out _ _ (by (first|(with_reducible exact KS.out _ D1.out))) (fun hHeld=>?_)
    clear hK K
    try go_frame
    refine rdy1 5 (fun K hK=>?_)
    go_simp
    refine (qall_as (Like.refl x) rfl (WX_8.out.call D1.out) HFW.out (WL_8.out.call D1.out).1 HMA.out HA.out).mono ?_;rintro e x2 ⟨q2,rfl,g2,hb9⟩;have D2:=hid (Aa D1.out D1.out.size hb9);have R12:=hid (R11.out.call hb9);have R22:=hid g2;clear hb9 R11 g2
    try go_wp2_with fail
    refine hK.out _ _ (by (first|(with_reducible exact KS.out _ D2.out))) (fun hHeld=>?_)
    clear hK K
    try go_frame
    refine rdy1 6 (fun K hK=>?_)
    go_simp
    refine (psame_as HLA.out HLA.out R12.out.w R22.out.w (decide_eq_true rfl)).mono ?_;rintro e x3 ⟨rfl,hb9⟩;have D3:=hid (Aa D2.out D2.out.size hb9);have R13:=hid (R12.out.call hb9);have R23:=hid (R22.out.call hb9);clear hb9 R12 R22
    try go_wp2_with fail
    refine hK.out _ _ (by (first|(with_reducible exact KS.out _ D3.out))) (fun hHeld=>?_)
    clear hK K
    try go_frame
    refine tkl [7,8,9,10,11] ?_
    iterate 5
     refine tW ?_
     try go_frame
    refine tkl [12,13,14,15,16,17,18,19,20,21,22] ?_
    iterate 11
     refine tN ?_
     try go_frame
    refine tkl [23,24,25] ?_
    iterate 3
     refine tW ?_
     try go_frame
    refine tkD ?_
    clear hHeld KS
    have B_9:=hid (bl B_8.out D3.out)
    have X_9:=hid (X_8.out.call D3.out)
    have Y_9:=hid (Y_8.out.call D3.out)
    have WX_9:=hid (WX_8.out.call D3.out)
    have WL_9:=hid (WL_8.out.call D3.out)
    clear B_8 X_8 Y_8 WX_8 WL_8 D0 D1 D2 D3 R13 R23
    go_wp2_with fail
    go_ret
    exact ⟨rfl,B_9.out⟩
   ·have hcX:=X_8.out.2.2
    have hlX:=X_8.out.2.1
    have hcY:=Y_8.out.2.2
    have hlY:=Y_8.out.2.1
    have q0:((l.length:Int)==0)=false:=by rw [beq_eq_false_iff_ne];have:=List.length_pos_iff.2 hnil;omega
    have h0:=List.length_pos_iff.2 hnil
    obtain ⟨b,o,rfl,hbb,c0,c1,c2,c3,c4⟩:=WrsAt.cells WL_8.out.1 h0
    have HM0:=hid (HMA.out l[0] (List.getElem_mem h0))
    have h00:l.length≠0:=by omega
    generalize l[0]=c at *
    obtain ⟨ck,ci,cn,⟨cpk,cpi⟩⟩:=c
    simp only [Nat.zero_mul,Nat.add_zero] at c0 c1 c2 c3 c4
    have C0:=hid c0
    have C1:=hid c1
    have C2:=hid c2
    have C3:=hid c3
    have C4:=hid c4
    clear c0 c1 c2 c3 c4 hbb
    clear hnil
    go_upto_region 11 with fail
    clear hcX hlX hcY hlY
    have KS:Hid (∀w',Below wr.heap.size wr w'→Below wr.heap.size wr w'∧(∀ii,w'.cell? ⟨w.heap.size,ii,none⟩=((wC x p)[ii]?:Option Value))∧(∀ii,w'.cell? ⟨w.heap.size+1,ii,none⟩=((wC x qz)[ii]?:Option Value))∧w'.cell? ⟨b,o,none⟩=some (.int .i64 ck)∧w'.cell? ⟨b,o+1,none⟩=some (.int .i64 ci)∧w'.cell? ⟨b,o+2,none⟩=some (.int .i64 cn)∧w'.cell? ⟨b,o+3,none⟩=some (.int .i64 cpk)∧w'.cell? ⟨b,o+4,none⟩=some (.int .i64 cpi)):=hid (fun w' hb=>⟨hb,fun ii=>(hb.cell (p:=⟨w.heap.size,ii,none⟩) X_8.out.2.1).trans (X_8.out.2.2 ii),fun ii=>(hb.cell (p:=⟨w.heap.size+1,ii,none⟩) Y_8.out.2.1).trans (Y_8.out.2.2 ii),Ad C0.out hb,Ad C1.out hb,Ad C2.out hb,Ad C3.out hb,Ad C4.out hb⟩)
    have D0:=hid (Af (Below.refl wr.heap.size wr))
    refine tkS (S:=(fun w'=>Below wr.heap.size wr w'∧(∀ii,w'.cell? ⟨w.heap.size,ii,none⟩=((wC x p)[ii]?:Option Value))∧(∀ii,w'.cell? ⟨w.heap.size+1,ii,none⟩=((wC x qz)[ii]?:Option Value))∧w'.cell? ⟨b,o,none⟩=some (.int .i64 ck)∧w'.cell? ⟨b,o+1,none⟩=some (.int .i64 ci)∧w'.cell? ⟨b,o+2,none⟩=some (.int .i64 cn)∧w'.cell? ⟨b,o+3,none⟩=some (.int .i64 cpk)∧w'.cell? ⟨b,o+4,none⟩=some (.int .i64 cpi))) (by (first|(with_reducible exact KS.out _ D0.out))) (fun hHeld=>?_)
    generalize wr.drew=x0 at *
    refine tkl [0,1,3,4] ?_
    iterate 4
     refine tW ?_
     try go_frame
    refine rdy1 2 (fun K hK=>?_)
    go_simp
    refine (pall_as (Like.refl x) rfl (WX_8.out.call D0.out) HFW.out (WL_8.out.call D0.out).1 HMA.out HA.out).mono ?_;rintro e x1 ⟨q1,rfl,g1,hb9⟩;have D1:=hid (Aa D0.out D0.out.size hb9);have R11:=hid g1;clear hb9 g1
    try go_wp2_with fail
    refine hK.out _ _ (by (first|(with_reducible exact KS.out _ D1.out))) (fun hHeld=>?_)
    clear hK K
    try go_frame
    refine rdy1 5 (fun K hK=>?_)
    go_simp
    refine (qall_as (Like.refl x) rfl (WX_8.out.call D1.out) HFW.out (WL_8.out.call D1.out).1 HMA.out HA.out).mono ?_;rintro e x2 ⟨q2,rfl,g2,hb9⟩;have D2:=hid (Aa D1.out D1.out.size hb9);have R12:=hid (R11.out.call hb9);have R22:=hid g2;clear hb9 R11 g2
    try go_wp2_with fail
    refine hK.out _ _ (by (first|(with_reducible exact KS.out _ D2.out))) (fun hHeld=>?_)
    clear hK K
    try go_frame
    refine rdy1 6 (fun K hK=>?_)
    go_simp
    refine (psame_as HLA.out HLA.out R12.out.w R22.out.w (decide_eq_true rfl)).mono ?_;rintro e x3 ⟨rfl,hb9⟩;have D3:=hid (Aa D2.out D2.out.size hb9);have R13:=hid (R12.out.call hb9);have R23:=hid (R22.out.call hb9);clear hb9 R12 R22
    try go_wp2_with fail
    refine hK.out _ _ (by (first|(with_reducible exact KS.out _ D3.out))) (fun hHeld=>?_)
    clear hK K
    try go_frame
    refine tkl [7,8,9,10,11] ?_
    iterate 5
     refine tW ?_
     try go_frame
    refine tkl [12,13,14,15,17,18,19,20] ?_
    iterate 8
     refine tW ?_
     try go_frame
    refine rdy1 16 (fun K hK=>?_)
    go_simp
    refine (pdo_as (Like.refl x) ⟨ck,ci,cn,⟨cpk,cpi⟩⟩ (WX_8.out.call D3.out) HFW.out HM0.out rfl).mono ?_;rintro e x4 ⟨q3,rfl,g3,hb9⟩;have D4:=hid (Aa D3.out D3.out.size hb9);have R14:=hid (R13.out.call hb9);have R24:=hid (R23.out.call hb9);have R34:=hid g3;clear hb9 R13 R23 g3
    try go_wp2_with fail
    refine hK.out _ _ (by (first|(with_reducible exact KS.out _ D4.out))) (fun hHeld=>?_)
    clear hK K
    try go_frame
    refine rdy1 21 (fun K hK=>?_)
    go_simp
    refine (qdo_as (Like.refl x) ⟨ck,ci,cn,⟨cpk,cpi⟩⟩ (WX_8.out.call D4.out) HFW.out HM0.out rfl).mono ?_;rintro e x5 ⟨q4,rfl,g4,hb9⟩;have D5:=hid (Aa D4.out D4.out.size hb9);have R15:=hid (R14.out.call hb9);have R25:=hid (R24.out.call hb9);have R35:=hid (R34.out.call hb9);have R45:=hid g4;clear hb9 R14 R24 R34 g4
    try go_wp2_with fail
    refine hK.out _ _ (by (first|(with_reducible exact KS.out _ D5.out))) (fun hHeld=>?_)
    clear hK K
    try go_frame
    refine rdy1 22 (fun K hK=>?_)
    go_simp
    refine (psame_as (Hm5 x ⟨ck,ci,cn,⟨cpk,cpi⟩⟩) (Hm5 x ⟨ck,ci,cn,⟨cpk,cpi⟩⟩) R35.out.w R45.out.w (decide_eq_true rfl)).mono ?_;rintro e x6 ⟨rfl,hb9⟩;have D6:=hid (Aa D5.out D5.out.size hb9);have R16:=hid (R15.out.call hb9);have R26:=hid (R25.out.call hb9);have R36:=hid (R35.out.call hb9);have R46:=hid (R45.out.call hb9);clear hb9 R15 R25 R35 R45
    try go_wp2_with fail
    refine hK.out _ _ (by (first|(with_reducible exact KS.out _ D6.out))) (fun hHeld=>?_)
    clear hK K
    try go_frame
    refine tkl [23,24,25] ?_
    iterate 3
     refine tW ?_
     try go_frame
    refine tkD ?_
    clear hHeld KS
    have B_9:=hid (bl B_8.out D6.out)
    have X_9:=hid (X_8.out.call D6.out)
    have Y_9:=hid (Y_8.out.call D6.out)
    have WX_9:=hid (WX_8.out.call D6.out)
    have WL_9:=hid (WL_8.out.call D6.out)
    clear B_8 X_8 Y_8 WX_8 WL_8 D0 D1 D2 D3 D4 D5 D6 R16 R26 R36 R46
    go_wp2_with fail
    go_ret
    exact ⟨rfl,B_9.out⟩
theorem lifted_planTells (os:Os) (started:os.Started) (H:Type) (enc:TypeId × Value→H) :
 ReturnsInHanded {} Try.checked os 3 .any (Rows.planTellsSpec.pre6 enc prog Try.f3 Rows.planTellsRow.domain false) (Rows.planTellsSpec.post enc prog Try.f3 false true false false):=by
 refine returnsInHanded_of_change (C:=Try.checked) (by kernel_rfl) started (by kernel_rfl) func3
  (ChangeSpec.witness6 (enc:=enc) (C:=Try.checked) false ⟨#[],#[.agg zC,.agg zC,.slice none 0 0],[]⟩ 8 (by kernel_rfl) (by kernel_rfl) (by kernel_rfl) (by kernel_rfl)) ?_
 intro W base args ds gs before hval0 hW hcnd _
 have hval:∀(j:Nat) t v,Try.f3.params[j]?=some t→args[j]?=some v→Value.okWide prog W .any base t v:=hval0
 have hW':=hW
 obtain ⟨p,q,hA0,hV,rfl,hfz,hnd⟩:=hW
 have hA:DataW.TrodAll enc prog W 0 (fun _=>true) true Try.f3.params.toList args.toList ds p:=hA0
 rw [Try.params3] at hA hval
 obtain ⟨v0,vs0,d0,ds0,p0,q0,hargs,rfl,rfl,h0,r0⟩:=trodAll_cons hA
 obtain ⟨v1,vs1,d1,ds1,p1,q1,rfl,rfl,rfl,h1,r1⟩:=trodAll_cons r0
 obtain ⟨v2,vs2,d2,ds2,p2,q2,rfl,rfl,rfl,h2,r2⟩:=trodAll_cons r1
 obtain ⟨rfl,rfl,rfl⟩:=trodAll_nil r2
 obtain rfl:args=#[v0,v1,v2]:=by cases args;simp_all
 obtain ⟨rfl,rfl⟩:=trodVars_none hV
 obtain ⟨wx0,wp0,rfl,m0⟩:=Qz (hval 0 29 v0 rfl rfl) h0
 obtain ⟨wx1,wp1,rfl,m1⟩:=Qz (hval 1 29 v1 rfl rfl) h1
 obtain ⟨a2,cap2,ls2,rfl,m2,n2⟩:=read_wrs (hval 2 30 v2 rfl rfl) h2
 clear hA0 hval0
 simp only [List.append_nil] at hW'
 refine (walk_planTells wx0 wp0 wx1 wp1 a2 cap2 ls2 W m0 m1 ⟨m2,n2⟩).mono fun e W' ⟨he,hg⟩=>?_
 subst he
 exact ⟨_,rfl,Iy (by kernel_rfl) rfl (by rw [Try.params3];decide +kernel) rfl rfl underlying4 hW' hg⟩
theorem proved_planTells:Rows.PlanTellsSaid :=
 OpenClaim.holds_of_wide 3 Try.f3 rfl rfl rfl rfl rfl rfl rfl ⟨rfl,rfl,rfl,rfl,rfl⟩ rfl rfl rfl rfl rfl (by kernel_rfl) func3 (by kernel_rfl)
  (of_decide_eq_true (by kernel_rfl)) (by unfold Func.isWrapper;first|(rw [if_pos (by decide +kernel)];kernel_rfl)|(rw [if_neg (by decide +kernel)];exact ⟨rfl,rfl⟩))
  (fun os started H enc _=>lifted_planTells os started H enc)
#print axioms proved_planTells
end Go.Proofs.Ytnhkojpbbdaedaa
