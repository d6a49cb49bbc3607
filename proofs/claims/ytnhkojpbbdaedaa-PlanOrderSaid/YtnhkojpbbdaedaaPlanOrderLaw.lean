/- PlanOrder: the changes, done in whatever order, make the other world. -/
import Derived.Test.YtnhkojpbbdaedaaPlanAw
namespace Go.Proofs.Ytnhkojpbbdaedaa
open Go.ChangeShapes Go.WideShapes Go.ChangeAt Go.RowKit Go.Proofs.Try
open Lib (hid)
set_option linter.unusedVariables false
set_option maxRecDepth 100000
open Go.RowKit
theorem two_desc {V w:World} {n:Nat} {x y:Wd} {p q:Wp} (hY:Blk V n 29 (wC y q)) (hb:Below w.heap.size w V) (hn:w.heap.size≤n) (hx:Ab w p x) (hy:Ab w q y) (ha:y.at_.length=x.at_.length) (hc:y.coins.length=x.coins.length) (hw:y.wher.length=x.wher.length) :
 ∃(qz:Wp) (z:Wd),z=⟨x.d,y.at_,y.coins,y.wher⟩∧Blk (((((((((V.setCell ⟨n,0,none⟩ (.slice p.d.ex x.d.exits.length p.d.exc)).setCell ⟨n,1,none⟩ (.slice p.d.pl x.d.players.length p.d.plc)).setCell ⟨n,2,none⟩ (.slice p.d.co x.d.coins.length p.d.coc)).setCell ⟨n,3,none⟩ (.slice p.d.it x.d.items.length p.d.itc)).setCell ⟨n,4,none⟩ (.slice p.d.bo x.d.boxes.length p.d.boc)).setCell ⟨n,5,none⟩ (.int .i64 x.d.room)).setCell ⟨n,6,none⟩ (.int .i64 x.d.player)).setCell ⟨n,7,none⟩ (.int .i64 x.d.box))) n 29 (wC x qz)∧Ab (((((((((V.setCell ⟨n,0,none⟩ (.slice p.d.ex x.d.exits.length p.d.exc)).setCell ⟨n,1,none⟩ (.slice p.d.pl x.d.players.length p.d.plc)).setCell ⟨n,2,none⟩ (.slice p.d.co x.d.coins.length p.d.coc)).setCell ⟨n,3,none⟩ (.slice p.d.it x.d.items.length p.d.itc)).setCell ⟨n,4,none⟩ (.slice p.d.bo x.d.boxes.length p.d.boc)).setCell ⟨n,5,none⟩ (.int .i64 x.d.room)).setCell ⟨n,6,none⟩ (.int .i64 x.d.player)).setCell ⟨n,7,none⟩ (.int .i64 x.d.box))) qz z∧Like x z∧Below w.heap.size w (((((((((V.setCell ⟨n,0,none⟩ (.slice p.d.ex x.d.exits.length p.d.exc)).setCell ⟨n,1,none⟩ (.slice p.d.pl x.d.players.length p.d.plc)).setCell ⟨n,2,none⟩ (.slice p.d.co x.d.coins.length p.d.coc)).setCell ⟨n,3,none⟩ (.slice p.d.it x.d.items.length p.d.itc)).setCell ⟨n,4,none⟩ (.slice p.d.bo x.d.boxes.length p.d.boc)).setCell ⟨n,5,none⟩ (.int .i64 x.d.room)).setCell ⟨n,6,none⟩ (.int .i64 x.d.player)).setCell ⟨n,7,none⟩ (.int .i64 x.d.box))):=by
 have hB:Below w.heap.size w (((((((((V.setCell ⟨n,0,none⟩ (.slice p.d.ex x.d.exits.length p.d.exc)).setCell ⟨n,1,none⟩ (.slice p.d.pl x.d.players.length p.d.plc)).setCell ⟨n,2,none⟩ (.slice p.d.co x.d.coins.length p.d.coc)).setCell ⟨n,3,none⟩ (.slice p.d.it x.d.items.length p.d.itc)).setCell ⟨n,4,none⟩ (.slice p.d.bo x.d.boxes.length p.d.boc)).setCell ⟨n,5,none⟩ (.int .i64 x.d.room)).setCell ⟨n,6,none⟩ (.int .i64 x.d.player)).setCell ⟨n,7,none⟩ (.int .i64 x.d.box))):=by
  iterate 8 refine Below.setCell ?_ hn _
  exact hb
 refine ⟨⟨p.d,q.at_,q.atc,q.co,q.coc,q.wh,q.whc⟩,_,rfl,?_,⟨hx.d.below hB (Nat.le_refl _),hy.at_.below hB (Nat.le_refl _),hy.co.below hB (Nat.le_refl _),Ar.below hy.wh hB (Nat.le_refl _)⟩,⟨rfl,ha,hc,hw⟩,hB⟩
 have h2:=((((((((hY.set_ 0 (.slice p.d.ex x.d.exits.length p.d.exc)).set_ 1 (.slice p.d.pl x.d.players.length p.d.plc)).set_ 2 (.slice p.d.co x.d.coins.length p.d.coc)).set_ 3 (.slice p.d.it x.d.items.length p.d.itc)).set_ 4 (.slice p.d.bo x.d.boxes.length p.d.boc)).set_ 5 (.int .i64 x.d.room)).set_ 6 (.int .i64 x.d.player)).set_ 7 (.int .i64 x.d.box))
 simp only [List.setIfInBounds_toArray,List.set_cons_zero,List.set_cons_succ,ha,hc,hw] at h2
 exact h2
theorem Blk.holdsp {w W:World} {n:Nat} {t:TypeId} {A:Array Value} (h:Blk W n t A) (hb:Below w.heap.size w W):Ac w n A W:=⟨hb,h.lt,h.cell⟩
theorem full_eqs {x:Wd} (h:fullB x=true):x.at_.length=x.d.players.length∧x.coins.length=x.d.players.length∧x.wher.length=x.d.items.length:=by
 simp [fullB] at h;exact h
theorem few_lens {x:Wd} (h:fewB x=true):x.at_.length≤40∧x.coins.length≤40∧x.wher.length≤40:=by
 simp [fewB] at h;omega
theorem from_may {x y:Wd}:∀c∈Ao3 x y,mayX x c=true:=by
 intro c hc
 rcases Dc9.1 hc with ⟨p,hp,-,rfl⟩|⟨p,hp,-,rfl⟩|⟨p,hp,-,rfl⟩<;>simp [mayX,hp]
def turnW (l:List Wr) (t n:Nat):List Wr:=(List.range n).map fun i=>l.getD ((i+t)%l.length) ⟨0,0,0,⟨0,0⟩⟩
theorem turnW_len (l:List Wr) (t n:Nat):(turnW l t n).length=n:=by simp [turnW]
theorem turnW_more (l:List Wr) (t n:Nat):turnW l t (n+1)=turnW l t n++[l.getD ((n+t)%l.length) ⟨0,0,0,⟨0,0⟩⟩]:=by simp [turnW,List.range_succ]
theorem turnW_sub {l:List Wr} {t n:Nat} (hn:n≤l.length) {q:Wr} (h:q∈turnW l t n):q∈l:=by
 obtain ⟨i,hi,rfl⟩:=List.mem_map.1 h
 have hi:=List.mem_range.1 hi
 have hm:(i+t)%l.length<l.length:=Nat.mod_lt _ (by omega)
 simp [List.getD,List.getElem?_eq_getElem hm]
theorem turnW_all {l:List Wr} {t:Nat} (q:Wr):q∈turnW l t l.length↔q∈l:=by
 refine ⟨turnW_sub (Nat.le_refl _),fun h=>?_⟩
 obtain ⟨j,hj,rfl⟩:=List.mem_iff_getElem.1 h
 have hp:0<l.length:=by omega
 refine List.mem_map.2 ⟨(j+(l.length-t%l.length))%l.length,List.mem_range.2 (Nat.mod_lt _ hp),?_⟩
 have h1:=Nat.div_add_mod t l.length
 have h2:=Nat.mod_lt t hp
 have h3:j+(l.length-t%l.length)+t=j+l.length*(t / l.length+1):=by rw [Nat.mul_add];omega
 have h4:((j+(l.length-t%l.length))%l.length+t)%l.length=j:=by
  rw [Nat.mod_add_mod,h3,Nat.add_mul_mod_self_left,Nat.mod_eq_of_lt hj]
 rw [h4]
 simp [List.getD,List.getElem?_eq_getElem hj]
theorem turn_makes {x y:Wd} (hL:Like x y) (t:Nat):allP x (turnW (Ao3 x y) t (Ao3 x y).length)=y:=all_from hL (Like.refl x) turnW_all (fun _ _=>.inl rfl) (fun _ _=>.inl rfl) (fun _ _=>.inl rfl)
theorem turn_again {x y:Wd} (hL:Like x y) (t:Nat):allP y (turnW (Ao3 x y) t (Ao3 x y).length)=y:=all_from hL hL turnW_all (fun _ _=>.inr rfl) (fun _ _=>.inr rfl) (fun _ _=>.inr rfl)
set_option maxHeartbeats 2000000 in
theorem planOrder_go (x:Wd) (p:Wp) (y:Wd) (q:Wp) (tn:Nat) (w:World) (htn:tn≤255) (h:Ab w p x) (hv:Ab w q y):Calls prog 6 #[.agg (wC x p),.agg (wC y q),.int .u8 (tn:Int)] w fun e w'=>e=.returned (.bool true)∧Below w.heap.size w w':=by
 have HW:=hid h
 have HV:=hid hv
 have HTN:=hid htn
 clear htn
 obtain ⟨f1,hf1⟩:∃b,fewB x=b:=⟨_,rfl⟩
 obtain ⟨f2,hf2⟩:∃b,fewB y=b:=⟨_,rfl⟩
 obtain ⟨f3,hf3⟩:∃b,fullB x=b:=⟨_,rfl⟩
 obtain ⟨f4,hf4⟩:∃b,fullB y=b:=⟨_,rfl⟩
 have HF1:=hid hf1
 have HF2:=hid hf2
 have HF3:=hid hf3
 have HF4:=hid hf4
 clear hf1 hf2 hf3 hf4
 have hlx1:=h.at_.len
 have hlx2:=h.co.len
 have hlx3:=h.wh.len
 have hly1:=hv.at_.len
 have hly3:=hv.wh.len
 have P0:=Ac.pair w (wC x p) (wC y q) 29 29
 have X_0:=hid P0.1
 have Y_0:=hid P0.2
 have YB_0:=hid (show Blk ((w.alloc (.cells (wC x p) 29)).alloc (.cells (wC y q) 29)) (w.heap.size+1) 29 (wC y q) from Blk.newn _ _ _ (by simp))
 clear P0 h hv
 have hWC:=@wC.eq_1
 have hZC:=@zC.eq_1
 go_enter func6,ntmps6
 go_wp2_with fail
 generalize (w.alloc (.cells (wC x p) 29)).alloc (.cells (wC y q) 29)=V0 at *
 have B_0:=hid X_0.out.1
 refine (awake18_any _).mono ?_
 rintro e u1 ⟨rfl,b1⟩
 have B_1:=hid (bl B_0.out b1)
 have X_1:=hid (X_0.out.call b1)
 have Y_1:=hid (Y_0.out.call b1)
 have YB_1:=hid (YB_0.out.call b1)
 clear b1 B_0 X_0 Y_0 YB_0
 have hcX:=X_1.out.2.2
 have hlX:=X_1.out.2.1
 have hcY:=Y_1.out.2.2
 have hlY:=Y_1.out.2.1
 go_wp2_with fail
 refine (El x p _).mono ?_
 rintro e u2 ⟨rfl,b2⟩
 rw [HF1.out]
 clear hcX hlX hcY hlY
 have B_2:=hid (bl B_1.out b2)
 have X_2:=hid (X_1.out.call b2)
 have Y_2:=hid (Y_1.out.call b2)
 have YB_2:=hid (YB_1.out.call b2)
 clear b2 B_1 X_1 Y_1 YB_1
 have hcX:=X_2.out.2.2
 have hlX:=X_2.out.2.1
 have hcY:=Y_2.out.2.2
 have hlY:=Y_2.out.2.1
 cases f1
 ·
  go_wp2_with fail
  refine (awake18_any _).mono ?_
  rintro e u3 ⟨rfl,b3⟩
  clear hcX hlX hcY hlY
  have B_3:=hid (bl B_2.out b3)
  have X_3:=hid (X_2.out.call b3)
  have Y_3:=hid (Y_2.out.call b3)
  have YB_3:=hid (YB_2.out.call b3)
  clear b3 B_2 X_2 Y_2 YB_2
  have hcX:=X_3.out.2.2
  have hlX:=X_3.out.2.1
  have hcY:=Y_3.out.2.2
  have hlY:=Y_3.out.2.1
  go_wp2_with fail
  go_ret
  exact ⟨rfl,B_3.out⟩
 go_wp2_with fail
 refine (El y q _).mono ?_
 rintro e u3 ⟨rfl,b3⟩
 rw [HF2.out]
 clear hcX hlX hcY hlY
 have B_3:=hid (bl B_2.out b3)
 have X_3:=hid (X_2.out.call b3)
 have Y_3:=hid (Y_2.out.call b3)
 have YB_3:=hid (YB_2.out.call b3)
 clear b3 B_2 X_2 Y_2 YB_2
 have hcX:=X_3.out.2.2
 have hlX:=X_3.out.2.1
 have hcY:=Y_3.out.2.2
 have hlY:=Y_3.out.2.1
 cases f2
 ·
  go_wp2_with fail
  refine (awake18_any _).mono ?_
  rintro e u4 ⟨rfl,b4⟩
  clear hcX hlX hcY hlY
  have B_4:=hid (bl B_3.out b4)
  have X_4:=hid (X_3.out.call b4)
  have Y_4:=hid (Y_3.out.call b4)
  have YB_4:=hid (YB_3.out.call b4)
  clear b4 B_3 X_3 Y_3 YB_3
  have hcX:=X_4.out.2.2
  have hlX:=X_4.out.2.1
  have hcY:=Y_4.out.2.2
  have hlY:=Y_4.out.2.1
  go_wp2_with fail
  go_ret
  exact ⟨rfl,B_4.out⟩
 go_wp2_with fail
 refine (rfull_any x p _).mono ?_
 rintro e u4 ⟨rfl,b4⟩
 rw [HF3.out]
 clear hcX hlX hcY hlY
 have B_4:=hid (bl B_3.out b4)
 have X_4:=hid (X_3.out.call b4)
 have Y_4:=hid (Y_3.out.call b4)
 have YB_4:=hid (YB_3.out.call b4)
 clear b4 B_3 X_3 Y_3 YB_3
 have hcX:=X_4.out.2.2
 have hlX:=X_4.out.2.1
 have hcY:=Y_4.out.2.2
 have hlY:=Y_4.out.2.1
 cases f3
 ·
  go_wp2_with fail
  refine (awake18_any _).mono ?_
  rintro e u5 ⟨rfl,b5⟩
  clear hcX hlX hcY hlY
  have B_5:=hid (bl B_4.out b5)
  have X_5:=hid (X_4.out.call b5)
  have Y_5:=hid (Y_4.out.call b5)
  have YB_5:=hid (YB_4.out.call b5)
  clear b5 B_4 X_4 Y_4 YB_4
  have hcX:=X_5.out.2.2
  have hlX:=X_5.out.2.1
  have hcY:=Y_5.out.2.2
  have hlY:=Y_5.out.2.1
  go_wp2_with fail
  go_ret
  exact ⟨rfl,B_5.out⟩
 go_wp2_with fail
 refine (rfull_any y q _).mono ?_
 rintro e u5 ⟨rfl,b5⟩
 rw [HF4.out]
 clear hcX hlX hcY hlY
 have B_5:=hid (bl B_4.out b5)
 have X_5:=hid (X_4.out.call b5)
 have Y_5:=hid (Y_4.out.call b5)
 have YB_5:=hid (YB_4.out.call b5)
 clear b5 B_4 X_4 Y_4 YB_4
 have hcX:=X_5.out.2.2
 have hlX:=X_5.out.2.1
 have hcY:=Y_5.out.2.2
 have hlY:=Y_5.out.2.1
 cases f4
 ·
  go_wp2_with fail
  refine (awake18_any _).mono ?_
  rintro e u6 ⟨rfl,b6⟩
  clear hcX hlX hcY hlY
  have B_6:=hid (bl B_5.out b6)
  have X_6:=hid (X_5.out.call b6)
  have Y_6:=hid (Y_5.out.call b6)
  have YB_6:=hid (YB_5.out.call b6)
  clear b6 B_5 X_5 Y_5 YB_5
  have hcX:=X_6.out.2.2
  have hlX:=X_6.out.2.1
  have hcY:=Y_6.out.2.2
  have hlY:=Y_6.out.2.1
  go_wp2_with fail
  go_ret
  exact ⟨rfl,B_6.out⟩
 by_cases ea:y.at_.length=x.at_.length
 rotate_left
 ·have qa:((x.at_.length:Int) != (y.at_.length:Int))=true:=by simp;omega
  go_wp2_with fail
  refine (awake18_any _).mono ?_
  rintro e u6 ⟨rfl,b6⟩
  clear hcX hlX hcY hlY
  have B_6:=hid (bl B_5.out b6)
  have X_6:=hid (X_5.out.call b6)
  have Y_6:=hid (Y_5.out.call b6)
  have YB_6:=hid (YB_5.out.call b6)
  clear b6 B_5 X_5 Y_5 YB_5
  have hcX:=X_6.out.2.2
  have hlX:=X_6.out.2.1
  have hcY:=Y_6.out.2.2
  have hlY:=Y_6.out.2.1
  go_wp2_with fail
  go_ret
  exact ⟨rfl,B_6.out⟩
 have qa:((x.at_.length:Int) != (y.at_.length:Int))=false:=by simp;omega
 by_cases ew:y.wher.length=x.wher.length
 rotate_left
 ·have qw:((x.wher.length:Int) != (y.wher.length:Int))=true:=by simp;omega
  go_wp2_with fail
  refine (awake18_any _).mono ?_
  rintro e u6 ⟨rfl,b6⟩
  clear hcX hlX hcY hlY
  have B_6:=hid (bl B_5.out b6)
  have X_6:=hid (X_5.out.call b6)
  have Y_6:=hid (Y_5.out.call b6)
  have YB_6:=hid (YB_5.out.call b6)
  clear b6 B_5 X_5 Y_5 YB_5
  have hcX:=X_6.out.2.2
  have hlX:=X_6.out.2.1
  have hcY:=Y_6.out.2.2
  have hlY:=Y_6.out.2.1
  go_wp2_with fail
  go_ret
  exact ⟨rfl,B_6.out⟩
 have qw:((x.wher.length:Int) != (y.wher.length:Int))=false:=by simp;omega
 have hfY:=YB_5.out.frozen
 go_upto_region 4 with fail
 clear hfY
 clear hcX hlX hcY hlY
 have hfe:=full_eqs HF3.out
 have hfe2:=full_eqs HF4.out
 obtain ⟨qz,z,hz,hYB,hWZ,hLZ,hB⟩:=two_desc YB_5.out B_5.out (by omega) HW.out HV.out ea (by omega) ew
 have X_6:=hid ((((((((X_5.out.far (b:=w.heap.size+1) (by omega) (by omega) 0 (.slice p.d.ex x.d.exits.length p.d.exc)).far (b:=w.heap.size+1) (by omega) (by omega) 1 (.slice p.d.pl x.d.players.length p.d.plc)).far (b:=w.heap.size+1) (by omega) (by omega) 2 (.slice p.d.co x.d.coins.length p.d.coc)).far (b:=w.heap.size+1) (by omega) (by omega) 3 (.slice p.d.it x.d.items.length p.d.itc)).far (b:=w.heap.size+1) (by omega) (by omega) 4 (.slice p.d.bo x.d.boxes.length p.d.boc)).far (b:=w.heap.size+1) (by omega) (by omega) 5 (.int .i64 x.d.room)).far (b:=w.heap.size+1) (by omega) (by omega) 6 (.int .i64 x.d.player)).far (b:=w.heap.size+1) (by omega) (by omega) 7 (.int .i64 x.d.box))
 have B_6:=hid hB
 have Y_6:=hid (hYB.holdsp hB)
 have WZ_6:=hid hWZ
 have WX_6:=hid (HW.out.below hB (Nat.le_refl _))
 have HZ:=hid hz
 have HLZ:=hid hLZ
 have HFW:=hid (Vu HF1.out)
 have N3:=hid (few_lens HF1.out)
 clear hz hYB hWZ hLZ hB hfe hfe2 qa qw hly1 hly3 X_5 B_5 Y_5 YB_5
 generalize ((((((((u5.setCell ⟨w.heap.size+1,0,none⟩ (.slice p.d.ex x.d.exits.length p.d.exc)).setCell ⟨w.heap.size+1,1,none⟩ (.slice p.d.pl x.d.players.length p.d.plc)).setCell ⟨w.heap.size+1,2,none⟩ (.slice p.d.co x.d.coins.length p.d.coc)).setCell ⟨w.heap.size+1,3,none⟩ (.slice p.d.it x.d.items.length p.d.itc)).setCell ⟨w.heap.size+1,4,none⟩ (.slice p.d.bo x.d.boxes.length p.d.boc)).setCell ⟨w.heap.size+1,5,none⟩ (.int .i64 x.d.room)).setCell ⟨w.heap.size+1,6,none⟩ (.int .i64 x.d.player)).setCell ⟨w.heap.size+1,7,none⟩ (.int .i64 x.d.box))=V9 at *
 have hcX:=X_6.out.2.2
 have hlX:=X_6.out.2.1
 have hcY:=Y_6.out.2.2
 have hlY:=Y_6.out.2.1
 clear ea ew
 obtain ⟨L,hL⟩:∃L,Ao3 x z=L:=⟨_,rfl⟩
 have HFR:=hid hL
 have HMK:=hid (show allP x L=z from hL ▸ all_makes HLZ.out)
 have HTM:=hid (show allP x (turnW L tn L.length)=z from hL ▸ turn_makes HLZ.out tn)
 have HTA:=hid (show allP z (turnW L tn L.length)=z from hL ▸ turn_again HLZ.out tn)
 have HMY:=hid (show ∀c∈L,mayX x c=true from hL ▸ from_may)
 have hll:L.length≤120:=by have h1:=from_len x z;have h2:=N3.out;rw [hL] at h1;omega
 obtain ⟨M,hM⟩:∃M,Ao3 z x=M:=⟨_,rfl⟩
 have HFB:=hid hM
 have hML:M.length=L.length:=by rw [←hM,←hL];exact from_back HLZ.out
 have qml:((M.length:Int)==(L.length:Int))=true:=by simp [hML]
 have HQM:=hid qml
 clear hL hM hML qml
 go_wp2_with fail
 refine (pfrom_as (Like.refl x) HLZ.out WX_6.out WZ_6.out (by have:=N3.out;omega) (by have:=N3.out;omega) (by have:=N3.out;omega) HFR.out).mono ?_
 rintro e u91 ⟨la,lc,rfl,hl,b91⟩
 clear hcX hlX hcY hlY
 have B_7:=hid (bl B_6.out b91)
 have X_7:=hid (X_6.out.call b91)
 have Y_7:=hid (Y_6.out.call b91)
 have WX_7:=hid (WX_6.out.call b91)
 have WZ_7:=hid (WZ_6.out.call b91)
 have WL_7:=hid hl
 clear hl
 clear b91 B_6 X_6 Y_6 WX_6 WZ_6
 have hcX:=X_7.out.2.2
 have hlX:=X_7.out.2.1
 have hcY:=Y_7.out.2.2
 have hlY:=Y_7.out.2.1
 go_wp2_with fail
 clear hcX hlX hcY hlY
 go_loopw [8,9] (fun v i wr=>∃k:Nat,k≤L.length∧i=.int .i64 k∧Dt 5 39 wrC u91.heap.size wr v (turnW L tn k)∧Below u91.heap.size u91 wr) (fun _ i _=>L.length-(intOf i).toNat)
 case atStart=>exact ⟨0,Nat.zero_le _,rfl,Dt.nil _,Below.refl _ _⟩
 case round =>
  obtain ⟨k,hk,rfl,hG,hB5⟩:=hrel
  have HG:=hid hG
  have HB:=hid hB5
  clear hG hB5
  by_cases hlt:k<L.length
  ·have hlp:0<L.length:=by omega
   have hidx:(k+tn)%L.length<L.length:=Nat.mod_lt _ hlp
   obtain ⟨b,o,rfl,hbb,c0,c1,c2,c3,c4⟩:=WrsAt.cells WL_7.out.1 hidx
   have HTW:=hid (turnW_more L tn k)
   have hge:L.getD ((k+tn)%L.length) ⟨0,0,0,⟨0,0⟩⟩=L[(k+tn)%L.length]:=by simp [List.getD,List.getElem?_eq_getElem hidx]
   have HTX:=hid (show turnW L tn (k+1)=turnW L tn k++[L[(k+tn)%L.length]] by rw [HTW.out,hge])
   have m1:((k:Int)+(tn:Int)).tmod (L.length:Int)=(((k+tn)%L.length:Nat):Int):=by rw [←Int.natCast_add];rfl
   have m2:((k:Int)+(tn:Int))%(L.length:Int)=(((k+tn)%L.length:Nat):Int):=by rw [←Int.natCast_add];rfl
   clear hge HTW
   generalize L[(k+tn)%L.length]=c at *
   generalize (k+tn)%L.length=e at *
   obtain ⟨ck,ci,cn,⟨cpk,cpi⟩⟩:=c
   simp only at c0 c1 c2 c3 c4
   have e0:=wcell_call c0 hbb HB.out
   have e1:=wcell_call c1 hbb HB.out
   have e2:=wcell_call c2 hbb HB.out
   have e3:=wcell_call c3 hbb HB.out
   have e4:=wcell_call c4 hbb HB.out
   clear c0 c1 c2 c3 c4 hbb
   have htn:=HTN.out
   have hw:IntKind.i64.wrap ((k:Int)+1)=(k:Int)+1:=IntWalk.i64_in _ (by omega)
   have hw2:IntKind.i64.wrap ((k:Int)+(tn:Int))=(k:Int)+(tn:Int):=IntWalk.i64_in _ (by omega)
   have hw3:IntKind.i64.wrap (tn:Int)=(tn:Int):=IntWalk.i64_in _ (by omega)
   have hz:((L.length:Int)==0)=false:=by rw [beq_eq_false_iff_ne];omega
   have hz2:¬L.length=0:=by omega
   obtain ⟨v3,W3,hr3,hg3,hb3⟩:=HG.out.one underlying30 wr_info rfl (by decide) (by decide) wrC_len wrC_one ⟨ck,ci,cn,⟨cpk,cpi⟩⟩ (by rw [turnW_len];omega) HB.out.size
   have HR3:=hid hr3
   have HG3:=hid hg3
   have HB3:=hid (HG.out.below HB.out hb3 (Nat.le_refl _))
   have HKL:=hid hlt
   clear hr3 hg3 hb3 htn HG HB
   go_wp2_with (at_builtin;refine Bb rfl (.tmp 63) (.tmp 74) 30 rfl _ _ _ W3 rfl rfl HR3.out ?_)
   go_wp2_with fail
   go_roundw
   case rel=>exact ⟨k+1,HKL.out,by go_num,by rw [HTX.out];exact HG3.out,HB3.out⟩
   case measure=>have:=HKL.out;simp [intOf];omega
  ·have hke:k=L.length:=by omega
   subst hke
   obtain ⟨ta,tc,rfl,hO⟩:=HG.out.own wrC_len
   have X_8:=hid (X_7.out.call HB.out)
   have Y_8:=hid (Y_7.out.call HB.out)
   have B_8:=hid (bl B_7.out HB.out)
   have WX_8:=hid (WX_7.out.call HB.out)
   have WZ_8:=hid (WZ_7.out.call HB.out)
   have WL_8:=hid (WL_7.out.call HB.out)
   have TR_8:=hid hO.row
   rw [turnW_len]
   have HTL:=hid (turnW_len L tn L.length)
   have HTY:=hid (show ∀c∈turnW L tn L.length,mayX x c=true from fun c hc=>HMY.out c (turnW_sub (Nat.le_refl _) hc))
   generalize turnW L tn L.length=T at *
   clear hO HG HB hlt hk X_7 Y_7 B_7 WX_7 WZ_7 WL_7
   have hcX:=X_8.out.2.2
   have hlX:=X_8.out.2.1
   have hcY:=Y_8.out.2.2
   have hlY:=Y_8.out.2.1
   go_upto_region 10 with fail
   clear hcX hlX hcY hlY
   have KS:Hid (∀w',Below wr.heap.size wr w'→Below wr.heap.size wr w'∧(∀ii,w'.cell? ⟨w.heap.size,ii,none⟩=((wC x p)[ii]?:Option Value))∧(∀ii,w'.cell? ⟨w.heap.size+1,ii,none⟩=((wC x qz)[ii]?:Option Value))):=hid (fun w' hb=>⟨hb,fun ii=>(hb.cell (p:=⟨w.heap.size,ii,none⟩) X_8.out.2.1).trans (X_8.out.2.2 ii),fun ii=>(hb.cell (p:=⟨w.heap.size+1,ii,none⟩) Y_8.out.2.1).trans (Y_8.out.2.2 ii)⟩)
   have D0:=hid (Af (Below.refl wr.heap.size wr))
   refine tkS (S:=(fun w'=>Below wr.heap.size wr w'∧(∀ii,w'.cell? ⟨w.heap.size,ii,none⟩=((wC x p)[ii]?:Option Value))∧(∀ii,w'.cell? ⟨w.heap.size+1,ii,none⟩=((wC x qz)[ii]?:Option Value)))) (by (first|(with_reducible exact KS.out _ D0.out))) (fun hHeld=>?_)
   generalize wr.drew=x0 at *
   refine tkl [0,1,3] ?_
   iterate 3
    refine tW ?_
    try go_frame
   refine rdy1 2 (fun K hK=>?_)
   go_simp
   refine (pall_as (Like.refl x) rfl (WX_8.out.call D0.out) HFW.out (WL_8.out.call D0.out).1 HMY.out HMK.out).mono ?_;rintro e x1 ⟨q1,rfl,g1,hb9⟩;have D1:=hid (Aa D0.out D0.out.size hb9);have R11:=hid g1;clear hb9 g1
   try go_wp2_with fail
   refine hK.out _ _ (by (first|(with_reducible exact KS.out _ D1.out))) (fun hHeld=>?_)
   clear hK K
   try go_frame
   refine rdy1 4 (fun K hK=>?_)
   go_simp
   refine (psame_as HLZ.out HLZ.out R11.out.w (WZ_8.out.call D1.out) (decide_eq_true rfl)).mono ?_;rintro e x2 ⟨rfl,hb9⟩;have D2:=hid (Aa D1.out D1.out.size hb9);have R12:=hid (R11.out.call hb9);clear hb9 R11
   try go_wp2_with fail
   refine hK.out _ _ (by (first|(with_reducible exact KS.out _ D2.out))) (fun hHeld=>?_)
   clear hK K
   try go_frame
   refine tkl [5,6,7,9] ?_
   iterate 4
    refine tW ?_
    try go_frame
   refine rdy1 8 (fun K hK=>?_)
   go_simp
   refine (pall_as (Like.refl x) HTL.out (WX_8.out.call D2.out) HFW.out (TR_8.out.call D2.out) HTY.out HTM.out).mono ?_;rintro e x3 ⟨q2,rfl,g2,hb9⟩;have D3:=hid (Aa D2.out D2.out.size hb9);have R13:=hid (R12.out.call hb9);have R23:=hid g2;clear hb9 R12 g2
   try go_wp2_with fail
   refine hK.out _ _ (by (first|(with_reducible exact KS.out _ D3.out))) (fun hHeld=>?_)
   clear hK K
   try go_frame
   refine rdy1 10 (fun K hK=>?_)
   go_simp
   refine (psame_as HLZ.out HLZ.out R23.out.w (WZ_8.out.call D3.out) (decide_eq_true rfl)).mono ?_;rintro e x4 ⟨rfl,hb9⟩;have D4:=hid (Aa D3.out D3.out.size hb9);have R14:=hid (R13.out.call hb9);have R24:=hid (R23.out.call hb9);clear hb9 R13 R23
   try go_wp2_with fail
   refine hK.out _ _ (by (first|(with_reducible exact KS.out _ D4.out))) (fun hHeld=>?_)
   clear hK K
   try go_frame
   refine tkl [11,12,13,14,16,18] ?_
   iterate 6
    refine tW ?_
    try go_frame
   refine rdy1 15 (fun K hK=>?_)
   go_simp
   refine (pall_as (Like.refl x) rfl (WX_8.out.call D4.out) HFW.out (WL_8.out.call D4.out).1 HMY.out HMK.out).mono ?_;rintro e x5 ⟨q3,rfl,g3,hb9⟩;have D5:=hid (Aa D4.out D4.out.size hb9);have R15:=hid (R14.out.call hb9);have R25:=hid (R24.out.call hb9);have R35:=hid g3;clear hb9 R14 R24 g3
   try go_wp2_with fail
   refine hK.out _ _ (by (first|(with_reducible exact KS.out _ D5.out))) (fun hHeld=>?_)
   clear hK K
   try go_frame
   refine rdy1 17 (fun K hK=>?_)
   go_simp
   refine (pall_as HLZ.out HTL.out R35.out.w (HLZ.out.few HFW.out) (TR_8.out.call D5.out) (fun c hc=>by rw [HLZ.out.may];exact HTY.out c hc) HTA.out).mono ?_;rintro e x6 ⟨q4,rfl,g4,hb9⟩;have D6:=hid (Aa D5.out D5.out.size hb9);have R16:=hid (R15.out.call hb9);have R26:=hid (R25.out.call hb9);have R36:=hid (R35.out.call hb9);have R46:=hid g4;clear hb9 R15 R25 R35 g4
   try go_wp2_with fail
   refine hK.out _ _ (by (first|(with_reducible exact KS.out _ D6.out))) (fun hHeld=>?_)
   clear hK K
   try go_frame
   refine rdy1 19 (fun K hK=>?_)
   go_simp
   refine (psame_as HLZ.out HLZ.out R46.out.w (WZ_8.out.call D6.out) (decide_eq_true rfl)).mono ?_;rintro e x7 ⟨rfl,hb9⟩;have D7:=hid (Aa D6.out D6.out.size hb9);have R17:=hid (R16.out.call hb9);have R27:=hid (R26.out.call hb9);have R37:=hid (R36.out.call hb9);have R47:=hid (R46.out.call hb9);clear hb9 R16 R26 R36 R46
   try go_wp2_with fail
   refine hK.out _ _ (by (first|(with_reducible exact KS.out _ D7.out))) (fun hHeld=>?_)
   clear hK K
   try go_frame
   refine tkl [20,21,22,23,26,27] ?_
   iterate 6
    refine tW ?_
    try go_frame
   refine rdy1 24 (fun K hK=>?_)
   go_simp
   refine (pfrom_as HLZ.out (Like.refl x) (WZ_8.out.call D7.out) (WX_8.out.call D7.out) (by have:=N3.out;omega) (by have:=N3.out;omega) (by have:=N3.out;omega) HFB.out).mono ?_;rintro e x8 ⟨a5,c5,rfl,g5,hb9⟩;have D8:=hid (Aa D7.out D7.out.size hb9);have R18:=hid (R17.out.call hb9);have R28:=hid (R27.out.call hb9);have R38:=hid (R37.out.call hb9);have R48:=hid (R47.out.call hb9);clear hb9 R17 R27 R37 R47
   try go_wp2_with fail
   refine hK.out _ _ (by (first|(with_reducible exact KS.out _ D8.out))) (fun hHeld=>?_)
   clear hK K
   try go_frame
   have qml:=HQM.out
   refine tkl [25,28,29,30] ?_
   iterate 4
    refine tW ?_
    try go_frame
   refine tkD ?_
   clear hHeld KS
   have B_9:=hid (bl B_8.out D8.out)
   have X_9:=hid (X_8.out.call D8.out)
   have Y_9:=hid (Y_8.out.call D8.out)
   have WX_9:=hid (WX_8.out.call D8.out)
   have WZ_9:=hid (WZ_8.out.call D8.out)
   have WL_9:=hid (WL_8.out.call D8.out)
   have TR_9:=hid (TR_8.out.call D8.out)
   clear B_8 X_8 Y_8 WX_8 WZ_8 WL_8 TR_8 D0 D1 D2 D3 D4 D5 D6 D7 D8 R18 R28 R38 R48
   go_wp2_with fail
   go_ret
   exact ⟨rfl,B_9.out⟩
theorem walk_planOrder (x:Wd) (p:Wp) (y:Wd) (q:Wp) (t:Int) (w:World) (ht:(Lit.int .u8 t).wf=true) (h:Ab w p x) (hv:Ab w q y):Calls prog 6 #[.agg (wC x p),.agg (wC y q),.int .u8 t] w fun e w'=>e=.returned (.bool true)∧Below w.heap.size w w':=by
 have h2:=Ed ht
 obtain ⟨tn,rfl⟩:∃n:Nat,t=n:=⟨t.toNat,by omega⟩
 exact planOrder_go x p y q tn w (by omega) h hv
theorem lifted_planOrder (os:Os) (started:os.Started) (H:Type) (enc:TypeId × Value→H) :
 ReturnsInHanded {} Try.checked os 6 .any (Rows.planOrderSpec.pre6 enc prog Try.f6 Rows.planOrderRow.domain false) (Rows.planOrderSpec.post enc prog Try.f6 false true false false):=by
 refine returnsInHanded_of_change (C:=Try.checked) (by kernel_rfl) started (by kernel_rfl) func6
  (ChangeSpec.witness6 (enc:=enc) (C:=Try.checked) false ⟨#[],#[.agg zC,.agg zC,.int .u8 0],[]⟩ 8 (by kernel_rfl) (by kernel_rfl) (by kernel_rfl) (by kernel_rfl)) ?_
 intro W base args ds gs before hval0 hW hcnd _
 have hval:∀(j:Nat) t v,Try.f6.params[j]?=some t→args[j]?=some v→Value.okWide prog W .any base t v:=hval0
 have hW':=hW
 obtain ⟨p,q,hA0,hV,rfl,hfz,hnd⟩:=hW
 have hA:DataW.TrodAll enc prog W 0 (fun _=>true) true Try.f6.params.toList args.toList ds p:=hA0
 rw [Try.params6] at hA hval
 obtain ⟨v0,vs0,d0,ds0,p0,q0,hargs,rfl,rfl,h0,r0⟩:=trodAll_cons hA
 obtain ⟨v1,vs1,d1,ds1,p1,q1,rfl,rfl,rfl,h1,r1⟩:=trodAll_cons r0
 obtain ⟨v2,vs2,d2,ds2,p2,q2,rfl,rfl,rfl,h2,r2⟩:=trodAll_cons r1
 obtain ⟨rfl,rfl,rfl⟩:=trodAll_nil r2
 obtain rfl:args=#[v0,v1,v2]:=by cases args;simp_all
 obtain ⟨rfl,rfl⟩:=trodVars_none hV
 obtain ⟨wx0,wp0,rfl,m0⟩:=Qz (hval 0 29 v0 rfl rfl) h0
 obtain ⟨wx1,wp1,rfl,m1⟩:=Qz (hval 1 29 v1 rfl rfl) h1
 obtain ⟨a2,rfl,rfl,rfl,w2⟩:=open_int underlying5 (hval 2 5 v2 rfl rfl) h2
 clear hA0 hval0
 simp only [List.append_nil] at hW'
 refine (walk_planOrder wx0 wp0 wx1 wp1 a2 W w2 m0 m1).mono fun e W' ⟨he,hg⟩=>?_
 subst he
 exact ⟨_,rfl,Iy (by kernel_rfl) rfl (by rw [Try.params6];decide +kernel) rfl rfl underlying4 hW' hg⟩
theorem proved_planOrder:Rows.PlanOrderSaid :=
 OpenClaim.holds_of_wide 6 Try.f6 rfl rfl rfl rfl rfl rfl rfl ⟨rfl,rfl,rfl,rfl,rfl⟩ rfl rfl rfl rfl rfl (by kernel_rfl) func6 (by kernel_rfl)
  (of_decide_eq_true (by kernel_rfl)) (by unfold Func.isWrapper;first|(rw [if_pos (by decide +kernel)];kernel_rfl)|(rw [if_neg (by decide +kernel)];exact ⟨rfl,rfl⟩))
  (fun os started H enc _=>lifted_planOrder os started H enc)
#print axioms proved_planOrder
end Go.Proofs.Ytnhkojpbbdaedaa
