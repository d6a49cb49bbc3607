/- PlanMakes: the changes from a world to what a command makes of it make that; none is needed for what stays, and each is needed. -/
import Derived.Test.YtnhkojpbbdaedaaGreatPlanAw
import Derived.Test.YtnhkojpbbdaedaaGreatSessRow
import Derived.Test.YtnhkojpbbdaedaaGreatCmdRead
import Derived.Test.YtnhkojpbbdaedaaGreatAtomAll
namespace Go.Proofs.YtnhkojpbbdaedaaGreat
open Go.ChangeShapes Go.WideShapes Go.ChangeAt Go.RowKit Go.Proofs.Tryz
open Lib (hid)
set_option linter.unusedVariables false
set_option maxRecDepth 100000
open Go.RowKit
theorem Blk.holdsp {w W:World} {n:Nat} {t:TypeId} {A:Array Value} (h:Blk W n t A) (hb:Below w.heap.size w W):Ac w n A W:=⟨hb,h.lt,h.cell⟩
theorem full_eqs {x:Wd} (h:fullB x=true):x.at_.length=x.d.players.length∧x.coins.length=x.d.players.length∧x.wher.length=x.d.items.length:=by
 simp [fullB] at h;exact h
theorem few_lens {x:Wd} (h:fewB x=true):x.at_.length≤40∧x.coins.length≤40∧x.wher.length≤40:=by
 simp [fewB] at h;omega
theorem mset6 {W:World} {g:Nat} {t:TypeId} {c0 c1 c2 c3 c4 c5 u0 u1 u2 u3 u4 u5:Value} (h:Blk W g t #[c0,c1,c2,c3,c4,c5]) :
 Blk ((((((W.setCell ⟨g,0,none⟩ u0).setCell ⟨g,1,none⟩ u1).setCell ⟨g,2,none⟩ u2).setCell ⟨g,3,none⟩ u3).setCell ⟨g,4,none⟩ u4).setCell ⟨g,5,none⟩ u5) g t #[u0,u1,u2,u3,u4,u5]:=by
 have:=(((((h.set_ 0 u0).set_ 1 u1).set_ 2 u2).set_ 3 u3).set_ 4 u4).set_ 5 u5
 simpa using this
theorem mset11 {W:World} {m:Nat} {t:TypeId} {u0 u1 u2 u3 u4 u5 u6 u7 u8 u9 u10:Value} (h:Blk W m t zC) :
 Blk (((((((((((W.setCell ⟨m,0,none⟩ u0).setCell ⟨m,1,none⟩ u1).setCell ⟨m,2,none⟩ u2).setCell ⟨m,3,none⟩ u3).setCell ⟨m,4,none⟩ u4).setCell ⟨m,5,none⟩ u5).setCell ⟨m,6,none⟩ u6).setCell ⟨m,7,none⟩ u7).setCell ⟨m,8,none⟩ u8).setCell ⟨m,9,none⟩ u9).setCell ⟨m,10,none⟩ u10) m t #[u0,u1,u2,u3,u4,u5,u6,u7,u8,u9,u10] :=
 blk_world h (by simp) _ _ _ _ _ _ _ _ _ _ _
theorem from_may {x y:Wd}:∀c∈Ao3 x y,mayX x c=true:=by
 intro c hc
 rcases Dc9.1 hc with ⟨p,hp,-,rfl⟩|⟨p,hp,-,rfl⟩|⟨p,hp,-,rfl⟩<;>simp [mayX,hp]
set_option maxHeartbeats 4000000 in
theorem planMakes_go (x:Wd) (p:Wp) (pn cn:Nat) (c:Cm) (ga wa:Option Addr) (gc wc:Nat) (w:World) (hpn:pn≤255) (hcn:cn≤255) (h:Ab w p x) (hg:Ae w ga c.gives) (hw:Ae w wa c.wants):Calls prog 3 #[.agg (wC x p),.int .u8 (pn:Int),.agg (cC c ga gc wa wc),.int .u8 (cn:Int)] w fun e w'=>e=.returned (.bool true)∧Below w.heap.size w w':=by
 have HW:=hid h
 have HG:=hid hg
 have HA:=hid hw
 have HPN:=hid hpn
 have HCN:=hid hcn
 obtain ⟨f1,hf1⟩:∃b,fewB x=b:=⟨_,rfl⟩
 obtain ⟨f2,hf2⟩:∃b,Ai x=b:=⟨_,rfl⟩
 obtain ⟨f3,hf3⟩:∃b,Dz c=b:=⟨_,rfl⟩
 obtain ⟨f4,hf4⟩:∃b,Ak c=b:=⟨_,rfl⟩
 have HF1:=hid hf1
 have HF2:=hid hf2
 have HF3:=hid hf3
 have HF4:=hid hf4
 clear hf1 hf2 hf3 hf4 hg hw hpn hcn
 have hlx1:=h.at_.len
 have hlx2:=h.co.len
 have hlx3:=h.wh.len
 have P0:=Ac.pair w (wC x p) (cC c ga gc wa wc) 29 31
 have X_0:=hid P0.1
 have C_0:=hid P0.2
 clear P0 h
 have hWC:=@wC.eq_1
 have hZC:=@zC.eq_1
 have hCC:=@cC.eq_1
 go_enter func3,ntmps3
 go_wp2_with fail
 generalize (w.alloc (.cells (wC x p) 29)).alloc (.cells (cC c ga gc wa wc) 31)=V0 at *
 have B_0:=hid X_0.out.1
 refine (awake18_any _).mono ?_
 rintro e u1 ⟨rfl,b1⟩
 have B_1:=hid (bl B_0.out b1)
 have X_1:=hid (X_0.out.call b1)
 have C_1:=hid (C_0.out.call b1)
 clear b1 B_0 X_0 C_0
 have hcX:=X_1.out.2.2
 have hlX:=X_1.out.2.1
 have hcC:=C_1.out.2.2
 have hlC:=C_1.out.2.1
 go_wp2_with fail
 refine (El x p _).mono ?_
 rintro e u2 ⟨rfl,b2⟩
 rw [HF1.out]
 clear hcX hlX hcC hlC
 have B_2:=hid (bl B_1.out b2)
 have X_2:=hid (X_1.out.call b2)
 have C_2:=hid (C_1.out.call b2)
 clear b2 B_1 X_1 C_1
 have hcX:=X_2.out.2.2
 have hlX:=X_2.out.2.1
 have hcC:=C_2.out.2.2
 have hlC:=C_2.out.2.1
 cases f1
 ·
  go_wp2_with fail
  refine (awake18_any _).mono ?_
  rintro e u3 ⟨rfl,b3⟩
  clear hcX hlX hcC hlC
  have B_3:=hid (bl B_2.out b3)
  have X_3:=hid (X_2.out.call b3)
  have C_3:=hid (C_2.out.call b3)
  clear b3 B_2 X_2 C_2
  have hcX:=X_3.out.2.2
  have hlX:=X_3.out.2.1
  have hcC:=C_3.out.2.2
  have hlC:=C_3.out.2.1
  go_wp2_with fail
  go_ret
  exact ⟨rfl,B_3.out⟩
 go_wp2_with fail
 refine (Mt (Am.refl x) p _ (HW.out.below B_2.out (Nat.le_refl _))).mono ?_
 rintro e u3 ⟨rfl,b3⟩
 rw [HF2.out]
 clear hcX hlX hcC hlC
 have B_3:=hid (bl B_2.out b3)
 have X_3:=hid (X_2.out.call b3)
 have C_3:=hid (C_2.out.call b3)
 clear b3 B_2 X_2 C_2
 have hcX:=X_3.out.2.2
 have hlX:=X_3.out.2.1
 have hcC:=C_3.out.2.2
 have hlC:=C_3.out.2.1
 cases f2
 ·
  go_wp2_with fail
  refine (awake18_any _).mono ?_
  rintro e u4 ⟨rfl,b4⟩
  clear hcX hlX hcC hlC
  have B_4:=hid (bl B_3.out b4)
  have X_4:=hid (X_3.out.call b4)
  have C_4:=hid (C_3.out.call b4)
  clear b4 B_3 X_3 C_3
  have hcX:=X_4.out.2.2
  have hlX:=X_4.out.2.1
  have hcC:=C_4.out.2.2
  have hlC:=C_4.out.2.1
  go_wp2_with fail
  go_ret
  exact ⟨rfl,B_4.out⟩
 go_wp2_with fail
 refine (Cy c ga wa gc wc _ (HG.out.below B_3.out (Nat.le_refl _)) (HA.out.below B_3.out (Nat.le_refl _))).mono ?_
 rintro e u4 ⟨rfl,b4⟩
 rw [HF3.out]
 clear hcX hlX hcC hlC
 have B_4:=hid (bl B_3.out b4)
 have X_4:=hid (X_3.out.call b4)
 have C_4:=hid (C_3.out.call b4)
 clear b4 B_3 X_3 C_3
 have hcX:=X_4.out.2.2
 have hlX:=X_4.out.2.1
 have hcC:=C_4.out.2.2
 have hlC:=C_4.out.2.1
 cases f3
 ·
  go_wp2_with fail
  refine (awake18_any _).mono ?_
  rintro e u5 ⟨rfl,b5⟩
  clear hcX hlX hcC hlC
  have B_5:=hid (bl B_4.out b5)
  have X_5:=hid (X_4.out.call b5)
  have C_5:=hid (C_4.out.call b5)
  clear b5 B_4 X_4 C_4
  have hcX:=X_5.out.2.2
  have hlX:=X_5.out.2.1
  have hcC:=C_5.out.2.2
  have hlC:=C_5.out.2.1
  go_wp2_with fail
  go_ret
  exact ⟨rfl,B_5.out⟩
 go_wp2_with fail
 refine (Bw c ga wa gc wc _ (HG.out.below B_4.out (Nat.le_refl _)) (HA.out.below B_4.out (Nat.le_refl _))).mono ?_
 rintro e u5 ⟨rfl,b5⟩
 rw [HF4.out]
 clear hcX hlX hcC hlC
 have B_5:=hid (bl B_4.out b5)
 have X_5:=hid (X_4.out.call b5)
 have C_5:=hid (C_4.out.call b5)
 clear b5 B_4 X_4 C_4
 have hcX:=X_5.out.2.2
 have hlX:=X_5.out.2.1
 have hcC:=C_5.out.2.2
 have hlC:=C_5.out.2.1
 cases f4
 ·
  go_wp2_with fail
  refine (awake18_any _).mono ?_
  rintro e u6 ⟨rfl,b6⟩
  clear hcX hlX hcC hlC
  have B_6:=hid (bl B_5.out b6)
  have X_6:=hid (X_5.out.call b6)
  have C_6:=hid (C_5.out.call b6)
  clear b6 B_5 X_5 C_5
  have hcX:=X_6.out.2.2
  have hlX:=X_6.out.2.1
  have hcC:=C_6.out.2.2
  have hlC:=C_6.out.2.1
  go_wp2_with fail
  go_ret
  exact ⟨rfl,B_6.out⟩
 have hx:=HF2.out
 have hlp:0<x.at_.length:=(Aj hx).1
 have hpn:=HPN.out
 obtain ⟨i,hi⟩:∃i,pn%x.at_.length=i:=⟨_,rfl⟩
 have hil:i<x.at_.length:=by rw [←hi];exact Nat.mod_lt _ hlp
 have wp:IntKind.i64.wrap (pn:Int)=(pn:Int):=IntWalk.i64_in _ (by omega)
 have m1:(pn:Int).tmod (x.at_.length:Int)=(i:Int):=by rw [←hi];rfl
 have m2:(pn:Int)%(x.at_.length:Int)=(i:Int):=by rw [←hi];rfl
 have q0:((x.at_.length:Int)==0)=false:=by rw [beq_eq_false_iff_ne];omega
 have q1:¬x.at_=[]:=List.length_pos_iff.1 hlp
 obtain ⟨R,hR⟩:∃R,doW x i c=R:=⟨_,rfl⟩
 have HR:=hid hR
 have HLY:=hid (show Like x R.1 from by have hs:=Rh x i c;have hd:=(Gu9 hx hil c).1;rw [hR] at hs hd;exact ⟨hd,hs.at_,hs.c,hs.w⟩)
 have HST:=hid (show ¬R.2.err=0→R.1=x from fun h=>by subst hR;exact Er3 (.inl h))
 have HIL:=hid hil
 have HX:=hid hx
 have HFW:=hid (Vu HF1.out)
 have N3:=hid (few_lens HF1.out)
 clear hi hlp hR hx hpn
 have hil2:=hil
 go_upto_region 3 with fail
 obtain ⟨x1,hx1⟩:∃z,z=u5:=⟨_,rfl⟩
 subst hx1
 go_cut [9,10] (fun sp sr wx=>∃(nb rb:Nat) (q2:Wp) (qa ia:Option Addr) (qc ic:Nat),sp=.pointer (some ⟨nb,0,none⟩)∧sr=.pointer (some ⟨rb,0,none⟩)∧Blk wx nb 29 (wC x q2)∧Blk wx rb 38 #[.int .i64 R.2.err,.int .i64 R.2.kind,.int .i64 R.2.room,.slice qa R.2.players.length qc,.slice ia R.2.items.length ic,.int .i64 R.2.coins]∧Did x1.heap.size wx p q2 x qa ia R∧Below x1.heap.size x1 wx)
 case first =>
  clear hcX hlX hcC hlC
  have KS:Hid (∀w',Below x1.heap.size x1 w'→Below x1.heap.size x1 w'∧(∀ii,w'.cell? ⟨w.heap.size,ii,none⟩=((wC x p)[ii]?:Option Value))∧(∀ii,w'.cell? ⟨w.heap.size+1,ii,none⟩=((cC c ga gc wa wc)[ii]?:Option Value))):=hid (fun w' hb=>⟨hb,fun ii=>(hb.cell (p:=⟨w.heap.size,ii,none⟩) X_5.out.2.1).trans (X_5.out.2.2 ii),fun ii=>(hb.cell (p:=⟨w.heap.size+1,ii,none⟩) C_5.out.2.1).trans (C_5.out.2.2 ii)⟩)
  refine tkS (S:=(fun w'=>Below x1.heap.size x1 w'∧(∀ii,w'.cell? ⟨w.heap.size,ii,none⟩=((wC x p)[ii]?:Option Value))∧(∀ii,w'.cell? ⟨w.heap.size+1,ii,none⟩=((cC c ga gc wa wc)[ii]?:Option Value)))) (by (first|(with_reducible exact KS.out _ (Af (Below.refl _ _))))) (fun hHeld=>?_)
  refine tkl [0,1,2,3,4,5,6,7] ?_
  iterate 8
   refine tW ?_
   try go_frame
  refine wpAnyH_ready (rs:=[8,12,13]) (by kernel_rfl) (by simp) (AllReadyH.cons (by simp only [List.getElem?_toArray,List.getElem?_cons_succ,List.getElem?_cons_zero];rfl) (fun K hK=>?_) (AllReadyH.cons (by simp only [List.getElem?_toArray,List.getElem?_cons_succ,List.getElem?_cons_zero];rfl) (fun K hK=>?_) (AllReadyH.cons (by simp only [List.getElem?_toArray,List.getElem?_cons_succ,List.getElem?_cons_zero];rfl) (fun K hK=>?_) AllReadyH.nil)))
  ·skip
   have D8:=hid (show Below x1.heap.size x1 x1.drew from Af (Below.refl _ _))
   skip
   go_simp
   refine (Pw (Am.refl x) p i c ga wa gc wc _ HX.out (HW.out.below (bl B_5.out D8.out) (Nat.le_refl _)) hil2 (HG.out.below (bl B_5.out D8.out) (Nat.le_refl _)) (HA.out.below (bl B_5.out D8.out) (Nat.le_refl _)) HR.out).mono ?_;rintro e9 w9 ⟨q2,qa9,ia9,qc9,ic9,rfl,dd,hb9⟩;have HB9:=hid (Aa D8.out D8.out.size hb9);have DD:=hid dd;clear dd;clear hb9
   try go_wp2_with fail
   refine hK.out _ _ (by (first|(with_reducible exact KS.out _ HB9.out))) (fun hHeld=>?_)
   clear hK K
   try go_frame
   refine tkl [9,10,11] ?_
   iterate 3
    refine tW ?_
    try go_frame
   refine wpAnyH_ready (rs:=[12,13]) (by kernel_rfl) (by simp) (AllReadyH.cons (by simp only [List.getElem?_toArray,List.getElem?_cons_succ,List.getElem?_cons_zero];rfl) (fun K hK=>?_) (AllReadyH.cons (by simp only [List.getElem?_toArray,List.getElem?_cons_succ,List.getElem?_cons_zero];rfl) (fun K hK=>?_) AllReadyH.nil))
   ·skip
    go_simp
    try go_wp2_with fail
    refine hK.out _ _ (by (first|((with_reducible refine KS.out _ ?_);repeat (first|(with_reducible exact HB9.out)|(with_reducible refine Below.setCell ?_ (by first|exact Nat.le_refl _|exact Nat.le_succ _|(have h8:=HB9.out.size;show x1.heap.size≤_;omega)) _)|(with_reducible refine Below.alloc ?_ (by first|exact HB9.out.size|(simp;have h8:=HB9.out.size;omega)|(simp [World.setCell];have h8:=HB9.out.size;omega)) _))))) (fun hHeld=>?_)
    clear hK K
    try go_frame
    refine rdy1 13 (fun K hK=>?_)
    go_simp
    try go_wp2_with fail
    refine hK.out _ _ (by (first|((with_reducible refine KS.out _ ?_);repeat (first|(with_reducible exact HB9.out)|(with_reducible refine Below.setCell ?_ (by first|exact Nat.le_refl _|exact Nat.le_succ _|(have h8:=HB9.out.size;show x1.heap.size≤_;omega)) _)|(with_reducible refine Below.alloc ?_ (by first|exact HB9.out.size|(simp;have h8:=HB9.out.size;omega)|(simp [World.setCell];have h8:=HB9.out.size;omega)) _))))) (fun hHeld=>?_)
    clear hK K
    try go_frame
    refine rdy1 14 (fun K hK=>?_)
    go_simp
    try go_wp2_with fail
    refine hK.out _ _ (by (first|((with_reducible refine KS.out _ ?_);repeat (first|(with_reducible exact HB9.out)|(with_reducible refine Below.setCell ?_ (by first|exact Nat.le_refl _|exact Nat.le_succ _|(have h8:=HB9.out.size;show x1.heap.size≤_;omega)) _)|(with_reducible refine Below.alloc ?_ (by first|exact HB9.out.size|(simp;have h8:=HB9.out.size;omega)|(simp [World.setCell];have h8:=HB9.out.size;omega)) _))))) (fun hHeld=>?_)
    clear hK K
    try go_frame
    refine rdy1 15 (fun K hK=>?_)
    go_simp
    try go_wp2_with fail
    refine hK.out _ _ (by (first|((with_reducible refine KS.out _ ?_);repeat (first|(with_reducible exact HB9.out)|(with_reducible refine Below.setCell ?_ (by first|exact Nat.le_refl _|exact Nat.le_succ _|(have h8:=HB9.out.size;show x1.heap.size≤_;omega)) _)|(with_reducible refine Below.alloc ?_ (by first|exact HB9.out.size|(simp;have h8:=HB9.out.size;omega)|(simp [World.setCell];have h8:=HB9.out.size;omega)) _))))) (fun hHeld=>?_)
    clear hK K
    try go_frame
    refine tkD ?_
    clear hHeld
    go_wp2_with fail
    go_meet
    exact ⟨w9.heap.size,w9.heap.size+1,q2,qa9,ia9,qc9,ic9,rfl,rfl,(by repeat (first|(with_reducible exact Blk.newn _ _ _ (by first|rfl|(show _=_+1;simp)|simp [World.setCell]))|(with_reducible refine Blk.alloc ?_ _)|(with_reducible refine Blk.far ?_ (by first|assumption|(dsimp only;omega)|(show _≠_;have h8:=HB9.out.size;omega)) _))),(by repeat (first|(with_reducible exact Blk.newn _ _ _ (by first|rfl|(show _=_+1;simp)|simp [World.setCell]))|(with_reducible refine Blk.alloc ?_ _)|(with_reducible refine Blk.far ?_ (by first|assumption|(dsimp only;omega)|(show _≠_;have h8:=HB9.out.size;omega)) _))),(by (refine Did.less (n:=x1.drew.heap.size) ?_ (by first|exact Nat.le_refl _|(simp [World.drew];done)|(simp [World.drew];omega)));repeat (first|(with_reducible exact DD.out)|(with_reducible refine Did.set ?_ (by simp [World.drew];try omega) _ _)|(with_reducible refine Did.call ?_ (b_a _)))),(by repeat (first|(with_reducible exact HB9.out)|(with_reducible refine Below.setCell ?_ (by first|exact Nat.le_refl _|exact Nat.le_succ _|(have h8:=HB9.out.size;show x1.heap.size≤_;omega)) _)|(with_reducible refine Below.alloc ?_ (by first|exact HB9.out.size|(simp;have h8:=HB9.out.size;omega)|(simp [World.setCell];have h8:=HB9.out.size;omega)) _)))⟩
   ·skip
    go_simp
    try go_wp2_with fail
    refine hK.out _ _ (by (first|((with_reducible refine KS.out _ ?_);repeat (first|(with_reducible exact HB9.out)|(with_reducible refine Below.setCell ?_ (by first|exact Nat.le_refl _|exact Nat.le_succ _|(have h8:=HB9.out.size;show x1.heap.size≤_;omega)) _)|(with_reducible refine Below.alloc ?_ (by first|exact HB9.out.size|(simp;have h8:=HB9.out.size;omega)|(simp [World.setCell];have h8:=HB9.out.size;omega)) _))))) (fun hHeld=>?_)
    clear hK K
    try go_frame
    refine rdy1 12 (fun K hK=>?_)
    go_simp
    try go_wp2_with fail
    refine hK.out _ _ (by (first|((with_reducible refine KS.out _ ?_);repeat (first|(with_reducible exact HB9.out)|(with_reducible refine Below.setCell ?_ (by first|exact Nat.le_refl _|exact Nat.le_succ _|(have h8:=HB9.out.size;show x1.heap.size≤_;omega)) _)|(with_reducible refine Below.alloc ?_ (by first|exact HB9.out.size|(simp;have h8:=HB9.out.size;omega)|(simp [World.setCell];have h8:=HB9.out.size;omega)) _))))) (fun hHeld=>?_)
    clear hK K
    try go_frame
    refine rdy1 14 (fun K hK=>?_)
    go_simp
    try go_wp2_with fail
    refine hK.out _ _ (by (first|((with_reducible refine KS.out _ ?_);repeat (first|(with_reducible exact HB9.out)|(with_reducible refine Below.setCell ?_ (by first|exact Nat.le_refl _|exact Nat.le_succ _|(have h8:=HB9.out.size;show x1.heap.size≤_;omega)) _)|(with_reducible refine Below.alloc ?_ (by first|exact HB9.out.size|(simp;have h8:=HB9.out.size;omega)|(simp [World.setCell];have h8:=HB9.out.size;omega)) _))))) (fun hHeld=>?_)
    clear hK K
    try go_frame
    refine rdy1 15 (fun K hK=>?_)
    go_simp
    try go_wp2_with fail
    refine hK.out _ _ (by (first|((with_reducible refine KS.out _ ?_);repeat (first|(with_reducible exact HB9.out)|(with_reducible refine Below.setCell ?_ (by first|exact Nat.le_refl _|exact Nat.le_succ _|(have h8:=HB9.out.size;show x1.heap.size≤_;omega)) _)|(with_reducible refine Below.alloc ?_ (by first|exact HB9.out.size|(simp;have h8:=HB9.out.size;omega)|(simp [World.setCell];have h8:=HB9.out.size;omega)) _))))) (fun hHeld=>?_)
    clear hK K
    try go_frame
    refine tkD ?_
    clear hHeld
    go_wp2_with fail
    go_meet
    exact ⟨w9.heap.size+1,w9.heap.size,q2,qa9,ia9,qc9,ic9,rfl,rfl,(by repeat (first|(with_reducible exact Blk.newn _ _ _ (by first|rfl|(show _=_+1;simp)|simp [World.setCell]))|(with_reducible refine Blk.alloc ?_ _)|(with_reducible refine Blk.far ?_ (by first|assumption|(dsimp only;omega)|(show _≠_;have h8:=HB9.out.size;omega)) _))),(by repeat (first|(with_reducible exact Blk.newn _ _ _ (by first|rfl|(show _=_+1;simp)|simp [World.setCell]))|(with_reducible refine Blk.alloc ?_ _)|(with_reducible refine Blk.far ?_ (by first|assumption|(dsimp only;omega)|(show _≠_;have h8:=HB9.out.size;omega)) _))),(by (refine Did.less (n:=x1.drew.heap.size) ?_ (by first|exact Nat.le_refl _|(simp [World.drew];done)|(simp [World.drew];omega)));repeat (first|(with_reducible exact DD.out)|(with_reducible refine Did.set ?_ (by simp [World.drew];try omega) _ _)|(with_reducible refine Did.call ?_ (b_a _)))),(by repeat (first|(with_reducible exact HB9.out)|(with_reducible refine Below.setCell ?_ (by first|exact Nat.le_refl _|exact Nat.le_succ _|(have h8:=HB9.out.size;show x1.heap.size≤_;omega)) _)|(with_reducible refine Below.alloc ?_ (by first|exact HB9.out.size|(simp;have h8:=HB9.out.size;omega)|(simp [World.setCell];have h8:=HB9.out.size;omega)) _)))⟩
  ·skip
   go_simp
   try go_wp2_with fail
   refine hK.out _ _ (by (first|(with_reducible exact KS.out _ (Af (Below.alloc (Below.refl _ _) (Nat.le_refl _) _))))) (fun hHeld=>?_)
   clear hK K
   try go_frame
   refine wpAnyH_ready (rs:=[8,13]) (by kernel_rfl) (by simp) (AllReadyH.cons (by simp only [List.getElem?_toArray,List.getElem?_cons_succ,List.getElem?_cons_zero];rfl) (fun K hK=>?_) (AllReadyH.cons (by simp only [List.getElem?_toArray,List.getElem?_cons_succ,List.getElem?_cons_zero];rfl) (fun K hK=>?_) AllReadyH.nil))
   ·skip
    have D8:=hid (show Below x1.heap.size x1 (x1.alloc (.cells zC 29)).drew from Af (Below.alloc (Below.refl _ _) (Nat.le_refl _) _))
    skip
    go_simp
    refine (Pw (Am.refl x) p i c ga wa gc wc _ HX.out (HW.out.below (bl B_5.out D8.out) (Nat.le_refl _)) hil2 (HG.out.below (bl B_5.out D8.out) (Nat.le_refl _)) (HA.out.below (bl B_5.out D8.out) (Nat.le_refl _)) HR.out).mono ?_;rintro e9 w9 ⟨q2,qa9,ia9,qc9,ic9,rfl,dd,hb9⟩;have HB9:=hid (Aa D8.out D8.out.size hb9);have DD:=hid dd;clear dd;have BGA:=hid (show Blk w9 (x1.heap.size) 29 zC from (Blk.drew ((Blk.new x1 29 zC))).call hb9);clear hb9
    try go_wp2_with fail
    refine hK.out _ _ (by (first|(with_reducible exact KS.out _ HB9.out))) (fun hHeld=>?_)
    clear hK K
    try go_frame
    refine tkl [9,10,11] ?_
    iterate 3
     refine tW ?_
     try go_frame
    have cgA:=BGA.out.cell
    have lgA:=BGA.out.lt
    have zgA:=BGA.out.frozen
    refine rdy1 13 (fun K hK=>?_)
    go_simp
    try go_wp2_with fail
    refine hK.out _ _ (by (first|((with_reducible refine KS.out _ ?_);repeat (first|(with_reducible exact HB9.out)|(with_reducible refine Below.setCell ?_ (by first|exact Nat.le_refl _|exact Nat.le_succ _|(have h8:=HB9.out.size;show x1.heap.size≤_;omega)) _)|(with_reducible refine Below.alloc ?_ (by first|exact HB9.out.size|(simp;have h8:=HB9.out.size;omega)|(simp [World.setCell];have h8:=HB9.out.size;omega)) _))))) (fun hHeld=>?_)
    clear hK K
    try go_frame
    have nAB:x1.heap.size≠w9.heap.size:=by have:=BGA.out.lt;omega
    have nBA:w9.heap.size≠x1.heap.size:=by have:=BGA.out.lt;omega
    refine rdy1 14 (fun K hK=>?_)
    go_simp
    try go_wp2_with fail
    refine hK.out _ _ (by (first|((with_reducible refine KS.out _ ?_);repeat (first|(with_reducible exact HB9.out)|(with_reducible refine Below.setCell ?_ (by first|exact Nat.le_refl _|exact Nat.le_succ _|(have h8:=HB9.out.size;show x1.heap.size≤_;omega)) _)|(with_reducible refine Below.alloc ?_ (by first|exact HB9.out.size|(simp;have h8:=HB9.out.size;omega)|(simp [World.setCell];have h8:=HB9.out.size;omega)) _))))) (fun hHeld=>?_)
    clear hK K
    try go_frame
    refine rdy1 15 (fun K hK=>?_)
    go_simp
    try go_wp2_with fail
    refine hK.out _ _ (by (first|((with_reducible refine KS.out _ ?_);repeat (first|(with_reducible exact HB9.out)|(with_reducible refine Below.setCell ?_ (by first|exact Nat.le_refl _|exact Nat.le_succ _|(have h8:=HB9.out.size;show x1.heap.size≤_;omega)) _)|(with_reducible refine Below.alloc ?_ (by first|exact HB9.out.size|(simp;have h8:=HB9.out.size;omega)|(simp [World.setCell];have h8:=HB9.out.size;omega)) _))))) (fun hHeld=>?_)
    clear hK K
    try go_frame
    refine tkD ?_
    clear hHeld cgA zgA
    go_wp2_with fail
    go_meet
    exact ⟨x1.heap.size,w9.heap.size,q2,qa9,ia9,qc9,ic9,rfl,rfl,(by repeat (first|(with_reducible exact mset11 BGA.out)|(with_reducible refine Blk.alloc ?_ _)|(with_reducible refine Blk.far ?_ (by first|assumption|(dsimp only;omega)|(show _≠_;have hA:=BGA.out.lt;have h8:=HB9.out.size;omega)) _))),(by repeat (first|(with_reducible exact Blk.newn _ _ _ (by first|rfl|(show _=_+1;simp)|simp [World.setCell]))|(with_reducible refine Blk.alloc ?_ _)|(with_reducible refine Blk.far ?_ (by first|assumption|(dsimp only;omega)|(show _≠_;have hA:=BGA.out.lt;have h8:=HB9.out.size;omega)) _))),(by (refine Did.less (n:=(x1.alloc (.cells zC 29)).drew.heap.size) ?_ (by first|exact Nat.le_refl _|(simp [World.drew];done)|(simp [World.drew];omega)));repeat (first|(with_reducible exact DD.out)|(with_reducible refine Did.set ?_ (by simp [World.drew];try omega) _ _)|(with_reducible refine Did.call ?_ (b_a _)))),(by repeat (first|(with_reducible exact HB9.out)|(with_reducible refine Below.setCell ?_ (by first|exact Nat.le_refl _|exact Nat.le_succ _|(have h8:=HB9.out.size;show x1.heap.size≤_;omega)) _)|(with_reducible refine Below.alloc ?_ (by first|exact HB9.out.size|(simp;have h8:=HB9.out.size;omega)|(simp [World.setCell];have h8:=HB9.out.size;omega)) _)))⟩
   ·skip
    go_simp
    try go_wp2_with fail
    refine hK.out _ _ (by (first|(with_reducible exact KS.out _ (Af (Below.alloc (Below.alloc (Below.refl _ _) (Nat.le_refl _) _) (by simp) _))))) (fun hHeld=>?_)
    clear hK K
    try go_frame
    have D8:=hid (show Below x1.heap.size x1 ((x1.alloc (.cells zC 29)).alloc (.cells #[.int .i64 0,.int .i64 0,.int .i64 0,.slice none 0 0,.slice none 0 0,.int .i64 0] 38)).drew from Af (Below.alloc (Below.alloc (Below.refl _ _) (Nat.le_refl _) _) (by simp) _))
    refine rdy1 8 (fun K hK=>?_)
    go_simp
    refine (Pw (Am.refl x) p i c ga wa gc wc _ HX.out (HW.out.below (bl B_5.out D8.out) (Nat.le_refl _)) hil2 (HG.out.below (bl B_5.out D8.out) (Nat.le_refl _)) (HA.out.below (bl B_5.out D8.out) (Nat.le_refl _)) HR.out).mono ?_;rintro e9 w9 ⟨q2,qa9,ia9,qc9,ic9,rfl,dd,hb9⟩;have HB9:=hid (Aa D8.out D8.out.size hb9);have DD:=hid dd;clear dd;have BGA:=hid (show Blk w9 (x1.heap.size) 29 zC from (Blk.drew ((Blk.new x1 29 zC).alloc _)).call hb9);have BGB:=hid (show Blk w9 (x1.heap.size+1) 38 #[.int .i64 0,.int .i64 0,.int .i64 0,.slice none 0 0,.slice none 0 0,.int .i64 0] from (Blk.drew ((Blk.newn (x1.alloc (.cells zC 29)) 38 #[.int .i64 0,.int .i64 0,.int .i64 0,.slice none 0 0,.slice none 0 0,.int .i64 0] (by simp)))).call hb9);clear hb9
    try go_wp2_with fail
    refine hK.out _ _ (by (first|(with_reducible exact KS.out _ HB9.out))) (fun hHeld=>?_)
    clear hK K
    try go_frame
    refine tkl [9,10,11] ?_
    iterate 3
     refine tW ?_
     try go_frame
    have cgA:=BGA.out.cell
    have lgA:=BGA.out.lt
    have zgA:=BGA.out.frozen
    have cgB:=BGB.out.cell
    have lgB:=BGB.out.lt
    have zgB:=BGB.out.frozen
    refine rdy1 14 (fun K hK=>?_)
    go_simp
    try go_wp2_with fail
    refine hK.out _ _ (by (first|((with_reducible refine KS.out _ ?_);repeat (first|(with_reducible exact HB9.out)|(with_reducible refine Below.setCell ?_ (by first|exact Nat.le_refl _|exact Nat.le_succ _|(have h8:=HB9.out.size;show x1.heap.size≤_;omega)) _)|(with_reducible refine Below.alloc ?_ (by first|exact HB9.out.size|(simp;have h8:=HB9.out.size;omega)|(simp [World.setCell];have h8:=HB9.out.size;omega)) _))))) (fun hHeld=>?_)
    clear hK K
    try go_frame
    refine rdy1 15 (fun K hK=>?_)
    go_simp
    try go_wp2_with fail
    refine hK.out _ _ (by (first|((with_reducible refine KS.out _ ?_);repeat (first|(with_reducible exact HB9.out)|(with_reducible refine Below.setCell ?_ (by first|exact Nat.le_refl _|exact Nat.le_succ _|(have h8:=HB9.out.size;show x1.heap.size≤_;omega)) _)|(with_reducible refine Below.alloc ?_ (by first|exact HB9.out.size|(simp;have h8:=HB9.out.size;omega)|(simp [World.setCell];have h8:=HB9.out.size;omega)) _))))) (fun hHeld=>?_)
    clear hK K
    try go_frame
    refine tkD ?_
    clear hHeld cgA zgA cgB zgB
    go_wp2_with fail
    go_meet
    exact ⟨x1.heap.size,x1.heap.size+1,q2,qa9,ia9,qc9,ic9,rfl,rfl,(by repeat (first|(with_reducible exact mset11 BGA.out)|(with_reducible refine Blk.alloc ?_ _)|(with_reducible refine Blk.far ?_ (by first|assumption|(dsimp only;omega)|(show _≠_;have hA:=BGA.out.lt;have hB:=BGB.out.lt;have h8:=HB9.out.size;omega)) _))),(by (refine mset6 (c0:=.int .i64 0) (c1:=.int .i64 0) (c2:=.int .i64 0) (c3:=.slice none 0 0) (c4:=.slice none 0 0) (c5:=.int .i64 0) ?_);(iterate 11 with_reducible refine Blk.far ?_ (by dsimp only;omega) _);with_reducible exact BGB.out),(by (refine Did.less (n:=((x1.alloc (.cells zC 29)).alloc (.cells #[.int .i64 0,.int .i64 0,.int .i64 0,.slice none 0 0,.slice none 0 0,.int .i64 0] 38)).drew.heap.size) ?_ (by first|exact Nat.le_refl _|(simp [World.drew];done)|(simp [World.drew];omega)));repeat (first|(with_reducible exact DD.out)|(with_reducible refine Did.set ?_ (by simp [World.drew];try omega) _ _)|(with_reducible refine Did.call ?_ (b_a _)))),(by repeat (first|(with_reducible exact HB9.out)|(with_reducible refine Below.setCell ?_ (by first|exact Nat.le_refl _|exact Nat.le_succ _|(have h8:=HB9.out.size;show x1.heap.size≤_;omega)) _)|(with_reducible refine Below.alloc ?_ (by first|exact HB9.out.size|(simp;have h8:=HB9.out.size;omega)|(simp [World.setCell];have h8:=HB9.out.size;omega)) _)))⟩
  ·skip
   go_simp
   try go_wp2_with fail
   refine hK.out _ _ (by (first|(with_reducible exact KS.out _ (Af (Below.alloc (Below.refl _ _) (Nat.le_refl _) _))))) (fun hHeld=>?_)
   clear hK K
   try go_frame
   refine wpAnyH_ready (rs:=[8,12]) (by kernel_rfl) (by simp) (AllReadyH.cons (by simp only [List.getElem?_toArray,List.getElem?_cons_succ,List.getElem?_cons_zero];rfl) (fun K hK=>?_) (AllReadyH.cons (by simp only [List.getElem?_toArray,List.getElem?_cons_succ,List.getElem?_cons_zero];rfl) (fun K hK=>?_) AllReadyH.nil))
   ·skip
    have D8:=hid (show Below x1.heap.size x1 (x1.alloc (.cells #[.int .i64 0,.int .i64 0,.int .i64 0,.slice none 0 0,.slice none 0 0,.int .i64 0] 38)).drew from Af (Below.alloc (Below.refl _ _) (Nat.le_refl _) _))
    skip
    go_simp
    refine (Pw (Am.refl x) p i c ga wa gc wc _ HX.out (HW.out.below (bl B_5.out D8.out) (Nat.le_refl _)) hil2 (HG.out.below (bl B_5.out D8.out) (Nat.le_refl _)) (HA.out.below (bl B_5.out D8.out) (Nat.le_refl _)) HR.out).mono ?_;rintro e9 w9 ⟨q2,qa9,ia9,qc9,ic9,rfl,dd,hb9⟩;have HB9:=hid (Aa D8.out D8.out.size hb9);have DD:=hid dd;clear dd;have BGB:=hid (show Blk w9 (x1.heap.size) 38 #[.int .i64 0,.int .i64 0,.int .i64 0,.slice none 0 0,.slice none 0 0,.int .i64 0] from (Blk.drew ((Blk.new x1 38 #[.int .i64 0,.int .i64 0,.int .i64 0,.slice none 0 0,.slice none 0 0,.int .i64 0]))).call hb9);clear hb9
    try go_wp2_with fail
    refine hK.out _ _ (by (first|(with_reducible exact KS.out _ HB9.out))) (fun hHeld=>?_)
    clear hK K
    try go_frame
    refine tkl [9,10,11] ?_
    iterate 3
     refine tW ?_
     try go_frame
    have cgB:=BGB.out.cell
    have lgB:=BGB.out.lt
    have zgB:=BGB.out.frozen
    refine rdy1 12 (fun K hK=>?_)
    go_simp
    try go_wp2_with fail
    refine hK.out _ _ (by (first|((with_reducible refine KS.out _ ?_);repeat (first|(with_reducible exact HB9.out)|(with_reducible refine Below.setCell ?_ (by first|exact Nat.le_refl _|exact Nat.le_succ _|(have h8:=HB9.out.size;show x1.heap.size≤_;omega)) _)|(with_reducible refine Below.alloc ?_ (by first|exact HB9.out.size|(simp;have h8:=HB9.out.size;omega)|(simp [World.setCell];have h8:=HB9.out.size;omega)) _))))) (fun hHeld=>?_)
    clear hK K
    try go_frame
    have nBA:x1.heap.size≠w9.heap.size:=by have:=BGB.out.lt;omega
    have nAB:w9.heap.size≠x1.heap.size:=by have:=BGB.out.lt;omega
    refine rdy1 14 (fun K hK=>?_)
    go_simp
    try go_wp2_with fail
    refine hK.out _ _ (by (first|((with_reducible refine KS.out _ ?_);repeat (first|(with_reducible exact HB9.out)|(with_reducible refine Below.setCell ?_ (by first|exact Nat.le_refl _|exact Nat.le_succ _|(have h8:=HB9.out.size;show x1.heap.size≤_;omega)) _)|(with_reducible refine Below.alloc ?_ (by first|exact HB9.out.size|(simp;have h8:=HB9.out.size;omega)|(simp [World.setCell];have h8:=HB9.out.size;omega)) _))))) (fun hHeld=>?_)
    clear hK K
    try go_frame
    refine rdy1 15 (fun K hK=>?_)
    go_simp
    try go_wp2_with fail
    refine hK.out _ _ (by (first|((with_reducible refine KS.out _ ?_);repeat (first|(with_reducible exact HB9.out)|(with_reducible refine Below.setCell ?_ (by first|exact Nat.le_refl _|exact Nat.le_succ _|(have h8:=HB9.out.size;show x1.heap.size≤_;omega)) _)|(with_reducible refine Below.alloc ?_ (by first|exact HB9.out.size|(simp;have h8:=HB9.out.size;omega)|(simp [World.setCell];have h8:=HB9.out.size;omega)) _))))) (fun hHeld=>?_)
    clear hK K
    try go_frame
    refine tkD ?_
    clear hHeld cgB zgB
    go_wp2_with fail
    go_meet
    exact ⟨w9.heap.size,x1.heap.size,q2,qa9,ia9,qc9,ic9,rfl,rfl,(by repeat (first|(with_reducible exact Blk.newn _ _ _ (by first|rfl|(show _=_+1;simp)|simp [World.setCell]))|(with_reducible refine Blk.alloc ?_ _)|(with_reducible refine Blk.far ?_ (by first|assumption|(dsimp only;omega)|(show _≠_;have hB:=BGB.out.lt;have h8:=HB9.out.size;omega)) _))),(by repeat (first|(with_reducible exact mset6 BGB.out)|(with_reducible refine Blk.alloc ?_ _)|(with_reducible refine Blk.far ?_ (by first|assumption|(dsimp only;omega)|(show _≠_;have hB:=BGB.out.lt;have h8:=HB9.out.size;omega)) _))),(by (refine Did.less (n:=(x1.alloc (.cells #[.int .i64 0,.int .i64 0,.int .i64 0,.slice none 0 0,.slice none 0 0,.int .i64 0] 38)).drew.heap.size) ?_ (by first|exact Nat.le_refl _|(simp [World.drew];done)|(simp [World.drew];omega)));repeat (first|(with_reducible exact DD.out)|(with_reducible refine Did.set ?_ (by simp [World.drew];try omega) _ _)|(with_reducible refine Did.call ?_ (b_a _)))),(by repeat (first|(with_reducible exact HB9.out)|(with_reducible refine Below.setCell ?_ (by first|exact Nat.le_refl _|exact Nat.le_succ _|(have h8:=HB9.out.size;show x1.heap.size≤_;omega)) _)|(with_reducible refine Below.alloc ?_ (by first|exact HB9.out.size|(simp;have h8:=HB9.out.size;omega)|(simp [World.setCell];have h8:=HB9.out.size;omega)) _)))⟩
   ·skip
    go_simp
    try go_wp2_with fail
    refine hK.out _ _ (by (first|(with_reducible exact KS.out _ (Af (Below.alloc (Below.alloc (Below.refl _ _) (Nat.le_refl _) _) (by simp) _))))) (fun hHeld=>?_)
    clear hK K
    try go_frame
    have D8:=hid (show Below x1.heap.size x1 ((x1.alloc (.cells #[.int .i64 0,.int .i64 0,.int .i64 0,.slice none 0 0,.slice none 0 0,.int .i64 0] 38)).alloc (.cells zC 29)).drew from Af (Below.alloc (Below.alloc (Below.refl _ _) (Nat.le_refl _) _) (by simp) _))
    refine rdy1 8 (fun K hK=>?_)
    go_simp
    refine (Pw (Am.refl x) p i c ga wa gc wc _ HX.out (HW.out.below (bl B_5.out D8.out) (Nat.le_refl _)) hil2 (HG.out.below (bl B_5.out D8.out) (Nat.le_refl _)) (HA.out.below (bl B_5.out D8.out) (Nat.le_refl _)) HR.out).mono ?_;rintro e9 w9 ⟨q2,qa9,ia9,qc9,ic9,rfl,dd,hb9⟩;have HB9:=hid (Aa D8.out D8.out.size hb9);have DD:=hid dd;clear dd;have BGB:=hid (show Blk w9 (x1.heap.size) 38 #[.int .i64 0,.int .i64 0,.int .i64 0,.slice none 0 0,.slice none 0 0,.int .i64 0] from (Blk.drew ((Blk.new x1 38 #[.int .i64 0,.int .i64 0,.int .i64 0,.slice none 0 0,.slice none 0 0,.int .i64 0]).alloc _)).call hb9);have BGA:=hid (show Blk w9 (x1.heap.size+1) 29 zC from (Blk.drew ((Blk.newn (x1.alloc (.cells #[.int .i64 0,.int .i64 0,.int .i64 0,.slice none 0 0,.slice none 0 0,.int .i64 0] 38)) 29 zC (by simp)))).call hb9);clear hb9
    try go_wp2_with fail
    refine hK.out _ _ (by (first|(with_reducible exact KS.out _ HB9.out))) (fun hHeld=>?_)
    clear hK K
    try go_frame
    refine tkl [9,10,11] ?_
    iterate 3
     refine tW ?_
     try go_frame
    have cgB:=BGB.out.cell
    have lgB:=BGB.out.lt
    have zgB:=BGB.out.frozen
    have cgA:=BGA.out.cell
    have lgA:=BGA.out.lt
    have zgA:=BGA.out.frozen
    refine rdy1 14 (fun K hK=>?_)
    go_simp
    try go_wp2_with fail
    refine hK.out _ _ (by (first|((with_reducible refine KS.out _ ?_);repeat (first|(with_reducible exact HB9.out)|(with_reducible refine Below.setCell ?_ (by first|exact Nat.le_refl _|exact Nat.le_succ _|(have h8:=HB9.out.size;show x1.heap.size≤_;omega)) _)|(with_reducible refine Below.alloc ?_ (by first|exact HB9.out.size|(simp;have h8:=HB9.out.size;omega)|(simp [World.setCell];have h8:=HB9.out.size;omega)) _))))) (fun hHeld=>?_)
    clear hK K
    try go_frame
    refine rdy1 15 (fun K hK=>?_)
    go_simp
    try go_wp2_with fail
    refine hK.out _ _ (by (first|((with_reducible refine KS.out _ ?_);repeat (first|(with_reducible exact HB9.out)|(with_reducible refine Below.setCell ?_ (by first|exact Nat.le_refl _|exact Nat.le_succ _|(have h8:=HB9.out.size;show x1.heap.size≤_;omega)) _)|(with_reducible refine Below.alloc ?_ (by first|exact HB9.out.size|(simp;have h8:=HB9.out.size;omega)|(simp [World.setCell];have h8:=HB9.out.size;omega)) _))))) (fun hHeld=>?_)
    clear hK K
    try go_frame
    refine tkD ?_
    clear hHeld cgB zgB cgA zgA
    go_wp2_with fail
    go_meet
    exact ⟨x1.heap.size+1,x1.heap.size,q2,qa9,ia9,qc9,ic9,rfl,rfl,(by repeat (first|(with_reducible exact mset11 BGA.out)|(with_reducible refine Blk.alloc ?_ _)|(with_reducible refine Blk.far ?_ (by first|assumption|(dsimp only;omega)|(show _≠_;have hB:=BGB.out.lt;have hA:=BGA.out.lt;have h8:=HB9.out.size;omega)) _))),(by (refine mset6 (c0:=.int .i64 0) (c1:=.int .i64 0) (c2:=.int .i64 0) (c3:=.slice none 0 0) (c4:=.slice none 0 0) (c5:=.int .i64 0) ?_);(iterate 11 with_reducible refine Blk.far ?_ (by dsimp only;omega) _);with_reducible exact BGB.out),(by (refine Did.less (n:=((x1.alloc (.cells #[.int .i64 0,.int .i64 0,.int .i64 0,.slice none 0 0,.slice none 0 0,.int .i64 0] 38)).alloc (.cells zC 29)).drew.heap.size) ?_ (by first|exact Nat.le_refl _|(simp [World.drew];done)|(simp [World.drew];omega)));repeat (first|(with_reducible exact DD.out)|(with_reducible refine Did.set ?_ (by simp [World.drew];try omega) _ _)|(with_reducible refine Did.call ?_ (b_a _)))),(by repeat (first|(with_reducible exact HB9.out)|(with_reducible refine Below.setCell ?_ (by first|exact Nat.le_refl _|exact Nat.le_succ _|(have h8:=HB9.out.size;show x1.heap.size≤_;omega)) _)|(with_reducible refine Below.alloc ?_ (by first|exact HB9.out.size|(simp;have h8:=HB9.out.size;omega)|(simp [World.setCell];have h8:=HB9.out.size;omega)) _)))⟩
 case rest =>
  obtain ⟨nb,rb,q2,qa,ia,qc,ic,rfl,rfl,hBN,hBR,hDD,hBW⟩:=hcut
  have X_6:=hid (X_5.out.call hBW)
  have B_6:=hid (bl B_5.out hBW)
  have N_6:=hid (hBN.holdsp B_6.out)
  have Y_6:=hid (hBR.holdsp B_6.out)
  have WX_6:=hid (HW.out.below B_6.out (Nat.le_refl _))
  have WN_6:=hid (hDD.world WX_6.out)
  clear hBN hBR hDD hBW X_5 C_5 B_5 hil hil2 HR wp m1 m2 q0
  obtain ⟨L,hL⟩:∃L,Ao3 x R.1=L:=⟨_,rfl⟩
  have HFR:=hid hL
  have HMK:=hid (show allP x L=R.1 from hL ▸ all_makes HLY.out)
  have HMY:=hid (show ∀c∈L,mayX x c=true from hL ▸ from_may)
  have HND:=hid (show ∀c∈L,¬doX x c=x from fun c hc=>from_needed (hL ▸ hc))
  have HCT:=hid (fun k=>(show Ao3 (allP x (L.take k)) R.1=L.drop k∧allP (allP x (L.take k)) (L.drop k)=R.1 from hL ▸ from_cut HLY.out k))
  have hll:L.length≤120:=by have h1:=from_len x R.1;have h2:=N3.out;rw [hL] at h1;omega
  have HLL:=hid hll
  have HL0:=hid (show ¬R.2.err=0→L=[] from fun h=>by rw [←hL,HST.out h];exact from_self x)
  clear hL
  have hcX:=X_6.out.2.2
  have hlX:=X_6.out.2.1
  have hcN:=N_6.out.2.2
  have hlN:=N_6.out.2.1
  have hcY:=Y_6.out.2.2
  have hlY:=Y_6.out.2.1
  go_wp2_with fail
  refine (pfrom_as (Like.refl x) HLY.out WX_6.out WN_6.out (by have:=N3.out;omega) (by have:=N3.out;omega) (by have:=N3.out;omega) HFR.out).mono ?_
  rintro e u61 ⟨la,lc,rfl,hl,b61⟩
  clear hcX hlX hcN hlN hcY hlY
  have B_7:=hid (bl B_6.out b61)
  have X_7:=hid (X_6.out.call b61)
  have N_7:=hid (N_6.out.call b61)
  have Y_7:=hid (Y_6.out.call b61)
  have WX_7:=hid (WX_6.out.call b61)
  have WN_7:=hid (WN_6.out.call b61)
  have WL_7:=hid hl
  clear hl
  clear b61 B_6 X_6 N_6 Y_6 WX_6 WN_6
  have hcX:=X_7.out.2.2
  have hlX:=X_7.out.2.1
  have hcN:=N_7.out.2.2
  have hlN:=N_7.out.2.1
  have hcY:=Y_7.out.2.2
  have hlY:=Y_7.out.2.1
  go_wp2_with fail
  go_upto_region 5 with fail
  clear hcX hlX hcN hlN hcY hlY
  go_cut [75] (fun sb wx=>sb=.bool false∧Below u61.heap.size u61 wx)
  case first =>
   by_cases he:R.2.err=0
   ·have e0:(R.2.err != 0)=false:=by simpa using he
    clear he
    have KS:Hid (∀w',Below u61.heap.size u61 w'→Below u61.heap.size u61 w'∧(∀ii,w'.cell? ⟨w.heap.size,ii,none⟩=((wC x p)[ii]?:Option Value))∧(∀ii,w'.cell? ⟨nb,ii,none⟩=((wC x q2)[ii]?:Option Value))∧(∀ii,w'.cell? ⟨rb,ii,none⟩=(#[.int .i64 R.2.err,.int .i64 R.2.kind,.int .i64 R.2.room,.slice qa R.2.players.length qc,.slice ia R.2.items.length ic,.int .i64 R.2.coins][ii]?:Option Value))):=hid (fun w' hb=>⟨hb,fun ii=>(hb.cell (p:=⟨w.heap.size,ii,none⟩) X_7.out.2.1).trans (X_7.out.2.2 ii),fun ii=>(hb.cell (p:=⟨nb,ii,none⟩) N_7.out.2.1).trans (N_7.out.2.2 ii),fun ii=>(hb.cell (p:=⟨rb,ii,none⟩) Y_7.out.2.1).trans (Y_7.out.2.2 ii)⟩)
    have D0:=hid (Af (Below.refl u61.heap.size u61))
    refine tkS (S:=(fun w'=>Below u61.heap.size u61 w'∧(∀ii,w'.cell? ⟨w.heap.size,ii,none⟩=((wC x p)[ii]?:Option Value))∧(∀ii,w'.cell? ⟨nb,ii,none⟩=((wC x q2)[ii]?:Option Value))∧(∀ii,w'.cell? ⟨rb,ii,none⟩=(#[.int .i64 R.2.err,.int .i64 R.2.kind,.int .i64 R.2.room,.slice qa R.2.players.length qc,.slice ia R.2.items.length ic,.int .i64 R.2.coins][ii]?:Option Value)))) (by (first|(with_reducible exact KS.out _ D0.out))) (fun hHeld=>?_)
    generalize u61.drew=x0 at *
    refine tkl [0,1,3] ?_
    iterate 3
     refine tW ?_
     try go_frame
    refine rdy1 2 (fun K hK=>?_)
    go_simp
    refine (pall_as (Like.refl x) rfl (WX_7.out.call D0.out) HFW.out (WL_7.out.call D0.out).1 HMY.out HMK.out).mono ?_;rintro e x1 ⟨q3,rfl,g3,hb9⟩;have D1:=hid (Aa D0.out D0.out.size hb9);have R11:=hid g3;clear hb9 g3
    try go_wp2_with fail
    refine hK.out _ _ (by (first|(with_reducible exact KS.out _ D1.out))) (fun hHeld=>?_)
    clear hK K
    try go_frame
    refine rdy1 4 (fun K hK=>?_)
    go_simp
    refine (psame_as HLY.out HLY.out R11.out.w (WN_7.out.call D1.out) (decide_eq_true rfl)).mono ?_;rintro e x2 ⟨rfl,hb9⟩;have D2:=hid (Aa D1.out D1.out.size hb9);have R12:=hid (R11.out.call hb9);clear hb9 R11
    try go_wp2_with fail
    refine hK.out _ _ (by (first|(with_reducible exact KS.out _ D2.out))) (fun hHeld=>?_)
    clear hK K
    try go_frame
    refine tkl [5,6,7,8] ?_
    iterate 4
     refine tW ?_
     try go_frame
    refine rdy1 9 (fun K hK=>?_)
    go_simp
    refine (pfrom_as (L:=[]) (Like.refl x) (Like.refl x) (WX_7.out.call D2.out) (WX_7.out.call D2.out) (by have:=N3.out;omega) (by have:=N3.out;omega) (by have:=N3.out;omega) (from_self x)).mono ?_;rintro e x3 ⟨a5,c5,rfl,g5,hb9⟩;have D3:=hid (Aa D2.out D2.out.size hb9);have R13:=hid (R12.out.call hb9);clear hb9 R12
    try go_wp2_with fail
    refine hK.out _ _ (by (first|(with_reducible exact KS.out _ D3.out))) (fun hHeld=>?_)
    clear hK K
    try go_frame
    refine tkl [10,11,12,13,14,15,16,17] ?_
    iterate 8
     refine tW ?_
     try go_frame
    refine tkl [18,19,20] ?_
    iterate 3
     refine tN ?_
     try go_frame
    refine tkl [21,22] ?_
    iterate 2
     refine tW ?_
     try go_frame
    refine tkD ?_
    clear hHeld KS
    go_wp2_with fail
    go_meet
    exact ⟨rfl,D3.out⟩
   ·have e0:(R.2.err != 0)=true:=by simpa using he
    have e1:((L.length:Int) != 0)=false:=by rw [HL0.out he];rfl
    clear he
    have KS:Hid (∀w',Below u61.heap.size u61 w'→Below u61.heap.size u61 w'∧(∀ii,w'.cell? ⟨w.heap.size,ii,none⟩=((wC x p)[ii]?:Option Value))∧(∀ii,w'.cell? ⟨nb,ii,none⟩=((wC x q2)[ii]?:Option Value))∧(∀ii,w'.cell? ⟨rb,ii,none⟩=(#[.int .i64 R.2.err,.int .i64 R.2.kind,.int .i64 R.2.room,.slice qa R.2.players.length qc,.slice ia R.2.items.length ic,.int .i64 R.2.coins][ii]?:Option Value))):=hid (fun w' hb=>⟨hb,fun ii=>(hb.cell (p:=⟨w.heap.size,ii,none⟩) X_7.out.2.1).trans (X_7.out.2.2 ii),fun ii=>(hb.cell (p:=⟨nb,ii,none⟩) N_7.out.2.1).trans (N_7.out.2.2 ii),fun ii=>(hb.cell (p:=⟨rb,ii,none⟩) Y_7.out.2.1).trans (Y_7.out.2.2 ii)⟩)
    have D0:=hid (Af (Below.refl u61.heap.size u61))
    refine tkS (S:=(fun w'=>Below u61.heap.size u61 w'∧(∀ii,w'.cell? ⟨w.heap.size,ii,none⟩=((wC x p)[ii]?:Option Value))∧(∀ii,w'.cell? ⟨nb,ii,none⟩=((wC x q2)[ii]?:Option Value))∧(∀ii,w'.cell? ⟨rb,ii,none⟩=(#[.int .i64 R.2.err,.int .i64 R.2.kind,.int .i64 R.2.room,.slice qa R.2.players.length qc,.slice ia R.2.items.length ic,.int .i64 R.2.coins][ii]?:Option Value)))) (by (first|(with_reducible exact KS.out _ D0.out))) (fun hHeld=>?_)
    generalize u61.drew=x0 at *
    refine tkl [0,1,3] ?_
    iterate 3
     refine tW ?_
     try go_frame
    refine rdy1 2 (fun K hK=>?_)
    go_simp
    refine (pall_as (Like.refl x) rfl (WX_7.out.call D0.out) HFW.out (WL_7.out.call D0.out).1 HMY.out HMK.out).mono ?_;rintro e x1 ⟨q3,rfl,g3,hb9⟩;have D1:=hid (Aa D0.out D0.out.size hb9);have R11:=hid g3;clear hb9 g3
    try go_wp2_with fail
    refine hK.out _ _ (by (first|(with_reducible exact KS.out _ D1.out))) (fun hHeld=>?_)
    clear hK K
    try go_frame
    refine rdy1 4 (fun K hK=>?_)
    go_simp
    refine (psame_as HLY.out HLY.out R11.out.w (WN_7.out.call D1.out) (decide_eq_true rfl)).mono ?_;rintro e x2 ⟨rfl,hb9⟩;have D2:=hid (Aa D1.out D1.out.size hb9);have R12:=hid (R11.out.call hb9);clear hb9 R11
    try go_wp2_with fail
    refine hK.out _ _ (by (first|(with_reducible exact KS.out _ D2.out))) (fun hHeld=>?_)
    clear hK K
    try go_frame
    refine tkl [5,6,7,8] ?_
    iterate 4
     refine tW ?_
     try go_frame
    refine rdy1 9 (fun K hK=>?_)
    go_simp
    refine (pfrom_as (L:=[]) (Like.refl x) (Like.refl x) (WX_7.out.call D2.out) (WX_7.out.call D2.out) (by have:=N3.out;omega) (by have:=N3.out;omega) (by have:=N3.out;omega) (from_self x)).mono ?_;rintro e x3 ⟨a5,c5,rfl,g5,hb9⟩;have D3:=hid (Aa D2.out D2.out.size hb9);have R13:=hid (R12.out.call hb9);clear hb9 R12
    try go_wp2_with fail
    refine hK.out _ _ (by (first|(with_reducible exact KS.out _ D3.out))) (fun hHeld=>?_)
    clear hK K
    try go_frame
    refine tkl [10,11,12,13,14,15,16,17] ?_
    iterate 8
     refine tW ?_
     try go_frame
    refine tkl [18,19,20] ?_
    iterate 3
     refine tW ?_
     try go_frame
    refine tkl [21,22] ?_
    iterate 2
     refine tW ?_
     try go_frame
    refine tkD ?_
    clear hHeld KS
    go_wp2_with fail
    go_meet
    exact ⟨rfl,D3.out⟩
  case rest =>
   obtain ⟨rfl,hB5⟩:=hcut
   have X_8:=hid (X_7.out.call hB5)
   have N_8:=hid (N_7.out.call hB5)
   have Y_8:=hid (Y_7.out.call hB5)
   have WX_8:=hid (WX_7.out.call hB5)
   have WN_8:=hid (WN_7.out.call hB5)
   have WL_8:=hid (WL_7.out.call hB5)
   have B_8:=hid (bl B_7.out hB5)
   clear hB5 B_7 X_7 N_7 Y_7 WX_7 WN_7 WL_7
   obtain ⟨y5,hy5⟩:∃z,z=wc:=⟨_,rfl⟩
   subst hy5
   have hcX:=X_8.out.2.2
   have hlX:=X_8.out.2.1
   have hcN:=N_8.out.2.2
   have hlN:=N_8.out.2.1
   have hcY:=Y_8.out.2.2
   have hlY:=Y_8.out.2.1
   have hcn:=HCN.out
   obtain ⟨k,hk⟩:∃k,cn%(L.length+1)=k:=⟨_,rfl⟩
   have hkl:k≤L.length:=by have:=Nat.mod_lt cn (show 0<L.length+1 by omega);omega
   have w1:IntKind.i64.wrap (cn:Int)=(cn:Int):=IntWalk.i64_in _ (by omega)
   have w2:IntKind.i64.wrap ((L.length:Int)+1)=(L.length:Int)+1:=IntWalk.i64_in _ (by omega)
   have m1:(cn:Int).tmod ((L.length:Int)+1)=(k:Int):=by rw [←hk];rfl
   have m2:(cn:Int)%((L.length:Int)+1)=(k:Int):=by rw [←hk];rfl
   have m3:(((L.length:Int)+1)==0)=false:=by rw [beq_eq_false_iff_ne];omega
   have hc1:=fun W=>wr_take W la L.length lc k (by have h1:=WL_8.out.2.1;omega)
   have hc2:=fun W=>wr_cut W la L.length lc k hkl
   have HKL:=hid hkl
   clear hk hcn
   go_upto_region 8 with fail
   clear w1 w2 m1 m2 m3
   clear hcX hlX hcN hlN hcY hlY
   obtain ⟨xx,hxx⟩:∃z,z=y5:=⟨_,rfl⟩
   subst hxx
   go_cut [13] (fun sp wx=>∃(hbk:Nat) (q4:Wp),sp=.pointer (some ⟨hbk,0,none⟩)∧Blk wx hbk 29 (wC x q4)∧PRows xx.heap.size wx p.d q4 (allP x (L.take k))∧Below xx.heap.size xx wx)
   case first =>
    have KS:Hid (∀w',Below xx.heap.size xx w'→Below xx.heap.size xx w'∧(∀ii,w'.cell? ⟨w.heap.size,ii,none⟩=((wC x p)[ii]?:Option Value))):=hid (fun w' hb=>⟨hb,fun ii=>(hb.cell (p:=⟨w.heap.size,ii,none⟩) X_8.out.2.1).trans (X_8.out.2.2 ii)⟩)
    refine tkS (S:=(fun w'=>Below xx.heap.size xx w'∧(∀ii,w'.cell? ⟨w.heap.size,ii,none⟩=((wC x p)[ii]?:Option Value)))) (by (first|(with_reducible exact KS.out _ (Af (Below.refl _ _))))) (fun hHeld=>?_)
    refine tkl [0,1,2,3] ?_
    iterate 4
     refine tW ?_
     try go_frame
    refine wpAnyH_ready (rs:=[4,5]) (by kernel_rfl) (by simp) (AllReadyH.cons (by simp only [List.getElem?_toArray,List.getElem?_cons_succ,List.getElem?_cons_zero];rfl) (fun K hK=>?_) (AllReadyH.cons (by simp only [List.getElem?_toArray,List.getElem?_cons_succ,List.getElem?_cons_zero];rfl) (fun K hK=>?_) AllReadyH.nil))
    ·skip
     have D8:=hid (show Below xx.heap.size xx xx.drew from Af (Below.refl _ _))
     skip
     go_simp
     refine (pall_as (z:=allP x (L.take k)) (Like.refl x) (by have h9:=HKL.out;rw [List.length_take];omega) (WX_8.out.call D8.out) HFW.out ((WL_8.out.call D8.out).take HKL.out).1 (fun c hc=>HMY.out c (List.mem_of_mem_take hc)) rfl).mono ?_;rintro e9 w9 ⟨q4,rfl,dd,hb9⟩;have HB9:=hid (Aa D8.out D8.out.size hb9);have DD:=hid (dd.rows (Nat.le_refl _));clear dd;clear hb9
     try go_wp2_with fail
     refine hK.out _ _ (by (first|(with_reducible exact KS.out _ HB9.out))) (fun hHeld=>?_)
     clear hK K
     try go_frame
     refine rdy1 5 (fun K hK=>?_)
     go_simp
     try go_wp2_with fail
     refine hK.out _ _ (by (first|((with_reducible refine KS.out _ ?_);repeat (first|(with_reducible exact HB9.out)|(with_reducible refine Below.setCell ?_ (by first|exact Nat.le_refl _|exact Nat.le_succ _|(have h8:=HB9.out.size;show xx.heap.size≤_;omega)) _)|(with_reducible refine Below.alloc ?_ (by first|exact HB9.out.size|(simp;have h8:=HB9.out.size;omega)|(simp [World.setCell];have h8:=HB9.out.size;omega)) _))))) (fun hHeld=>?_)
     clear hK K
     try go_frame
     refine rdy1 6 (fun K hK=>?_)
     go_simp
     try go_wp2_with fail
     refine hK.out _ _ (by (first|((with_reducible refine KS.out _ ?_);repeat (first|(with_reducible exact HB9.out)|(with_reducible refine Below.setCell ?_ (by first|exact Nat.le_refl _|exact Nat.le_succ _|(have h8:=HB9.out.size;show xx.heap.size≤_;omega)) _)|(with_reducible refine Below.alloc ?_ (by first|exact HB9.out.size|(simp;have h8:=HB9.out.size;omega)|(simp [World.setCell];have h8:=HB9.out.size;omega)) _))))) (fun hHeld=>?_)
     clear hK K
     try go_frame
     refine tkD ?_
     clear hHeld
     go_wp2_with fail
     go_meet
     exact ⟨w9.heap.size,q4,rfl,(by repeat (first|(with_reducible exact Blk.newn _ _ _ (by first|rfl|(show _=_+1;simp)|simp [World.setCell]))|(with_reducible refine Blk.alloc ?_ _)|(with_reducible refine Blk.far ?_ (by first|assumption|(dsimp only;omega)|(show _≠_;have h8:=HB9.out.size;omega)) _))),(by (refine PRows.less (n:=xx.drew.heap.size) ?_ (by first|exact Nat.le_refl _|(simp [World.drew];done)|(simp [World.drew];omega)));repeat (first|(with_reducible exact DD.out)|(with_reducible refine PRows.set ?_ (by simp [World.drew];try omega) _ _)|(with_reducible refine PRows.call ?_ (b_a _)))),(by repeat (first|(with_reducible exact HB9.out)|(with_reducible refine Below.setCell ?_ (by first|exact Nat.le_refl _|exact Nat.le_succ _|(have h8:=HB9.out.size;show xx.heap.size≤_;omega)) _)|(with_reducible refine Below.alloc ?_ (by first|exact HB9.out.size|(simp;have h8:=HB9.out.size;omega)|(simp [World.setCell];have h8:=HB9.out.size;omega)) _)))⟩
    ·skip
     go_simp
     try go_wp2_with fail
     refine hK.out _ _ (by (first|(with_reducible exact KS.out _ (Af (Below.alloc (Below.refl _ _) (Nat.le_refl _) _))))) (fun hHeld=>?_)
     clear hK K
     try go_frame
     have D8:=hid (show Below xx.heap.size xx (xx.alloc (.cells zC 29)).drew from Af (Below.alloc (Below.refl _ _) (Nat.le_refl _) _))
     refine rdy1 4 (fun K hK=>?_)
     go_simp
     refine (pall_as (z:=allP x (L.take k)) (Like.refl x) (by have h9:=HKL.out;rw [List.length_take];omega) (WX_8.out.call D8.out) HFW.out ((WL_8.out.call D8.out).take HKL.out).1 (fun c hc=>HMY.out c (List.mem_of_mem_take hc)) rfl).mono ?_;rintro e9 w9 ⟨q4,rfl,dd,hb9⟩;have HB9:=hid (Aa D8.out D8.out.size hb9);have DD:=hid (dd.rows (Nat.le_refl _));clear dd;have BGA:=hid (show Blk w9 (xx.heap.size) 29 zC from (Blk.drew ((Blk.new xx 29 zC))).call hb9);clear hb9
     try go_wp2_with fail
     refine hK.out _ _ (by (first|(with_reducible exact KS.out _ HB9.out))) (fun hHeld=>?_)
     clear hK K
     try go_frame
     have cgA:=BGA.out.cell
     have lgA:=BGA.out.lt
     have zgA:=BGA.out.frozen
     refine rdy1 6 (fun K hK=>?_)
     go_simp
     try go_wp2_with fail
     refine hK.out _ _ (by (first|((with_reducible refine KS.out _ ?_);repeat (first|(with_reducible exact HB9.out)|(with_reducible refine Below.setCell ?_ (by first|exact Nat.le_refl _|exact Nat.le_succ _|(have h8:=HB9.out.size;show xx.heap.size≤_;omega)) _)|(with_reducible refine Below.alloc ?_ (by first|exact HB9.out.size|(simp;have h8:=HB9.out.size;omega)|(simp [World.setCell];have h8:=HB9.out.size;omega)) _))))) (fun hHeld=>?_)
     clear hK K
     try go_frame
     refine tkD ?_
     clear hHeld cgA zgA
     go_wp2_with fail
     go_meet
     exact ⟨xx.heap.size,q4,rfl,(by repeat (first|(with_reducible exact mset11 BGA.out)|(with_reducible refine Blk.alloc ?_ _)|(with_reducible refine Blk.far ?_ (by first|assumption|(dsimp only;omega)|(show _≠_;have hA:=BGA.out.lt;have h8:=HB9.out.size;omega)) _))),(by (refine PRows.less (n:=(xx.alloc (.cells zC 29)).drew.heap.size) ?_ (by first|exact Nat.le_refl _|(simp [World.drew];done)|(simp [World.drew];omega)));repeat (first|(with_reducible exact DD.out)|(with_reducible refine PRows.set ?_ (by simp [World.drew];try omega) _ _)|(with_reducible refine PRows.call ?_ (b_a _)))),(by repeat (first|(with_reducible exact HB9.out)|(with_reducible refine Below.setCell ?_ (by first|exact Nat.le_refl _|exact Nat.le_succ _|(have h8:=HB9.out.size;show xx.heap.size≤_;omega)) _)|(with_reducible refine Below.alloc ?_ (by first|exact HB9.out.size|(simp;have h8:=HB9.out.size;omega)|(simp [World.setCell];have h8:=HB9.out.size;omega)) _)))⟩
   case rest =>
    obtain ⟨hbk,q4,rfl,hBH,hPN,hBW⟩:=hcut
    have X_9:=hid (X_8.out.call hBW)
    have N_9:=hid (N_8.out.call hBW)
    have WX_9:=hid (WX_8.out.call hBW)
    have WN_9:=hid (WN_8.out.call hBW)
    have WL_9:=hid (WL_8.out.call hBW)
    have B_9:=hid (bl B_8.out hBW)
    have H_9:=hid (hBH.holdsp B_9.out)
    have WH_9:=hid (hPN.world (by rw [(Gw8 (L.take k) x).d];exact WX_9.out.d))
    have HLH:=hid (show Like x (allP x (L.take k)) from Gw8 _ x)
    clear hBH hPN hBW X_8 N_8 Y_8 WX_8 WN_8 WL_8 B_8
    have hcX:=X_9.out.2.2
    have hlX:=X_9.out.2.1
    have hcN:=N_9.out.2.2
    have hlN:=N_9.out.2.1
    have hcH:=H_9.out.2.2
    have hlH:=H_9.out.2.1
    go_upto_region 9 with fail
    clear hcX hlX hcN hlN hcH hlH
    have KS:Hid (∀w',Below wc.heap.size wc w'→Below wc.heap.size wc w'∧(∀ii,w'.cell? ⟨w.heap.size,ii,none⟩=((wC x p)[ii]?:Option Value))∧(∀ii,w'.cell? ⟨nb,ii,none⟩=((wC x q2)[ii]?:Option Value))∧(∀ii,w'.cell? ⟨hbk,ii,none⟩=((wC x q4)[ii]?:Option Value))):=hid (fun w' hb=>⟨hb,fun ii=>(hb.cell (p:=⟨w.heap.size,ii,none⟩) X_9.out.2.1).trans (X_9.out.2.2 ii),fun ii=>(hb.cell (p:=⟨nb,ii,none⟩) N_9.out.2.1).trans (N_9.out.2.2 ii),fun ii=>(hb.cell (p:=⟨hbk,ii,none⟩) H_9.out.2.1).trans (H_9.out.2.2 ii)⟩)
    have D0:=hid (Af (Below.refl wc.heap.size wc))
    refine tkS (S:=(fun w'=>Below wc.heap.size wc w'∧(∀ii,w'.cell? ⟨w.heap.size,ii,none⟩=((wC x p)[ii]?:Option Value))∧(∀ii,w'.cell? ⟨nb,ii,none⟩=((wC x q2)[ii]?:Option Value))∧(∀ii,w'.cell? ⟨hbk,ii,none⟩=((wC x q4)[ii]?:Option Value)))) (by (first|(with_reducible exact KS.out _ D0.out))) (fun hHeld=>?_)
    generalize wc.drew=x0 at *
    refine tkl [0,1,2,3,5] ?_
    iterate 5
     refine tW ?_
     try go_frame
    refine rdy1 4 (fun K hK=>?_)
    go_simp
    refine (pall_as HLH.out (by simp) (WH_9.out.call D0.out) (HLH.out.few HFW.out) ((WL_9.out.call D0.out).drop HKL.out).1 (fun c hc=>by rw [HLH.out.may];exact HMY.out c (List.mem_of_mem_drop hc)) (HCT.out k).2).mono ?_;rintro e x1 ⟨q5,rfl,g5,hb9⟩;have D1:=hid (Aa D0.out D0.out.size hb9);have R51:=hid g5;clear hb9 g5
    try go_wp2_with fail
    refine hK.out _ _ (by (first|(with_reducible exact KS.out _ D1.out))) (fun hHeld=>?_)
    clear hK K
    try go_frame
    refine rdy1 6 (fun K hK=>?_)
    go_simp
    refine (psame_as HLY.out HLY.out R51.out.w (WN_9.out.call D1.out) (decide_eq_true rfl)).mono ?_;rintro e x2 ⟨rfl,hb9⟩;have D2:=hid (Aa D1.out D1.out.size hb9);have R52:=hid (R51.out.call hb9);clear hb9 R51
    try go_wp2_with fail
    refine hK.out _ _ (by (first|(with_reducible exact KS.out _ D2.out))) (fun hHeld=>?_)
    clear hK K
    try go_frame
    refine tkl [7,8,9,10,12,13,14] ?_
    iterate 7
     refine tW ?_
     try go_frame
    refine rdy1 11 (fun K hK=>?_)
    go_simp
    refine (pfrom_as HLH.out HLY.out (WH_9.out.call D2.out) (WN_9.out.call D2.out) (by have:=N3.out;omega) (by have:=N3.out;omega) (by have:=N3.out;omega) (HCT.out k).1).mono ?_;rintro e x3 ⟨a6,c6,rfl,g6,hb9⟩;have D3:=hid (Aa D2.out D2.out.size hb9);have R53:=hid (R52.out.call hb9);have R63:=hid g6;clear hb9 R52 g6
    try go_wp2_with fail
    refine hK.out _ _ (by (first|(with_reducible exact KS.out _ D3.out))) (fun hHeld=>?_)
    clear hK K
    try go_frame
    refine rdy1 15 (fun K hK=>?_)
    go_simp
    refine (wsame_as (L:=L.drop k) (M:=L.drop k) (r:=true) (by simp) (by simp) R63.out.1 ((WL_9.out.call D3.out).drop HKL.out).1 (decide_eq_true rfl)).mono ?_;rintro e x4 ⟨rfl,hb9⟩;have D4:=hid (Aa D3.out D3.out.size hb9);have R54:=hid (R53.out.call hb9);have R64:=hid (R63.out.call hb9);clear hb9 R53 R63
    try go_wp2_with fail
    refine hK.out _ _ (by (first|(with_reducible exact KS.out _ D4.out))) (fun hHeld=>?_)
    clear hK K
    try go_frame
    refine tkl [16,17] ?_
    iterate 2
     refine tW ?_
     try go_frame
    refine tkD ?_
    clear hHeld KS
    have B_10:=hid (bl B_9.out D4.out)
    have X_10:=hid (X_9.out.call D4.out)
    have N_10:=hid (N_9.out.call D4.out)
    have H_10:=hid (H_9.out.call D4.out)
    have WX_10:=hid (WX_9.out.call D4.out)
    have WN_10:=hid (WN_9.out.call D4.out)
    have WL_10:=hid (WL_9.out.call D4.out)
    have WH_10:=hid (WH_9.out.call D4.out)
    clear B_9 X_9 N_9 H_9 WX_9 WN_9 WL_9 WH_9 D0 D1 D2 D3 D4 R54 R64
    have hcX:=X_10.out.2.2
    have hlX:=X_10.out.2.1
    have hcN:=N_10.out.2.2
    have hlN:=N_10.out.2.1
    have hcH:=H_10.out.2.2
    have hlH:=H_10.out.2.1
    clear hc1 hc2
    go_wp2_with fail
    clear hcX hlX hcN hlN hcH hlH
    go_loopw [14] (fun iv wr=>∃j:Nat,j≤L.length∧iv=.int .i64 j∧Below x4.heap.size x4 wr) (fun iv _=>L.length-(intOf iv).toNat)
    case atStart=>exact ⟨0,Nat.zero_le _,rfl,Below.refl _ _⟩
    case round =>
     obtain ⟨j,hj,rfl,hb9⟩:=hrel
     have HB:=hid hb9
     clear hb9
     have BW:=hid (bl B_10.out HB.out)
     have hll:=HLL.out
     by_cases hlt:j<L.length
     ·obtain ⟨b,o,rfl,hbb,c0,c1,c2,c3,c4⟩:=WrsAt.cells (WL_10.out.call HB.out).1 hlt
      have HMC:=hid (HMY.out L[j] (List.getElem_mem hlt))
      have HNC:=hid (HND.out L[j] (List.getElem_mem hlt))
      have HJ:=hid hlt
      have wk:IntKind.i64.wrap ((j:Int)+1)=(j:Int)+1:=IntWalk.i64_in _ (by omega)
      have X_11:=hid (X_10.out.call HB.out)
      have WX_11:=hid (WX_10.out.call HB.out)
      have B_11:=BW
      generalize L[j]=cx at *
      obtain ⟨ck,ci,cm,⟨cpk,cpi⟩⟩:=cx
      simp only at c0 c1 c2 c3 c4
      have C0:=hid c0
      have C1:=hid c1
      have C2:=hid c2
      have C3:=hid c3
      have C4:=hid c4
      have KBB:=HB
      clear c0 c1 c2 c3 c4 hbb HB BW
      have hcX:=X_11.out.2.2
      have hlX:=X_11.out.2.1
      go_upto_region 14 with fail
      clear hcX hlX
      have KS:Hid (∀w',Below wr.heap.size wr w'→Below wr.heap.size wr w'∧(∀ii,w'.cell? ⟨w.heap.size,ii,none⟩=((wC x p)[ii]?:Option Value))∧w'.cell? ⟨b,o+j*5,none⟩=some (.int .i64 ck)∧w'.cell? ⟨b,o+j*5+1,none⟩=some (.int .i64 ci)∧w'.cell? ⟨b,o+j*5+2,none⟩=some (.int .i64 cm)∧w'.cell? ⟨b,o+j*5+3,none⟩=some (.int .i64 cpk)∧w'.cell? ⟨b,o+j*5+4,none⟩=some (.int .i64 cpi)):=hid (fun w' hb=>⟨hb,fun ii=>(hb.cell (p:=⟨w.heap.size,ii,none⟩) X_11.out.2.1).trans (X_11.out.2.2 ii),Ad C0.out hb,Ad C1.out hb,Ad C2.out hb,Ad C3.out hb,Ad C4.out hb⟩)
      have D0:=hid (Af (Below.refl wr.heap.size wr))
      refine tkS (S:=(fun w'=>Below wr.heap.size wr w'∧(∀ii,w'.cell? ⟨w.heap.size,ii,none⟩=((wC x p)[ii]?:Option Value))∧w'.cell? ⟨b,o+j*5,none⟩=some (.int .i64 ck)∧w'.cell? ⟨b,o+j*5+1,none⟩=some (.int .i64 ci)∧w'.cell? ⟨b,o+j*5+2,none⟩=some (.int .i64 cm)∧w'.cell? ⟨b,o+j*5+3,none⟩=some (.int .i64 cpk)∧w'.cell? ⟨b,o+j*5+4,none⟩=some (.int .i64 cpi))) (by (first|(with_reducible exact KS.out _ D0.out))) (fun hHeld=>?_)
      generalize wr.drew=x0 at *
      refine tkl [0,1,2,3,4,6] ?_
      iterate 6
       refine tW ?_
       try go_frame
      refine rdy1 5 (fun K hK=>?_)
      go_simp
      refine (pdo_as (Like.refl x) ⟨ck,ci,cm,⟨cpk,cpi⟩⟩ (WX_11.out.call D0.out) HFW.out HMC.out rfl).mono ?_;rintro e x1 ⟨q7,rfl,g7,hb9⟩;have D1:=hid (Aa D0.out D0.out.size hb9);have R71:=hid g7;clear hb9 g7
      try go_wp2_with fail
      refine hK.out _ _ (by (first|(with_reducible exact KS.out _ D1.out))) (fun hHeld=>?_)
      clear hK K
      try go_frame
      refine rdy1 7 (fun K hK=>?_)
      go_simp
      refine (psame_as (Hm5 x ⟨ck,ci,cm,⟨cpk,cpi⟩⟩) (Like.refl x) R71.out.w (WX_11.out.call D1.out) (decide_eq_false HNC.out)).mono ?_;rintro e x2 ⟨rfl,hb9⟩;have D2:=hid (Aa D1.out D1.out.size hb9);have R72:=hid (R71.out.call hb9);clear hb9 R71
      try go_wp2_with fail
      refine hK.out _ _ (by (first|(with_reducible exact KS.out _ D2.out))) (fun hHeld=>?_)
      clear hK K
      try go_frame
      have KD:=hid (KBB.out.trans (D2.out.mono KBB.out.size))
      refine tkD ?_
      clear hHeld KS
      have B_12:=hid (bl B_11.out D2.out)
      have X_12:=hid (X_11.out.call D2.out)
      have WX_12:=hid (WX_11.out.call D2.out)
      clear B_11 X_11 WX_11 D0 D1 D2 R72
      go_wp2_with fail
      go_roundw
      case rel=>exact ⟨j+1,HJ.out,by go_num,KD.out⟩
      case measure=>have:=HJ.out;simp [intOf];omega
     ·have hje:j=L.length:=by omega
      subst hje
      go_wp2_with fail
      go_ret
      exact ⟨rfl,BW.out⟩
theorem walk_planMakes (x:Wd) (p:Wp) (pl:Int) (c:Cm) (ga wa:Option Addr) (gc wc:Nat) (cut:Int) (w:World) (hpl:(Lit.int .u8 pl).wf=true) (hcut:(Lit.int .u8 cut).wf=true) (h:Ab w p x) (hg:Ae w ga c.gives) (hw:Ae w wa c.wants) (_hcw:c.Wf):Calls prog 3 #[.agg (wC x p),.int .u8 pl,.agg (cC c ga gc wa wc),.int .u8 cut] w fun e w'=>e=.returned (.bool true)∧Below w.heap.size w w':=by
 have h1:=Ed hpl
 have h2:=Ed hcut
 obtain ⟨pn,rfl⟩:∃n:Nat,pl=n:=⟨pl.toNat,by omega⟩
 obtain ⟨cn,rfl⟩:∃n:Nat,cut=n:=⟨cut.toNat,by omega⟩
 exact planMakes_go x p pn cn c ga wa gc wc w (by omega) (by omega) h hg hw
theorem lifted_planMakes (os:Os) (started:os.Started) (H:Type) (enc:TypeId × Value→H) :
 ReturnsInHanded {} Tryz.checked os 3 .any (Rows.planMakesSpec.pre6 enc prog Tryz.f3 Rows.planMakesRow.domain false) (Rows.planMakesSpec.post enc prog Tryz.f3 false true false false):=by
 refine returnsInHanded_of_change (C:=Tryz.checked) (by kernel_rfl) started (by kernel_rfl) func3
  (ChangeSpec.witness6 (enc:=enc) (C:=Tryz.checked) false ⟨#[],#[.agg zC,.int .u8 0,.agg #[.int .i64 0,.int .i64 0,.int .i64 0,.int .i64 0,.int .i64 0,.slice none 0 0,.int .i64 0,.slice none 0 0,.int .i64 0],.int .u8 0],[]⟩ 8 (by kernel_rfl) (by kernel_rfl) (by kernel_rfl) (by kernel_rfl)) ?_
 intro W base args ds gs before hval0 hW hcnd _
 have hval:∀(j:Nat) t v,Tryz.f3.params[j]?=some t→args[j]?=some v→Value.okWide prog W .any base t v:=hval0
 have hW':=hW
 obtain ⟨p,q,hA0,hV,rfl,hfz,hnd⟩:=hW
 have hA:DataW.TrodAll enc prog W 0 (fun _=>true) true Tryz.f3.params.toList args.toList ds p:=hA0
 rw [Tryz.params3] at hA hval
 obtain ⟨v0,vs0,d0,ds0,p0,q0,hargs,rfl,rfl,h0,r0⟩:=trodAll_cons hA
 obtain ⟨v1,vs1,d1,ds1,p1,q1,rfl,rfl,rfl,h1,r1⟩:=trodAll_cons r0
 obtain ⟨v2,vs2,d2,ds2,p2,q2,rfl,rfl,rfl,h2,r2⟩:=trodAll_cons r1
 obtain ⟨v3,vs3,d3,ds3,p3,q3,rfl,rfl,rfl,h3,r3⟩:=trodAll_cons r2
 obtain ⟨rfl,rfl,rfl⟩:=trodAll_nil r3
 obtain rfl:args=#[v0,v1,v2,v3]:=by cases args;simp_all
 obtain ⟨rfl,rfl⟩:=trodVars_none hV
 obtain ⟨wx0,wp0,rfl,m0⟩:=Qz (hval 0 29 v0 rfl rfl) h0
 obtain ⟨a1,rfl,rfl,rfl,w1⟩:=open_int underlying5 (hval 1 5 v1 rfl rfl) h1
 obtain ⟨c2,ga2,wa2,gc2,wc2,rfl,ma2,mb2,mg2⟩:=Ak3 (hval 2 31 v2 rfl rfl) h2
 obtain ⟨a3,rfl,rfl,rfl,w3⟩:=open_int underlying5 (hval 3 5 v3 rfl rfl) h3
 clear hA0 hval0
 simp only [List.append_nil] at hW'
 refine (walk_planMakes wx0 wp0 a1 c2 ga2 wa2 gc2 wc2 a3 W w1 w3 m0 ma2 mb2 mg2).mono fun e W' ⟨he,hg⟩=>?_
 subst he
 exact ⟨_,rfl,Iy (by kernel_rfl) rfl (by rw [Tryz.params3];decide +kernel) rfl rfl underlying4 hW' hg⟩
theorem proved_planMakes:Rows.PlanMakesSaid :=
 OpenClaim.holds_of_wide 3 Tryz.f3 rfl rfl rfl rfl rfl rfl rfl ⟨rfl,rfl,rfl,rfl,rfl⟩ rfl rfl rfl rfl rfl (by kernel_rfl) func3 (by kernel_rfl)
  (of_decide_eq_true (by kernel_rfl)) (by unfold Func.isWrapper;first|(rw [if_pos (by decide +kernel)];kernel_rfl)|(rw [if_neg (by decide +kernel)];exact ⟨rfl,rfl⟩))
  (fun os started H enc _=>lifted_planMakes os started H enc)
#print axioms proved_planMakes
end Go.Proofs.YtnhkojpbbdaedaaGreat
