/- FootCovers: a footprint covers what its command changes; it rises; its keys are there. -/
import Derived.Test.YtenpcndoilcjcaaGreatCmdRead
import Derived.Test.YtenpcndoilcjcaaGreatFootAwake
import Derived.Test.YtenpcndoilcjcaaGreatAtomAll
namespace Go.Proofs.YtenpcndoilcjcaaGreat
open Go.ChangeShapes Go.WideShapes Go.ChangeAt Go.RowKit Go.Proofs.Tryz
open Lib (hid)
set_option linter.unusedVariables false
set_option maxHeartbeats 4000000
set_option maxRecDepth 100000
open Go.RowKit Go
theorem footCovers_no0 (x:Wd) (p:Wp) (a:Int) (c:Cm) (ga wa:Option Addr) (gc wc:Nat) (w:World) (h:Ab w p x) (hg:Ae w ga c.gives) (hw:Ae w wa c.wants) (hf:Ba x=false):Calls prog 3 #[.agg (wC x p),.int .u8 a,.agg (cC c ga gc wa wc)] w fun e w'=>e=.returned (.bool true)∧Below w.heap.size w w':=by
 have HF:=hid hf
 have HWA:=hid h
 clear hf h
 have HG:=hid hg
 have HW:=hid hw
 clear hg hw
 have HP0:=hid (Ac.pair w (wC x p) (cC c ga gc wa wc) 29 31)
 have hWC:=@wC.eq_1
 have hZC:=@zC.eq_1
 have hCC:=@cC.eq_1
 go_enter func3,ntmps3
 go_wp2_with fail
 generalize (w.alloc (.cells (wC x p) 29)).alloc (.cells (cC c ga gc wa wc) 31)=V0 at *
 have H_0:=hid HP0.out.1
 have C_0:=hid HP0.out.2
 have B_0:=hid H_0.out.1
 clear HP0
 refine (awake16_any _).mono ?_
 rintro e u1 ⟨rfl,b1⟩
 have B_1:=hid (bl B_0.out b1)
 have H_1:=hid (H_0.out.call b1)
 have C_1:=hid (C_0.out.call b1)
 clear b1 B_0 H_0 C_0
 have hcH:=H_1.out.2.2
 have hlH:=H_1.out.2.1
 have hcC:=C_1.out.2.2
 have hlC:=C_1.out.2.1
 go_wp2_with fail
 refine (fits16_any x p _ (HWA.out.below B_1.out (Nat.le_refl _))).mono ?_
 rintro e u2 ⟨rfl,b2⟩
 rw [HF.out]
 clear hcH hlH hcC hlC
 have B_2:=hid (bl B_1.out b2)
 have H_2:=hid (H_1.out.call b2)
 have C_2:=hid (C_1.out.call b2)
 clear b2 B_1 H_1 C_1
 have hcH:=H_2.out.2.2
 have hlH:=H_2.out.2.1
 have hcC:=C_2.out.2.2
 have hlC:=C_2.out.2.1
 go_wp2_with fail
 refine (awake16_any _).mono ?_
 rintro e u3 ⟨rfl,b3⟩
 clear hcH hlH hcC hlC
 have B_3:=hid (bl B_2.out b3)
 have H_3:=hid (H_2.out.call b3)
 have C_3:=hid (C_2.out.call b3)
 clear b3 B_2 H_2 C_2
 have hcH:=H_3.out.2.2
 have hlH:=H_3.out.2.1
 have hcC:=C_3.out.2.2
 have hlC:=C_3.out.2.1
 go_wp2_with fail
 go_ret
 exact ⟨rfl,B_3.out⟩
theorem footCovers_no1 (x:Wd) (p:Wp) (a:Int) (c:Cm) (ga wa:Option Addr) (gc wc:Nat) (w:World) (h:Ab w p x) (hg:Ae w ga c.gives) (hw:Ae w wa c.wants) (hf:Ba x=true) (hfw:Dz c=false):Calls prog 3 #[.agg (wC x p),.int .u8 a,.agg (cC c ga gc wa wc)] w fun e w'=>e=.returned (.bool true)∧Below w.heap.size w w':=by
 have HF:=hid hf
 have HWA:=hid h
 clear hf h
 have HG:=hid hg
 have HW:=hid hw
 clear hg hw
 have HFW:=hid hfw
 clear hfw
 have HP0:=hid (Ac.pair w (wC x p) (cC c ga gc wa wc) 29 31)
 have hWC:=@wC.eq_1
 have hZC:=@zC.eq_1
 have hCC:=@cC.eq_1
 go_enter func3,ntmps3
 go_wp2_with fail
 generalize (w.alloc (.cells (wC x p) 29)).alloc (.cells (cC c ga gc wa wc) 31)=V0 at *
 have H_0:=hid HP0.out.1
 have C_0:=hid HP0.out.2
 have B_0:=hid H_0.out.1
 clear HP0
 refine (awake16_any _).mono ?_
 rintro e u1 ⟨rfl,b1⟩
 have B_1:=hid (bl B_0.out b1)
 have H_1:=hid (H_0.out.call b1)
 have C_1:=hid (C_0.out.call b1)
 clear b1 B_0 H_0 C_0
 have hcH:=H_1.out.2.2
 have hlH:=H_1.out.2.1
 have hcC:=C_1.out.2.2
 have hlC:=C_1.out.2.1
 go_wp2_with fail
 refine (fits16_any x p _ (HWA.out.below B_1.out (Nat.le_refl _))).mono ?_
 rintro e u2 ⟨rfl,b2⟩
 rw [HF.out]
 clear hcH hlH hcC hlC
 have B_2:=hid (bl B_1.out b2)
 have H_2:=hid (H_1.out.call b2)
 have C_2:=hid (C_1.out.call b2)
 clear b2 B_1 H_1 C_1
 have hcH:=H_2.out.2.2
 have hlH:=H_2.out.2.1
 have hcC:=C_2.out.2.2
 have hlC:=C_2.out.2.1
 go_wp2_with fail
 refine (Cy c ga wa gc wc _ (HG.out.below B_2.out (Nat.le_refl _)) (HW.out.below B_2.out (Nat.le_refl _))).mono ?_
 rintro e u3 ⟨rfl,b3⟩
 rw [HFW.out]
 clear hcH hlH hcC hlC
 have B_3:=hid (bl B_2.out b3)
 have H_3:=hid (H_2.out.call b3)
 have C_3:=hid (C_2.out.call b3)
 clear b3 B_2 H_2 C_2
 have hcH:=H_3.out.2.2
 have hlH:=H_3.out.2.1
 have hcC:=C_3.out.2.2
 have hlC:=C_3.out.2.1
 go_wp2_with fail
 refine (awake16_any _).mono ?_
 rintro e u4 ⟨rfl,b4⟩
 clear hcH hlH hcC hlC
 have B_4:=hid (bl B_3.out b4)
 have H_4:=hid (H_3.out.call b4)
 have C_4:=hid (C_3.out.call b4)
 clear b4 B_3 H_3 C_3
 have hcH:=H_4.out.2.2
 have hlH:=H_4.out.2.1
 have hcC:=C_4.out.2.2
 have hlC:=C_4.out.2.1
 go_wp2_with fail
 go_ret
 exact ⟨rfl,B_4.out⟩
theorem footCovers_no2 (x:Wd) (p:Wp) (a:Int) (c:Cm) (ga wa:Option Addr) (gc wc:Nat) (w:World) (h:Ab w p x) (hg:Ae w ga c.gives) (hw:Ae w wa c.wants) (hf:Ba x=true) (hfw:Dz c=true) (hmy:Ak c=false):Calls prog 3 #[.agg (wC x p),.int .u8 a,.agg (cC c ga gc wa wc)] w fun e w'=>e=.returned (.bool true)∧Below w.heap.size w w':=by
 have HF:=hid hf
 have HWA:=hid h
 clear hf h
 have HG:=hid hg
 have HW:=hid hw
 clear hg hw
 have HFW:=hid hfw
 clear hfw
 have HMY:=hid hmy
 clear hmy
 have HP0:=hid (Ac.pair w (wC x p) (cC c ga gc wa wc) 29 31)
 have hWC:=@wC.eq_1
 have hZC:=@zC.eq_1
 have hCC:=@cC.eq_1
 go_enter func3,ntmps3
 go_wp2_with fail
 generalize (w.alloc (.cells (wC x p) 29)).alloc (.cells (cC c ga gc wa wc) 31)=V0 at *
 have H_0:=hid HP0.out.1
 have C_0:=hid HP0.out.2
 have B_0:=hid H_0.out.1
 clear HP0
 refine (awake16_any _).mono ?_
 rintro e u1 ⟨rfl,b1⟩
 have B_1:=hid (bl B_0.out b1)
 have H_1:=hid (H_0.out.call b1)
 have C_1:=hid (C_0.out.call b1)
 clear b1 B_0 H_0 C_0
 have hcH:=H_1.out.2.2
 have hlH:=H_1.out.2.1
 have hcC:=C_1.out.2.2
 have hlC:=C_1.out.2.1
 go_wp2_with fail
 refine (fits16_any x p _ (HWA.out.below B_1.out (Nat.le_refl _))).mono ?_
 rintro e u2 ⟨rfl,b2⟩
 rw [HF.out]
 clear hcH hlH hcC hlC
 have B_2:=hid (bl B_1.out b2)
 have H_2:=hid (H_1.out.call b2)
 have C_2:=hid (C_1.out.call b2)
 clear b2 B_1 H_1 C_1
 have hcH:=H_2.out.2.2
 have hlH:=H_2.out.2.1
 have hcC:=C_2.out.2.2
 have hlC:=C_2.out.2.1
 go_wp2_with fail
 refine (Cy c ga wa gc wc _ (HG.out.below B_2.out (Nat.le_refl _)) (HW.out.below B_2.out (Nat.le_refl _))).mono ?_
 rintro e u3 ⟨rfl,b3⟩
 rw [HFW.out]
 clear hcH hlH hcC hlC
 have B_3:=hid (bl B_2.out b3)
 have H_3:=hid (H_2.out.call b3)
 have C_3:=hid (C_2.out.call b3)
 clear b3 B_2 H_2 C_2
 have hcH:=H_3.out.2.2
 have hlH:=H_3.out.2.1
 have hcC:=C_3.out.2.2
 have hlC:=C_3.out.2.1
 go_wp2_with fail
 refine (Bw c ga wa gc wc _ (HG.out.below B_3.out (Nat.le_refl _)) (HW.out.below B_3.out (Nat.le_refl _))).mono ?_
 rintro e u4 ⟨rfl,b4⟩
 rw [HMY.out]
 clear hcH hlH hcC hlC
 have B_4:=hid (bl B_3.out b4)
 have H_4:=hid (H_3.out.call b4)
 have C_4:=hid (C_3.out.call b4)
 clear b4 B_3 H_3 C_3
 have hcH:=H_4.out.2.2
 have hlH:=H_4.out.2.1
 have hcC:=C_4.out.2.2
 have hlC:=C_4.out.2.1
 go_wp2_with fail
 refine (awake16_any _).mono ?_
 rintro e u5 ⟨rfl,b5⟩
 clear hcH hlH hcC hlC
 have B_5:=hid (bl B_4.out b5)
 have H_5:=hid (H_4.out.call b5)
 have C_5:=hid (C_4.out.call b5)
 clear b5 B_4 H_4 C_4
 have hcH:=H_5.out.2.2
 have hlH:=H_5.out.2.1
 have hcC:=C_5.out.2.2
 have hlC:=C_5.out.2.1
 go_wp2_with fail
 go_ret
 exact ⟨rfl,B_5.out⟩
theorem footCovers_go (x:Wd) (pd:Dp) (b o pac:Nat) (pk pw:Option Addr) (pkc pwc:Nat) (a i:Nat) (c:Cm) (ga wa:Option Addr) (gc wc:Nat) (haa:a≤255) (hi:a%x.at_.length=i) (w:World) (h:Ab w ⟨pd,some ⟨b,o,none⟩,pac,pk,pkc,pw,pwc⟩ x) (hg:Ae w ga c.gives) (hw:Ae w wa c.wants) (hf:Ba x=true) (hfw:Dz c=true) (hmy:Ak c=true):Calls prog 3 #[.agg (wC x ⟨pd,some ⟨b,o,none⟩,pac,pk,pkc,pw,pwc⟩),.int .u8 (a:Int),.agg (cC c ga gc wa wc)] w fun e w'=>e=.returned (.bool true)∧Below w.heap.size w w':=by
 have r1:=Ay a x.at_.length
 have m1:=Bc a x.at_.length
 rw [hi] at r1 m1
 have FT:=hid (Bl hf)
 have hlp:0<x.at_.length:=(Aj FT.out.right).1
 have hne:¬x.at_=[]:=List.length_pos_iff.1 hlp
 have hil:i<x.at_.length:=by rw [←hi];exact Nat.mod_lt _ hlp
 have hlen6:=(Aj FT.out.right).2.1
 have hlen7:x.d.players.length=x.at_.length:=right_pl16 FT.out.right
 obtain ⟨b',o',eb,hb,hcs⟩:=h.at_.at_ hil
 simp only [Option.some.injEq,Addr.mk.injEq,and_true] at eb
 obtain ⟨rfl,rfl⟩:=eb
 have c1:=hcs i hil
 rw [(Bn FT.out.right hil).1] at c1
 obtain ⟨⟨y,R⟩,hR⟩:∃R,doW x i c=R:=⟨_,rfl⟩
 have SY:=hid (show Am x y by have:=Rh x i c;rwa [hR] at this)
 have RY:=hid (show Ai y=true by have:=Sq FT.out.right hil c;rwa [hR] at this)
 have MAY:=hid (may16 hmy)
 have HSZ:=hid (fits_small (by have:=hf;simp only [Ba,Bool.and_eq_true] at this;exact this.1))
 have FC:=hid (fun (s:List Pl) (hs:Lm (Yb x i c) s)=>(show Hk8 s x y=true by have:=foot_covers FT.out.right hil hs;rwa [hR] at this))
 have FB:=hid (fun (s:List Pl) (hs:Lm (Yb x i c) s)=>(show (⟨0,(Ah y i:Int)⟩:Pl)∈s from (hs.mem _).2 (by have:=foot_behind FT.out.right hil c;rwa [hR] at this)))
 have FR:=hid (fun (s:List Pl) (hs:Lm (Yb x i c) s)=>(hs.mem _).2 (Gd7 x i c))
 have FS:=hid (fun (s:List Pl) (hs:Lm (Yb x i c) s)=>(hs.mem _).2 (Ew9 x i c))
 have FP:=hid (fun (s:List Pl) (hs:Lm (Yb x i c) s) (k:Pl) (hk:k∈s)=>(show 0≤Dy x.d.exits.length x.d.players.length k by rw [hlen7];exact foot_placed FT.out.right hil MAY.out.1 ((hs.mem k).1 hk)))
 have HX6:=hid (show x.d.exits.length≤1000000∧x.d.players.length≤1000000 by have:=hf;simp [Ba,fewB] at this;omega)
 obtain ⟨ry,hry⟩:∃ry:Nat,Ah y i=ry:=⟨_,rfl⟩
 have HRY:=hid (show y.at_.getD i 0=(ry:Int) by rw [←hry];exact Hm9 RY.out (by rw [SY.out.at_];exact hil))
 rw [hry] at FB
 generalize Ah x i=rm at *
 have HR:=hid hR
 have HC1:=hid (show CAt w b (o+i) (.int .i64 (rm:Int)) from ⟨c1,hb⟩)
 clear hi hlp hcs c1 hb hR hry hlen7
 have HF:=hid hf
 have HWA:=hid h
 clear hf h
 have HG:=hid hg
 have HW:=hid hw
 clear hg hw
 have HFW:=hid hfw
 clear hfw
 have HMY:=hid hmy
 clear hmy
 have HP0:=hid (Ac.pair w (wC x ⟨pd,some ⟨b,o,none⟩,pac,pk,pkc,pw,pwc⟩) (cC c ga gc wa wc) 29 31)
 have hWC:=@wC.eq_1
 have hZC:=@zC.eq_1
 have hCC:=@cC.eq_1
 go_enter func3,ntmps3
 go_wp2_with fail
 generalize (w.alloc (.cells (wC x ⟨pd,some ⟨b,o,none⟩,pac,pk,pkc,pw,pwc⟩) 29)).alloc (.cells (cC c ga gc wa wc) 31)=V0 at *
 have H_0:=hid HP0.out.1
 have C_0:=hid HP0.out.2
 have B_0:=hid H_0.out.1
 clear HP0
 refine (awake16_any _).mono ?_
 rintro e u1 ⟨rfl,b1⟩
 have B_1:=hid (bl B_0.out b1)
 have H_1:=hid (H_0.out.call b1)
 have C_1:=hid (C_0.out.call b1)
 clear b1 B_0 H_0 C_0
 have hcH:=H_1.out.2.2
 have hlH:=H_1.out.2.1
 have hcC:=C_1.out.2.2
 have hlC:=C_1.out.2.1
 go_wp2_with fail
 refine (fits16_any x ⟨pd,some ⟨b,o,none⟩,pac,pk,pkc,pw,pwc⟩ _ (HWA.out.below B_1.out (Nat.le_refl _))).mono ?_
 rintro e u2 ⟨rfl,b2⟩
 rw [HF.out]
 clear hcH hlH hcC hlC
 have B_2:=hid (bl B_1.out b2)
 have H_2:=hid (H_1.out.call b2)
 have C_2:=hid (C_1.out.call b2)
 clear b2 B_1 H_1 C_1
 have hcH:=H_2.out.2.2
 have hlH:=H_2.out.2.1
 have hcC:=C_2.out.2.2
 have hlC:=C_2.out.2.1
 go_wp2_with fail
 refine (Cy c ga wa gc wc _ (HG.out.below B_2.out (Nat.le_refl _)) (HW.out.below B_2.out (Nat.le_refl _))).mono ?_
 rintro e u3 ⟨rfl,b3⟩
 rw [HFW.out]
 clear hcH hlH hcC hlC
 have B_3:=hid (bl B_2.out b3)
 have H_3:=hid (H_2.out.call b3)
 have C_3:=hid (C_2.out.call b3)
 clear b3 B_2 H_2 C_2
 have hcH:=H_3.out.2.2
 have hlH:=H_3.out.2.1
 have hcC:=C_3.out.2.2
 have hlC:=C_3.out.2.1
 go_wp2_with fail
 refine (Bw c ga wa gc wc _ (HG.out.below B_3.out (Nat.le_refl _)) (HW.out.below B_3.out (Nat.le_refl _))).mono ?_
 rintro e u4 ⟨rfl,b4⟩
 rw [HMY.out]
 clear hcH hlH hcC hlC
 have B_4:=hid (bl B_3.out b4)
 have H_4:=hid (H_3.out.call b4)
 have C_4:=hid (C_3.out.call b4)
 clear b4 B_3 H_3 C_3
 have hcH:=H_4.out.2.2
 have hlH:=H_4.out.2.1
 have hcC:=C_4.out.2.2
 have hlC:=C_4.out.2.1
 go_wp2_with fail
 have CW_4:=hid (show CAt u4 b (o+i) (.int .i64 (rm:Int)) from ⟨(B_4.out.cell (p:=⟨b,o+i,none⟩) HC1.out.2).trans HC1.out.1,Nat.lt_of_lt_of_le HC1.out.2 B_4.out.size⟩)
 refine (of_any x ⟨pd,some ⟨b,o,none⟩,pac,pk,pkc,pw,pwc⟩ i c ga wa gc wc _ FT.out.right (HWA.out.below B_4.out (Nat.le_refl _)) hil MAY.out.1).mono ?_
 rintro e u5 ⟨fb,fc,s,rfl,hs,hO,b5⟩
 clear hcH hlH hcC hlC
 have B_5:=hid (bl B_4.out b5)
 have H_5:=hid (H_4.out.call b5)
 have C_5:=hid (C_4.out.call b5)
 have CW_5:=hid (CW_4.out.call b5)
 clear b5 B_4 H_4 C_4 CW_4
 have HS:=hid hs
 have SR_5:=hid hO.row
 clear hs hO
 have hcH:=H_5.out.2.2
 have hlH:=H_5.out.2.1
 have hcC:=C_5.out.2.2
 have hlC:=C_5.out.2.1
 go_wp2_with fail
 refine (Pw (Am.refl x) ⟨pd,some ⟨b,o,none⟩,pac,pk,pkc,pw,pwc⟩ i c ga wa gc wc _ FT.out.right (HWA.out.below B_5.out (Nat.le_refl _)) hil (HG.out.below B_5.out (Nat.le_refl _)) (HW.out.below B_5.out (Nat.le_refl _)) HR.out).mono ?_
 rintro e u6 ⟨q1,qa1,ia1,qc1,ic1,rfl,g,b6⟩
 clear hcH hlH hcC hlC
 have B_6:=hid (bl B_5.out b6)
 have H_6:=hid (H_5.out.call b6)
 have C_6:=hid (C_5.out.call b6)
 have CW_6:=hid (CW_5.out.call b6)
 have SR_6:=hid (SR_5.out.call b6)
 clear b6 B_5 H_5 C_5 CW_5 SR_5
 have gw:=g.world (HWA.out.below B_6.out (Nat.le_refl _))
 obtain ⟨qd1,qat,qac1,qk1,qkc1,qw1,qwc1⟩:=q1
 obtain ⟨qb1,qo1,ea,hqb,hqc⟩:=gw.at_.at_ (k:=i) (by rw [SY.out.at_];exact hil)
 simp only at ea
 subst ea
 have hqi:=hqc i (by rw [SY.out.at_];exact hil)
 rw [show y.at_[i]'(by rw [SY.out.at_];exact hil)=(ry:Int) by rw [←HRY.out];simp [List.getD,SY.out.at_,hil]] at hqi
 have CN_6:=hid (show CAt u6 qb1 (qo1+i) (.int .i64 (ry:Int)) from ⟨hqi,hqb⟩)
 have WY_6:=hid gw
 clear g gw hqb hqc hqi
 have hcH:=H_6.out.2.2
 have hlH:=H_6.out.2.1
 have hcC:=C_6.out.2.2
 have hlC:=C_6.out.2.1
 go_wp2_with fail
 clear hcH hlH hcC hlC
 have s7:(u6.alloc (.cells (wC x ⟨qd1,some ⟨qb1,qo1,none⟩,qac1,qk1,qkc1,qw1,qwc1⟩) 29)).heap.size=u6.heap.size+1:=by simp
 have zb7:Below u6.heap.size u6 (u6.alloc (.cells (wC x ⟨qd1,some ⟨qb1,qo1,none⟩,qac1,qk1,qkc1,qw1,qwc1⟩) 29)):=b_a _
 have B_7:=hid (bl B_6.out zb7)
 have H_7:=hid (H_6.out.call zb7)
 have C_7:=hid (C_6.out.call zb7)
 have CW_7:=hid (CW_6.out.call zb7)
 have SR_7:=hid (SR_6.out.call zb7)
 have CN_7:=hid (CN_6.out.call zb7)
 have WY_7:=hid (WY_6.out.call zb7)
 have N_7:=hid (Ac.newb (w:=w) (A:=(wC x ⟨qd1,some ⟨qb1,qo1,none⟩,qac1,qk1,qkc1,qw1,qwc1⟩)) (t:=29) (n:=u6.heap.size) B_6.out rfl)
 clear zb7 B_6 H_6 C_6 CW_6 SR_6 CN_6 WY_6
 generalize u6.alloc (.cells (wC x ⟨qd1,some ⟨qb1,qo1,none⟩,qac1,qk1,qkc1,qw1,qwc1⟩) 29)=V7 at *
 have s8:(V7.alloc (.cells #[.int .i64 R.err,.int .i64 R.kind,.int .i64 R.room,.slice qa1 R.players.length qc1,.slice ia1 R.items.length ic1,.int .i64 R.coins] 40)).heap.size=V7.heap.size+1:=by simp
 have zb8:Below V7.heap.size V7 (V7.alloc (.cells #[.int .i64 R.err,.int .i64 R.kind,.int .i64 R.room,.slice qa1 R.players.length qc1,.slice ia1 R.items.length ic1,.int .i64 R.coins] 40)):=b_a _
 have B_8:=hid (bl B_7.out zb8)
 have H_8:=hid (H_7.out.call zb8)
 have C_8:=hid (C_7.out.call zb8)
 have N_8:=hid (N_7.out.call zb8)
 have CW_8:=hid (CW_7.out.call zb8)
 have SR_8:=hid (SR_7.out.call zb8)
 have CN_8:=hid (CN_7.out.call zb8)
 have WY_8:=hid (WY_7.out.call zb8)
 have Nr_8:=hid (Ac.newb (w:=w) (A:=#[.int .i64 R.err,.int .i64 R.kind,.int .i64 R.room,.slice qa1 R.players.length qc1,.slice ia1 R.items.length ic1,.int .i64 R.coins]) (t:=40) (n:=u6.heap.size+1) B_7.out (by omega))
 clear zb8 B_7 H_7 C_7 N_7 CW_7 SR_7 CN_7 WY_7
 generalize V7.alloc (.cells #[.int .i64 R.err,.int .i64 R.kind,.int .i64 R.room,.slice qa1 R.players.length qc1,.slice ia1 R.items.length ic1,.int .i64 R.coins] 40)=V8 at *
 clear s7 s8
 have hcH:=H_8.out.2.2
 have hlH:=H_8.out.2.1
 have hcC:=C_8.out.2.2
 have hlC:=C_8.out.2.1
 have hcN:=N_8.out.2.2
 have hlN:=N_8.out.2.1
 have hcNr:=Nr_8.out.2.2
 have hlNr:=Nr_8.out.2.1
 have HCV:=hid (FC.out s HS.out)
 refine (covers_as SY.out ⟨pd,some ⟨b,o,none⟩,pac,pk,pkc,pw,pwc⟩ (⟨qd1,some ⟨qb1,qo1,none⟩,qac1,qk1,qkc1,qw1,qwc1⟩:Wp) fb fc s _ FT.out.right RY.out HSZ.out (HWA.out.below B_8.out (Nat.le_refl _)) WY_8.out SR_8.out).mono ?_
 rintro e u9 ⟨rfl,b9⟩
 rw [HCV.out]
 clear hcH hlH hcC hlC hcN hlN hcNr hlNr
 have B_9:=hid (bl B_8.out b9)
 have H_9:=hid (H_8.out.call b9)
 have C_9:=hid (C_8.out.call b9)
 have N_9:=hid (N_8.out.call b9)
 have Nr_9:=hid (Nr_8.out.call b9)
 have CW_9:=hid (CW_8.out.call b9)
 have SR_9:=hid (SR_8.out.call b9)
 have CN_9:=hid (CN_8.out.call b9)
 have WY_9:=hid (WY_8.out.call b9)
 clear b9 B_8 H_8 C_8 N_8 Nr_8 CW_8 SR_8 CN_8 WY_8
 have hcH:=H_9.out.2.2
 have hlH:=H_9.out.2.1
 have hcC:=C_9.out.2.2
 have hlC:=C_9.out.2.1
 have hcN:=N_9.out.2.2
 have hlN:=N_9.out.2.1
 have hcNr:=Nr_9.out.2.2
 have hlNr:=Nr_9.out.2.1
 go_wp2_with fail
 refine (rcovers_as SY.out ⟨pd,some ⟨b,o,none⟩,pac,pk,pkc,pw,pwc⟩ (⟨qd1,some ⟨qb1,qo1,none⟩,qac1,qk1,qkc1,qw1,qwc1⟩:Wp) fb fc s _ FT.out.right RY.out (HWA.out.below B_9.out (Nat.le_refl _)) WY_9.out SR_9.out).mono ?_
 rintro e u10 ⟨rfl,b10⟩
 rw [HCV.out]
 clear hcH hlH hcC hlC hcN hlN hcNr hlNr
 have B_10:=hid (bl B_9.out b10)
 have H_10:=hid (H_9.out.call b10)
 have C_10:=hid (C_9.out.call b10)
 have N_10:=hid (N_9.out.call b10)
 have Nr_10:=hid (Nr_9.out.call b10)
 have CW_10:=hid (CW_9.out.call b10)
 have SR_10:=hid (SR_9.out.call b10)
 have CN_10:=hid (CN_9.out.call b10)
 have WY_10:=hid (WY_9.out.call b10)
 clear b10 B_9 H_9 C_9 N_9 Nr_9 CW_9 SR_9 CN_9 WY_9
 have hcH:=H_10.out.2.2
 have hlH:=H_10.out.2.1
 have hcC:=C_10.out.2.2
 have hlC:=C_10.out.2.1
 have hcN:=N_10.out.2.2
 have hlN:=N_10.out.2.1
 have hcNr:=Nr_10.out.2.2
 have hlNr:=Nr_10.out.2.1
 go_wp2_with fail
 refine (has_any fb fc s ⟨1,(i:Int)⟩ _ SR_10.out).mono ?_
 rintro e uu ⟨rfl,rfl⟩
 rw [decide_eq_true (FS.out s HS.out)]
 have ca:=CW_10.out.1
 have lb:=CW_10.out.2
 go_wp2_with fail
 refine (has_any fb fc s ⟨0,(rm:Int)⟩ _ SR_10.out).mono ?_
 rintro e uu ⟨rfl,rfl⟩
 rw [decide_eq_true (FR.out s HS.out)]
 have cn:=CN_10.out.1
 have ln:=CN_10.out.2
 go_wp2_with fail
 refine (has_any fb fc s ⟨0,(ry:Int)⟩ _ SR_10.out).mono ?_
 rintro e uu ⟨rfl,rfl⟩
 rw [decide_eq_true (FB.out s HS.out)]
 clear ca lb cn ln
 go_wp2_with fail
 clear hcH hlH hcC hlC hcN hlN hcNr hlNr
 have hsl:=SR_10.out.len
 go_loopw [11] (fun v wr=>∃k:Nat,k≤s.length∧v=.int .i64 k∧Below u10.heap.size u10 wr) (fun v _=>s.length-(intOf v).toNat)
 case atStart=>exact ⟨0,Nat.zero_le _,rfl,Below.refl _ _⟩
 case round =>
  obtain ⟨k,hk,rfl,hbel⟩:=hrel
  have HBE:=hid hbel
  clear hbel
  by_cases hlt:k<s.length
  ·have B_0:=hid (bl B_10.out HBE.out)
   have H_0:=hid (H_10.out.call HBE.out)
   have SR_0:=hid (Ar.call SR_10.out HBE.out)
   obtain ⟨sb,so,rfl,slt,e0,e1⟩:=Au.cells SR_0.out hlt
   have HP:=hid (FP.out s HS.out _ (List.getElem_mem hlt))
   obtain ⟨z,hz⟩:∃z,s[k]=z:=⟨_,rfl⟩
   have HZ:=hid hz
   rw [hz] at e0 e1 HP
   obtain ⟨z0,z1⟩:=z
   simp only at e0 e1
   clear hz
   obtain ⟨pl,hpl⟩:∃pl,Dy x.d.exits.length x.d.players.length ⟨z0,z1⟩=pl:=⟨_,rfl⟩
   have HPL:=hid hpl
   rw [hpl] at HP
   have g0:decide (pl<0)=false:=by have:=HP.out;simp;omega
   clear hpl
   have hw:IntKind.i64.wrap ((k:Int)+1)=(k:Int)+1:=IntWalk.i64_in _ (by omega)
   by_cases h0:k=0
   ·have g1:decide ((0:Int)<(k:Int))=false:=by simp;omega
    have g2:(0<k)=False:=by simp;omega
    clear h0
    have hcH:=H_0.out.2.2
    have hlH:=H_0.out.2.1
    go_wp2_with fail
    clear hcH hlH
    have KS:Hid (∀w',Below wr.heap.size wr w'→Below wr.heap.size wr w'∧(∀ii,w'.cell? ⟨w.heap.size,ii,none⟩=((wC x ⟨pd,some ⟨b,o,none⟩,pac,pk,pkc,pw,pwc⟩)[ii]?:Option Value))∧w'.cell? ⟨sb,so+k*2,none⟩=some (.int .i64 z0)∧w'.cell? ⟨sb,so+k*2+1,none⟩=some (.int .i64 z1)):=hid (fun w' hb=>⟨hb,fun ii=>(hb.cell (p:=⟨w.heap.size,ii,none⟩) H_0.out.2.1).trans (H_0.out.2.2 ii),Ad e0 hb,Ad e1 hb⟩)
    have D0:=hid (Af (Below.refl wr.heap.size wr))
    refine tkS (S:=(fun w'=>Below wr.heap.size wr w'∧(∀ii,w'.cell? ⟨w.heap.size,ii,none⟩=((wC x ⟨pd,some ⟨b,o,none⟩,pac,pk,pkc,pw,pwc⟩)[ii]?:Option Value))∧w'.cell? ⟨sb,so+k*2,none⟩=some (.int .i64 z0)∧w'.cell? ⟨sb,so+k*2+1,none⟩=some (.int .i64 z1))) (by (first|(with_reducible exact KS.out _ D0.out))) (fun hHeld=>?_)
    refine tkl [0,1,2,3,4,5] ?_
    iterate 6
     refine tW ?_
     try go_frame
    refine rdy1 6 (fun K hK=>?_)
    go_simp
    refine (Ca0 x.d pd ⟨z0,z1⟩ _ HX6.out.1 HX6.out.2).mono ?_;rintro e x1 ⟨rfl,hb9⟩;have D1:=hid (Aa D0.out D0.out.size hb9);rw [HPL.out];clear hb9
    try go_wp2_with fail
    refine hK.out _ _ (by (first|(with_reducible exact KS.out _ D1.out))) (fun hHeld=>?_)
    clear hK K
    try go_frame
    refine tkl [7,8,9,10,11] ?_
    iterate 5
     refine tW ?_
     try go_frame
    refine tkl [12,13,14,15,16,17,18,19,20,21,22] ?_
    iterate 11
     refine tN ?_
     try go_frame
    refine tkl [23,24] ?_
    iterate 2
     refine tW ?_
     try go_frame
    refine tkD ?_
    clear hHeld KS
    have HB9:=hid (bl HBE.out D1.out)
    clear D0 D1
    go_wp2_with fail
    go_roundw
    case rel=>exact ⟨k+1,by omega,by go_num,HB9.out⟩
    case measure=>simp [intOf];omega
   ·have g1:decide ((0:Int)<(k:Int))=true:=by simp;omega
    have g2:(0<k)=True:=by simp;omega
    have i0:((k:Int)-1).toNat=k-1:=by omega
    have i1:(0:Int)≤(k:Int)-1:=by omega
    have i4:(1:Int)≤(k:Int):=by omega
    have i2:(k:Int)-1<(s.length:Int):=by omega
    have iw:IntKind.i64.wrap ((k:Int)-1)=(k:Int)-1:=IntWalk.i64_in _ (by omega)
    obtain ⟨sb',so',es,slt',f0,f1⟩:=Au.cells SR_0.out (show k-1<s.length by omega)
    simp only [Option.some.injEq,Addr.mk.injEq,and_true] at es
    obtain ⟨rfl,rfl⟩:=es
    have HL:=hid (show Ev s[k-1] s[k]=true from List.pairwise_iff_getElem.1 HS.out.up (k-1) k _ _ (by omega))
    rw [HZ.out] at HL
    obtain ⟨y1,hy⟩:∃y1,s[k-1]=y1:=⟨_,rfl⟩
    rw [hy] at f0 f1 HL
    obtain ⟨y0,y1⟩:=y1
    simp only at f0 f1
    clear hy slt'
    clear h0
    have hcH:=H_0.out.2.2
    have hlH:=H_0.out.2.1
    go_wp2_with fail
    clear hcH hlH
    have KS:Hid (∀w',Below wr.heap.size wr w'→Below wr.heap.size wr w'∧(∀ii,w'.cell? ⟨w.heap.size,ii,none⟩=((wC x ⟨pd,some ⟨b,o,none⟩,pac,pk,pkc,pw,pwc⟩)[ii]?:Option Value))∧w'.cell? ⟨sb,so+k*2,none⟩=some (.int .i64 z0)∧w'.cell? ⟨sb,so+k*2+1,none⟩=some (.int .i64 z1)∧w'.cell? ⟨sb,so+(k-1)*2,none⟩=some (.int .i64 y0)∧w'.cell? ⟨sb,so+(k-1)*2+1,none⟩=some (.int .i64 y1)):=hid (fun w' hb=>⟨hb,fun ii=>(hb.cell (p:=⟨w.heap.size,ii,none⟩) H_0.out.2.1).trans (H_0.out.2.2 ii),Ad e0 hb,Ad e1 hb,Ad f0 hb,Ad f1 hb⟩)
    have D0:=hid (Af (Below.refl wr.heap.size wr))
    refine tkS (S:=(fun w'=>Below wr.heap.size wr w'∧(∀ii,w'.cell? ⟨w.heap.size,ii,none⟩=((wC x ⟨pd,some ⟨b,o,none⟩,pac,pk,pkc,pw,pwc⟩)[ii]?:Option Value))∧w'.cell? ⟨sb,so+k*2,none⟩=some (.int .i64 z0)∧w'.cell? ⟨sb,so+k*2+1,none⟩=some (.int .i64 z1)∧w'.cell? ⟨sb,so+(k-1)*2,none⟩=some (.int .i64 y0)∧w'.cell? ⟨sb,so+(k-1)*2+1,none⟩=some (.int .i64 y1))) (by (first|(with_reducible exact KS.out _ D0.out))) (fun hHeld=>?_)
    refine tkl [0,1,2,3,4,5] ?_
    iterate 6
     refine tW ?_
     try go_frame
    refine rdy1 6 (fun K hK=>?_)
    go_simp
    refine (Ca0 x.d pd ⟨z0,z1⟩ _ HX6.out.1 HX6.out.2).mono ?_;rintro e x1 ⟨rfl,hb9⟩;have D1:=hid (Aa D0.out D0.out.size hb9);rw [HPL.out];clear hb9
    try go_wp2_with fail
    refine hK.out _ _ (by (first|(with_reducible exact KS.out _ D1.out))) (fun hHeld=>?_)
    clear hK K
    try go_frame
    refine tkl [7,8,9,10,11] ?_
    iterate 5
     refine tW ?_
     try go_frame
    refine tkl [12,13,14,15,16,17,18,19,20] ?_
    iterate 9
     refine tW ?_
     try go_frame
    refine rdy1 21 (fun K hK=>?_)
    go_simp
    refine (Ui ⟨y0,y1⟩ ⟨z0,z1⟩ _).mono ?_;rintro e x2 ⟨rfl,hb9⟩;have D2:=hid (Aa D1.out D1.out.size hb9);rw [HL.out];clear hb9
    try go_wp2_with fail
    refine hK.out _ _ (by (first|(with_reducible exact KS.out _ D2.out))) (fun hHeld=>?_)
    clear hK K
    try go_frame
    refine tkl [22,23,24] ?_
    iterate 3
     refine tW ?_
     try go_frame
    refine tkD ?_
    clear hHeld KS
    have HB9:=hid (bl HBE.out D2.out)
    clear D0 D1 D2
    go_wp2_with fail
    go_roundw
    case rel=>exact ⟨k+1,by omega,by go_num,HB9.out⟩
    case measure=>simp [intOf];omega
  ·have hke:k=s.length:=by omega
   subst hke
   go_wp2_with fail
   go_ret
   exact ⟨rfl,bl B_10.out HBE.out⟩
theorem walk_footCovers (x:Wd) (p:Wp) (a:Int) (c:Cm) (ga wa:Option Addr) (gc wc:Nat) (w:World) (ha:(Lit.int .u8 a).wf=true) (h:Ab w p x) (hg:Ae w ga c.gives) (hw:Ae w wa c.wants) (_:c.Wf):Calls prog 3 #[.agg (wC x p),.int .u8 a,.agg (cC c ga gc wa wc)] w fun e w'=>e=.returned (.bool true)∧Below w.heap.size w w':=by
 cases hf:Ba x
 ·exact footCovers_no0 x p a c ga wa gc wc w h hg hw hf
 cases hfw:Dz c
 ·exact footCovers_no1 x p a c ga wa gc wc w h hg hw hf hfw
 cases hmy:Ak c
 ·exact footCovers_no2 x p a c ga wa gc wc w h hg hw hf hfw hmy
 have h1:=Ed ha
 obtain ⟨m1,rfl⟩:∃m:Nat,a=m:=⟨a.toNat,by omega⟩
 have FT:=Bl hf
 obtain ⟨pd,pa,pac,pk,pkc,pw,pwc⟩:=p
 obtain ⟨b,o,eb,hb,hc⟩:=h.at_.at_ (Aj FT.right).1
 simp only at eb
 subst eb
 exact footCovers_go x pd b o pac pk pw pkc pwc m1 _ c ga wa gc wc (by omega) rfl w h hg hw hf hfw hmy
theorem lifted_footCovers (os:Os) (started:os.Started) (H:Type) (enc:TypeId × Value→H) :
 ReturnsInHanded {} Tryz.checked os 3 .any (Rows.footCoversSpec.pre6 enc prog Tryz.f3 Rows.footCoversRow.domain false) (Rows.footCoversSpec.post enc prog Tryz.f3 false true false false):=by
 refine returnsInHanded_of_change (C:=Tryz.checked) (by kernel_rfl) started (by kernel_rfl) func3
  (ChangeSpec.witness6 (enc:=enc) (C:=Tryz.checked) false ⟨#[],#[.agg zC,.int .u8 0,.agg #[.int .i64 0,.int .i64 0,.int .i64 0,.int .i64 0,.int .i64 0,.slice none 0 0,.int .i64 0,.slice none 0 0,.int .i64 0]],[]⟩ 8 (by kernel_rfl) (by kernel_rfl) (by kernel_rfl) (by kernel_rfl)) ?_
 intro W base args ds gs before hval0 hW hcnd _
 have hval:∀(j:Nat) t v,Tryz.f3.params[j]?=some t→args[j]?=some v→Value.okWide prog W .any base t v:=hval0
 have hW':=hW
 obtain ⟨p,q,hA0,hV,rfl,hfz,hnd⟩:=hW
 have hA:DataW.TrodAll enc prog W 0 (fun _=>true) true Tryz.f3.params.toList args.toList ds p:=hA0
 rw [Tryz.params3] at hA hval
 obtain ⟨v0,vs0,d0,ds0,p0,q0,hargs,rfl,rfl,h0,r0⟩:=trodAll_cons hA
 obtain ⟨v1,vs1,d1,ds1,p1,q1,rfl,rfl,rfl,h1,r1⟩:=trodAll_cons r0
 obtain ⟨v2,vs2,d2,ds2,p2,q2,rfl,rfl,rfl,h2,r2⟩:=trodAll_cons r1
 obtain ⟨rfl,rfl,rfl⟩:=trodAll_nil r2
 obtain rfl:args=#[v0,v1,v2]:=by cases args;simp_all
 obtain ⟨rfl,rfl⟩:=trodVars_none hV
 obtain ⟨wx0,wp0,rfl,m0⟩:=Qz (hval 0 29 v0 rfl rfl) h0
 obtain ⟨a1,rfl,rfl,rfl,w1⟩:=open_int underlying5 (hval 1 5 v1 rfl rfl) h1
 obtain ⟨c2,ga2,wa2,gc2,wc2,rfl,ma2,mb2,mg2⟩:=Ak3 (hval 2 31 v2 rfl rfl) h2
 clear hA0 hval0
 simp only [List.append_nil] at hW'
 refine (walk_footCovers wx0 wp0 a1 c2 ga2 wa2 gc2 wc2 W w1 m0 ma2 mb2 mg2).mono fun e W' ⟨he,hg⟩=>?_
 subst he
 exact ⟨_,rfl,Iy (by kernel_rfl) rfl (by rw [Tryz.params3];decide +kernel) rfl rfl underlying4 hW' hg⟩
theorem proved_footCovers:Rows.FootCoversSaid :=
 OpenClaim.holds_of_wide 3 Tryz.f3 rfl rfl rfl rfl rfl rfl rfl ⟨rfl,rfl,rfl,rfl,rfl⟩ rfl rfl rfl rfl rfl (by kernel_rfl) func3 (by kernel_rfl)
  (of_decide_eq_true (by kernel_rfl)) (by unfold Func.isWrapper;first|(rw [if_pos (by decide +kernel)];kernel_rfl)|(rw [if_neg (by decide +kernel)];exact ⟨rfl,rfl⟩))
  (fun os started H enc _=>lifted_footCovers os started H enc)
#print axioms proved_footCovers
end Go.Proofs.YtenpcndoilcjcaaGreat
