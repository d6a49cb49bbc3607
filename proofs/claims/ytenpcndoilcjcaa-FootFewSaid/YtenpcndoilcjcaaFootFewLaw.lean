/- FootFew: how many keys a footprint has. -/
import Derived.Test.YtenpcndoilcjcaaCmdRead
import Derived.Test.YtenpcndoilcjcaaFootAwake
namespace Go.Proofs.Ytenpcndoilcjcaa
open Go.ChangeShapes Go.WideShapes Go.ChangeAt Go.RowKit Go.Proofs.Try
open Lib (hid)
set_option linter.unusedVariables false
set_option maxHeartbeats 4000000
set_option maxRecDepth 100000
open Go.RowKit Go
theorem cnt_more16 {s:List Pl} {k:Nat} (h:k<s.length):(s.take (k+1)).countP (fun z=>decide (z.kind=0))=(s.take k).countP (fun z=>decide (z.kind=0))+if s[k].kind=0 then 1 else 0:=by
 rw [List.take_succ_eq_append_getElem h,List.countP_append]
 by_cases e:s[k].kind=0<;>simp [e]
theorem footFew_no0 (x:Wd) (p:Wp) (a:Int) (c:Cm) (ga wa:Option Addr) (gc wc:Nat) (w:World) (h:Ab w p x) (hg:Ae w ga c.gives) (hw:Ae w wa c.wants) (hf:Ba x=false):Calls prog 4 #[.agg (wC x p),.int .u8 a,.agg (cC c ga gc wa wc)] w fun e w'=>e=.returned (.bool true)∧Below w.heap.size w w':=by
 have HF:=hid hf
 have HWA:=hid h
 clear hf h
 have HG:=hid hg
 have HW:=hid hw
 clear hg hw
 have HP0:=hid (Ac.pair w (wC x p) (cC c ga gc wa wc) 29 31)
 have hWC:=@wC.eq_1
 have hZC:=@zC.eq_1
 have hCC:=@cC.eq_1
 go_enter func4,ntmps4
 go_wp2_with fail
 generalize (w.alloc (.cells (wC x p) 29)).alloc (.cells (cC c ga gc wa wc) 31)=V0 at *
 have H_0:=hid HP0.out.1
 have C_0:=hid HP0.out.2
 have B_0:=hid H_0.out.1
 clear HP0
 refine (awake16_any _).mono ?_
 rintro e u1 ⟨rfl,b1⟩
 have B_1:=hid (bl B_0.out b1)
 have H_1:=hid (H_0.out.call b1)
 have C_1:=hid (C_0.out.call b1)
 clear b1 B_0 H_0 C_0
 have hcH:=H_1.out.2.2
 have hlH:=H_1.out.2.1
 have hcC:=C_1.out.2.2
 have hlC:=C_1.out.2.1
 go_wp2_with fail
 refine (fits16_any x p _ (HWA.out.below B_1.out (Nat.le_refl _))).mono ?_
 rintro e u2 ⟨rfl,b2⟩
 rw [HF.out]
 clear hcH hlH hcC hlC
 have B_2:=hid (bl B_1.out b2)
 have H_2:=hid (H_1.out.call b2)
 have C_2:=hid (C_1.out.call b2)
 clear b2 B_1 H_1 C_1
 have hcH:=H_2.out.2.2
 have hlH:=H_2.out.2.1
 have hcC:=C_2.out.2.2
 have hlC:=C_2.out.2.1
 go_wp2_with fail
 refine (awake16_any _).mono ?_
 rintro e u3 ⟨rfl,b3⟩
 clear hcH hlH hcC hlC
 have B_3:=hid (bl B_2.out b3)
 have H_3:=hid (H_2.out.call b3)
 have C_3:=hid (C_2.out.call b3)
 clear b3 B_2 H_2 C_2
 have hcH:=H_3.out.2.2
 have hlH:=H_3.out.2.1
 have hcC:=C_3.out.2.2
 have hlC:=C_3.out.2.1
 go_wp2_with fail
 go_ret
 exact ⟨rfl,B_3.out⟩
theorem footFew_no1 (x:Wd) (p:Wp) (a:Int) (c:Cm) (ga wa:Option Addr) (gc wc:Nat) (w:World) (h:Ab w p x) (hg:Ae w ga c.gives) (hw:Ae w wa c.wants) (hf:Ba x=true) (hfw:Dz c=false):Calls prog 4 #[.agg (wC x p),.int .u8 a,.agg (cC c ga gc wa wc)] w fun e w'=>e=.returned (.bool true)∧Below w.heap.size w w':=by
 have HF:=hid hf
 have HWA:=hid h
 clear hf h
 have HG:=hid hg
 have HW:=hid hw
 clear hg hw
 have HFW:=hid hfw
 clear hfw
 have HP0:=hid (Ac.pair w (wC x p) (cC c ga gc wa wc) 29 31)
 have hWC:=@wC.eq_1
 have hZC:=@zC.eq_1
 have hCC:=@cC.eq_1
 go_enter func4,ntmps4
 go_wp2_with fail
 generalize (w.alloc (.cells (wC x p) 29)).alloc (.cells (cC c ga gc wa wc) 31)=V0 at *
 have H_0:=hid HP0.out.1
 have C_0:=hid HP0.out.2
 have B_0:=hid H_0.out.1
 clear HP0
 refine (awake16_any _).mono ?_
 rintro e u1 ⟨rfl,b1⟩
 have B_1:=hid (bl B_0.out b1)
 have H_1:=hid (H_0.out.call b1)
 have C_1:=hid (C_0.out.call b1)
 clear b1 B_0 H_0 C_0
 have hcH:=H_1.out.2.2
 have hlH:=H_1.out.2.1
 have hcC:=C_1.out.2.2
 have hlC:=C_1.out.2.1
 go_wp2_with fail
 refine (fits16_any x p _ (HWA.out.below B_1.out (Nat.le_refl _))).mono ?_
 rintro e u2 ⟨rfl,b2⟩
 rw [HF.out]
 clear hcH hlH hcC hlC
 have B_2:=hid (bl B_1.out b2)
 have H_2:=hid (H_1.out.call b2)
 have C_2:=hid (C_1.out.call b2)
 clear b2 B_1 H_1 C_1
 have hcH:=H_2.out.2.2
 have hlH:=H_2.out.2.1
 have hcC:=C_2.out.2.2
 have hlC:=C_2.out.2.1
 go_wp2_with fail
 refine (Cy c ga wa gc wc _ (HG.out.below B_2.out (Nat.le_refl _)) (HW.out.below B_2.out (Nat.le_refl _))).mono ?_
 rintro e u3 ⟨rfl,b3⟩
 rw [HFW.out]
 clear hcH hlH hcC hlC
 have B_3:=hid (bl B_2.out b3)
 have H_3:=hid (H_2.out.call b3)
 have C_3:=hid (C_2.out.call b3)
 clear b3 B_2 H_2 C_2
 have hcH:=H_3.out.2.2
 have hlH:=H_3.out.2.1
 have hcC:=C_3.out.2.2
 have hlC:=C_3.out.2.1
 go_wp2_with fail
 refine (awake16_any _).mono ?_
 rintro e u4 ⟨rfl,b4⟩
 clear hcH hlH hcC hlC
 have B_4:=hid (bl B_3.out b4)
 have H_4:=hid (H_3.out.call b4)
 have C_4:=hid (C_3.out.call b4)
 clear b4 B_3 H_3 C_3
 have hcH:=H_4.out.2.2
 have hlH:=H_4.out.2.1
 have hcC:=C_4.out.2.2
 have hlC:=C_4.out.2.1
 go_wp2_with fail
 go_ret
 exact ⟨rfl,B_4.out⟩
theorem footFew_no2 (x:Wd) (p:Wp) (a:Int) (c:Cm) (ga wa:Option Addr) (gc wc:Nat) (w:World) (h:Ab w p x) (hg:Ae w ga c.gives) (hw:Ae w wa c.wants) (hf:Ba x=true) (hfw:Dz c=true) (hmy:Ak c=false):Calls prog 4 #[.agg (wC x p),.int .u8 a,.agg (cC c ga gc wa wc)] w fun e w'=>e=.returned (.bool true)∧Below w.heap.size w w':=by
 have HF:=hid hf
 have HWA:=hid h
 clear hf h
 have HG:=hid hg
 have HW:=hid hw
 clear hg hw
 have HFW:=hid hfw
 clear hfw
 have HMY:=hid hmy
 clear hmy
 have HP0:=hid (Ac.pair w (wC x p) (cC c ga gc wa wc) 29 31)
 have hWC:=@wC.eq_1
 have hZC:=@zC.eq_1
 have hCC:=@cC.eq_1
 go_enter func4,ntmps4
 go_wp2_with fail
 generalize (w.alloc (.cells (wC x p) 29)).alloc (.cells (cC c ga gc wa wc) 31)=V0 at *
 have H_0:=hid HP0.out.1
 have C_0:=hid HP0.out.2
 have B_0:=hid H_0.out.1
 clear HP0
 refine (awake16_any _).mono ?_
 rintro e u1 ⟨rfl,b1⟩
 have B_1:=hid (bl B_0.out b1)
 have H_1:=hid (H_0.out.call b1)
 have C_1:=hid (C_0.out.call b1)
 clear b1 B_0 H_0 C_0
 have hcH:=H_1.out.2.2
 have hlH:=H_1.out.2.1
 have hcC:=C_1.out.2.2
 have hlC:=C_1.out.2.1
 go_wp2_with fail
 refine (fits16_any x p _ (HWA.out.below B_1.out (Nat.le_refl _))).mono ?_
 rintro e u2 ⟨rfl,b2⟩
 rw [HF.out]
 clear hcH hlH hcC hlC
 have B_2:=hid (bl B_1.out b2)
 have H_2:=hid (H_1.out.call b2)
 have C_2:=hid (C_1.out.call b2)
 clear b2 B_1 H_1 C_1
 have hcH:=H_2.out.2.2
 have hlH:=H_2.out.2.1
 have hcC:=C_2.out.2.2
 have hlC:=C_2.out.2.1
 go_wp2_with fail
 refine (Cy c ga wa gc wc _ (HG.out.below B_2.out (Nat.le_refl _)) (HW.out.below B_2.out (Nat.le_refl _))).mono ?_
 rintro e u3 ⟨rfl,b3⟩
 rw [HFW.out]
 clear hcH hlH hcC hlC
 have B_3:=hid (bl B_2.out b3)
 have H_3:=hid (H_2.out.call b3)
 have C_3:=hid (C_2.out.call b3)
 clear b3 B_2 H_2 C_2
 have hcH:=H_3.out.2.2
 have hlH:=H_3.out.2.1
 have hcC:=C_3.out.2.2
 have hlC:=C_3.out.2.1
 go_wp2_with fail
 refine (Bw c ga wa gc wc _ (HG.out.below B_3.out (Nat.le_refl _)) (HW.out.below B_3.out (Nat.le_refl _))).mono ?_
 rintro e u4 ⟨rfl,b4⟩
 rw [HMY.out]
 clear hcH hlH hcC hlC
 have B_4:=hid (bl B_3.out b4)
 have H_4:=hid (H_3.out.call b4)
 have C_4:=hid (C_3.out.call b4)
 clear b4 B_3 H_3 C_3
 have hcH:=H_4.out.2.2
 have hlH:=H_4.out.2.1
 have hcC:=C_4.out.2.2
 have hlC:=C_4.out.2.1
 go_wp2_with fail
 refine (awake16_any _).mono ?_
 rintro e u5 ⟨rfl,b5⟩
 clear hcH hlH hcC hlC
 have B_5:=hid (bl B_4.out b5)
 have H_5:=hid (H_4.out.call b5)
 have C_5:=hid (C_4.out.call b5)
 clear b5 B_4 H_4 C_4
 have hcH:=H_5.out.2.2
 have hlH:=H_5.out.2.1
 have hcC:=C_5.out.2.2
 have hlC:=C_5.out.2.1
 go_wp2_with fail
 go_ret
 exact ⟨rfl,B_5.out⟩
theorem footFew_go (x:Wd) (p:Wp) (a i:Nat) (c:Cm) (ga wa:Option Addr) (gc wc:Nat) (haa:a≤255) (hi:a%x.at_.length=i) (w:World) (h:Ab w p x) (hg:Ae w ga c.gives) (hw:Ae w wa c.wants) (hf:Ba x=true) (hfw:Dz c=true) (hmy:Ak c=true):Calls prog 4 #[.agg (wC x p),.int .u8 (a:Int),.agg (cC c ga gc wa wc)] w fun e w'=>e=.returned (.bool true)∧Below w.heap.size w w':=by
 have r1:=Ay a x.at_.length
 have m1:=Bc a x.at_.length
 rw [hi] at r1 m1
 have FT:=hid (Bl hf)
 have hlp:0<x.at_.length:=(Aj FT.out.right).1
 have hne:¬x.at_=[]:=List.length_pos_iff.1 hlp
 have hil:i<x.at_.length:=by rw [←hi];exact Nat.mod_lt _ hlp
 have hlen6:=(Aj FT.out.right).2.1
 have MAY:=hid (may16 hmy)
 have FF:=hid (fun (s:List Pl) (hs:Lm (Yb x i c) s)=>foot_few MAY.out.2 hs)
 clear hi hlp
 have HF:=hid hf
 have HWA:=hid h
 clear hf h
 have HG:=hid hg
 have HW:=hid hw
 clear hg hw
 have HFW:=hid hfw
 clear hfw
 have HMY:=hid hmy
 clear hmy
 have HP0:=hid (Ac.pair w (wC x p) (cC c ga gc wa wc) 29 31)
 have hWC:=@wC.eq_1
 have hZC:=@zC.eq_1
 have hCC:=@cC.eq_1
 go_enter func4,ntmps4
 go_wp2_with fail
 generalize (w.alloc (.cells (wC x p) 29)).alloc (.cells (cC c ga gc wa wc) 31)=V0 at *
 have H_0:=hid HP0.out.1
 have C_0:=hid HP0.out.2
 have B_0:=hid H_0.out.1
 clear HP0
 refine (awake16_any _).mono ?_
 rintro e u1 ⟨rfl,b1⟩
 have B_1:=hid (bl B_0.out b1)
 have H_1:=hid (H_0.out.call b1)
 have C_1:=hid (C_0.out.call b1)
 clear b1 B_0 H_0 C_0
 have hcH:=H_1.out.2.2
 have hlH:=H_1.out.2.1
 have hcC:=C_1.out.2.2
 have hlC:=C_1.out.2.1
 go_wp2_with fail
 refine (fits16_any x p _ (HWA.out.below B_1.out (Nat.le_refl _))).mono ?_
 rintro e u2 ⟨rfl,b2⟩
 rw [HF.out]
 clear hcH hlH hcC hlC
 have B_2:=hid (bl B_1.out b2)
 have H_2:=hid (H_1.out.call b2)
 have C_2:=hid (C_1.out.call b2)
 clear b2 B_1 H_1 C_1
 have hcH:=H_2.out.2.2
 have hlH:=H_2.out.2.1
 have hcC:=C_2.out.2.2
 have hlC:=C_2.out.2.1
 go_wp2_with fail
 refine (Cy c ga wa gc wc _ (HG.out.below B_2.out (Nat.le_refl _)) (HW.out.below B_2.out (Nat.le_refl _))).mono ?_
 rintro e u3 ⟨rfl,b3⟩
 rw [HFW.out]
 clear hcH hlH hcC hlC
 have B_3:=hid (bl B_2.out b3)
 have H_3:=hid (H_2.out.call b3)
 have C_3:=hid (C_2.out.call b3)
 clear b3 B_2 H_2 C_2
 have hcH:=H_3.out.2.2
 have hlH:=H_3.out.2.1
 have hcC:=C_3.out.2.2
 have hlC:=C_3.out.2.1
 go_wp2_with fail
 refine (Bw c ga wa gc wc _ (HG.out.below B_3.out (Nat.le_refl _)) (HW.out.below B_3.out (Nat.le_refl _))).mono ?_
 rintro e u4 ⟨rfl,b4⟩
 rw [HMY.out]
 clear hcH hlH hcC hlC
 have B_4:=hid (bl B_3.out b4)
 have H_4:=hid (H_3.out.call b4)
 have C_4:=hid (C_3.out.call b4)
 clear b4 B_3 H_3 C_3
 have hcH:=H_4.out.2.2
 have hlH:=H_4.out.2.1
 have hcC:=C_4.out.2.2
 have hlC:=C_4.out.2.1
 go_wp2_with fail
 refine (of_any x p i c ga wa gc wc _ FT.out.right (HWA.out.below B_4.out (Nat.le_refl _)) hil MAY.out.1).mono ?_
 rintro e u5 ⟨fb,fc,s,rfl,hs,hO,b5⟩
 clear hcH hlH hcC hlC
 have B_5:=hid (bl B_4.out b5)
 have H_5:=hid (H_4.out.call b5)
 have C_5:=hid (C_4.out.call b5)
 clear b5 B_4 H_4 C_4
 have HS:=hid (FF.out s hs)
 have SR_5:=hid hO.row
 clear hs hO FF
 have hcH:=H_5.out.2.2
 have hlH:=H_5.out.2.1
 have hcC:=C_5.out.2.2
 have hlC:=C_5.out.2.1
 go_wp2_with fail
 have hsl:=SR_5.out.len
 go_loopw [9,10,11] (fun r q v wr=>∃(k ra qa:Nat),k≤s.length∧r=.int .i64 ra∧q=.int .i64 qa∧v=.int .i64 k∧ra=(s.take k).countP (fun z=>decide (z.kind=0))∧ra+qa=k∧wr=u5) (fun _ _ v _=>s.length-(intOf v).toNat)
 case atStart=>exact ⟨0,0,0,Nat.zero_le _,rfl,rfl,rfl,rfl,rfl,rfl⟩
 case round =>
  obtain ⟨k,ra,qa,hk,rfl,rfl,rfl,hra,hsum,rfl⟩:=hrel
  have HRA:=hid hra
  clear hra
  by_cases hlt:k<s.length
  ·obtain ⟨sb,so,rfl,slt,e0,e1⟩:=Au.cells SR_5.out hlt
   have HCM:=hid (cnt_more16 hlt)
   rw [←HRA.out] at HCM
   generalize s[k]=z at *
   obtain ⟨z0,z1⟩:=z
   simp only at e0 e1 HCM
   by_cases h0:z0=0
   ·have HC2:=hid (HCM.out.trans (by rw [if_pos h0]))
    have q0:(z0==0)=true:=by simpa using h0
    clear h0 HCM
    go_wp2_with fail
    go_roundw
    case rel=>exact ⟨k+1,ra+1,qa+0,by omega,by go_num,by go_num,by go_num,by rw [HC2.out],by omega,by trivial⟩
    case measure=>simp [intOf];omega
   ·have HC2:=hid (HCM.out.trans (by rw [if_neg h0]))
    have q0:(z0==0)=false:=by simpa using h0
    clear h0 HCM
    go_wp2_with fail
    go_roundw
    case rel=>exact ⟨k+1,ra+0,qa+1,by omega,by go_num,by go_num,by go_num,by rw [HC2.out],by omega,by trivial⟩
    case measure=>simp [intOf];omega
  ·have hke:k=s.length:=by omega
   subst hke
   rw [List.take_length] at HRA
   obtain ⟨f1,f2,f3,f4,f5,f6⟩:=HS.out
   rw [←HRA.out] at f1 f2 f3 f4 f5 f6
   rw [show s.length-ra=qa by omega] at f4 f5 f6
   clear HRA HS hk hlt
   by_cases k1:c.kind=1
   ·have j1:(c.kind==1)=true:=by simpa using k1
    obtain rfl|rfl:ra=1∨ra=2:=by omega
    ·skip
     obtain rfl:qa=1:=by omega
     have hw9:True:=trivial
     clear f1 f2 f3 f4 f5 f6 hsum hw9
     go_wp2_with fail
     go_ret
     exact ⟨rfl,B_5.out⟩
    ·skip
     obtain rfl:qa=1:=by omega
     have hw9:True:=trivial
     clear f1 f2 f3 f4 f5 f6 hsum hw9
     go_wp2_with fail
     go_ret
     exact ⟨rfl,B_5.out⟩
   ·have j1:(c.kind==1)=false:=by simpa using k1
    by_cases k2:c.kind=2
    ·have j2:(c.kind==2)=true:=by simpa using k2
     by_cases w1:c.who<x.at_.length
     ·by_cases w2:c.who=(i:Int)
      ·skip
       obtain rfl|rfl:ra=1∨ra=2:=by omega
       ·skip
        obtain rfl:qa=1:=by omega
        have g1:decide (c.who<(x.at_.length:Int))=true:=by simpa using w1
        have g2:(c.who != (i:Int))=false:=by simpa using w2
        have hw9:=w1
        clear w1 w2
        clear f1 f2 f3 f4 f5 f6 hsum hw9
        go_wp2_with fail
        go_ret
        exact ⟨rfl,B_5.out⟩
       ·skip
        obtain rfl:qa=1:=by omega
        have g1:decide (c.who<(x.at_.length:Int))=true:=by simpa using w1
        have g2:(c.who != (i:Int))=false:=by simpa using w2
        have hw9:=w1
        clear w1 w2
        clear f1 f2 f3 f4 f5 f6 hsum hw9
        go_wp2_with fail
        go_ret
        exact ⟨rfl,B_5.out⟩
      ·skip
       obtain rfl|rfl:ra=1∨ra=2:=by omega
       ·skip
        obtain rfl:qa=2:=by omega
        have g1:decide (c.who<(x.at_.length:Int))=true:=by simpa using w1
        have g2:(c.who != (i:Int))=true:=by simpa using w2
        have hw9:=w1
        clear w1 w2
        clear f1 f2 f3 f4 f5 f6 hsum hw9
        go_wp2_with fail
        go_ret
        exact ⟨rfl,B_5.out⟩
       ·skip
        obtain rfl:qa=2:=by omega
        have g1:decide (c.who<(x.at_.length:Int))=true:=by simpa using w1
        have g2:(c.who != (i:Int))=true:=by simpa using w2
        have hw9:=w1
        clear w1 w2
        clear f1 f2 f3 f4 f5 f6 hsum hw9
        go_wp2_with fail
        go_ret
        exact ⟨rfl,B_5.out⟩
     ·skip
      obtain rfl|rfl:ra=1∨ra=2:=by omega
      ·skip
       obtain rfl:qa=1:=by omega
       have g1:decide (c.who<(x.at_.length:Int))=false:=by simpa using w1
       have hw9:=w1
       clear w1
       clear f1 f2 f3 f4 f5 f6 hsum hw9
       go_wp2_with fail
       go_ret
       exact ⟨rfl,B_5.out⟩
      ·skip
       obtain rfl:qa=1:=by omega
       have g1:decide (c.who<(x.at_.length:Int))=false:=by simpa using w1
       have hw9:=w1
       clear w1
       clear f1 f2 f3 f4 f5 f6 hsum hw9
       go_wp2_with fail
       go_ret
       exact ⟨rfl,B_5.out⟩
    ·have j2:(c.kind==2)=false:=by simpa using k2
     by_cases k7:c.kind=7
     ·have j7:(c.kind==7)=true:=by simpa using k7
      by_cases w1:c.who<x.at_.length
      ·by_cases w2:c.who=(i:Int)
       ·skip
        obtain rfl:ra=1:=by omega
        obtain rfl:qa=1:=by omega
        have g1:decide (c.who<(x.at_.length:Int))=true:=by simpa using w1
        have g2:(c.who != (i:Int))=false:=by simpa using w2
        have hw9:=w1
        clear w1 w2
        clear f1 f2 f3 f4 f5 f6 hsum hw9
        go_wp2_with fail
        go_ret
        exact ⟨rfl,B_5.out⟩
       ·skip
        obtain rfl:ra=1:=by omega
        obtain rfl:qa=2:=by omega
        have g1:decide (c.who<(x.at_.length:Int))=true:=by simpa using w1
        have g2:(c.who != (i:Int))=true:=by simpa using w2
        have hw9:=w1
        clear w1 w2
        clear f1 f2 f3 f4 f5 f6 hsum hw9
        go_wp2_with fail
        go_ret
        exact ⟨rfl,B_5.out⟩
      ·skip
       obtain rfl:ra=1:=by omega
       obtain rfl:qa=1:=by omega
       have g1:decide (c.who<(x.at_.length:Int))=false:=by simpa using w1
       have hw9:=w1
       clear w1
       clear f1 f2 f3 f4 f5 f6 hsum hw9
       go_wp2_with fail
       go_ret
       exact ⟨rfl,B_5.out⟩
     ·have j7:(c.kind==7)=false:=by simpa using k7
      by_cases k8:c.kind=8
      ·have j8:(c.kind==8)=true:=by simpa using k8
       by_cases w1:c.who<x.at_.length
       ·by_cases w2:c.who=(i:Int)
        ·skip
         obtain rfl:ra=1:=by omega
         obtain rfl:qa=1:=by omega
         have g1:decide (c.who<(x.at_.length:Int))=true:=by simpa using w1
         have g2:(c.who != (i:Int))=false:=by simpa using w2
         have hw9:=w1
         clear w1 w2
         clear f1 f2 f3 f4 f5 f6 hsum hw9
         go_wp2_with fail
         go_ret
         exact ⟨rfl,B_5.out⟩
        ·skip
         obtain rfl:ra=1:=by omega
         obtain rfl:qa=2:=by omega
         have g1:decide (c.who<(x.at_.length:Int))=true:=by simpa using w1
         have g2:(c.who != (i:Int))=true:=by simpa using w2
         have hw9:=w1
         clear w1 w2
         clear f1 f2 f3 f4 f5 f6 hsum hw9
         go_wp2_with fail
         go_ret
         exact ⟨rfl,B_5.out⟩
       ·skip
        obtain rfl:ra=1:=by omega
        obtain rfl:qa=1:=by omega
        have g1:decide (c.who<(x.at_.length:Int))=false:=by simpa using w1
        have hw9:=w1
        clear w1
        clear f1 f2 f3 f4 f5 f6 hsum hw9
        go_wp2_with fail
        go_ret
        exact ⟨rfl,B_5.out⟩
      ·have j8:(c.kind==8)=false:=by simpa using k8
       obtain rfl:ra=1:=by omega
       obtain rfl:qa=1:=by omega
       have hw9:True:=trivial
       clear f1 f2 f3 f4 f5 f6 hsum hw9
       go_wp2_with fail
       go_ret
       exact ⟨rfl,B_5.out⟩
theorem walk_footFew (x:Wd) (p:Wp) (a:Int) (c:Cm) (ga wa:Option Addr) (gc wc:Nat) (w:World) (ha:(Lit.int .u8 a).wf=true) (h:Ab w p x) (hg:Ae w ga c.gives) (hw:Ae w wa c.wants) (_:c.Wf):Calls prog 4 #[.agg (wC x p),.int .u8 a,.agg (cC c ga gc wa wc)] w fun e w'=>e=.returned (.bool true)∧Below w.heap.size w w':=by
 cases hf:Ba x
 ·exact footFew_no0 x p a c ga wa gc wc w h hg hw hf
 cases hfw:Dz c
 ·exact footFew_no1 x p a c ga wa gc wc w h hg hw hf hfw
 cases hmy:Ak c
 ·exact footFew_no2 x p a c ga wa gc wc w h hg hw hf hfw hmy
 have h1:=Ed ha
 obtain ⟨m1,rfl⟩:∃m:Nat,a=m:=⟨a.toNat,by omega⟩
 exact footFew_go x p m1 _ c ga wa gc wc (by omega) rfl w h hg hw hf hfw hmy
theorem lifted_footFew (os:Os) (started:os.Started) (H:Type) (enc:TypeId × Value→H) :
 ReturnsInHanded {} Try.checked os 4 .any (Rows.footFewSpec.pre6 enc prog Try.f4 Rows.footFewRow.domain false) (Rows.footFewSpec.post enc prog Try.f4 false true false false):=by
 refine returnsInHanded_of_change (C:=Try.checked) (by kernel_rfl) started (by kernel_rfl) func4
  (ChangeSpec.witness6 (enc:=enc) (C:=Try.checked) false ⟨#[],#[.agg zC,.int .u8 0,.agg #[.int .i64 0,.int .i64 0,.int .i64 0,.int .i64 0,.int .i64 0,.slice none 0 0,.int .i64 0,.slice none 0 0,.int .i64 0]],[]⟩ 8 (by kernel_rfl) (by kernel_rfl) (by kernel_rfl) (by kernel_rfl)) ?_
 intro W base args ds gs before hval0 hW hcnd _
 have hval:∀(j:Nat) t v,Try.f4.params[j]?=some t→args[j]?=some v→Value.okWide prog W .any base t v:=hval0
 have hW':=hW
 obtain ⟨p,q,hA0,hV,rfl,hfz,hnd⟩:=hW
 have hA:DataW.TrodAll enc prog W 0 (fun _=>true) true Try.f4.params.toList args.toList ds p:=hA0
 rw [Try.params4] at hA hval
 obtain ⟨v0,vs0,d0,ds0,p0,q0,hargs,rfl,rfl,h0,r0⟩:=trodAll_cons hA
 obtain ⟨v1,vs1,d1,ds1,p1,q1,rfl,rfl,rfl,h1,r1⟩:=trodAll_cons r0
 obtain ⟨v2,vs2,d2,ds2,p2,q2,rfl,rfl,rfl,h2,r2⟩:=trodAll_cons r1
 obtain ⟨rfl,rfl,rfl⟩:=trodAll_nil r2
 obtain rfl:args=#[v0,v1,v2]:=by cases args;simp_all
 obtain ⟨rfl,rfl⟩:=trodVars_none hV
 obtain ⟨wx0,wp0,rfl,m0⟩:=Qz (hval 0 29 v0 rfl rfl) h0
 obtain ⟨a1,rfl,rfl,rfl,w1⟩:=open_int underlying5 (hval 1 5 v1 rfl rfl) h1
 obtain ⟨c2,ga2,wa2,gc2,wc2,rfl,ma2,mb2,mg2⟩:=Ak3 (hval 2 31 v2 rfl rfl) h2
 clear hA0 hval0
 simp only [List.append_nil] at hW'
 refine (walk_footFew wx0 wp0 a1 c2 ga2 wa2 gc2 wc2 W w1 m0 ma2 mb2 mg2).mono fun e W' ⟨he,hg⟩=>?_
 subst he
 exact ⟨_,rfl,Iy (by kernel_rfl) rfl (by rw [Try.params4];decide +kernel) rfl rfl underlying4 hW' hg⟩
theorem proved_footFew:Rows.FootFewSaid :=
 OpenClaim.holds_of_wide 4 Try.f4 rfl rfl rfl rfl rfl rfl rfl ⟨rfl,rfl,rfl,rfl,rfl⟩ rfl rfl rfl rfl rfl (by kernel_rfl) func4 (by kernel_rfl)
  (of_decide_eq_true (by kernel_rfl)) (by unfold Func.isWrapper;first|(rw [if_pos (by decide +kernel)];kernel_rfl)|(rw [if_neg (by decide +kernel)];exact ⟨rfl,rfl⟩))
  (fun os started H enc _=>lifted_footFew os started H enc)
#print axioms proved_footFew
end Go.Proofs.Ytenpcndoilcjcaa
