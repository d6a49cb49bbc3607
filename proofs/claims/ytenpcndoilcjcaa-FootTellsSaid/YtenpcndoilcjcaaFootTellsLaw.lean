/- FootTells: the footprint; whether keys cover what a command changes. -/
import Derived.Test.YtenpcndoilcjcaaCmdRead
import Derived.Test.YtenpcndoilcjcaaFootAwake
import Derived.Test.YtenpcndoilcjcaaAtomR
import Derived.Test.YtenpcndoilcjcaaKeysArg
import Derived.Test.YtenpcndoilcjcaaFootH
namespace Go.Proofs.Ytenpcndoilcjcaa
open Go.ChangeShapes Go.WideShapes Go.ChangeAt Go.RowKit Go.Proofs.Try
open Lib (hid)
set_option linter.unusedVariables false
set_option maxHeartbeats 4000000
set_option maxRecDepth 100000
open Go.RowKit Go
theorem Fn0 (x:Wd) (p:Wp) (i:Nat) (c:Cm) (ga wa:Option Addr) (gc wc:Nat) (w:World) (hx:Ai x=true) (h:Ab w p x) (hi:i<x.at_.length) (hg:Ae w ga c.gives) (hw:Ae w wa c.wants) {R:Wd × Rp} (hR:doW x i c=R) :
 Calls prog 9 #[.agg (wC x p),.int .i64 (i:Int),.agg (cC c ga gc wa wc)] w fun e w'=>∃(q:Wp) (qa ia:Option Addr) (qc ic:Nat),e=.returned (.tuple #[.agg (wC x q),.agg #[.int .i64 R.2.err,.int .i64 R.2.kind,.int .i64 R.2.room,.slice qa R.2.players.length qc,.slice ia R.2.items.length ic,.int .i64 R.2.coins]])∧Ab w' q R.1∧NewR w.heap.size w' qa ia R.2∧Below w.heap.size w w':=by
 have:=Dr4 x p i c ga wa gc wc w hx h hi hg hw
 rw [hR] at this
 exact this
theorem footTells_no0 (x:Wd) (p:Wp) (a:Int) (c:Cm) (ga wa:Option Addr) (gc wc:Nat) (fp:Option Addr) (cap:Nat) (l:List Pl) (w:World) (h:Ab w p x) (hg:Ae w ga c.gives) (hw:Ae w wa c.wants) (hl:Ar 2 plC w fp l) (hf:Ba x=false):Calls prog 3 #[.agg (wC x p),.int .u8 a,.agg (cC c ga gc wa wc),.slice fp l.length cap] w fun e w'=>e=.returned (.bool true)∧Below w.heap.size w w':=by
 have HF:=hid hf
 have HWA:=hid h
 clear hf h
 have HG:=hid hg
 have HW:=hid hw
 clear hg hw
 have HP0:=hid (Ac.pair w (wC x p) (cC c ga gc wa wc) 29 31)
 have hWC:=@wC.eq_1
 have hZC:=@zC.eq_1
 have hCC:=@cC.eq_1
 go_enter func3,ntmps3
 go_wp2_with fail
 generalize (w.alloc (.cells (wC x p) 29)).alloc (.cells (cC c ga gc wa wc) 31)=V0 at *
 have H_0:=hid HP0.out.1
 have C_0:=hid HP0.out.2
 have B_0:=hid H_0.out.1
 clear HP0
 refine (awake16_any _).mono ?_
 rintro e u1 ⟨rfl,b1⟩
 have B_1:=hid (bl B_0.out b1)
 have H_1:=hid (H_0.out.call b1)
 have C_1:=hid (C_0.out.call b1)
 clear b1 B_0 H_0 C_0
 have hcH:=H_1.out.2.2
 have hlH:=H_1.out.2.1
 have hcC:=C_1.out.2.2
 have hlC:=C_1.out.2.1
 go_wp2_with fail
 refine (fits16_any x p _ (HWA.out.below B_1.out (Nat.le_refl _))).mono ?_
 rintro e u2 ⟨rfl,b2⟩
 rw [HF.out]
 clear hcH hlH hcC hlC
 have B_2:=hid (bl B_1.out b2)
 have H_2:=hid (H_1.out.call b2)
 have C_2:=hid (C_1.out.call b2)
 clear b2 B_1 H_1 C_1
 have hcH:=H_2.out.2.2
 have hlH:=H_2.out.2.1
 have hcC:=C_2.out.2.2
 have hlC:=C_2.out.2.1
 go_wp2_with fail
 refine (awake16_any _).mono ?_
 rintro e u3 ⟨rfl,b3⟩
 clear hcH hlH hcC hlC
 have B_3:=hid (bl B_2.out b3)
 have H_3:=hid (H_2.out.call b3)
 have C_3:=hid (C_2.out.call b3)
 clear b3 B_2 H_2 C_2
 have hcH:=H_3.out.2.2
 have hlH:=H_3.out.2.1
 have hcC:=C_3.out.2.2
 have hlC:=C_3.out.2.1
 go_wp2_with fail
 go_ret
 exact ⟨rfl,B_3.out⟩
theorem footTells_no1 (x:Wd) (p:Wp) (a:Int) (c:Cm) (ga wa:Option Addr) (gc wc:Nat) (fp:Option Addr) (cap:Nat) (l:List Pl) (w:World) (h:Ab w p x) (hg:Ae w ga c.gives) (hw:Ae w wa c.wants) (hl:Ar 2 plC w fp l) (hf:Ba x=true) (hfw:Dz c=false):Calls prog 3 #[.agg (wC x p),.int .u8 a,.agg (cC c ga gc wa wc),.slice fp l.length cap] w fun e w'=>e=.returned (.bool true)∧Below w.heap.size w w':=by
 have HF:=hid hf
 have HWA:=hid h
 clear hf h
 have HG:=hid hg
 have HW:=hid hw
 clear hg hw
 have HFW:=hid hfw
 clear hfw
 have HP0:=hid (Ac.pair w (wC x p) (cC c ga gc wa wc) 29 31)
 have hWC:=@wC.eq_1
 have hZC:=@zC.eq_1
 have hCC:=@cC.eq_1
 go_enter func3,ntmps3
 go_wp2_with fail
 generalize (w.alloc (.cells (wC x p) 29)).alloc (.cells (cC c ga gc wa wc) 31)=V0 at *
 have H_0:=hid HP0.out.1
 have C_0:=hid HP0.out.2
 have B_0:=hid H_0.out.1
 clear HP0
 refine (awake16_any _).mono ?_
 rintro e u1 ⟨rfl,b1⟩
 have B_1:=hid (bl B_0.out b1)
 have H_1:=hid (H_0.out.call b1)
 have C_1:=hid (C_0.out.call b1)
 clear b1 B_0 H_0 C_0
 have hcH:=H_1.out.2.2
 have hlH:=H_1.out.2.1
 have hcC:=C_1.out.2.2
 have hlC:=C_1.out.2.1
 go_wp2_with fail
 refine (fits16_any x p _ (HWA.out.below B_1.out (Nat.le_refl _))).mono ?_
 rintro e u2 ⟨rfl,b2⟩
 rw [HF.out]
 clear hcH hlH hcC hlC
 have B_2:=hid (bl B_1.out b2)
 have H_2:=hid (H_1.out.call b2)
 have C_2:=hid (C_1.out.call b2)
 clear b2 B_1 H_1 C_1
 have hcH:=H_2.out.2.2
 have hlH:=H_2.out.2.1
 have hcC:=C_2.out.2.2
 have hlC:=C_2.out.2.1
 go_wp2_with fail
 refine (Cy c ga wa gc wc _ (HG.out.below B_2.out (Nat.le_refl _)) (HW.out.below B_2.out (Nat.le_refl _))).mono ?_
 rintro e u3 ⟨rfl,b3⟩
 rw [HFW.out]
 clear hcH hlH hcC hlC
 have B_3:=hid (bl B_2.out b3)
 have H_3:=hid (H_2.out.call b3)
 have C_3:=hid (C_2.out.call b3)
 clear b3 B_2 H_2 C_2
 have hcH:=H_3.out.2.2
 have hlH:=H_3.out.2.1
 have hcC:=C_3.out.2.2
 have hlC:=C_3.out.2.1
 go_wp2_with fail
 refine (awake16_any _).mono ?_
 rintro e u4 ⟨rfl,b4⟩
 clear hcH hlH hcC hlC
 have B_4:=hid (bl B_3.out b4)
 have H_4:=hid (H_3.out.call b4)
 have C_4:=hid (C_3.out.call b4)
 clear b4 B_3 H_3 C_3
 have hcH:=H_4.out.2.2
 have hlH:=H_4.out.2.1
 have hcC:=C_4.out.2.2
 have hlC:=C_4.out.2.1
 go_wp2_with fail
 go_ret
 exact ⟨rfl,B_4.out⟩
theorem footTells_no2 (x:Wd) (p:Wp) (a:Int) (c:Cm) (ga wa:Option Addr) (gc wc:Nat) (fp:Option Addr) (cap:Nat) (l:List Pl) (w:World) (h:Ab w p x) (hg:Ae w ga c.gives) (hw:Ae w wa c.wants) (hl:Ar 2 plC w fp l) (hf:Ba x=true) (hfw:Dz c=true) (hmy:Ak c=false):Calls prog 3 #[.agg (wC x p),.int .u8 a,.agg (cC c ga gc wa wc),.slice fp l.length cap] w fun e w'=>e=.returned (.bool true)∧Below w.heap.size w w':=by
 have HF:=hid hf
 have HWA:=hid h
 clear hf h
 have HG:=hid hg
 have HW:=hid hw
 clear hg hw
 have HFW:=hid hfw
 clear hfw
 have HMY:=hid hmy
 clear hmy
 have HP0:=hid (Ac.pair w (wC x p) (cC c ga gc wa wc) 29 31)
 have hWC:=@wC.eq_1
 have hZC:=@zC.eq_1
 have hCC:=@cC.eq_1
 go_enter func3,ntmps3
 go_wp2_with fail
 generalize (w.alloc (.cells (wC x p) 29)).alloc (.cells (cC c ga gc wa wc) 31)=V0 at *
 have H_0:=hid HP0.out.1
 have C_0:=hid HP0.out.2
 have B_0:=hid H_0.out.1
 clear HP0
 refine (awake16_any _).mono ?_
 rintro e u1 ⟨rfl,b1⟩
 have B_1:=hid (bl B_0.out b1)
 have H_1:=hid (H_0.out.call b1)
 have C_1:=hid (C_0.out.call b1)
 clear b1 B_0 H_0 C_0
 have hcH:=H_1.out.2.2
 have hlH:=H_1.out.2.1
 have hcC:=C_1.out.2.2
 have hlC:=C_1.out.2.1
 go_wp2_with fail
 refine (fits16_any x p _ (HWA.out.below B_1.out (Nat.le_refl _))).mono ?_
 rintro e u2 ⟨rfl,b2⟩
 rw [HF.out]
 clear hcH hlH hcC hlC
 have B_2:=hid (bl B_1.out b2)
 have H_2:=hid (H_1.out.call b2)
 have C_2:=hid (C_1.out.call b2)
 clear b2 B_1 H_1 C_1
 have hcH:=H_2.out.2.2
 have hlH:=H_2.out.2.1
 have hcC:=C_2.out.2.2
 have hlC:=C_2.out.2.1
 go_wp2_with fail
 refine (Cy c ga wa gc wc _ (HG.out.below B_2.out (Nat.le_refl _)) (HW.out.below B_2.out (Nat.le_refl _))).mono ?_
 rintro e u3 ⟨rfl,b3⟩
 rw [HFW.out]
 clear hcH hlH hcC hlC
 have B_3:=hid (bl B_2.out b3)
 have H_3:=hid (H_2.out.call b3)
 have C_3:=hid (C_2.out.call b3)
 clear b3 B_2 H_2 C_2
 have hcH:=H_3.out.2.2
 have hlH:=H_3.out.2.1
 have hcC:=C_3.out.2.2
 have hlC:=C_3.out.2.1
 go_wp2_with fail
 refine (Bw c ga wa gc wc _ (HG.out.below B_3.out (Nat.le_refl _)) (HW.out.below B_3.out (Nat.le_refl _))).mono ?_
 rintro e u4 ⟨rfl,b4⟩
 rw [HMY.out]
 clear hcH hlH hcC hlC
 have B_4:=hid (bl B_3.out b4)
 have H_4:=hid (H_3.out.call b4)
 have C_4:=hid (C_3.out.call b4)
 clear b4 B_3 H_3 C_3
 have hcH:=H_4.out.2.2
 have hlH:=H_4.out.2.1
 have hcC:=C_4.out.2.2
 have hlC:=C_4.out.2.1
 go_wp2_with fail
 refine (awake16_any _).mono ?_
 rintro e u5 ⟨rfl,b5⟩
 clear hcH hlH hcC hlC
 have B_5:=hid (bl B_4.out b5)
 have H_5:=hid (H_4.out.call b5)
 have C_5:=hid (C_4.out.call b5)
 clear b5 B_4 H_4 C_4
 have hcH:=H_5.out.2.2
 have hlH:=H_5.out.2.1
 have hcC:=C_5.out.2.2
 have hlC:=C_5.out.2.1
 go_wp2_with fail
 go_ret
 exact ⟨rfl,B_5.out⟩
theorem footTells_no3 (x:Wd) (p:Wp) (a:Int) (c:Cm) (ga wa:Option Addr) (gc wc:Nat) (fp:Option Addr) (cap:Nat) (l:List Pl) (w:World) (h:Ab w p x) (hg:Ae w ga c.gives) (hw:Ae w wa c.wants) (hl:Ar 2 plC w fp l) (hf:Ba x=true) (hfw:Dz c=true) (hmy:Ak c=true) (k0:decide ((40:Int)<(l.length:Int))=true):Calls prog 3 #[.agg (wC x p),.int .u8 a,.agg (cC c ga gc wa wc),.slice fp l.length cap] w fun e w'=>e=.returned (.bool true)∧Below w.heap.size w w':=by
 have HF:=hid hf
 have HWA:=hid h
 clear hf h
 have HG:=hid hg
 have HW:=hid hw
 clear hg hw
 have HFW:=hid hfw
 clear hfw
 have HMY:=hid hmy
 clear hmy
 have HP0:=hid (Ac.pair w (wC x p) (cC c ga gc wa wc) 29 31)
 have hWC:=@wC.eq_1
 have hZC:=@zC.eq_1
 have hCC:=@cC.eq_1
 go_enter func3,ntmps3
 go_wp2_with fail
 generalize (w.alloc (.cells (wC x p) 29)).alloc (.cells (cC c ga gc wa wc) 31)=V0 at *
 have H_0:=hid HP0.out.1
 have C_0:=hid HP0.out.2
 have B_0:=hid H_0.out.1
 clear HP0
 refine (awake16_any _).mono ?_
 rintro e u1 ⟨rfl,b1⟩
 have B_1:=hid (bl B_0.out b1)
 have H_1:=hid (H_0.out.call b1)
 have C_1:=hid (C_0.out.call b1)
 clear b1 B_0 H_0 C_0
 have hcH:=H_1.out.2.2
 have hlH:=H_1.out.2.1
 have hcC:=C_1.out.2.2
 have hlC:=C_1.out.2.1
 go_wp2_with fail
 refine (fits16_any x p _ (HWA.out.below B_1.out (Nat.le_refl _))).mono ?_
 rintro e u2 ⟨rfl,b2⟩
 rw [HF.out]
 clear hcH hlH hcC hlC
 have B_2:=hid (bl B_1.out b2)
 have H_2:=hid (H_1.out.call b2)
 have C_2:=hid (C_1.out.call b2)
 clear b2 B_1 H_1 C_1
 have hcH:=H_2.out.2.2
 have hlH:=H_2.out.2.1
 have hcC:=C_2.out.2.2
 have hlC:=C_2.out.2.1
 go_wp2_with fail
 refine (Cy c ga wa gc wc _ (HG.out.below B_2.out (Nat.le_refl _)) (HW.out.below B_2.out (Nat.le_refl _))).mono ?_
 rintro e u3 ⟨rfl,b3⟩
 rw [HFW.out]
 clear hcH hlH hcC hlC
 have B_3:=hid (bl B_2.out b3)
 have H_3:=hid (H_2.out.call b3)
 have C_3:=hid (C_2.out.call b3)
 clear b3 B_2 H_2 C_2
 have hcH:=H_3.out.2.2
 have hlH:=H_3.out.2.1
 have hcC:=C_3.out.2.2
 have hlC:=C_3.out.2.1
 go_wp2_with fail
 refine (Bw c ga wa gc wc _ (HG.out.below B_3.out (Nat.le_refl _)) (HW.out.below B_3.out (Nat.le_refl _))).mono ?_
 rintro e u4 ⟨rfl,b4⟩
 rw [HMY.out]
 clear hcH hlH hcC hlC
 have B_4:=hid (bl B_3.out b4)
 have H_4:=hid (H_3.out.call b4)
 have C_4:=hid (C_3.out.call b4)
 clear b4 B_3 H_3 C_3
 have hcH:=H_4.out.2.2
 have hlH:=H_4.out.2.1
 have hcC:=C_4.out.2.2
 have hlC:=C_4.out.2.1
 go_wp2_with fail
 refine (awake16_any _).mono ?_
 rintro e u5 ⟨rfl,b5⟩
 clear hcH hlH hcC hlC
 have B_5:=hid (bl B_4.out b5)
 have H_5:=hid (H_4.out.call b5)
 have C_5:=hid (C_4.out.call b5)
 clear b5 B_4 H_4 C_4
 have hcH:=H_5.out.2.2
 have hlH:=H_5.out.2.1
 have hcC:=C_5.out.2.2
 have hlC:=C_5.out.2.1
 go_wp2_with fail
 go_ret
 exact ⟨rfl,B_5.out⟩
theorem footTells_go (x:Wd) (p:Wp) (a i:Nat) (c:Cm) (ga wa:Option Addr) (gc wc:Nat) (fp:Option Addr) (cap:Nat) (l:List Pl) (haa:a≤255) (hi:a%x.at_.length=i) (w:World) (h:Ab w p x) (hg:Ae w ga c.gives) (hw:Ae w wa c.wants) (hl:Ar 2 plC w fp l) (hf:Ba x=true) (hfw:Dz c=true) (hmy:Ak c=true) (k0:decide ((40:Int)<(l.length:Int))=false):Calls prog 3 #[.agg (wC x p),.int .u8 (a:Int),.agg (cC c ga gc wa wc),.slice fp l.length cap] w fun e w'=>e=.returned (.bool true)∧Below w.heap.size w w':=by
 have r1:=Ay a x.at_.length
 have m1:=Bc a x.at_.length
 rw [hi] at r1 m1
 have FT:=hid (Bl hf)
 have hlp:0<x.at_.length:=(Aj FT.out.right).1
 have hne:¬x.at_=[]:=List.length_pos_iff.1 hlp
 have hil:i<x.at_.length:=by rw [←hi];exact Nat.mod_lt _ hlp
 have hlen6:=(Aj FT.out.right).2.1
 have MAY:=hid (may16 hmy)
 have HSZ:=hid (fits_small (by have:=hf;simp only [Ba,Bool.and_eq_true] at this;exact this.1))
 have HLW:=hid hl
 obtain ⟨⟨y,R⟩,hR⟩:∃R,doW x i c=R:=⟨_,rfl⟩
 have SY:=hid (show Am x y by have:=Rh x i c;rwa [hR] at this)
 have RY:=hid (show Ai y=true by have:=Sq FT.out.right hil c;rwa [hR] at this)
 obtain ⟨cv,hcv⟩:∃cv,Hk8 l x y=cv:=⟨_,rfl⟩
 have HCV:=hid hcv
 have HR:=hid hR
 clear hi hlp hR hcv hl
 have HF:=hid hf
 have HWA:=hid h
 clear hf h
 have HG:=hid hg
 have HW:=hid hw
 clear hg hw
 have HFW:=hid hfw
 clear hfw
 have HMY:=hid hmy
 clear hmy
 have HP0:=hid (Ac.pair w (wC x p) (cC c ga gc wa wc) 29 31)
 have hWC:=@wC.eq_1
 have hZC:=@zC.eq_1
 have hCC:=@cC.eq_1
 go_enter func3,ntmps3
 go_wp2_with fail
 generalize (w.alloc (.cells (wC x p) 29)).alloc (.cells (cC c ga gc wa wc) 31)=V0 at *
 have H_0:=hid HP0.out.1
 have C_0:=hid HP0.out.2
 have B_0:=hid H_0.out.1
 clear HP0
 refine (awake16_any _).mono ?_
 rintro e u1 ⟨rfl,b1⟩
 have B_1:=hid (bl B_0.out b1)
 have H_1:=hid (H_0.out.call b1)
 have C_1:=hid (C_0.out.call b1)
 clear b1 B_0 H_0 C_0
 have hcH:=H_1.out.2.2
 have hlH:=H_1.out.2.1
 have hcC:=C_1.out.2.2
 have hlC:=C_1.out.2.1
 go_wp2_with fail
 refine (fits16_any x p _ (HWA.out.below B_1.out (Nat.le_refl _))).mono ?_
 rintro e u2 ⟨rfl,b2⟩
 rw [HF.out]
 clear hcH hlH hcC hlC
 have B_2:=hid (bl B_1.out b2)
 have H_2:=hid (H_1.out.call b2)
 have C_2:=hid (C_1.out.call b2)
 clear b2 B_1 H_1 C_1
 have hcH:=H_2.out.2.2
 have hlH:=H_2.out.2.1
 have hcC:=C_2.out.2.2
 have hlC:=C_2.out.2.1
 go_wp2_with fail
 refine (Cy c ga wa gc wc _ (HG.out.below B_2.out (Nat.le_refl _)) (HW.out.below B_2.out (Nat.le_refl _))).mono ?_
 rintro e u3 ⟨rfl,b3⟩
 rw [HFW.out]
 clear hcH hlH hcC hlC
 have B_3:=hid (bl B_2.out b3)
 have H_3:=hid (H_2.out.call b3)
 have C_3:=hid (C_2.out.call b3)
 clear b3 B_2 H_2 C_2
 have hcH:=H_3.out.2.2
 have hlH:=H_3.out.2.1
 have hcC:=C_3.out.2.2
 have hlC:=C_3.out.2.1
 go_wp2_with fail
 refine (Bw c ga wa gc wc _ (HG.out.below B_3.out (Nat.le_refl _)) (HW.out.below B_3.out (Nat.le_refl _))).mono ?_
 rintro e u4 ⟨rfl,b4⟩
 rw [HMY.out]
 clear hcH hlH hcC hlC
 have B_4:=hid (bl B_3.out b4)
 have H_4:=hid (H_3.out.call b4)
 have C_4:=hid (C_3.out.call b4)
 clear b4 B_3 H_3 C_3
 have hcH:=H_4.out.2.2
 have hlH:=H_4.out.2.1
 have hcC:=C_4.out.2.2
 have hlC:=C_4.out.2.1
 go_wp2_with fail
 refine (Fn0 x p i c ga wa gc wc _ FT.out.right (HWA.out.below B_4.out (Nat.le_refl _)) hil (HG.out.below B_4.out (Nat.le_refl _)) (HW.out.below B_4.out (Nat.le_refl _)) HR.out).mono ?_
 rintro e u5 ⟨q2,qa2,ia2,qc2,ic2,rfl,g,g2,b5⟩
 clear hcH hlH hcC hlC
 have B_5:=hid (bl B_4.out b5)
 have H_5:=hid (H_4.out.call b5)
 have C_5:=hid (C_4.out.call b5)
 clear b5 B_4 H_4 C_4
 have hcH:=H_5.out.2.2
 have hlH:=H_5.out.2.1
 have hcC:=C_5.out.2.2
 have hlC:=C_5.out.2.1
 have WYB_5:=hid g
 have NYB_5:=hid g2
 clear g g2
 go_wp2_with fail
 clear hcH hlH hcC hlC
 have s6:(u5.alloc (.cells (wC x q2) 29)).heap.size=u5.heap.size+1:=by simp
 have zb6:Below u5.heap.size u5 (u5.alloc (.cells (wC x q2) 29)):=b_a _
 have B_6:=hid (bl B_5.out zb6)
 have H_6:=hid (H_5.out.call zb6)
 have C_6:=hid (C_5.out.call zb6)
 have WYB_6:=hid (WYB_5.out.call zb6)
 have NYB_6:=hid (NYB_5.out.call zb6)
 have YB_6:=hid (Ac.newb (w:=w) (A:=(wC x q2)) (t:=29) (n:=u5.heap.size) B_5.out rfl)
 clear zb6 B_5 H_5 C_5 WYB_5 NYB_5
 generalize u5.alloc (.cells (wC x q2) 29)=V6 at *
 have s7:(V6.alloc (.cells #[.int .i64 R.err,.int .i64 R.kind,.int .i64 R.room,.slice qa2 R.players.length qc2,.slice ia2 R.items.length ic2,.int .i64 R.coins] 39)).heap.size=V6.heap.size+1:=by simp
 have zb7:Below V6.heap.size V6 (V6.alloc (.cells #[.int .i64 R.err,.int .i64 R.kind,.int .i64 R.room,.slice qa2 R.players.length qc2,.slice ia2 R.items.length ic2,.int .i64 R.coins] 39)):=b_a _
 have B_7:=hid (bl B_6.out zb7)
 have H_7:=hid (H_6.out.call zb7)
 have C_7:=hid (C_6.out.call zb7)
 have YB_7:=hid (YB_6.out.call zb7)
 have WYB_7:=hid (WYB_6.out.call zb7)
 have NYB_7:=hid (NYB_6.out.call zb7)
 have YBr_7:=hid (Ac.newb (w:=w) (A:=#[.int .i64 R.err,.int .i64 R.kind,.int .i64 R.room,.slice qa2 R.players.length qc2,.slice ia2 R.items.length ic2,.int .i64 R.coins]) (t:=39) (n:=u5.heap.size+1) B_6.out (by omega))
 clear zb7 B_6 H_6 C_6 YB_6 WYB_6 NYB_6
 generalize V6.alloc (.cells #[.int .i64 R.err,.int .i64 R.kind,.int .i64 R.room,.slice qa2 R.players.length qc2,.slice ia2 R.items.length ic2,.int .i64 R.coins] 39)=V7 at *
 clear s6 s7
 have hcH:=H_7.out.2.2
 have hlH:=H_7.out.2.1
 have hcC:=C_7.out.2.2
 have hlC:=C_7.out.2.1
 have hcYB:=YB_7.out.2.2
 have hlYB:=YB_7.out.2.1
 have hcYBr:=YBr_7.out.2.2
 have hlYBr:=YBr_7.out.2.1
 clear hcH hlH hcC hlC hcYB hlYB hcYBr hlYBr
 have KS:Hid (∀w',Below V7.heap.size V7 w'→Below V7.heap.size V7 w'∧(∀ii,w'.cell? ⟨w.heap.size,ii,none⟩=((wC x p)[ii]?:Option Value))∧(∀ii,w'.cell? ⟨w.heap.size+1,ii,none⟩=((cC c ga gc wa wc)[ii]?:Option Value))∧(∀ii,w'.cell? ⟨u5.heap.size,ii,none⟩=((wC x q2)[ii]?:Option Value))∧(∀ii,w'.cell? ⟨u5.heap.size+1,ii,none⟩=(#[.int .i64 R.err,.int .i64 R.kind,.int .i64 R.room,.slice qa2 R.players.length qc2,.slice ia2 R.items.length ic2,.int .i64 R.coins][ii]?:Option Value))):=hid (fun w' hb=>⟨hb,fun ii=>(hb.cell (p:=⟨w.heap.size,ii,none⟩) H_7.out.2.1).trans (H_7.out.2.2 ii),fun ii=>(hb.cell (p:=⟨w.heap.size+1,ii,none⟩) C_7.out.2.1).trans (C_7.out.2.2 ii),fun ii=>(hb.cell (p:=⟨u5.heap.size,ii,none⟩) YB_7.out.2.1).trans (YB_7.out.2.2 ii),fun ii=>(hb.cell (p:=⟨u5.heap.size+1,ii,none⟩) YBr_7.out.2.1).trans (YBr_7.out.2.2 ii)⟩)
 have D0:=hid (Af (Below.refl V7.heap.size V7))
 refine tkS (S:=(fun w'=>Below V7.heap.size V7 w'∧(∀ii,w'.cell? ⟨w.heap.size,ii,none⟩=((wC x p)[ii]?:Option Value))∧(∀ii,w'.cell? ⟨w.heap.size+1,ii,none⟩=((cC c ga gc wa wc)[ii]?:Option Value))∧(∀ii,w'.cell? ⟨u5.heap.size,ii,none⟩=((wC x q2)[ii]?:Option Value))∧(∀ii,w'.cell? ⟨u5.heap.size+1,ii,none⟩=(#[.int .i64 R.err,.int .i64 R.kind,.int .i64 R.room,.slice qa2 R.players.length qc2,.slice ia2 R.items.length ic2,.int .i64 R.coins][ii]?:Option Value)))) (by (first|(with_reducible exact KS.out _ D0.out))) (fun hHeld=>?_)
 refine tkl [0,1,2,4,5,6] ?_
 iterate 6
  refine tW ?_
  try go_frame
 refine rdy1 3 (fun K hK=>?_)
 go_simp
 refine (of_any x p i c ga wa gc wc _ FT.out.right (HWA.out.below (B_7.out.trans (D0.out.mono B_7.out.size)) (Nat.le_refl _)) hil MAY.out.1).mono ?_;rintro e x1 ⟨fb1,fc1,s1,rfl,hs1,hO1,hb9⟩;have D1:=hid (Aa D0.out D0.out.size hb9);have S11:=hid hO1.row;have HS1:=hid hs1;clear hs1 hO1;clear hb9
 try go_wp2_with fail
 refine hK.out _ _ (by (first|(with_reducible exact KS.out _ D1.out))) (fun hHeld=>?_)
 clear hK K
 try go_frame
 refine rdy1 7 (fun K hK=>?_)
 go_simp
 refine (rof_any x p i c ga wa gc wc _ FT.out.right (HWA.out.below (B_7.out.trans (D1.out.mono B_7.out.size)) (Nat.le_refl _)) hil MAY.out.1 MAY.out.2).mono ?_;rintro e x2 ⟨fb2,fc2,s2,rfl,hs2,hO2,hb9⟩;have D2:=hid (Aa D1.out D1.out.size hb9);have S12:=hid (S11.out.call hb9);have S22:=hid hO2.row;obtain rfl:=HS1.out.same hs2;clear hs2 hO2;clear hb9 S11
 try go_wp2_with fail
 refine hK.out _ _ (by (first|(with_reducible exact KS.out _ D2.out))) (fun hHeld=>?_)
 clear hK K
 try go_frame
 refine rdy1 8 (fun K hK=>?_)
 go_simp
 refine (At9 fb1 fb2 fc1 fc2 s1 s1 _ S12.out S22.out).mono ?_;rintro e x3 ⟨rfl,hb9⟩;have D3:=hid (Aa D2.out D2.out.size hb9);have S13:=hid (S12.out.call hb9);have S23:=hid (S22.out.call hb9);rw [decide_eq_true rfl];clear hb9 S12 S22
 try go_wp2_with fail
 refine hK.out _ _ (by (first|(with_reducible exact KS.out _ D3.out))) (fun hHeld=>?_)
 clear hK K
 try go_frame
 refine tkl [9,10,11,12,14,15,16] ?_
 iterate 7
  refine tW ?_
  try go_frame
 refine rdy1 13 (fun K hK=>?_)
 go_simp
 refine (covers_as SY.out p q2 fp cap l _ FT.out.right RY.out HSZ.out (HWA.out.below (B_7.out.trans (D3.out.mono B_7.out.size)) (Nat.le_refl _)) (WYB_7.out.call D3.out) (HLW.out.below (B_7.out.trans (D3.out.mono B_7.out.size)) (Nat.le_refl _))).mono ?_;rintro e x4 ⟨rfl,hb9⟩;have D4:=hid (Aa D3.out D3.out.size hb9);have S14:=hid (S13.out.call hb9);have S24:=hid (S23.out.call hb9);rw [HCV.out];clear hb9 S13 S23
 try go_wp2_with fail
 refine hK.out _ _ (by (first|(with_reducible exact KS.out _ D4.out))) (fun hHeld=>?_)
 clear hK K
 try go_frame
 refine rdy1 17 (fun K hK=>?_)
 go_simp
 refine (rcovers_as SY.out p q2 fp cap l _ FT.out.right RY.out (HWA.out.below (B_7.out.trans (D4.out.mono B_7.out.size)) (Nat.le_refl _)) (WYB_7.out.call D4.out) (HLW.out.below (B_7.out.trans (D4.out.mono B_7.out.size)) (Nat.le_refl _))).mono ?_;rintro e x5 ⟨rfl,hb9⟩;have D5:=hid (Aa D4.out D4.out.size hb9);have S15:=hid (S14.out.call hb9);have S25:=hid (S24.out.call hb9);rw [HCV.out];clear hb9 S14 S24
 try go_wp2_with fail
 refine hK.out _ _ (by (first|(with_reducible exact KS.out _ D5.out))) (fun hHeld=>?_)
 clear hK K
 try go_frame
 refine tkl [18,19,20] ?_
 iterate 3
  refine tW ?_
  try go_frame
 refine tkD ?_
 clear hHeld KS
 have B_8:=hid (bl B_7.out D5.out)
 have H_8:=hid (H_7.out.call D5.out)
 have C_8:=hid (C_7.out.call D5.out)
 have YB_8:=hid (YB_7.out.call D5.out)
 have YBr_8:=hid (YBr_7.out.call D5.out)
 have WYB_8:=hid (WYB_7.out.call D5.out)
 have NYB_8:=hid (NYB_7.out.call D5.out)
 clear B_7 H_7 C_7 YB_7 YBr_7 WYB_7 NYB_7 D0 D1 D2 D3 D4 D5 S15 S25
 go_wp2_with fail
 go_ret
 exact ⟨rfl,B_8.out⟩
theorem walk_footTells (x:Wd) (p:Wp) (a:Int) (c:Cm) (ga wa:Option Addr) (gc wc:Nat) (fp:Option Addr) (cap:Nat) (l:List Pl) (w:World) (ha:(Lit.int .u8 a).wf=true) (h:Ab w p x) (hg:Ae w ga c.gives) (hw:Ae w wa c.wants) (_:c.Wf) (hl:Ar 2 plC w fp l) (_:∀k∈l,InK k):Calls prog 3 #[.agg (wC x p),.int .u8 a,.agg (cC c ga gc wa wc),.slice fp l.length cap] w fun e w'=>e=.returned (.bool true)∧Below w.heap.size w w':=by
 cases hf:Ba x
 ·exact footTells_no0 x p a c ga wa gc wc fp cap l w h hg hw hl hf
 cases hfw:Dz c
 ·exact footTells_no1 x p a c ga wa gc wc fp cap l w h hg hw hl hf hfw
 cases hmy:Ak c
 ·exact footTells_no2 x p a c ga wa gc wc fp cap l w h hg hw hl hf hfw hmy
 cases k0:decide ((40:Int)<(l.length:Int))
 ·have h1:=Ed ha
  obtain ⟨m1,rfl⟩:∃m:Nat,a=m:=⟨a.toNat,by omega⟩
  exact footTells_go x p m1 _ c ga wa gc wc fp cap l (by omega) rfl w h hg hw hl hf hfw hmy k0
 ·exact footTells_no3 x p a c ga wa gc wc fp cap l w h hg hw hl hf hfw hmy k0
theorem lifted_footTells (os:Os) (started:os.Started) (H:Type) (enc:TypeId × Value→H) :
 ReturnsInHanded {} Try.checked os 3 .any (Rows.footTellsSpec.pre6 enc prog Try.f3 Rows.footTellsRow.domain false) (Rows.footTellsSpec.post enc prog Try.f3 false true false false):=by
 refine returnsInHanded_of_change (C:=Try.checked) (by kernel_rfl) started (by kernel_rfl) func3
  (ChangeSpec.witness6 (enc:=enc) (C:=Try.checked) false ⟨#[],#[.agg zC,.int .u8 0,.agg #[.int .i64 0,.int .i64 0,.int .i64 0,.int .i64 0,.int .i64 0,.slice none 0 0,.int .i64 0,.slice none 0 0,.int .i64 0],.slice none 0 0],[]⟩ 8 (by kernel_rfl) (by kernel_rfl) (by kernel_rfl) (by kernel_rfl)) ?_
 intro W base args ds gs before hval0 hW hcnd _
 have hval:∀(j:Nat) t v,Try.f3.params[j]?=some t→args[j]?=some v→Value.okWide prog W .any base t v:=hval0
 have hW':=hW
 obtain ⟨p,q,hA0,hV,rfl,hfz,hnd⟩:=hW
 have hA:DataW.TrodAll enc prog W 0 (fun _=>true) true Try.f3.params.toList args.toList ds p:=hA0
 rw [Try.params3] at hA hval
 obtain ⟨v0,vs0,d0,ds0,p0,q0,hargs,rfl,rfl,h0,r0⟩:=trodAll_cons hA
 obtain ⟨v1,vs1,d1,ds1,p1,q1,rfl,rfl,rfl,h1,r1⟩:=trodAll_cons r0
 obtain ⟨v2,vs2,d2,ds2,p2,q2,rfl,rfl,rfl,h2,r2⟩:=trodAll_cons r1
 obtain ⟨v3,vs3,d3,ds3,p3,q3,rfl,rfl,rfl,h3,r3⟩:=trodAll_cons r2
 obtain ⟨rfl,rfl,rfl⟩:=trodAll_nil r3
 obtain rfl:args=#[v0,v1,v2,v3]:=by cases args;simp_all
 obtain ⟨rfl,rfl⟩:=trodVars_none hV
 obtain ⟨wx0,wp0,rfl,m0⟩:=Qz (hval 0 29 v0 rfl rfl) h0
 obtain ⟨a1,rfl,rfl,rfl,w1⟩:=open_int underlying5 (hval 1 5 v1 rfl rfl) h1
 obtain ⟨c2,ga2,wa2,gc2,wc2,rfl,ma2,mb2,mg2⟩:=Ak3 (hval 2 31 v2 rfl rfl) h2
 obtain ⟨a3,cap3,l3,rfl,m3,ik3⟩:=Fz6 (hval 3 32 v3 rfl rfl) h3
 clear hA0 hval0
 simp only [List.append_nil] at hW'
 refine (walk_footTells wx0 wp0 a1 c2 ga2 wa2 gc2 wc2 a3 cap3 l3 W w1 m0 ma2 mb2 mg2 m3 ik3).mono fun e W' ⟨he,hg⟩=>?_
 subst he
 exact ⟨_,rfl,Iy (by kernel_rfl) rfl (by rw [Try.params3];decide +kernel) rfl rfl underlying4 hW' hg⟩
theorem proved_footTells:Rows.FootTellsSaid :=
 OpenClaim.holds_of_wide 3 Try.f3 rfl rfl rfl rfl rfl rfl rfl ⟨rfl,rfl,rfl,rfl,rfl⟩ rfl rfl rfl rfl rfl (by kernel_rfl) func3 (by kernel_rfl)
  (of_decide_eq_true (by kernel_rfl)) (by unfold Func.isWrapper;first|(rw [if_pos (by decide +kernel)];kernel_rfl)|(rw [if_neg (by decide +kernel)];exact ⟨rfl,rfl⟩))
  (fun os started H enc _=>lifted_footTells os started H enc)
#print axioms proved_footTells
end Go.Proofs.Ytenpcndoilcjcaa
