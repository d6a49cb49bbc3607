/- ver: what the laws ask first of all; the contracts as the laws take them. -/
import Derived.Test.YtchmbmkdceaboaaMutexArg
import Derived.Test.YtchmbmkdceaboaaVerA
namespace Go.Proofs.Ytchmbmkdceaboaa
open Go.ChangeShapes Go.WideShapes Go.ChangeAt Go.RowKit
open Lib (hid)
set_option linter.unusedVariables false
open Go.RowKit Go
section
variable {a:Option Addr} {cap n:Nat} {l l2:List Int} {p:Int} {ok:Bool} {W:World}
theorem up_as (hn:l.length=n) (h:LkAt W a cap l) (hl:Vers l) (h2:upV l p=l2) (hok:mplB n p=ok):Calls Try.prog 9 #[.slice a n cap,.int .i64 p] W fun e w'=>Hn1 n a cap l2 ok W e w':=by
 subst hn
 have h3:=vup_any a cap l p W h hl
 unfold Dx5 at h3
 rw [Ha2,h2,hok] at h3
 exact h3
theorem rup_as (hn:l.length=n) (h:LkAt W a cap l) (hl:Vers l) (h2:upV l p=l2) (hok:mplB n p=ok):Calls Try.prog 10 #[.slice a n cap,.int .i64 p] W fun e w'=>Hn1 n a cap l2 ok W e w':=by
 subst hn
 have h3:=refup_any a cap l p W h hl
 unfold Dx5 at h3
 rw [Ha2,h2,hok] at h3
 exact h3
theorem vrd_as {v:Int} (hn:l.length=n) (h:LkAt W a cap l) (h2:readV l p=v) (hok:mplB n p=ok):Calls Try.prog 11 #[.slice a n cap,.int .i64 p] W fun e w'=>e=.returned (.tuple #[.int .i64 v,.bool ok])∧W=w':=by
 subst hn
 have h3:=vread_any a cap l p W h.1
 rw [h2,hok] at h3
 exact h3
end
theorem aw17_vers {x y:Int} (h1:0≤x∧x≤9) (h2:0≤y∧y≤9):Vers [x,y]:=⟨by simp,by simp;omega⟩
set_option maxRecDepth 100000 in
set_option maxHeartbeats 1000000 in
theorem awake17_any (w:World):Calls Try.prog 7 #[] w fun e w'=>e=.returned (.bool true)∧Below w.heap.size w w':=by
 have B_0:=hid (Below.refl w.heap.size w)
 go_enter Try.func7,Try.ntmps7
 go_wp2_with fail
 have Z_1:=hid (Dn3 w #[.int .i64 0,.int .i64 4] [0,4] rfl (by decide))
 have s1:(w.alloc (.cells #[.int .i64 0,.int .i64 4] 3)).heap.size=w.heap.size+1:=by simp
 have B_1:=hid (B_0.out.alloc B_0.out.size (.cells #[.int .i64 0,.int .i64 4] 3))
 clear B_0
 generalize w.alloc (.cells #[.int .i64 0,.int .i64 4] 3)=V1 at *
 refine (up_as rfl Z_1.out (aw17_vers (by decide) (by decide)) (l2:=[1,4]) (ok:=true) (by decide) (by decide)).mono ?_
 rintro e u2 ⟨a,ac,rfl,ha,-,b2⟩
 have B_2:=hid (bl B_1.out b2)
 have Z_2:=hid (Z_1.out.call b2)
 have A_2:=hid ha
 clear ha
 clear b2 B_1 Z_1
 go_wp2_with fail
 refine (up_as rfl A_2.out (aw17_vers (by decide) (by decide)) (l2:=[2,4]) (ok:=true) (by decide) (by decide)).mono ?_
 rintro e u3 ⟨b,bc,rfl,hb,-,b3⟩
 have B_3:=hid (bl B_2.out b3)
 have Z_3:=hid (Z_2.out.call b3)
 have A_3:=hid (A_2.out.call b3)
 have BB_3:=hid hb
 clear hb
 clear b3 B_2 Z_2 A_2
 go_wp2_with fail
 refine (up_as rfl A_3.out (aw17_vers (by decide) (by decide)) (l2:=[1,4]) (ok:=false) (by decide) (by decide)).mono ?_
 rintro e u4 ⟨x,xc,rfl,hx,-,b4⟩
 have B_4:=hid (bl B_3.out b4)
 have Z_4:=hid (Z_3.out.call b4)
 have A_4:=hid (A_3.out.call b4)
 have BB_4:=hid (BB_3.out.call b4)
 clear b4 B_3 Z_3 A_3 BB_3 hx
 go_wp2_with fail
 refine (vrd_as rfl BB_4.out (v:=2) (ok:=true) (by decide) (by decide)).mono ?_
 rintro e w9 ⟨rfl,rfl⟩
 go_wp2_with fail
 refine (vrd_as rfl BB_4.out (v:=0) (ok:=false) (by decide) (by decide)).mono ?_
 rintro e w9 ⟨rfl,rfl⟩
 go_wp2_with fail
 have L1_5:=hid (Dn3 u4 #[.int .i64 1,.int .i64 4] [1,4] rfl (by decide))
 have s5:(u4.alloc (.cells #[.int .i64 1,.int .i64 4] 3)).heap.size=u4.heap.size+1:=by simp
 have zb5:Below u4.heap.size u4 (u4.alloc (.cells #[.int .i64 1,.int .i64 4] 3)):=b_a _
 have B_5:=hid (bl B_4.out zb5)
 have Z_5:=hid (Z_4.out.call zb5)
 have A_5:=hid (A_4.out.call zb5)
 have BB_5:=hid (BB_4.out.call zb5)
 clear zb5 B_4 Z_4 A_4 BB_4
 generalize u4.alloc (.cells #[.int .i64 1,.int .i64 4] 3)=V5 at *
 refine (Dw9 _ _ _ _ [1,4] 2 rfl _ A_5.out L1_5.out).mono ?_
 rintro e u6 ⟨rfl,b6⟩
 have B_6:=hid (bl B_5.out b6)
 have Z_6:=hid (Z_5.out.call b6)
 have A_6:=hid (A_5.out.call b6)
 have BB_6:=hid (BB_5.out.call b6)
 have L1_6:=hid (L1_5.out.call b6)
 clear b6 B_5 Z_5 A_5 BB_5 L1_5
 go_wp2_with fail
 have L2_7:=hid (Dn3 u6 #[.int .i64 2,.int .i64 4] [2,4] rfl (by decide))
 have s7:(u6.alloc (.cells #[.int .i64 2,.int .i64 4] 3)).heap.size=u6.heap.size+1:=by simp
 have zb7:Below u6.heap.size u6 (u6.alloc (.cells #[.int .i64 2,.int .i64 4] 3)):=b_a _
 have B_7:=hid (bl B_6.out zb7)
 have Z_7:=hid (Z_6.out.call zb7)
 have A_7:=hid (A_6.out.call zb7)
 have BB_7:=hid (BB_6.out.call zb7)
 have L1_7:=hid (L1_6.out.call zb7)
 clear zb7 B_6 Z_6 A_6 BB_6 L1_6
 generalize u6.alloc (.cells #[.int .i64 2,.int .i64 4] 3)=V7 at *
 refine (Dw9 _ _ _ _ [2,4] 2 rfl _ BB_7.out L2_7.out).mono ?_
 rintro e u8 ⟨rfl,b8⟩
 have B_8:=hid (bl B_7.out b8)
 have Z_8:=hid (Z_7.out.call b8)
 have A_8:=hid (A_7.out.call b8)
 have BB_8:=hid (BB_7.out.call b8)
 have L1_8:=hid (L1_7.out.call b8)
 have L2_8:=hid (L2_7.out.call b8)
 clear b8 B_7 Z_7 A_7 BB_7 L1_7 L2_7
 go_wp2_with fail
 refine (vodd_any 1 _ (by decide)).mono ?_
 rintro e w9 ⟨rfl,rfl⟩
 rw [show decide ((1:Int)%2=1)=true by decide]
 go_wp2_with fail
 refine (vodd_any 2 _ (by decide)).mono ?_
 rintro e w9 ⟨rfl,rfl⟩
 rw [show decide ((2:Int)%2=1)=false by decide]
 go_wp2_with fail
 refine (vcalm_any 2 2 _ (by decide)).mono ?_
 rintro e w9 ⟨rfl,rfl⟩
 rw [show calmB 2 2=true by decide]
 go_wp2_with fail
 refine (vcalm_any 0 2 _ (by decide)).mono ?_
 rintro e w9 ⟨rfl,rfl⟩
 rw [show calmB 0 2=false by decide]
 go_wp2_with fail
 refine (vcalm_any 1 1 _ (by decide)).mono ?_
 rintro e w9 ⟨rfl,rfl⟩
 rw [show calmB 1 1=false by decide]
 go_wp2_with fail
 go_ret
 exact ⟨rfl,B_8.out⟩
end Go.Proofs.Ytchmbmkdceaboaa
