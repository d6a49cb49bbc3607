/- The document's own Do: what comes of a command, done at once. -/
import Derived.Test.YtenpcndoilcjcaaGWaysR
import Derived.Test.YtenpcndoilcjcaaGBoxR
import Derived.Test.YtenpcndoilcjcaaGGiftC
import Derived.Test.YtenpcndoilcjcaaGGiftR
import Derived.Test.YtenpcndoilcjcaaGSightR
import Derived.Test.YtenpcndoilcjcaaAtomA
namespace Go.Proofs.Ytenpcndoilcjcaa
open Go.ChangeShapes Go.WideShapes Go.ChangeAt Go.RowKit Go.Proofs.Try
open Lib (hid)
set_option linter.unusedVariables false
set_option maxHeartbeats 2000000
set_option maxRecDepth 100000
open Go.RowKit
def rdP (x:Wd) (p:Wp) (R:Wd × Rp) (W:World) (e:Ending) (w':World):Prop:=∃(q:Wp) (qa ia:Option Addr) (qc ic:Nat),e=.returned (.tuple #[.agg (wC x q),.agg #[.int .i64 R.2.err,.int .i64 R.2.kind,.int .i64 R.2.room,.slice qa R.2.players.length qc,.slice ia R.2.items.length ic,.int .i64 R.2.coins]])∧Ab w' q R.1∧NewR W.heap.size w' qa ia R.2∧Below W.heap.size W w'
def rgP (x:Wd) (p:Wp) (A:Wd × Int × Int) (W:World) (e:Ending) (w':World):Prop:=∃q:Wp,e=.returned (.tuple #[.agg (wC x q),.int .i64 A.2.1,.int .i64 A.2.2])∧Du W.heap.size w' p q x A∧Below W.heap.size W w'
def roP (x:Wd) (p:Wp) (A:Wd × Int × Int) (W:World) (e:Ending) (w':World):Prop:=∃q:Wp,e=.returned (.tuple #[.agg (wC x q),.int .i64 A.2.2])∧Du W.heap.size w' p q x A∧Below W.heap.size W w'
theorem Cc6 {P:Program} {c:Code} {K:Exit→Act→World→Prop} {a:Act} {W:World} (F:World→Prop) (hF:F W) (h:∀V,F V→Code.wp P c K a V):Code.wp P c K a W:=h W hF
theorem Tc {n:Nat} {W:World} {p q:Wp} {x:Wd} {R:Wd × Int × Int} (h:Du n W p q x R):Du n W.drew p q x R:=h.call (Af (Below.refl _ _))
theorem Qua.setq {t u s r:TypeId} {w v:World} {cs ds es z:Array Value} (h:Qua t u s r w v cs ds es z) {m:Nat} (hm:w.heap.size+4≤m) (i:Nat) (k:Value):Qua t u s r w (v.setCell ⟨m,i,none⟩ k) cs ds es z :=
 ⟨h.a.far (by show w.heap.size≠m;omega) _,h.m.far (by show w.heap.size+1≠m;omega) _,h.n.far (by show w.heap.size+2≠m;omega) _,h.r.far (by show w.heap.size+3≠m;omega) _,h.b.setCell (by show w.heap.size≤m;omega) _⟩
section
variable (x:Wd) (p:Wp) (i:Nat) (c:Cm) (ga wa:Option Addr) (gc wc:Nat) (w:World) (hx:Ai x=true) (h:Ab w p x) (hi:i<x.at_.length) (hm:Ak c=true)
include hx h hi hm in
theorem Hd4 (hk:c.kind=1):Calls prog 21 #[.agg (wC x p),.int .i64 (i:Int),.int .i64 c.dir] w (rgP x p (actW x i c) w):=by
 have hd:=Mi hm
 unfold actW
 rw [if_pos hk]
 obtain ⟨d,hd1⟩:∃d:Nat,c.dir=d:=⟨c.dir.toNat,by omega⟩
 have hd4:d<4:=by omega
 rw [hd1,show ((d:Int)).toNat=d by omega]
 exact Bf6 x p i d hd4 w hx h hi
include hx h hi hm in
theorem Hd3 (hk:c.kind=2):Calls prog 22 #[.agg (wC x p),.int .i64 (i:Int),.int .i64 c.who,.int .i64 c.dir] w (rgP x p (actW x i c) w):=by
 have hd:=Mi hm
 unfold actW
 rw [if_neg (by omega),if_pos hk]
 obtain ⟨d,hd1⟩:∃d:Nat,c.dir=d:=⟨c.dir.toNat,by omega⟩
 have hd4:d<4:=by omega
 rw [hd1,show ((d:Int)).toNat=d by omega]
 exact Bf4 x p i c.who d hd4 w hx h hi
include hx h hi hm in
theorem Hd2 (hk:c.kind=3):Calls prog 23 #[.agg (wC x p),.int .i64 (i:Int),.int .i64 c.item] w (roP x p (actW x i c) w):=by
 have hd:=Mi hm
 unfold actW
 rw [if_neg (by omega),if_neg (by omega),if_pos hk]
 exact Ak1 x p i c.item w hx h hi
include hx h hi hm in
theorem Hd1 (hk:c.kind=4):Calls prog 24 #[.agg (wC x p),.int .i64 (i:Int),.int .i64 c.item] w (roP x p (actW x i c) w):=by
 have hd:=Mi hm
 unfold actW
 rw [if_neg (by omega),if_neg (by omega),if_neg (by omega),if_pos hk]
 exact Bg3 x p i c.item w hx h hi
include hx h hi hm in
theorem Hd0 (hk:c.kind=5):Calls prog 25 #[.agg (wC x p),.int .i64 (i:Int),.int .i64 c.item,.int .i64 c.box] w (roP x p (actW x i c) w):=by
 have hd:=Mi hm
 unfold actW
 rw [if_neg (by omega),if_neg (by omega),if_neg (by omega),if_neg (by omega),if_pos hk]
 exact Bu6 x p i c.item c.box w hx h hi
include hx h hi hm in
theorem Hc9 (hk:c.kind=6):Calls prog 26 #[.agg (wC x p),.int .i64 (i:Int),.int .i64 c.item,.int .i64 c.box] w (roP x p (actW x i c) w):=by
 have hd:=Mi hm
 unfold actW
 rw [if_neg (by omega),if_neg (by omega),if_neg (by omega),if_neg (by omega),if_neg (by omega),if_pos hk]
 exact Bk9 x p i c.item c.box w hx h hi
include hx h hi hm in
theorem Hc8 (hk:c.kind=7):Calls prog 27 #[.agg (wC x p),.int .i64 (i:Int),.int .i64 c.item,.int .i64 c.who] w (roP x p (actW x i c) w):=by
 have hd:=Mi hm
 unfold actW
 rw [if_neg (by omega),if_neg (by omega),if_neg (by omega),if_neg (by omega),if_neg (by omega),if_neg (by omega),if_pos hk]
 exact Av4 x p i c.item c.who w hx h hi
include hx h hi hm in
theorem Hc7 (hk:c.kind=8) (hg:Ae w ga c.gives) (hw:Ae w wa c.wants):Calls prog 28 #[.agg (wC x p),.int .i64 (i:Int),.agg (cC c ga gc wa wc)] w (roP x p (actW x i c) w):=by
 have hd:=Mi hm
 unfold actW
 rw [if_neg (by omega),if_neg (by omega),if_neg (by omega),if_neg (by omega),if_neg (by omega),if_neg (by omega),if_neg (by omega)]
 have hl:=Ba6 hm
 exact Ax4 x p i c.kind c.dir c.item c.box c.who c.pay c.fee c.gives c.wants ga wa gc wc w hx h hi hg hw hl.1 hl.2
end
section
variable (x:Wd) (p:Wp) (i:Nat) (c:Cm) (ga wa:Option Addr) (gc wc:Nat) (w:World)
theorem Gp4 (h:Ab w p x) (hg:Ae w ga c.gives) (hw:Ae w wa c.wants) (hm:Ak c=false):Calls prog 9 #[.agg (wC x p),.int .i64 (i:Int),.agg (cC c ga gc wa wc)] w (rdP x p (doW x i c) w):=by
 rw [show doW x i c=(x,errR 2) by unfold doW;rw [if_pos hm]]
 have HM:=hid hm
 have HG:=hid hg
 have HW:=hid hw
 have HWA:=hid h
 have C0:=hid (Qua.start 29 31 29 39 w (wC x p) (cC c ga gc wa wc) zC #[.int .i64 0,.int .i64 0,.int .i64 0,.slice none 0 0,.slice none 0 0,.int .i64 0])
 clear hm h hg hw
 have hWC:=@wC.eq_1
 have hZC:=@zC.eq_1
 have hCC:=@cC.eq_1
 go_enter func9,ntmps9
 go_wp2_with fail
 generalize (((w.alloc (.cells (wC x p) 29)).alloc (.cells (cC c ga gc wa wc) 31)).alloc (.cells zC 29)).alloc (.cells #[.int .i64 0,.int .i64 0,.int .i64 0,.slice none 0 0,.slice none 0 0,.int .i64 0] 39)=V0 at *
 refine (Bw c ga wa gc wc V0 (HG.out.below C0.out.b (Nat.le_refl _)) (HW.out.below C0.out.b (Nat.le_refl _))).mono ?_
 rintro e w1 ⟨rfl,b1⟩
 rw [HM.out]
 have C1:=hid (C0.out.call b1)
 have HS1:=hid (show w.heap.size+4≤w1.heap.size from C1.out.size)
 have hca:=C1.out.a.cell
 have hla:=C1.out.a.lt
 have hcm:=C1.out.m.cell
 have hlm:=C1.out.m.lt
 clear C0 b1
 obtain ⟨hcn,hzn,hln⟩:=C1.out.n.all
 obtain ⟨hcr,hzr,hlr⟩:=C1.out.r.all
 go_wp2_with fail
 have hB:=C1.out.b
 refine bodyPost_ret (v:=.tuple #[.agg (wC x p),.agg #[.int .i64 2,.int .i64 0,.int .i64 0,.slice none 0 0,.slice none 0 0,.int .i64 0]]) (by simp [results,results9,go_sem,hcn,hcr]) rfl ⟨p,none,none,0,0,rfl,?_,Je _ _ rfl rfl,?_⟩
 ·refine HWA.out.below (B:=w.heap.size) ?_ (Nat.le_refl _)
  iterate 6 refine Below.setCell ?_ (by show w.heap.size≤w.heap.size+3;omega) _
  iterate 11 refine bs_2 ?_
  exact hB
 ·iterate 6 refine Below.setCell ?_ (by show w.heap.size≤w.heap.size+3;omega) _
  iterate 11 refine bs_2 ?_
  exact hB
theorem Gp5 (hx:Ai x=true) (h:Ab w p x) (hi:i<x.at_.length) (hm:Ak c=true) (hg:Ae w ga c.gives) (hw:Ae w wa c.wants) (hk:c.kind=9):Calls prog 9 #[.agg (wC x p),.int .i64 (i:Int),.agg (cC c ga gc wa wc)] w (rdP x p (doW x i c) w):=by
 obtain ⟨R,hR⟩:∃R,Gh x i=R:=⟨_,rfl⟩
 rw [show doW x i c=(x,R) by unfold doW;rw [if_neg (by rw [hm];simp),if_pos hk,hR]]
 have t1:(c.kind==1)=false:=by rw [hk];rfl
 have t2:(c.kind==2)=false:=by rw [hk];rfl
 have t3:(c.kind==3)=false:=by rw [hk];rfl
 have t4:(c.kind==4)=false:=by rw [hk];rfl
 have t5:(c.kind==5)=false:=by rw [hk];rfl
 have t6:(c.kind==6)=false:=by rw [hk];rfl
 have t7:(c.kind==7)=false:=by rw [hk];rfl
 have t8:(c.kind==8)=false:=by rw [hk];rfl
 have t9:(c.kind==9)=true:=by rw [hk];rfl
 have HM:=hid hm
 have HG:=hid hg
 have HW:=hid hw
 have HWA:=hid h
 have HL:=hid (fun (W:World) (hb:Below w.heap.size w W)=>Dz9 x p i W hx (h.below hb (Nat.le_refl _)) hi hR)
 have C0:=hid (Qua.start 29 31 29 39 w (wC x p) (cC c ga gc wa wc) zC #[.int .i64 0,.int .i64 0,.int .i64 0,.slice none 0 0,.slice none 0 0,.int .i64 0])
 clear hm h hg hw hx hi hk hR
 have hWC:=@wC.eq_1
 have hZC:=@zC.eq_1
 have hCC:=@cC.eq_1
 go_enter func9,ntmps9
 go_wp2_with fail
 generalize (((w.alloc (.cells (wC x p) 29)).alloc (.cells (cC c ga gc wa wc) 31)).alloc (.cells zC 29)).alloc (.cells #[.int .i64 0,.int .i64 0,.int .i64 0,.slice none 0 0,.slice none 0 0,.int .i64 0] 39)=V0 at *
 refine (Bw c ga wa gc wc V0 (HG.out.below C0.out.b (Nat.le_refl _)) (HW.out.below C0.out.b (Nat.le_refl _))).mono ?_
 rintro e w1 ⟨rfl,b1⟩
 rw [HM.out]
 have C1:=hid (C0.out.call b1)
 have HS1:=hid (show w.heap.size+4≤w1.heap.size from C1.out.size)
 have hca:=C1.out.a.cell
 have hla:=C1.out.a.lt
 have hcm:=C1.out.m.cell
 have hlm:=C1.out.m.lt
 clear C0 b1
 obtain ⟨m,hm⟩:∃m,w1.heap.size=m:=⟨_,rfl⟩
 have CZ:=hid (C1.out.call (b_a (.cells (wC x p) 29)))
 go_upto_region 4 with fail
 clear hca hla hcm hlm
 generalize w1.alloc (.cells (wC x p) 29)=V1 at *
 clear hm C1
 have hcm:=CZ.out.m.cell
 have hlm:=CZ.out.m.lt
 go_wp2_with fail
 clear hcm hlm t1 t2 t3 t4 t5 t6 t7 t8 t9
 have CD:=hid (CZ.out.call (Af (Below.refl _ _)))
 have O0:=hid (show Two2 w.heap.size (w.heap.size+1) (wC x p) (cC c ga gc wa wc) V1 from ⟨CZ.out.a.cell,CZ.out.m.cell⟩)
 have n0:w.heap.size≠w.heap.size+1+1:=by omega
 have n0b:w.heap.size≠w.heap.size+1+1+1:=by omega
 have n1:w.heap.size+1≠w.heap.size+1+1:=by omega
 have n1b:w.heap.size+1≠w.heap.size+1+1+1:=by omega
 refine tkS (S:=(fun w'=>(∀ii,w'.cell? ⟨w.heap.size,ii,none⟩=((wC x p)[ii]?:Option Value))∧(∀ii,w'.cell? ⟨w.heap.size+1,ii,none⟩=((cC c ga gc wa wc)[ii]?:Option Value)))) (by (first|(with_reducible exact Fe O0.out.drew))) (fun hHeld=>?_)
 refine tkl [0,1,2] ?_
 iterate 3
  refine tW ?_
  try go_frame
 refine rdy1 3 (fun K hK=>?_)
 go_simp
 refine (HL.out _ CD.out.b).mono ?_;rintro e w3 ⟨qa,ia,qc,ic,rfl,nr,b3⟩;have C3:=hid (CD.out.call b3);have NR:=hid nr;have O2:=hid (show Two2 w.heap.size (w.heap.size+1) (wC x p) (cC c ga gc wa wc) w3 from ⟨C3.out.a.cell,C3.out.m.cell⟩);have HSZ:=hid CD.out.size;clear nr b3
 try go_wp2_with fail
 refine hK.out _ _ (by (first|(with_reducible exact Fe O2.out))) (fun hHeld=>?_)
 clear hK K
 try go_frame
 obtain ⟨hcn,hzn,hln⟩:=C3.out.n.all
 obtain ⟨hcr,hzr,hlr⟩:=C3.out.r.all
 refine rdy1 4 (fun K hK=>?_)
 go_simp
 try go_wp2_with fail
 refine hK.out _ _ (by (first|((with_reducible refine Fe ?_);(iterate 11 with_reducible refine Two2.set n0 n1 ?_ _ _);with_reducible exact O2.out))) (fun hHeld=>?_)
 clear hK K
 try go_frame
 refine rdy1 5 (fun K hK=>?_)
 go_simp
 try go_wp2_with fail
 refine hK.out _ _ (by (first|((with_reducible refine Fe ?_);(iterate 6 with_reducible refine Two2.set n0b n1b ?_ _ _);(iterate 11 with_reducible refine Two2.set n0 n1 ?_ _ _);with_reducible exact O2.out))) (fun hHeld=>?_)
 clear hK K
 try go_frame
 refine tkD ?_
 go_wp2_with fail
 have hB:=C3.out.b
 refine bodyPost_ret (v:=.tuple #[.agg (wC x p),.agg #[.int .i64 R.err,.int .i64 R.kind,.int .i64 R.room,.slice qa R.players.length qc,.slice ia R.items.length ic,.int .i64 R.coins]]) (by simp [results,results9,go_sem,hcn,hcr]) rfl ⟨p,qa,ia,qc,ic,rfl,?_,?_,?_⟩
 ·refine HWA.out.below (B:=w.heap.size) ?_ (Nat.le_refl _)
  iterate 6 refine Below.setCell ?_ (by show w.heap.size≤w.heap.size+3;omega) _
  iterate 11 refine bs_2 ?_
  exact hB
 ·refine NewR.less (n:=V1.drew.heap.size) ?_ (by have:=HSZ.out;omega)
  iterate 6 refine NewR.set (q:=w.heap.size+3) ?_ (by have:=HSZ.out;omega) _ _
  iterate 11 refine NewR.set (q:=w.heap.size+2) ?_ (by have:=HSZ.out;omega) _ _
  exact NR.out
 ·iterate 6 refine Below.setCell ?_ (by show w.heap.size≤w.heap.size+3;omega) _
  iterate 11 refine bs_2 ?_
  exact hB
theorem Fz9 (hx:Ai x=true) (h:Ab w p x) (hi:i<x.at_.length) (hm:Ak c=true) (hg:Ae w ga c.gives) (hw:Ae w wa c.wants) (hk:c.kind=10):Calls prog 9 #[.agg (wC x p),.int .i64 (i:Int),.agg (cC c ga gc wa wc)] w (rdP x p (doW x i c) w):=by
 obtain ⟨R,hR⟩:∃R,Lh x i=R:=⟨_,rfl⟩
 rw [show doW x i c=(x,R) by unfold doW;rw [if_neg (by rw [hm];simp),if_neg (by omega),if_pos hk,hR]]
 have t1:(c.kind==1)=false:=by rw [hk];rfl
 have t2:(c.kind==2)=false:=by rw [hk];rfl
 have t3:(c.kind==3)=false:=by rw [hk];rfl
 have t4:(c.kind==4)=false:=by rw [hk];rfl
 have t5:(c.kind==5)=false:=by rw [hk];rfl
 have t6:(c.kind==6)=false:=by rw [hk];rfl
 have t7:(c.kind==7)=false:=by rw [hk];rfl
 have t8:(c.kind==8)=false:=by rw [hk];rfl
 have t9:(c.kind==9)=false:=by rw [hk];rfl
 have t10:(c.kind==10)=true:=by rw [hk];rfl
 have HM:=hid hm
 have HG:=hid hg
 have HW:=hid hw
 have HWA:=hid h
 have HL:=hid (fun (W:World) (hb:Below w.heap.size w W)=>Ev7 x p i W hx (h.below hb (Nat.le_refl _)) hi hR)
 have C0:=hid (Qua.start 29 31 29 39 w (wC x p) (cC c ga gc wa wc) zC #[.int .i64 0,.int .i64 0,.int .i64 0,.slice none 0 0,.slice none 0 0,.int .i64 0])
 clear hm h hg hw hx hi hk hR
 have hWC:=@wC.eq_1
 have hZC:=@zC.eq_1
 have hCC:=@cC.eq_1
 go_enter func9,ntmps9
 go_wp2_with fail
 generalize (((w.alloc (.cells (wC x p) 29)).alloc (.cells (cC c ga gc wa wc) 31)).alloc (.cells zC 29)).alloc (.cells #[.int .i64 0,.int .i64 0,.int .i64 0,.slice none 0 0,.slice none 0 0,.int .i64 0] 39)=V0 at *
 refine (Bw c ga wa gc wc V0 (HG.out.below C0.out.b (Nat.le_refl _)) (HW.out.below C0.out.b (Nat.le_refl _))).mono ?_
 rintro e w1 ⟨rfl,b1⟩
 rw [HM.out]
 have C1:=hid (C0.out.call b1)
 have HS1:=hid (show w.heap.size+4≤w1.heap.size from C1.out.size)
 have hca:=C1.out.a.cell
 have hla:=C1.out.a.lt
 have hcm:=C1.out.m.cell
 have hlm:=C1.out.m.lt
 clear C0 b1
 obtain ⟨m,hm⟩:∃m,w1.heap.size=m:=⟨_,rfl⟩
 have CZ:=hid (C1.out.call (b_a (.cells (wC x p) 29)))
 go_upto_region 4 with fail
 clear hca hla hcm hlm
 generalize w1.alloc (.cells (wC x p) 29)=V1 at *
 clear hm C1
 have hcm:=CZ.out.m.cell
 have hlm:=CZ.out.m.lt
 go_wp2_with fail
 clear hcm hlm t1 t2 t3 t4 t5 t6 t7 t8 t9 t10
 have CD:=hid (CZ.out.call (Af (Below.refl _ _)))
 have O0:=hid (show Two2 w.heap.size (w.heap.size+1) (wC x p) (cC c ga gc wa wc) V1 from ⟨CZ.out.a.cell,CZ.out.m.cell⟩)
 have n0:w.heap.size≠w.heap.size+1+1:=by omega
 have n0b:w.heap.size≠w.heap.size+1+1+1:=by omega
 have n1:w.heap.size+1≠w.heap.size+1+1:=by omega
 have n1b:w.heap.size+1≠w.heap.size+1+1+1:=by omega
 refine tkS (S:=(fun w'=>(∀ii,w'.cell? ⟨w.heap.size,ii,none⟩=((wC x p)[ii]?:Option Value))∧(∀ii,w'.cell? ⟨w.heap.size+1,ii,none⟩=((cC c ga gc wa wc)[ii]?:Option Value)))) (by (first|(with_reducible exact Fe O0.out.drew))) (fun hHeld=>?_)
 refine tkl [0,1,2] ?_
 iterate 3
  refine tW ?_
  try go_frame
 refine rdy1 3 (fun K hK=>?_)
 go_simp
 refine (HL.out _ CD.out.b).mono ?_;rintro e w3 ⟨qa,ia,qc,ic,rfl,nr,b3⟩;have C3:=hid (CD.out.call b3);have NR:=hid nr;have O2:=hid (show Two2 w.heap.size (w.heap.size+1) (wC x p) (cC c ga gc wa wc) w3 from ⟨C3.out.a.cell,C3.out.m.cell⟩);have HSZ:=hid CD.out.size;clear nr b3
 try go_wp2_with fail
 refine hK.out _ _ (by (first|(with_reducible exact Fe O2.out))) (fun hHeld=>?_)
 clear hK K
 try go_frame
 obtain ⟨hcn,hzn,hln⟩:=C3.out.n.all
 obtain ⟨hcr,hzr,hlr⟩:=C3.out.r.all
 refine rdy1 4 (fun K hK=>?_)
 go_simp
 try go_wp2_with fail
 refine hK.out _ _ (by (first|((with_reducible refine Fe ?_);(iterate 11 with_reducible refine Two2.set n0 n1 ?_ _ _);with_reducible exact O2.out))) (fun hHeld=>?_)
 clear hK K
 try go_frame
 refine rdy1 5 (fun K hK=>?_)
 go_simp
 try go_wp2_with fail
 refine hK.out _ _ (by (first|((with_reducible refine Fe ?_);(iterate 6 with_reducible refine Two2.set n0b n1b ?_ _ _);(iterate 11 with_reducible refine Two2.set n0 n1 ?_ _ _);with_reducible exact O2.out))) (fun hHeld=>?_)
 clear hK K
 try go_frame
 refine tkD ?_
 go_wp2_with fail
 have hB:=C3.out.b
 refine bodyPost_ret (v:=.tuple #[.agg (wC x p),.agg #[.int .i64 R.err,.int .i64 R.kind,.int .i64 R.room,.slice qa R.players.length qc,.slice ia R.items.length ic,.int .i64 R.coins]]) (by simp [results,results9,go_sem,hcn,hcr]) rfl ⟨p,qa,ia,qc,ic,rfl,?_,?_,?_⟩
 ·refine HWA.out.below (B:=w.heap.size) ?_ (Nat.le_refl _)
  iterate 6 refine Below.setCell ?_ (by show w.heap.size≤w.heap.size+3;omega) _
  iterate 11 refine bs_2 ?_
  exact hB
 ·refine NewR.less (n:=V1.drew.heap.size) ?_ (by have:=HSZ.out;omega)
  iterate 6 refine NewR.set (q:=w.heap.size+3) ?_ (by have:=HSZ.out;omega) _ _
  iterate 11 refine NewR.set (q:=w.heap.size+2) ?_ (by have:=HSZ.out;omega) _ _
  exact NR.out
 ·iterate 6 refine Below.setCell ?_ (by show w.heap.size≤w.heap.size+3;omega) _
  iterate 11 refine bs_2 ?_
  exact hB
end
section
variable (x:Wd) (p:Wp) (i:Nat) (c:Cm) (ga wa:Option Addr) (gc wc:Nat) (w:World) (hx:Ai x=true) (h:Ab w p x) (hi:i<x.at_.length) (hm:Ak c=true)
include hx h hi hm in
theorem Gq3 (hg:Ae w ga c.gives) (hw:Ae w wa c.wants) (hk:c.kind=1):Calls prog 9 #[.agg (wC x p),.int .i64 (i:Int),.agg (cC c ga gc wa wc)] w (rdP x p (doW x i c) w):=by
 rw [Kw hm (by omega)]
 have HM:=hid hm
 have ha:=fun (W:World) (hb:Below w.heap.size w W)=>Hd4 x p i c W hx (h.below hb (Nat.le_refl _)) hi hm hk
 have t1:(c.kind==1)=true:=by rw [hk];rfl
 obtain ⟨⟨y,r,er⟩,hA⟩:∃A,actW x i c=A:=⟨_,rfl⟩
 rw [hA]
 obtain ⟨R,hR⟩:∃R,Sd x c (y,r,er)=R:=⟨_,rfl⟩
 rw [hR]
 have HR:=hid hR
 simp only [hA] at ha
 have HA:=hid ha
 have HG:=hid hg
 have HW:=hid hw
 have HWA:=hid h
 have C0:=hid (Qua.start 29 31 29 39 w (wC x p) (cC c ga gc wa wc) zC #[.int .i64 0,.int .i64 0,.int .i64 0,.slice none 0 0,.slice none 0 0,.int .i64 0])
 clear ha hA hm hx h hi hg hw hk hR
 have hWC:=@wC.eq_1
 have hZC:=@zC.eq_1
 have hCC:=@cC.eq_1
 go_enter func9,ntmps9
 go_wp2_with fail
 generalize (((w.alloc (.cells (wC x p) 29)).alloc (.cells (cC c ga gc wa wc) 31)).alloc (.cells zC 29)).alloc (.cells #[.int .i64 0,.int .i64 0,.int .i64 0,.slice none 0 0,.slice none 0 0,.int .i64 0] 39)=V0 at *
 refine (Bw c ga wa gc wc V0 (HG.out.below C0.out.b (Nat.le_refl _)) (HW.out.below C0.out.b (Nat.le_refl _))).mono ?_
 rintro e w1 ⟨rfl,b1⟩
 rw [HM.out]
 have C1:=hid (C0.out.call b1)
 have hca:=C1.out.a.cell
 have hla:=C1.out.a.lt
 have hcm:=C1.out.m.cell
 have hlm:=C1.out.m.lt
 clear C0 b1
 obtain ⟨m,hm⟩:∃m,w1.heap.size=m:=⟨_,rfl⟩
 have HSZ:=hid (show w.heap.size+4≤m by rw [←hm];exact C1.out.size)
 have HM1:=hid (show m<(w1.alloc (.cells (wC x p) 29)).heap.size by rw [←hm];simp)
 have BW1:=hid (Blk.newn w1 29 (wC x p) hm)
 have CZ:=hid (C1.out.call (b_a (.cells (wC x p) 29)))
 go_upto_region 4 with fail
 clear hca hla hcm hlm
 generalize w1.alloc (.cells (wC x p) 29)=V1 at *
 clear hm C1
 have hca:=CZ.out.a.cell
 have hla:=CZ.out.a.lt
 have hcm:=CZ.out.m.cell
 have hlm:=CZ.out.m.lt
 go_wp2_with fail
 clear hca hla hcm hlm t1
 refine (HA.out V1 CZ.out.b).mono ?_
 rintro e u ⟨q,rfl,wn,b2⟩
 have CU:=hid (CZ.out.call b2)
 have BU:=hid (BW1.out.call b2)
 have WN:=hid wn
 clear wn b2 CZ BW1 HA
 have n0:m≠w.heap.size:=by have:=HSZ.out;omega
 have n0b:w.heap.size≠m:=by have:=HSZ.out;omega
 have n1:m≠w.heap.size+1:=by have:=HSZ.out;omega
 have n1b:w.heap.size+1≠m:=by have:=HSZ.out;omega
 have n2:m≠w.heap.size+1+1:=by have:=HSZ.out;omega
 have n2b:w.heap.size+1+1≠m:=by have:=HSZ.out;omega
 have n3:m≠w.heap.size+1+1+1:=by have:=HSZ.out;omega
 have n3b:w.heap.size+1+1+1≠m:=by have:=HSZ.out;omega
 have hcb:=BU.out.cell
 have hlb:=BU.out.lt
 have hzb:=BU.out.frozen
 have hca:=CU.out.a.cell
 have hla:=CU.out.a.lt
 have hcm:=CU.out.m.cell
 have hlm:=CU.out.m.lt
 obtain ⟨hcn,hzn,hln⟩:=CU.out.n.all
 obtain ⟨hcr,hzr,hlr⟩:=CU.out.r.all
 by_cases h0:er=0
 ·subst h0
  obtain rfl:R=(y,okR c.kind r):=by rw [←HR.out];rfl
  clear HR
  go_wp2_with fail
  refine Cc6 (fun V=>Qua 29 31 29 39 w V (wC x p) (cC c ga gc wa wc) zC #[.int .i64 0,.int .i64 0,.int .i64 0,.slice none 0 0,.slice none 0 0,.int .i64 0]∧Blk V m 29 (wC x q)∧Du V1.heap.size V p q x (y,r,0)) ⟨by (iterate 11 refine Qua.setq ?_ HSZ.out _ _);exact CU.out,Fq BU.out,by (iterate 11 refine Du.set ?_ HM1.out _ _);exact WN.out⟩ (fun V2 hV=>?_)
  have CV:=hid hV.1
  have BV:=hid hV.2.1
  have WV:=hid hV.2.2
  clear hV hca hla hcm hlm hcn hln hzn hcr hlr hzr hcb hlb hzb CU BU WN
  have O2:=hid (show Two2 (w.heap.size+1) m (cC c ga gc wa wc) (wC x q) V2 from ⟨CV.out.m.cell,BV.out.cell⟩)
  have k1:w.heap.size+1≠w.heap.size+1+1:=by omega
  have k3:w.heap.size+1≠w.heap.size+1+1+1:=by omega
  obtain ⟨hcn,hzn,hln⟩:=CV.out.n.all
  obtain ⟨hcr,hzr,hlr⟩:=CV.out.r.all
  refine tkS (S:=(fun w'=>(∀ii,w'.cell? ⟨w.heap.size+1,ii,none⟩=((cC c ga gc wa wc)[ii]?:Option Value))∧(∀ii,w'.cell? ⟨m,ii,none⟩=((wC x q)[ii]?:Option Value)))) (by (first|(with_reducible exact Fe O2.out.drew))) (fun hHeld=>?_)
  refine tkl [0,1,2,3,4] ?_
  iterate 5
   refine tW ?_
   try go_frame
  refine rdy1 5 (fun K hK=>?_)
  go_simp
  try go_wp2_with fail
  refine hK.out _ _ (by (first|((with_reducible refine Fe ?_);(with_reducible refine Two2.drew ?_);(iterate 11 with_reducible refine Two2.set k1 n2 ?_ _ _);with_reducible exact O2.out))) (fun hHeld=>?_)
  clear hK K
  try go_frame
  refine rdy1 6 (fun K hK=>?_)
  go_simp
  try go_wp2_with fail
  refine hK.out _ _ (by (first|((with_reducible refine Fe ?_);(with_reducible refine Two2.drew ?_);(iterate 6 with_reducible refine Two2.set k3 n3 ?_ _ _);(iterate 11 with_reducible refine Two2.set k1 n2 ?_ _ _);with_reducible exact O2.out))) (fun hHeld=>?_)
  clear hK K
  try go_frame
  refine tkD ?_
  go_wp2_with fail
  have hB:Below w.heap.size w V2:=CV.out.b
  refine bodyPost_ret (v:=.tuple #[.agg (wC x q),.agg #[.int .i64 0,.int .i64 c.kind,.int .i64 r,.slice none 0 0,.slice none 0 0,.int .i64 0]]) (by simp [results,results9,go_sem,hcn,hcr]) rfl ⟨q,none,none,0,0,rfl,?_,Je _ _ rfl rfl,?_⟩
  ·refine Du.world (R:=(y,r,0)) (w:=w) (p:=p) (x:=x) ?_ HWA.out ?_
   ·refine Du.less (n:=V1.heap.size) ?_ (by have:=HSZ.out;have:=HM1.out;omega)
    refine Tc ?_
    iterate 6 refine Du.set (b:=w.heap.size+3) ?_ (by have:=HSZ.out;have:=HM1.out;omega) _ _
    iterate 11 refine Du.set (b:=w.heap.size+2) ?_ (by have:=HSZ.out;have:=HM1.out;omega) _ _
    exact WV.out
   ·refine Af ?_
    iterate 6 refine Below.setCell ?_ (by show w.heap.size≤w.heap.size+3;omega) _
    iterate 11 refine bs_2 ?_
    exact hB
  ·refine Af ?_
   iterate 6 refine Below.setCell ?_ (by show w.heap.size≤w.heap.size+3;omega) _
   iterate 11 refine bs_2 ?_
   exact hB
 ·obtain rfl:R=(x,errR er):=by rw [←HR.out];exact if_neg h0
  have hne:(er != 0)=true:=by simpa using h0
  clear HR h0
  go_wp2_with fail
  have hB:=CU.out.b
  refine bodyPost_ret (v:=.tuple #[.agg (wC x p),.agg #[.int .i64 er,.int .i64 0,.int .i64 0,.slice none 0 0,.slice none 0 0,.int .i64 0]]) (by simp [results,results9,go_sem,hcn,hcr]) rfl ⟨p,none,none,0,0,rfl,?_,Je _ _ rfl rfl,?_⟩
  ·refine HWA.out.below (B:=w.heap.size) ?_ (Nat.le_refl _)
   iterate 6 refine Below.setCell ?_ (by show w.heap.size≤w.heap.size+3;omega) _
   iterate 11 refine bs_2 ?_
   iterate 11 refine Below.setCell ?_ (by show w.heap.size≤m;have:=HSZ.out;omega) _
   exact hB
  ·iterate 6 refine Below.setCell ?_ (by show w.heap.size≤w.heap.size+3;omega) _
   iterate 11 refine bs_2 ?_
   iterate 11 refine Below.setCell ?_ (by show w.heap.size≤m;have:=HSZ.out;omega) _
   exact hB
include hx h hi hm in
theorem Gq2 (hg:Ae w ga c.gives) (hw:Ae w wa c.wants) (hk:c.kind=2):Calls prog 9 #[.agg (wC x p),.int .i64 (i:Int),.agg (cC c ga gc wa wc)] w (rdP x p (doW x i c) w):=by
 rw [Kw hm (by omega)]
 have HM:=hid hm
 have ha:=fun (W:World) (hb:Below w.heap.size w W)=>Hd3 x p i c W hx (h.below hb (Nat.le_refl _)) hi hm hk
 have t1:(c.kind==1)=false:=by rw [hk];rfl
 have t2:(c.kind==2)=true:=by rw [hk];rfl
 obtain ⟨⟨y,r,er⟩,hA⟩:∃A,actW x i c=A:=⟨_,rfl⟩
 rw [hA]
 obtain ⟨R,hR⟩:∃R,Sd x c (y,r,er)=R:=⟨_,rfl⟩
 rw [hR]
 have HR:=hid hR
 simp only [hA] at ha
 have HA:=hid ha
 have HG:=hid hg
 have HW:=hid hw
 have HWA:=hid h
 have C0:=hid (Qua.start 29 31 29 39 w (wC x p) (cC c ga gc wa wc) zC #[.int .i64 0,.int .i64 0,.int .i64 0,.slice none 0 0,.slice none 0 0,.int .i64 0])
 clear ha hA hm hx h hi hg hw hk hR
 have hWC:=@wC.eq_1
 have hZC:=@zC.eq_1
 have hCC:=@cC.eq_1
 go_enter func9,ntmps9
 go_wp2_with fail
 generalize (((w.alloc (.cells (wC x p) 29)).alloc (.cells (cC c ga gc wa wc) 31)).alloc (.cells zC 29)).alloc (.cells #[.int .i64 0,.int .i64 0,.int .i64 0,.slice none 0 0,.slice none 0 0,.int .i64 0] 39)=V0 at *
 refine (Bw c ga wa gc wc V0 (HG.out.below C0.out.b (Nat.le_refl _)) (HW.out.below C0.out.b (Nat.le_refl _))).mono ?_
 rintro e w1 ⟨rfl,b1⟩
 rw [HM.out]
 have C1:=hid (C0.out.call b1)
 have hca:=C1.out.a.cell
 have hla:=C1.out.a.lt
 have hcm:=C1.out.m.cell
 have hlm:=C1.out.m.lt
 clear C0 b1
 obtain ⟨m,hm⟩:∃m,w1.heap.size=m:=⟨_,rfl⟩
 have HSZ:=hid (show w.heap.size+4≤m by rw [←hm];exact C1.out.size)
 have HM1:=hid (show m<(w1.alloc (.cells (wC x p) 29)).heap.size by rw [←hm];simp)
 have BW1:=hid (Blk.newn w1 29 (wC x p) hm)
 have CZ:=hid (C1.out.call (b_a (.cells (wC x p) 29)))
 go_upto_region 4 with fail
 clear hca hla hcm hlm
 generalize w1.alloc (.cells (wC x p) 29)=V1 at *
 clear hm C1
 have hca:=CZ.out.a.cell
 have hla:=CZ.out.a.lt
 have hcm:=CZ.out.m.cell
 have hlm:=CZ.out.m.lt
 go_wp2_with fail
 clear hca hla hcm hlm t1 t2
 refine (HA.out V1 CZ.out.b).mono ?_
 rintro e u ⟨q,rfl,wn,b2⟩
 have CU:=hid (CZ.out.call b2)
 have BU:=hid (BW1.out.call b2)
 have WN:=hid wn
 clear wn b2 CZ BW1 HA
 have n0:m≠w.heap.size:=by have:=HSZ.out;omega
 have n0b:w.heap.size≠m:=by have:=HSZ.out;omega
 have n1:m≠w.heap.size+1:=by have:=HSZ.out;omega
 have n1b:w.heap.size+1≠m:=by have:=HSZ.out;omega
 have n2:m≠w.heap.size+1+1:=by have:=HSZ.out;omega
 have n2b:w.heap.size+1+1≠m:=by have:=HSZ.out;omega
 have n3:m≠w.heap.size+1+1+1:=by have:=HSZ.out;omega
 have n3b:w.heap.size+1+1+1≠m:=by have:=HSZ.out;omega
 have hcb:=BU.out.cell
 have hlb:=BU.out.lt
 have hzb:=BU.out.frozen
 have hca:=CU.out.a.cell
 have hla:=CU.out.a.lt
 have hcm:=CU.out.m.cell
 have hlm:=CU.out.m.lt
 obtain ⟨hcn,hzn,hln⟩:=CU.out.n.all
 obtain ⟨hcr,hzr,hlr⟩:=CU.out.r.all
 by_cases h0:er=0
 ·subst h0
  obtain rfl:R=(y,okR c.kind r):=by rw [←HR.out];rfl
  clear HR
  go_wp2_with fail
  refine Cc6 (fun V=>Qua 29 31 29 39 w V (wC x p) (cC c ga gc wa wc) zC #[.int .i64 0,.int .i64 0,.int .i64 0,.slice none 0 0,.slice none 0 0,.int .i64 0]∧Blk V m 29 (wC x q)∧Du V1.heap.size V p q x (y,r,0)) ⟨by (iterate 11 refine Qua.setq ?_ HSZ.out _ _);exact CU.out,Fq BU.out,by (iterate 11 refine Du.set ?_ HM1.out _ _);exact WN.out⟩ (fun V2 hV=>?_)
  have CV:=hid hV.1
  have BV:=hid hV.2.1
  have WV:=hid hV.2.2
  clear hV hca hla hcm hlm hcn hln hzn hcr hlr hzr hcb hlb hzb CU BU WN
  have O2:=hid (show Two2 (w.heap.size+1) m (cC c ga gc wa wc) (wC x q) V2 from ⟨CV.out.m.cell,BV.out.cell⟩)
  have k1:w.heap.size+1≠w.heap.size+1+1:=by omega
  have k3:w.heap.size+1≠w.heap.size+1+1+1:=by omega
  obtain ⟨hcn,hzn,hln⟩:=CV.out.n.all
  obtain ⟨hcr,hzr,hlr⟩:=CV.out.r.all
  refine tkS (S:=(fun w'=>(∀ii,w'.cell? ⟨w.heap.size+1,ii,none⟩=((cC c ga gc wa wc)[ii]?:Option Value))∧(∀ii,w'.cell? ⟨m,ii,none⟩=((wC x q)[ii]?:Option Value)))) (by (first|(with_reducible exact Fe O2.out.drew))) (fun hHeld=>?_)
  refine tkl [0,1,2,3,4] ?_
  iterate 5
   refine tW ?_
   try go_frame
  refine rdy1 5 (fun K hK=>?_)
  go_simp
  try go_wp2_with fail
  refine hK.out _ _ (by (first|((with_reducible refine Fe ?_);(with_reducible refine Two2.drew ?_);(iterate 11 with_reducible refine Two2.set k1 n2 ?_ _ _);with_reducible exact O2.out))) (fun hHeld=>?_)
  clear hK K
  try go_frame
  refine rdy1 6 (fun K hK=>?_)
  go_simp
  try go_wp2_with fail
  refine hK.out _ _ (by (first|((with_reducible refine Fe ?_);(with_reducible refine Two2.drew ?_);(iterate 6 with_reducible refine Two2.set k3 n3 ?_ _ _);(iterate 11 with_reducible refine Two2.set k1 n2 ?_ _ _);with_reducible exact O2.out))) (fun hHeld=>?_)
  clear hK K
  try go_frame
  refine tkD ?_
  go_wp2_with fail
  have hB:Below w.heap.size w V2:=CV.out.b
  refine bodyPost_ret (v:=.tuple #[.agg (wC x q),.agg #[.int .i64 0,.int .i64 c.kind,.int .i64 r,.slice none 0 0,.slice none 0 0,.int .i64 0]]) (by simp [results,results9,go_sem,hcn,hcr]) rfl ⟨q,none,none,0,0,rfl,?_,Je _ _ rfl rfl,?_⟩
  ·refine Du.world (R:=(y,r,0)) (w:=w) (p:=p) (x:=x) ?_ HWA.out ?_
   ·refine Du.less (n:=V1.heap.size) ?_ (by have:=HSZ.out;have:=HM1.out;omega)
    refine Tc ?_
    iterate 6 refine Du.set (b:=w.heap.size+3) ?_ (by have:=HSZ.out;have:=HM1.out;omega) _ _
    iterate 11 refine Du.set (b:=w.heap.size+2) ?_ (by have:=HSZ.out;have:=HM1.out;omega) _ _
    exact WV.out
   ·refine Af ?_
    iterate 6 refine Below.setCell ?_ (by show w.heap.size≤w.heap.size+3;omega) _
    iterate 11 refine bs_2 ?_
    exact hB
  ·refine Af ?_
   iterate 6 refine Below.setCell ?_ (by show w.heap.size≤w.heap.size+3;omega) _
   iterate 11 refine bs_2 ?_
   exact hB
 ·obtain rfl:R=(x,errR er):=by rw [←HR.out];exact if_neg h0
  have hne:(er != 0)=true:=by simpa using h0
  clear HR h0
  go_wp2_with fail
  have hB:=CU.out.b
  refine bodyPost_ret (v:=.tuple #[.agg (wC x p),.agg #[.int .i64 er,.int .i64 0,.int .i64 0,.slice none 0 0,.slice none 0 0,.int .i64 0]]) (by simp [results,results9,go_sem,hcn,hcr]) rfl ⟨p,none,none,0,0,rfl,?_,Je _ _ rfl rfl,?_⟩
  ·refine HWA.out.below (B:=w.heap.size) ?_ (Nat.le_refl _)
   iterate 6 refine Below.setCell ?_ (by show w.heap.size≤w.heap.size+3;omega) _
   iterate 11 refine bs_2 ?_
   iterate 11 refine Below.setCell ?_ (by show w.heap.size≤m;have:=HSZ.out;omega) _
   exact hB
  ·iterate 6 refine Below.setCell ?_ (by show w.heap.size≤w.heap.size+3;omega) _
   iterate 11 refine bs_2 ?_
   iterate 11 refine Below.setCell ?_ (by show w.heap.size≤m;have:=HSZ.out;omega) _
   exact hB
include hx h hi hm in
theorem Gq1 (hg:Ae w ga c.gives) (hw:Ae w wa c.wants) (hk:c.kind=3):Calls prog 9 #[.agg (wC x p),.int .i64 (i:Int),.agg (cC c ga gc wa wc)] w (rdP x p (doW x i c) w):=by
 rw [Kw hm (by omega)]
 have HM:=hid hm
 have ha:=fun (W:World) (hb:Below w.heap.size w W)=>Hd2 x p i c W hx (h.below hb (Nat.le_refl _)) hi hm hk
 have hz0:=Jw x i c (by omega)
 have t1:(c.kind==1)=false:=by rw [hk];rfl
 have t2:(c.kind==2)=false:=by rw [hk];rfl
 have t3:(c.kind==3)=true:=by rw [hk];rfl
 obtain ⟨⟨y,r,er⟩,hA⟩:∃A,actW x i c=A:=⟨_,rfl⟩
 rw [hA] at hz0 ⊢
 simp only at hz0
 subst hz0
 obtain ⟨R,hR⟩:∃R,Sd x c (y,0,er)=R:=⟨_,rfl⟩
 rw [hR]
 have HR:=hid hR
 simp only [hA] at ha
 have HA:=hid ha
 have HG:=hid hg
 have HW:=hid hw
 have HWA:=hid h
 have C0:=hid (Qua.start 29 31 29 39 w (wC x p) (cC c ga gc wa wc) zC #[.int .i64 0,.int .i64 0,.int .i64 0,.slice none 0 0,.slice none 0 0,.int .i64 0])
 clear ha hA hm hx h hi hg hw hk hR
 have hWC:=@wC.eq_1
 have hZC:=@zC.eq_1
 have hCC:=@cC.eq_1
 go_enter func9,ntmps9
 go_wp2_with fail
 generalize (((w.alloc (.cells (wC x p) 29)).alloc (.cells (cC c ga gc wa wc) 31)).alloc (.cells zC 29)).alloc (.cells #[.int .i64 0,.int .i64 0,.int .i64 0,.slice none 0 0,.slice none 0 0,.int .i64 0] 39)=V0 at *
 refine (Bw c ga wa gc wc V0 (HG.out.below C0.out.b (Nat.le_refl _)) (HW.out.below C0.out.b (Nat.le_refl _))).mono ?_
 rintro e w1 ⟨rfl,b1⟩
 rw [HM.out]
 have C1:=hid (C0.out.call b1)
 have hca:=C1.out.a.cell
 have hla:=C1.out.a.lt
 have hcm:=C1.out.m.cell
 have hlm:=C1.out.m.lt
 clear C0 b1
 obtain ⟨m,hm⟩:∃m,w1.heap.size=m:=⟨_,rfl⟩
 have HSZ:=hid (show w.heap.size+4≤m by rw [←hm];exact C1.out.size)
 have HM1:=hid (show m<(w1.alloc (.cells (wC x p) 29)).heap.size by rw [←hm];simp)
 have BW1:=hid (Blk.newn w1 29 (wC x p) hm)
 have CZ:=hid (C1.out.call (b_a (.cells (wC x p) 29)))
 go_upto_region 4 with fail
 clear hca hla hcm hlm
 generalize w1.alloc (.cells (wC x p) 29)=V1 at *
 clear hm C1
 have hca:=CZ.out.a.cell
 have hla:=CZ.out.a.lt
 have hcm:=CZ.out.m.cell
 have hlm:=CZ.out.m.lt
 go_wp2_with fail
 clear hca hla hcm hlm t1 t2 t3
 refine (HA.out V1 CZ.out.b).mono ?_
 rintro e u ⟨q,rfl,wn,b2⟩
 have CU:=hid (CZ.out.call b2)
 have BU:=hid (BW1.out.call b2)
 have WN:=hid wn
 clear wn b2 CZ BW1 HA
 have n0:m≠w.heap.size:=by have:=HSZ.out;omega
 have n0b:w.heap.size≠m:=by have:=HSZ.out;omega
 have n1:m≠w.heap.size+1:=by have:=HSZ.out;omega
 have n1b:w.heap.size+1≠m:=by have:=HSZ.out;omega
 have n2:m≠w.heap.size+1+1:=by have:=HSZ.out;omega
 have n2b:w.heap.size+1+1≠m:=by have:=HSZ.out;omega
 have n3:m≠w.heap.size+1+1+1:=by have:=HSZ.out;omega
 have n3b:w.heap.size+1+1+1≠m:=by have:=HSZ.out;omega
 have hcb:=BU.out.cell
 have hlb:=BU.out.lt
 have hzb:=BU.out.frozen
 have hca:=CU.out.a.cell
 have hla:=CU.out.a.lt
 have hcm:=CU.out.m.cell
 have hlm:=CU.out.m.lt
 obtain ⟨hcn,hzn,hln⟩:=CU.out.n.all
 obtain ⟨hcr,hzr,hlr⟩:=CU.out.r.all
 by_cases h0:er=0
 ·subst h0
  obtain rfl:R=(y,okR c.kind 0):=by rw [←HR.out];rfl
  clear HR
  go_wp2_with fail
  refine Cc6 (fun V=>Qua 29 31 29 39 w V (wC x p) (cC c ga gc wa wc) zC #[.int .i64 0,.int .i64 0,.int .i64 0,.slice none 0 0,.slice none 0 0,.int .i64 0]∧Blk V m 29 (wC x q)∧Du V1.heap.size V p q x (y,0,0)) ⟨by (iterate 11 refine Qua.setq ?_ HSZ.out _ _);exact CU.out,Fq BU.out,by (iterate 11 refine Du.set ?_ HM1.out _ _);exact WN.out⟩ (fun V2 hV=>?_)
  have CV:=hid hV.1
  have BV:=hid hV.2.1
  have WV:=hid hV.2.2
  clear hV hca hla hcm hlm hcn hln hzn hcr hlr hzr hcb hlb hzb CU BU WN
  have O2:=hid (show Two2 (w.heap.size+1) m (cC c ga gc wa wc) (wC x q) V2 from ⟨CV.out.m.cell,BV.out.cell⟩)
  have k1:w.heap.size+1≠w.heap.size+1+1:=by omega
  have k3:w.heap.size+1≠w.heap.size+1+1+1:=by omega
  obtain ⟨hcn,hzn,hln⟩:=CV.out.n.all
  obtain ⟨hcr,hzr,hlr⟩:=CV.out.r.all
  refine tkS (S:=(fun w'=>(∀ii,w'.cell? ⟨w.heap.size+1,ii,none⟩=((cC c ga gc wa wc)[ii]?:Option Value))∧(∀ii,w'.cell? ⟨m,ii,none⟩=((wC x q)[ii]?:Option Value)))) (by (first|(with_reducible exact Fe O2.out.drew))) (fun hHeld=>?_)
  refine tkl [0,1,2,3,4] ?_
  iterate 5
   refine tW ?_
   try go_frame
  refine rdy1 5 (fun K hK=>?_)
  go_simp
  try go_wp2_with fail
  refine hK.out _ _ (by (first|((with_reducible refine Fe ?_);(with_reducible refine Two2.drew ?_);(iterate 11 with_reducible refine Two2.set k1 n2 ?_ _ _);with_reducible exact O2.out))) (fun hHeld=>?_)
  clear hK K
  try go_frame
  refine rdy1 6 (fun K hK=>?_)
  go_simp
  try go_wp2_with fail
  refine hK.out _ _ (by (first|((with_reducible refine Fe ?_);(with_reducible refine Two2.drew ?_);(iterate 6 with_reducible refine Two2.set k3 n3 ?_ _ _);(iterate 11 with_reducible refine Two2.set k1 n2 ?_ _ _);with_reducible exact O2.out))) (fun hHeld=>?_)
  clear hK K
  try go_frame
  refine tkD ?_
  go_wp2_with fail
  have hB:Below w.heap.size w V2:=CV.out.b
  refine bodyPost_ret (v:=.tuple #[.agg (wC x q),.agg #[.int .i64 0,.int .i64 c.kind,.int .i64 0,.slice none 0 0,.slice none 0 0,.int .i64 0]]) (by simp [results,results9,go_sem,hcn,hcr]) rfl ⟨q,none,none,0,0,rfl,?_,Je _ _ rfl rfl,?_⟩
  ·refine Du.world (R:=(y,0,0)) (w:=w) (p:=p) (x:=x) ?_ HWA.out ?_
   ·refine Du.less (n:=V1.heap.size) ?_ (by have:=HSZ.out;have:=HM1.out;omega)
    refine Tc ?_
    iterate 6 refine Du.set (b:=w.heap.size+3) ?_ (by have:=HSZ.out;have:=HM1.out;omega) _ _
    iterate 11 refine Du.set (b:=w.heap.size+2) ?_ (by have:=HSZ.out;have:=HM1.out;omega) _ _
    exact WV.out
   ·refine Af ?_
    iterate 6 refine Below.setCell ?_ (by show w.heap.size≤w.heap.size+3;omega) _
    iterate 11 refine bs_2 ?_
    exact hB
  ·refine Af ?_
   iterate 6 refine Below.setCell ?_ (by show w.heap.size≤w.heap.size+3;omega) _
   iterate 11 refine bs_2 ?_
   exact hB
 ·obtain rfl:R=(x,errR er):=by rw [←HR.out];exact if_neg h0
  have hne:(er != 0)=true:=by simpa using h0
  clear HR h0
  go_wp2_with fail
  have hB:=CU.out.b
  refine bodyPost_ret (v:=.tuple #[.agg (wC x p),.agg #[.int .i64 er,.int .i64 0,.int .i64 0,.slice none 0 0,.slice none 0 0,.int .i64 0]]) (by simp [results,results9,go_sem,hcn,hcr]) rfl ⟨p,none,none,0,0,rfl,?_,Je _ _ rfl rfl,?_⟩
  ·refine HWA.out.below (B:=w.heap.size) ?_ (Nat.le_refl _)
   iterate 6 refine Below.setCell ?_ (by show w.heap.size≤w.heap.size+3;omega) _
   iterate 11 refine bs_2 ?_
   iterate 11 refine Below.setCell ?_ (by show w.heap.size≤m;have:=HSZ.out;omega) _
   exact hB
  ·iterate 6 refine Below.setCell ?_ (by show w.heap.size≤w.heap.size+3;omega) _
   iterate 11 refine bs_2 ?_
   iterate 11 refine Below.setCell ?_ (by show w.heap.size≤m;have:=HSZ.out;omega) _
   exact hB
include hx h hi hm in
theorem Gq0 (hg:Ae w ga c.gives) (hw:Ae w wa c.wants) (hk:c.kind=4):Calls prog 9 #[.agg (wC x p),.int .i64 (i:Int),.agg (cC c ga gc wa wc)] w (rdP x p (doW x i c) w):=by
 rw [Kw hm (by omega)]
 have HM:=hid hm
 have ha:=fun (W:World) (hb:Below w.heap.size w W)=>Hd1 x p i c W hx (h.below hb (Nat.le_refl _)) hi hm hk
 have hz0:=Jw x i c (by omega)
 have t1:(c.kind==1)=false:=by rw [hk];rfl
 have t2:(c.kind==2)=false:=by rw [hk];rfl
 have t3:(c.kind==3)=false:=by rw [hk];rfl
 have t4:(c.kind==4)=true:=by rw [hk];rfl
 obtain ⟨⟨y,r,er⟩,hA⟩:∃A,actW x i c=A:=⟨_,rfl⟩
 rw [hA] at hz0 ⊢
 simp only at hz0
 subst hz0
 obtain ⟨R,hR⟩:∃R,Sd x c (y,0,er)=R:=⟨_,rfl⟩
 rw [hR]
 have HR:=hid hR
 simp only [hA] at ha
 have HA:=hid ha
 have HG:=hid hg
 have HW:=hid hw
 have HWA:=hid h
 have C0:=hid (Qua.start 29 31 29 39 w (wC x p) (cC c ga gc wa wc) zC #[.int .i64 0,.int .i64 0,.int .i64 0,.slice none 0 0,.slice none 0 0,.int .i64 0])
 clear ha hA hm hx h hi hg hw hk hR
 have hWC:=@wC.eq_1
 have hZC:=@zC.eq_1
 have hCC:=@cC.eq_1
 go_enter func9,ntmps9
 go_wp2_with fail
 generalize (((w.alloc (.cells (wC x p) 29)).alloc (.cells (cC c ga gc wa wc) 31)).alloc (.cells zC 29)).alloc (.cells #[.int .i64 0,.int .i64 0,.int .i64 0,.slice none 0 0,.slice none 0 0,.int .i64 0] 39)=V0 at *
 refine (Bw c ga wa gc wc V0 (HG.out.below C0.out.b (Nat.le_refl _)) (HW.out.below C0.out.b (Nat.le_refl _))).mono ?_
 rintro e w1 ⟨rfl,b1⟩
 rw [HM.out]
 have C1:=hid (C0.out.call b1)
 have hca:=C1.out.a.cell
 have hla:=C1.out.a.lt
 have hcm:=C1.out.m.cell
 have hlm:=C1.out.m.lt
 clear C0 b1
 obtain ⟨m,hm⟩:∃m,w1.heap.size=m:=⟨_,rfl⟩
 have HSZ:=hid (show w.heap.size+4≤m by rw [←hm];exact C1.out.size)
 have HM1:=hid (show m<(w1.alloc (.cells (wC x p) 29)).heap.size by rw [←hm];simp)
 have BW1:=hid (Blk.newn w1 29 (wC x p) hm)
 have CZ:=hid (C1.out.call (b_a (.cells (wC x p) 29)))
 go_upto_region 4 with fail
 clear hca hla hcm hlm
 generalize w1.alloc (.cells (wC x p) 29)=V1 at *
 clear hm C1
 have hca:=CZ.out.a.cell
 have hla:=CZ.out.a.lt
 have hcm:=CZ.out.m.cell
 have hlm:=CZ.out.m.lt
 go_wp2_with fail
 clear hca hla hcm hlm t1 t2 t3 t4
 refine (HA.out V1 CZ.out.b).mono ?_
 rintro e u ⟨q,rfl,wn,b2⟩
 have CU:=hid (CZ.out.call b2)
 have BU:=hid (BW1.out.call b2)
 have WN:=hid wn
 clear wn b2 CZ BW1 HA
 have n0:m≠w.heap.size:=by have:=HSZ.out;omega
 have n0b:w.heap.size≠m:=by have:=HSZ.out;omega
 have n1:m≠w.heap.size+1:=by have:=HSZ.out;omega
 have n1b:w.heap.size+1≠m:=by have:=HSZ.out;omega
 have n2:m≠w.heap.size+1+1:=by have:=HSZ.out;omega
 have n2b:w.heap.size+1+1≠m:=by have:=HSZ.out;omega
 have n3:m≠w.heap.size+1+1+1:=by have:=HSZ.out;omega
 have n3b:w.heap.size+1+1+1≠m:=by have:=HSZ.out;omega
 have hcb:=BU.out.cell
 have hlb:=BU.out.lt
 have hzb:=BU.out.frozen
 have hca:=CU.out.a.cell
 have hla:=CU.out.a.lt
 have hcm:=CU.out.m.cell
 have hlm:=CU.out.m.lt
 obtain ⟨hcn,hzn,hln⟩:=CU.out.n.all
 obtain ⟨hcr,hzr,hlr⟩:=CU.out.r.all
 by_cases h0:er=0
 ·subst h0
  obtain rfl:R=(y,okR c.kind 0):=by rw [←HR.out];rfl
  clear HR
  go_wp2_with fail
  refine Cc6 (fun V=>Qua 29 31 29 39 w V (wC x p) (cC c ga gc wa wc) zC #[.int .i64 0,.int .i64 0,.int .i64 0,.slice none 0 0,.slice none 0 0,.int .i64 0]∧Blk V m 29 (wC x q)∧Du V1.heap.size V p q x (y,0,0)) ⟨by (iterate 11 refine Qua.setq ?_ HSZ.out _ _);exact CU.out,Fq BU.out,by (iterate 11 refine Du.set ?_ HM1.out _ _);exact WN.out⟩ (fun V2 hV=>?_)
  have CV:=hid hV.1
  have BV:=hid hV.2.1
  have WV:=hid hV.2.2
  clear hV hca hla hcm hlm hcn hln hzn hcr hlr hzr hcb hlb hzb CU BU WN
  have O2:=hid (show Two2 (w.heap.size+1) m (cC c ga gc wa wc) (wC x q) V2 from ⟨CV.out.m.cell,BV.out.cell⟩)
  have k1:w.heap.size+1≠w.heap.size+1+1:=by omega
  have k3:w.heap.size+1≠w.heap.size+1+1+1:=by omega
  obtain ⟨hcn,hzn,hln⟩:=CV.out.n.all
  obtain ⟨hcr,hzr,hlr⟩:=CV.out.r.all
  refine tkS (S:=(fun w'=>(∀ii,w'.cell? ⟨w.heap.size+1,ii,none⟩=((cC c ga gc wa wc)[ii]?:Option Value))∧(∀ii,w'.cell? ⟨m,ii,none⟩=((wC x q)[ii]?:Option Value)))) (by (first|(with_reducible exact Fe O2.out.drew))) (fun hHeld=>?_)
  refine tkl [0,1,2,3,4] ?_
  iterate 5
   refine tW ?_
   try go_frame
  refine rdy1 5 (fun K hK=>?_)
  go_simp
  try go_wp2_with fail
  refine hK.out _ _ (by (first|((with_reducible refine Fe ?_);(with_reducible refine Two2.drew ?_);(iterate 11 with_reducible refine Two2.set k1 n2 ?_ _ _);with_reducible exact O2.out))) (fun hHeld=>?_)
  clear hK K
  try go_frame
  refine rdy1 6 (fun K hK=>?_)
  go_simp
  try go_wp2_with fail
  refine hK.out _ _ (by (first|((with_reducible refine Fe ?_);(with_reducible refine Two2.drew ?_);(iterate 6 with_reducible refine Two2.set k3 n3 ?_ _ _);(iterate 11 with_reducible refine Two2.set k1 n2 ?_ _ _);with_reducible exact O2.out))) (fun hHeld=>?_)
  clear hK K
  try go_frame
  refine tkD ?_
  go_wp2_with fail
  have hB:Below w.heap.size w V2:=CV.out.b
  refine bodyPost_ret (v:=.tuple #[.agg (wC x q),.agg #[.int .i64 0,.int .i64 c.kind,.int .i64 0,.slice none 0 0,.slice none 0 0,.int .i64 0]]) (by simp [results,results9,go_sem,hcn,hcr]) rfl ⟨q,none,none,0,0,rfl,?_,Je _ _ rfl rfl,?_⟩
  ·refine Du.world (R:=(y,0,0)) (w:=w) (p:=p) (x:=x) ?_ HWA.out ?_
   ·refine Du.less (n:=V1.heap.size) ?_ (by have:=HSZ.out;have:=HM1.out;omega)
    refine Tc ?_
    iterate 6 refine Du.set (b:=w.heap.size+3) ?_ (by have:=HSZ.out;have:=HM1.out;omega) _ _
    iterate 11 refine Du.set (b:=w.heap.size+2) ?_ (by have:=HSZ.out;have:=HM1.out;omega) _ _
    exact WV.out
   ·refine Af ?_
    iterate 6 refine Below.setCell ?_ (by show w.heap.size≤w.heap.size+3;omega) _
    iterate 11 refine bs_2 ?_
    exact hB
  ·refine Af ?_
   iterate 6 refine Below.setCell ?_ (by show w.heap.size≤w.heap.size+3;omega) _
   iterate 11 refine bs_2 ?_
   exact hB
 ·obtain rfl:R=(x,errR er):=by rw [←HR.out];exact if_neg h0
  have hne:(er != 0)=true:=by simpa using h0
  clear HR h0
  go_wp2_with fail
  have hB:=CU.out.b
  refine bodyPost_ret (v:=.tuple #[.agg (wC x p),.agg #[.int .i64 er,.int .i64 0,.int .i64 0,.slice none 0 0,.slice none 0 0,.int .i64 0]]) (by simp [results,results9,go_sem,hcn,hcr]) rfl ⟨p,none,none,0,0,rfl,?_,Je _ _ rfl rfl,?_⟩
  ·refine HWA.out.below (B:=w.heap.size) ?_ (Nat.le_refl _)
   iterate 6 refine Below.setCell ?_ (by show w.heap.size≤w.heap.size+3;omega) _
   iterate 11 refine bs_2 ?_
   iterate 11 refine Below.setCell ?_ (by show w.heap.size≤m;have:=HSZ.out;omega) _
   exact hB
  ·iterate 6 refine Below.setCell ?_ (by show w.heap.size≤w.heap.size+3;omega) _
   iterate 11 refine bs_2 ?_
   iterate 11 refine Below.setCell ?_ (by show w.heap.size≤m;have:=HSZ.out;omega) _
   exact hB
include hx h hi hm in
theorem Gp9 (hg:Ae w ga c.gives) (hw:Ae w wa c.wants) (hk:c.kind=5):Calls prog 9 #[.agg (wC x p),.int .i64 (i:Int),.agg (cC c ga gc wa wc)] w (rdP x p (doW x i c) w):=by
 rw [Kw hm (by omega)]
 have HM:=hid hm
 have ha:=fun (W:World) (hb:Below w.heap.size w W)=>Hd0 x p i c W hx (h.below hb (Nat.le_refl _)) hi hm hk
 have hz0:=Jw x i c (by omega)
 have t1:(c.kind==1)=false:=by rw [hk];rfl
 have t2:(c.kind==2)=false:=by rw [hk];rfl
 have t3:(c.kind==3)=false:=by rw [hk];rfl
 have t4:(c.kind==4)=false:=by rw [hk];rfl
 have t5:(c.kind==5)=true:=by rw [hk];rfl
 obtain ⟨⟨y,r,er⟩,hA⟩:∃A,actW x i c=A:=⟨_,rfl⟩
 rw [hA] at hz0 ⊢
 simp only at hz0
 subst hz0
 obtain ⟨R,hR⟩:∃R,Sd x c (y,0,er)=R:=⟨_,rfl⟩
 rw [hR]
 have HR:=hid hR
 simp only [hA] at ha
 have HA:=hid ha
 have HG:=hid hg
 have HW:=hid hw
 have HWA:=hid h
 have C0:=hid (Qua.start 29 31 29 39 w (wC x p) (cC c ga gc wa wc) zC #[.int .i64 0,.int .i64 0,.int .i64 0,.slice none 0 0,.slice none 0 0,.int .i64 0])
 clear ha hA hm hx h hi hg hw hk hR
 have hWC:=@wC.eq_1
 have hZC:=@zC.eq_1
 have hCC:=@cC.eq_1
 go_enter func9,ntmps9
 go_wp2_with fail
 generalize (((w.alloc (.cells (wC x p) 29)).alloc (.cells (cC c ga gc wa wc) 31)).alloc (.cells zC 29)).alloc (.cells #[.int .i64 0,.int .i64 0,.int .i64 0,.slice none 0 0,.slice none 0 0,.int .i64 0] 39)=V0 at *
 refine (Bw c ga wa gc wc V0 (HG.out.below C0.out.b (Nat.le_refl _)) (HW.out.below C0.out.b (Nat.le_refl _))).mono ?_
 rintro e w1 ⟨rfl,b1⟩
 rw [HM.out]
 have C1:=hid (C0.out.call b1)
 have hca:=C1.out.a.cell
 have hla:=C1.out.a.lt
 have hcm:=C1.out.m.cell
 have hlm:=C1.out.m.lt
 clear C0 b1
 obtain ⟨m,hm⟩:∃m,w1.heap.size=m:=⟨_,rfl⟩
 have HSZ:=hid (show w.heap.size+4≤m by rw [←hm];exact C1.out.size)
 have HM1:=hid (show m<(w1.alloc (.cells (wC x p) 29)).heap.size by rw [←hm];simp)
 have BW1:=hid (Blk.newn w1 29 (wC x p) hm)
 have CZ:=hid (C1.out.call (b_a (.cells (wC x p) 29)))
 go_upto_region 4 with fail
 clear hca hla hcm hlm
 generalize w1.alloc (.cells (wC x p) 29)=V1 at *
 clear hm C1
 have hca:=CZ.out.a.cell
 have hla:=CZ.out.a.lt
 have hcm:=CZ.out.m.cell
 have hlm:=CZ.out.m.lt
 go_wp2_with fail
 clear hca hla hcm hlm t1 t2 t3 t4 t5
 refine (HA.out V1 CZ.out.b).mono ?_
 rintro e u ⟨q,rfl,wn,b2⟩
 have CU:=hid (CZ.out.call b2)
 have BU:=hid (BW1.out.call b2)
 have WN:=hid wn
 clear wn b2 CZ BW1 HA
 have n0:m≠w.heap.size:=by have:=HSZ.out;omega
 have n0b:w.heap.size≠m:=by have:=HSZ.out;omega
 have n1:m≠w.heap.size+1:=by have:=HSZ.out;omega
 have n1b:w.heap.size+1≠m:=by have:=HSZ.out;omega
 have n2:m≠w.heap.size+1+1:=by have:=HSZ.out;omega
 have n2b:w.heap.size+1+1≠m:=by have:=HSZ.out;omega
 have n3:m≠w.heap.size+1+1+1:=by have:=HSZ.out;omega
 have n3b:w.heap.size+1+1+1≠m:=by have:=HSZ.out;omega
 have hcb:=BU.out.cell
 have hlb:=BU.out.lt
 have hzb:=BU.out.frozen
 have hca:=CU.out.a.cell
 have hla:=CU.out.a.lt
 have hcm:=CU.out.m.cell
 have hlm:=CU.out.m.lt
 obtain ⟨hcn,hzn,hln⟩:=CU.out.n.all
 obtain ⟨hcr,hzr,hlr⟩:=CU.out.r.all
 by_cases h0:er=0
 ·subst h0
  obtain rfl:R=(y,okR c.kind 0):=by rw [←HR.out];rfl
  clear HR
  go_wp2_with fail
  refine Cc6 (fun V=>Qua 29 31 29 39 w V (wC x p) (cC c ga gc wa wc) zC #[.int .i64 0,.int .i64 0,.int .i64 0,.slice none 0 0,.slice none 0 0,.int .i64 0]∧Blk V m 29 (wC x q)∧Du V1.heap.size V p q x (y,0,0)) ⟨by (iterate 11 refine Qua.setq ?_ HSZ.out _ _);exact CU.out,Fq BU.out,by (iterate 11 refine Du.set ?_ HM1.out _ _);exact WN.out⟩ (fun V2 hV=>?_)
  have CV:=hid hV.1
  have BV:=hid hV.2.1
  have WV:=hid hV.2.2
  clear hV hca hla hcm hlm hcn hln hzn hcr hlr hzr hcb hlb hzb CU BU WN
  have O2:=hid (show Two2 (w.heap.size+1) m (cC c ga gc wa wc) (wC x q) V2 from ⟨CV.out.m.cell,BV.out.cell⟩)
  have k1:w.heap.size+1≠w.heap.size+1+1:=by omega
  have k3:w.heap.size+1≠w.heap.size+1+1+1:=by omega
  obtain ⟨hcn,hzn,hln⟩:=CV.out.n.all
  obtain ⟨hcr,hzr,hlr⟩:=CV.out.r.all
  refine tkS (S:=(fun w'=>(∀ii,w'.cell? ⟨w.heap.size+1,ii,none⟩=((cC c ga gc wa wc)[ii]?:Option Value))∧(∀ii,w'.cell? ⟨m,ii,none⟩=((wC x q)[ii]?:Option Value)))) (by (first|(with_reducible exact Fe O2.out.drew))) (fun hHeld=>?_)
  refine tkl [0,1,2,3,4] ?_
  iterate 5
   refine tW ?_
   try go_frame
  refine rdy1 5 (fun K hK=>?_)
  go_simp
  try go_wp2_with fail
  refine hK.out _ _ (by (first|((with_reducible refine Fe ?_);(with_reducible refine Two2.drew ?_);(iterate 11 with_reducible refine Two2.set k1 n2 ?_ _ _);with_reducible exact O2.out))) (fun hHeld=>?_)
  clear hK K
  try go_frame
  refine rdy1 6 (fun K hK=>?_)
  go_simp
  try go_wp2_with fail
  refine hK.out _ _ (by (first|((with_reducible refine Fe ?_);(with_reducible refine Two2.drew ?_);(iterate 6 with_reducible refine Two2.set k3 n3 ?_ _ _);(iterate 11 with_reducible refine Two2.set k1 n2 ?_ _ _);with_reducible exact O2.out))) (fun hHeld=>?_)
  clear hK K
  try go_frame
  refine tkD ?_
  go_wp2_with fail
  have hB:Below w.heap.size w V2:=CV.out.b
  refine bodyPost_ret (v:=.tuple #[.agg (wC x q),.agg #[.int .i64 0,.int .i64 c.kind,.int .i64 0,.slice none 0 0,.slice none 0 0,.int .i64 0]]) (by simp [results,results9,go_sem,hcn,hcr]) rfl ⟨q,none,none,0,0,rfl,?_,Je _ _ rfl rfl,?_⟩
  ·refine Du.world (R:=(y,0,0)) (w:=w) (p:=p) (x:=x) ?_ HWA.out ?_
   ·refine Du.less (n:=V1.heap.size) ?_ (by have:=HSZ.out;have:=HM1.out;omega)
    refine Tc ?_
    iterate 6 refine Du.set (b:=w.heap.size+3) ?_ (by have:=HSZ.out;have:=HM1.out;omega) _ _
    iterate 11 refine Du.set (b:=w.heap.size+2) ?_ (by have:=HSZ.out;have:=HM1.out;omega) _ _
    exact WV.out
   ·refine Af ?_
    iterate 6 refine Below.setCell ?_ (by show w.heap.size≤w.heap.size+3;omega) _
    iterate 11 refine bs_2 ?_
    exact hB
  ·refine Af ?_
   iterate 6 refine Below.setCell ?_ (by show w.heap.size≤w.heap.size+3;omega) _
   iterate 11 refine bs_2 ?_
   exact hB
 ·obtain rfl:R=(x,errR er):=by rw [←HR.out];exact if_neg h0
  have hne:(er != 0)=true:=by simpa using h0
  clear HR h0
  go_wp2_with fail
  have hB:=CU.out.b
  refine bodyPost_ret (v:=.tuple #[.agg (wC x p),.agg #[.int .i64 er,.int .i64 0,.int .i64 0,.slice none 0 0,.slice none 0 0,.int .i64 0]]) (by simp [results,results9,go_sem,hcn,hcr]) rfl ⟨p,none,none,0,0,rfl,?_,Je _ _ rfl rfl,?_⟩
  ·refine HWA.out.below (B:=w.heap.size) ?_ (Nat.le_refl _)
   iterate 6 refine Below.setCell ?_ (by show w.heap.size≤w.heap.size+3;omega) _
   iterate 11 refine bs_2 ?_
   iterate 11 refine Below.setCell ?_ (by show w.heap.size≤m;have:=HSZ.out;omega) _
   exact hB
  ·iterate 6 refine Below.setCell ?_ (by show w.heap.size≤w.heap.size+3;omega) _
   iterate 11 refine bs_2 ?_
   iterate 11 refine Below.setCell ?_ (by show w.heap.size≤m;have:=HSZ.out;omega) _
   exact hB
include hx h hi hm in
theorem Gp8 (hg:Ae w ga c.gives) (hw:Ae w wa c.wants) (hk:c.kind=6):Calls prog 9 #[.agg (wC x p),.int .i64 (i:Int),.agg (cC c ga gc wa wc)] w (rdP x p (doW x i c) w):=by
 rw [Kw hm (by omega)]
 have HM:=hid hm
 have ha:=fun (W:World) (hb:Below w.heap.size w W)=>Hc9 x p i c W hx (h.below hb (Nat.le_refl _)) hi hm hk
 have hz0:=Jw x i c (by omega)
 have t1:(c.kind==1)=false:=by rw [hk];rfl
 have t2:(c.kind==2)=false:=by rw [hk];rfl
 have t3:(c.kind==3)=false:=by rw [hk];rfl
 have t4:(c.kind==4)=false:=by rw [hk];rfl
 have t5:(c.kind==5)=false:=by rw [hk];rfl
 have t6:(c.kind==6)=true:=by rw [hk];rfl
 obtain ⟨⟨y,r,er⟩,hA⟩:∃A,actW x i c=A:=⟨_,rfl⟩
 rw [hA] at hz0 ⊢
 simp only at hz0
 subst hz0
 obtain ⟨R,hR⟩:∃R,Sd x c (y,0,er)=R:=⟨_,rfl⟩
 rw [hR]
 have HR:=hid hR
 simp only [hA] at ha
 have HA:=hid ha
 have HG:=hid hg
 have HW:=hid hw
 have HWA:=hid h
 have C0:=hid (Qua.start 29 31 29 39 w (wC x p) (cC c ga gc wa wc) zC #[.int .i64 0,.int .i64 0,.int .i64 0,.slice none 0 0,.slice none 0 0,.int .i64 0])
 clear ha hA hm hx h hi hg hw hk hR
 have hWC:=@wC.eq_1
 have hZC:=@zC.eq_1
 have hCC:=@cC.eq_1
 go_enter func9,ntmps9
 go_wp2_with fail
 generalize (((w.alloc (.cells (wC x p) 29)).alloc (.cells (cC c ga gc wa wc) 31)).alloc (.cells zC 29)).alloc (.cells #[.int .i64 0,.int .i64 0,.int .i64 0,.slice none 0 0,.slice none 0 0,.int .i64 0] 39)=V0 at *
 refine (Bw c ga wa gc wc V0 (HG.out.below C0.out.b (Nat.le_refl _)) (HW.out.below C0.out.b (Nat.le_refl _))).mono ?_
 rintro e w1 ⟨rfl,b1⟩
 rw [HM.out]
 have C1:=hid (C0.out.call b1)
 have hca:=C1.out.a.cell
 have hla:=C1.out.a.lt
 have hcm:=C1.out.m.cell
 have hlm:=C1.out.m.lt
 clear C0 b1
 obtain ⟨m,hm⟩:∃m,w1.heap.size=m:=⟨_,rfl⟩
 have HSZ:=hid (show w.heap.size+4≤m by rw [←hm];exact C1.out.size)
 have HM1:=hid (show m<(w1.alloc (.cells (wC x p) 29)).heap.size by rw [←hm];simp)
 have BW1:=hid (Blk.newn w1 29 (wC x p) hm)
 have CZ:=hid (C1.out.call (b_a (.cells (wC x p) 29)))
 go_upto_region 4 with fail
 clear hca hla hcm hlm
 generalize w1.alloc (.cells (wC x p) 29)=V1 at *
 clear hm C1
 have hca:=CZ.out.a.cell
 have hla:=CZ.out.a.lt
 have hcm:=CZ.out.m.cell
 have hlm:=CZ.out.m.lt
 go_wp2_with fail
 clear hca hla hcm hlm t1 t2 t3 t4 t5 t6
 refine (HA.out V1 CZ.out.b).mono ?_
 rintro e u ⟨q,rfl,wn,b2⟩
 have CU:=hid (CZ.out.call b2)
 have BU:=hid (BW1.out.call b2)
 have WN:=hid wn
 clear wn b2 CZ BW1 HA
 have n0:m≠w.heap.size:=by have:=HSZ.out;omega
 have n0b:w.heap.size≠m:=by have:=HSZ.out;omega
 have n1:m≠w.heap.size+1:=by have:=HSZ.out;omega
 have n1b:w.heap.size+1≠m:=by have:=HSZ.out;omega
 have n2:m≠w.heap.size+1+1:=by have:=HSZ.out;omega
 have n2b:w.heap.size+1+1≠m:=by have:=HSZ.out;omega
 have n3:m≠w.heap.size+1+1+1:=by have:=HSZ.out;omega
 have n3b:w.heap.size+1+1+1≠m:=by have:=HSZ.out;omega
 have hcb:=BU.out.cell
 have hlb:=BU.out.lt
 have hzb:=BU.out.frozen
 have hca:=CU.out.a.cell
 have hla:=CU.out.a.lt
 have hcm:=CU.out.m.cell
 have hlm:=CU.out.m.lt
 obtain ⟨hcn,hzn,hln⟩:=CU.out.n.all
 obtain ⟨hcr,hzr,hlr⟩:=CU.out.r.all
 by_cases h0:er=0
 ·subst h0
  obtain rfl:R=(y,okR c.kind 0):=by rw [←HR.out];rfl
  clear HR
  go_wp2_with fail
  refine Cc6 (fun V=>Qua 29 31 29 39 w V (wC x p) (cC c ga gc wa wc) zC #[.int .i64 0,.int .i64 0,.int .i64 0,.slice none 0 0,.slice none 0 0,.int .i64 0]∧Blk V m 29 (wC x q)∧Du V1.heap.size V p q x (y,0,0)) ⟨by (iterate 11 refine Qua.setq ?_ HSZ.out _ _);exact CU.out,Fq BU.out,by (iterate 11 refine Du.set ?_ HM1.out _ _);exact WN.out⟩ (fun V2 hV=>?_)
  have CV:=hid hV.1
  have BV:=hid hV.2.1
  have WV:=hid hV.2.2
  clear hV hca hla hcm hlm hcn hln hzn hcr hlr hzr hcb hlb hzb CU BU WN
  have O2:=hid (show Two2 (w.heap.size+1) m (cC c ga gc wa wc) (wC x q) V2 from ⟨CV.out.m.cell,BV.out.cell⟩)
  have k1:w.heap.size+1≠w.heap.size+1+1:=by omega
  have k3:w.heap.size+1≠w.heap.size+1+1+1:=by omega
  obtain ⟨hcn,hzn,hln⟩:=CV.out.n.all
  obtain ⟨hcr,hzr,hlr⟩:=CV.out.r.all
  refine tkS (S:=(fun w'=>(∀ii,w'.cell? ⟨w.heap.size+1,ii,none⟩=((cC c ga gc wa wc)[ii]?:Option Value))∧(∀ii,w'.cell? ⟨m,ii,none⟩=((wC x q)[ii]?:Option Value)))) (by (first|(with_reducible exact Fe O2.out.drew))) (fun hHeld=>?_)
  refine tkl [0,1,2,3,4] ?_
  iterate 5
   refine tW ?_
   try go_frame
  refine rdy1 5 (fun K hK=>?_)
  go_simp
  try go_wp2_with fail
  refine hK.out _ _ (by (first|((with_reducible refine Fe ?_);(with_reducible refine Two2.drew ?_);(iterate 11 with_reducible refine Two2.set k1 n2 ?_ _ _);with_reducible exact O2.out))) (fun hHeld=>?_)
  clear hK K
  try go_frame
  refine rdy1 6 (fun K hK=>?_)
  go_simp
  try go_wp2_with fail
  refine hK.out _ _ (by (first|((with_reducible refine Fe ?_);(with_reducible refine Two2.drew ?_);(iterate 6 with_reducible refine Two2.set k3 n3 ?_ _ _);(iterate 11 with_reducible refine Two2.set k1 n2 ?_ _ _);with_reducible exact O2.out))) (fun hHeld=>?_)
  clear hK K
  try go_frame
  refine tkD ?_
  go_wp2_with fail
  have hB:Below w.heap.size w V2:=CV.out.b
  refine bodyPost_ret (v:=.tuple #[.agg (wC x q),.agg #[.int .i64 0,.int .i64 c.kind,.int .i64 0,.slice none 0 0,.slice none 0 0,.int .i64 0]]) (by simp [results,results9,go_sem,hcn,hcr]) rfl ⟨q,none,none,0,0,rfl,?_,Je _ _ rfl rfl,?_⟩
  ·refine Du.world (R:=(y,0,0)) (w:=w) (p:=p) (x:=x) ?_ HWA.out ?_
   ·refine Du.less (n:=V1.heap.size) ?_ (by have:=HSZ.out;have:=HM1.out;omega)
    refine Tc ?_
    iterate 6 refine Du.set (b:=w.heap.size+3) ?_ (by have:=HSZ.out;have:=HM1.out;omega) _ _
    iterate 11 refine Du.set (b:=w.heap.size+2) ?_ (by have:=HSZ.out;have:=HM1.out;omega) _ _
    exact WV.out
   ·refine Af ?_
    iterate 6 refine Below.setCell ?_ (by show w.heap.size≤w.heap.size+3;omega) _
    iterate 11 refine bs_2 ?_
    exact hB
  ·refine Af ?_
   iterate 6 refine Below.setCell ?_ (by show w.heap.size≤w.heap.size+3;omega) _
   iterate 11 refine bs_2 ?_
   exact hB
 ·obtain rfl:R=(x,errR er):=by rw [←HR.out];exact if_neg h0
  have hne:(er != 0)=true:=by simpa using h0
  clear HR h0
  go_wp2_with fail
  have hB:=CU.out.b
  refine bodyPost_ret (v:=.tuple #[.agg (wC x p),.agg #[.int .i64 er,.int .i64 0,.int .i64 0,.slice none 0 0,.slice none 0 0,.int .i64 0]]) (by simp [results,results9,go_sem,hcn,hcr]) rfl ⟨p,none,none,0,0,rfl,?_,Je _ _ rfl rfl,?_⟩
  ·refine HWA.out.below (B:=w.heap.size) ?_ (Nat.le_refl _)
   iterate 6 refine Below.setCell ?_ (by show w.heap.size≤w.heap.size+3;omega) _
   iterate 11 refine bs_2 ?_
   iterate 11 refine Below.setCell ?_ (by show w.heap.size≤m;have:=HSZ.out;omega) _
   exact hB
  ·iterate 6 refine Below.setCell ?_ (by show w.heap.size≤w.heap.size+3;omega) _
   iterate 11 refine bs_2 ?_
   iterate 11 refine Below.setCell ?_ (by show w.heap.size≤m;have:=HSZ.out;omega) _
   exact hB
include hx h hi hm in
theorem Gp7 (hg:Ae w ga c.gives) (hw:Ae w wa c.wants) (hk:c.kind=7):Calls prog 9 #[.agg (wC x p),.int .i64 (i:Int),.agg (cC c ga gc wa wc)] w (rdP x p (doW x i c) w):=by
 rw [Kw hm (by omega)]
 have HM:=hid hm
 have ha:=fun (W:World) (hb:Below w.heap.size w W)=>Hc8 x p i c W hx (h.below hb (Nat.le_refl _)) hi hm hk
 have hz0:=Jw x i c (by omega)
 have t1:(c.kind==1)=false:=by rw [hk];rfl
 have t2:(c.kind==2)=false:=by rw [hk];rfl
 have t3:(c.kind==3)=false:=by rw [hk];rfl
 have t4:(c.kind==4)=false:=by rw [hk];rfl
 have t5:(c.kind==5)=false:=by rw [hk];rfl
 have t6:(c.kind==6)=false:=by rw [hk];rfl
 have t7:(c.kind==7)=true:=by rw [hk];rfl
 obtain ⟨⟨y,r,er⟩,hA⟩:∃A,actW x i c=A:=⟨_,rfl⟩
 rw [hA] at hz0 ⊢
 simp only at hz0
 subst hz0
 obtain ⟨R,hR⟩:∃R,Sd x c (y,0,er)=R:=⟨_,rfl⟩
 rw [hR]
 have HR:=hid hR
 simp only [hA] at ha
 have HA:=hid ha
 have HG:=hid hg
 have HW:=hid hw
 have HWA:=hid h
 have C0:=hid (Qua.start 29 31 29 39 w (wC x p) (cC c ga gc wa wc) zC #[.int .i64 0,.int .i64 0,.int .i64 0,.slice none 0 0,.slice none 0 0,.int .i64 0])
 clear ha hA hm hx h hi hg hw hk hR
 have hWC:=@wC.eq_1
 have hZC:=@zC.eq_1
 have hCC:=@cC.eq_1
 go_enter func9,ntmps9
 go_wp2_with fail
 generalize (((w.alloc (.cells (wC x p) 29)).alloc (.cells (cC c ga gc wa wc) 31)).alloc (.cells zC 29)).alloc (.cells #[.int .i64 0,.int .i64 0,.int .i64 0,.slice none 0 0,.slice none 0 0,.int .i64 0] 39)=V0 at *
 refine (Bw c ga wa gc wc V0 (HG.out.below C0.out.b (Nat.le_refl _)) (HW.out.below C0.out.b (Nat.le_refl _))).mono ?_
 rintro e w1 ⟨rfl,b1⟩
 rw [HM.out]
 have C1:=hid (C0.out.call b1)
 have hca:=C1.out.a.cell
 have hla:=C1.out.a.lt
 have hcm:=C1.out.m.cell
 have hlm:=C1.out.m.lt
 clear C0 b1
 obtain ⟨m,hm⟩:∃m,w1.heap.size=m:=⟨_,rfl⟩
 have HSZ:=hid (show w.heap.size+4≤m by rw [←hm];exact C1.out.size)
 have HM1:=hid (show m<(w1.alloc (.cells (wC x p) 29)).heap.size by rw [←hm];simp)
 have BW1:=hid (Blk.newn w1 29 (wC x p) hm)
 have CZ:=hid (C1.out.call (b_a (.cells (wC x p) 29)))
 go_upto_region 4 with fail
 clear hca hla hcm hlm
 generalize w1.alloc (.cells (wC x p) 29)=V1 at *
 clear hm C1
 have hca:=CZ.out.a.cell
 have hla:=CZ.out.a.lt
 have hcm:=CZ.out.m.cell
 have hlm:=CZ.out.m.lt
 go_wp2_with fail
 clear hca hla hcm hlm t1 t2 t3 t4 t5 t6 t7
 refine (HA.out V1 CZ.out.b).mono ?_
 rintro e u ⟨q,rfl,wn,b2⟩
 have CU:=hid (CZ.out.call b2)
 have BU:=hid (BW1.out.call b2)
 have WN:=hid wn
 clear wn b2 CZ BW1 HA
 have n0:m≠w.heap.size:=by have:=HSZ.out;omega
 have n0b:w.heap.size≠m:=by have:=HSZ.out;omega
 have n1:m≠w.heap.size+1:=by have:=HSZ.out;omega
 have n1b:w.heap.size+1≠m:=by have:=HSZ.out;omega
 have n2:m≠w.heap.size+1+1:=by have:=HSZ.out;omega
 have n2b:w.heap.size+1+1≠m:=by have:=HSZ.out;omega
 have n3:m≠w.heap.size+1+1+1:=by have:=HSZ.out;omega
 have n3b:w.heap.size+1+1+1≠m:=by have:=HSZ.out;omega
 have hcb:=BU.out.cell
 have hlb:=BU.out.lt
 have hzb:=BU.out.frozen
 have hca:=CU.out.a.cell
 have hla:=CU.out.a.lt
 have hcm:=CU.out.m.cell
 have hlm:=CU.out.m.lt
 obtain ⟨hcn,hzn,hln⟩:=CU.out.n.all
 obtain ⟨hcr,hzr,hlr⟩:=CU.out.r.all
 by_cases h0:er=0
 ·subst h0
  obtain rfl:R=(y,okR c.kind 0):=by rw [←HR.out];rfl
  clear HR
  go_wp2_with fail
  refine Cc6 (fun V=>Qua 29 31 29 39 w V (wC x p) (cC c ga gc wa wc) zC #[.int .i64 0,.int .i64 0,.int .i64 0,.slice none 0 0,.slice none 0 0,.int .i64 0]∧Blk V m 29 (wC x q)∧Du V1.heap.size V p q x (y,0,0)) ⟨by (iterate 11 refine Qua.setq ?_ HSZ.out _ _);exact CU.out,Fq BU.out,by (iterate 11 refine Du.set ?_ HM1.out _ _);exact WN.out⟩ (fun V2 hV=>?_)
  have CV:=hid hV.1
  have BV:=hid hV.2.1
  have WV:=hid hV.2.2
  clear hV hca hla hcm hlm hcn hln hzn hcr hlr hzr hcb hlb hzb CU BU WN
  have O2:=hid (show Two2 (w.heap.size+1) m (cC c ga gc wa wc) (wC x q) V2 from ⟨CV.out.m.cell,BV.out.cell⟩)
  have k1:w.heap.size+1≠w.heap.size+1+1:=by omega
  have k3:w.heap.size+1≠w.heap.size+1+1+1:=by omega
  obtain ⟨hcn,hzn,hln⟩:=CV.out.n.all
  obtain ⟨hcr,hzr,hlr⟩:=CV.out.r.all
  refine tkS (S:=(fun w'=>(∀ii,w'.cell? ⟨w.heap.size+1,ii,none⟩=((cC c ga gc wa wc)[ii]?:Option Value))∧(∀ii,w'.cell? ⟨m,ii,none⟩=((wC x q)[ii]?:Option Value)))) (by (first|(with_reducible exact Fe O2.out.drew))) (fun hHeld=>?_)
  refine tkl [0,1,2,3,4] ?_
  iterate 5
   refine tW ?_
   try go_frame
  refine rdy1 5 (fun K hK=>?_)
  go_simp
  try go_wp2_with fail
  refine hK.out _ _ (by (first|((with_reducible refine Fe ?_);(with_reducible refine Two2.drew ?_);(iterate 11 with_reducible refine Two2.set k1 n2 ?_ _ _);with_reducible exact O2.out))) (fun hHeld=>?_)
  clear hK K
  try go_frame
  refine rdy1 6 (fun K hK=>?_)
  go_simp
  try go_wp2_with fail
  refine hK.out _ _ (by (first|((with_reducible refine Fe ?_);(with_reducible refine Two2.drew ?_);(iterate 6 with_reducible refine Two2.set k3 n3 ?_ _ _);(iterate 11 with_reducible refine Two2.set k1 n2 ?_ _ _);with_reducible exact O2.out))) (fun hHeld=>?_)
  clear hK K
  try go_frame
  refine tkD ?_
  go_wp2_with fail
  have hB:Below w.heap.size w V2:=CV.out.b
  refine bodyPost_ret (v:=.tuple #[.agg (wC x q),.agg #[.int .i64 0,.int .i64 c.kind,.int .i64 0,.slice none 0 0,.slice none 0 0,.int .i64 0]]) (by simp [results,results9,go_sem,hcn,hcr]) rfl ⟨q,none,none,0,0,rfl,?_,Je _ _ rfl rfl,?_⟩
  ·refine Du.world (R:=(y,0,0)) (w:=w) (p:=p) (x:=x) ?_ HWA.out ?_
   ·refine Du.less (n:=V1.heap.size) ?_ (by have:=HSZ.out;have:=HM1.out;omega)
    refine Tc ?_
    iterate 6 refine Du.set (b:=w.heap.size+3) ?_ (by have:=HSZ.out;have:=HM1.out;omega) _ _
    iterate 11 refine Du.set (b:=w.heap.size+2) ?_ (by have:=HSZ.out;have:=HM1.out;omega) _ _
    exact WV.out
   ·refine Af ?_
    iterate 6 refine Below.setCell ?_ (by show w.heap.size≤w.heap.size+3;omega) _
    iterate 11 refine bs_2 ?_
    exact hB
  ·refine Af ?_
   iterate 6 refine Below.setCell ?_ (by show w.heap.size≤w.heap.size+3;omega) _
   iterate 11 refine bs_2 ?_
   exact hB
 ·obtain rfl:R=(x,errR er):=by rw [←HR.out];exact if_neg h0
  have hne:(er != 0)=true:=by simpa using h0
  clear HR h0
  go_wp2_with fail
  have hB:=CU.out.b
  refine bodyPost_ret (v:=.tuple #[.agg (wC x p),.agg #[.int .i64 er,.int .i64 0,.int .i64 0,.slice none 0 0,.slice none 0 0,.int .i64 0]]) (by simp [results,results9,go_sem,hcn,hcr]) rfl ⟨p,none,none,0,0,rfl,?_,Je _ _ rfl rfl,?_⟩
  ·refine HWA.out.below (B:=w.heap.size) ?_ (Nat.le_refl _)
   iterate 6 refine Below.setCell ?_ (by show w.heap.size≤w.heap.size+3;omega) _
   iterate 11 refine bs_2 ?_
   iterate 11 refine Below.setCell ?_ (by show w.heap.size≤m;have:=HSZ.out;omega) _
   exact hB
  ·iterate 6 refine Below.setCell ?_ (by show w.heap.size≤w.heap.size+3;omega) _
   iterate 11 refine bs_2 ?_
   iterate 11 refine Below.setCell ?_ (by show w.heap.size≤m;have:=HSZ.out;omega) _
   exact hB
include hx h hi hm in
theorem Gp6 (hg:Ae w ga c.gives) (hw:Ae w wa c.wants) (hk:c.kind=8):Calls prog 9 #[.agg (wC x p),.int .i64 (i:Int),.agg (cC c ga gc wa wc)] w (rdP x p (doW x i c) w):=by
 rw [Kw hm (by omega)]
 have HM:=hid hm
 have ha:=fun (W:World) (hb:Below w.heap.size w W)=>Hc7 x p i c ga wa gc wc W hx (h.below hb (Nat.le_refl _)) hi hm hk (hg.below hb (Nat.le_refl _)) (hw.below hb (Nat.le_refl _))
 have hz0:=Jw x i c (by omega)
 have t1:(c.kind==1)=false:=by rw [hk];rfl
 have t2:(c.kind==2)=false:=by rw [hk];rfl
 have t3:(c.kind==3)=false:=by rw [hk];rfl
 have t4:(c.kind==4)=false:=by rw [hk];rfl
 have t5:(c.kind==5)=false:=by rw [hk];rfl
 have t6:(c.kind==6)=false:=by rw [hk];rfl
 have t7:(c.kind==7)=false:=by rw [hk];rfl
 have t8:(c.kind==8)=true:=by rw [hk];rfl
 obtain ⟨⟨y,r,er⟩,hA⟩:∃A,actW x i c=A:=⟨_,rfl⟩
 rw [hA] at hz0 ⊢
 simp only at hz0
 subst hz0
 obtain ⟨R,hR⟩:∃R,Sd x c (y,0,er)=R:=⟨_,rfl⟩
 rw [hR]
 have HR:=hid hR
 simp only [hA] at ha
 have HA:=hid ha
 have HG:=hid hg
 have HW:=hid hw
 have HWA:=hid h
 have C0:=hid (Qua.start 29 31 29 39 w (wC x p) (cC c ga gc wa wc) zC #[.int .i64 0,.int .i64 0,.int .i64 0,.slice none 0 0,.slice none 0 0,.int .i64 0])
 clear ha hA hm hx h hi hg hw hk hR
 have hWC:=@wC.eq_1
 have hZC:=@zC.eq_1
 have hCC:=@cC.eq_1
 go_enter func9,ntmps9
 go_wp2_with fail
 generalize (((w.alloc (.cells (wC x p) 29)).alloc (.cells (cC c ga gc wa wc) 31)).alloc (.cells zC 29)).alloc (.cells #[.int .i64 0,.int .i64 0,.int .i64 0,.slice none 0 0,.slice none 0 0,.int .i64 0] 39)=V0 at *
 refine (Bw c ga wa gc wc V0 (HG.out.below C0.out.b (Nat.le_refl _)) (HW.out.below C0.out.b (Nat.le_refl _))).mono ?_
 rintro e w1 ⟨rfl,b1⟩
 rw [HM.out]
 have C1:=hid (C0.out.call b1)
 have hca:=C1.out.a.cell
 have hla:=C1.out.a.lt
 have hcm:=C1.out.m.cell
 have hlm:=C1.out.m.lt
 clear C0 b1
 obtain ⟨m,hm⟩:∃m,w1.heap.size=m:=⟨_,rfl⟩
 have HSZ:=hid (show w.heap.size+4≤m by rw [←hm];exact C1.out.size)
 have HM1:=hid (show m<(w1.alloc (.cells (wC x p) 29)).heap.size by rw [←hm];simp)
 have BW1:=hid (Blk.newn w1 29 (wC x p) hm)
 have CZ:=hid (C1.out.call (b_a (.cells (wC x p) 29)))
 go_upto_region 4 with fail
 clear hca hla hcm hlm
 generalize w1.alloc (.cells (wC x p) 29)=V1 at *
 clear hm C1
 have hca:=CZ.out.a.cell
 have hla:=CZ.out.a.lt
 have hcm:=CZ.out.m.cell
 have hlm:=CZ.out.m.lt
 go_wp2_with fail
 clear hca hla hcm hlm t1 t2 t3 t4 t5 t6 t7 t8
 refine (HA.out V1 CZ.out.b).mono ?_
 rintro e u ⟨q,rfl,wn,b2⟩
 have CU:=hid (CZ.out.call b2)
 have BU:=hid (BW1.out.call b2)
 have WN:=hid wn
 clear wn b2 CZ BW1 HA
 have n0:m≠w.heap.size:=by have:=HSZ.out;omega
 have n0b:w.heap.size≠m:=by have:=HSZ.out;omega
 have n1:m≠w.heap.size+1:=by have:=HSZ.out;omega
 have n1b:w.heap.size+1≠m:=by have:=HSZ.out;omega
 have n2:m≠w.heap.size+1+1:=by have:=HSZ.out;omega
 have n2b:w.heap.size+1+1≠m:=by have:=HSZ.out;omega
 have n3:m≠w.heap.size+1+1+1:=by have:=HSZ.out;omega
 have n3b:w.heap.size+1+1+1≠m:=by have:=HSZ.out;omega
 have hcb:=BU.out.cell
 have hlb:=BU.out.lt
 have hzb:=BU.out.frozen
 have hca:=CU.out.a.cell
 have hla:=CU.out.a.lt
 have hcm:=CU.out.m.cell
 have hlm:=CU.out.m.lt
 obtain ⟨hcn,hzn,hln⟩:=CU.out.n.all
 obtain ⟨hcr,hzr,hlr⟩:=CU.out.r.all
 by_cases h0:er=0
 ·subst h0
  obtain rfl:R=(y,okR c.kind 0):=by rw [←HR.out];rfl
  clear HR
  go_wp2_with fail
  refine Cc6 (fun V=>Qua 29 31 29 39 w V (wC x p) (cC c ga gc wa wc) zC #[.int .i64 0,.int .i64 0,.int .i64 0,.slice none 0 0,.slice none 0 0,.int .i64 0]∧Blk V m 29 (wC x q)∧Du V1.heap.size V p q x (y,0,0)) ⟨by (iterate 11 refine Qua.setq ?_ HSZ.out _ _);exact CU.out,Fq BU.out,by (iterate 11 refine Du.set ?_ HM1.out _ _);exact WN.out⟩ (fun V2 hV=>?_)
  have CV:=hid hV.1
  have BV:=hid hV.2.1
  have WV:=hid hV.2.2
  clear hV hca hla hcm hlm hcn hln hzn hcr hlr hzr hcb hlb hzb CU BU WN
  have O2:=hid (show Two2 (w.heap.size+1) m (cC c ga gc wa wc) (wC x q) V2 from ⟨CV.out.m.cell,BV.out.cell⟩)
  have k1:w.heap.size+1≠w.heap.size+1+1:=by omega
  have k3:w.heap.size+1≠w.heap.size+1+1+1:=by omega
  obtain ⟨hcn,hzn,hln⟩:=CV.out.n.all
  obtain ⟨hcr,hzr,hlr⟩:=CV.out.r.all
  refine tkS (S:=(fun w'=>(∀ii,w'.cell? ⟨w.heap.size+1,ii,none⟩=((cC c ga gc wa wc)[ii]?:Option Value))∧(∀ii,w'.cell? ⟨m,ii,none⟩=((wC x q)[ii]?:Option Value)))) (by (first|(with_reducible exact Fe O2.out.drew))) (fun hHeld=>?_)
  refine tkl [0,1,2,3,4] ?_
  iterate 5
   refine tW ?_
   try go_frame
  refine rdy1 5 (fun K hK=>?_)
  go_simp
  try go_wp2_with fail
  refine hK.out _ _ (by (first|((with_reducible refine Fe ?_);(with_reducible refine Two2.drew ?_);(iterate 11 with_reducible refine Two2.set k1 n2 ?_ _ _);with_reducible exact O2.out))) (fun hHeld=>?_)
  clear hK K
  try go_frame
  refine rdy1 6 (fun K hK=>?_)
  go_simp
  try go_wp2_with fail
  refine hK.out _ _ (by (first|((with_reducible refine Fe ?_);(with_reducible refine Two2.drew ?_);(iterate 6 with_reducible refine Two2.set k3 n3 ?_ _ _);(iterate 11 with_reducible refine Two2.set k1 n2 ?_ _ _);with_reducible exact O2.out))) (fun hHeld=>?_)
  clear hK K
  try go_frame
  refine tkD ?_
  go_wp2_with fail
  have hB:Below w.heap.size w V2:=CV.out.b
  refine bodyPost_ret (v:=.tuple #[.agg (wC x q),.agg #[.int .i64 0,.int .i64 c.kind,.int .i64 0,.slice none 0 0,.slice none 0 0,.int .i64 0]]) (by simp [results,results9,go_sem,hcn,hcr]) rfl ⟨q,none,none,0,0,rfl,?_,Je _ _ rfl rfl,?_⟩
  ·refine Du.world (R:=(y,0,0)) (w:=w) (p:=p) (x:=x) ?_ HWA.out ?_
   ·refine Du.less (n:=V1.heap.size) ?_ (by have:=HSZ.out;have:=HM1.out;omega)
    refine Tc ?_
    iterate 6 refine Du.set (b:=w.heap.size+3) ?_ (by have:=HSZ.out;have:=HM1.out;omega) _ _
    iterate 11 refine Du.set (b:=w.heap.size+2) ?_ (by have:=HSZ.out;have:=HM1.out;omega) _ _
    exact WV.out
   ·refine Af ?_
    iterate 6 refine Below.setCell ?_ (by show w.heap.size≤w.heap.size+3;omega) _
    iterate 11 refine bs_2 ?_
    exact hB
  ·refine Af ?_
   iterate 6 refine Below.setCell ?_ (by show w.heap.size≤w.heap.size+3;omega) _
   iterate 11 refine bs_2 ?_
   exact hB
 ·obtain rfl:R=(x,errR er):=by rw [←HR.out];exact if_neg h0
  have hne:(er != 0)=true:=by simpa using h0
  clear HR h0
  go_wp2_with fail
  have hB:=CU.out.b
  refine bodyPost_ret (v:=.tuple #[.agg (wC x p),.agg #[.int .i64 er,.int .i64 0,.int .i64 0,.slice none 0 0,.slice none 0 0,.int .i64 0]]) (by simp [results,results9,go_sem,hcn,hcr]) rfl ⟨p,none,none,0,0,rfl,?_,Je _ _ rfl rfl,?_⟩
  ·refine HWA.out.below (B:=w.heap.size) ?_ (Nat.le_refl _)
   iterate 6 refine Below.setCell ?_ (by show w.heap.size≤w.heap.size+3;omega) _
   iterate 11 refine bs_2 ?_
   iterate 11 refine Below.setCell ?_ (by show w.heap.size≤m;have:=HSZ.out;omega) _
   exact hB
  ·iterate 6 refine Below.setCell ?_ (by show w.heap.size≤w.heap.size+3;omega) _
   iterate 11 refine bs_2 ?_
   iterate 11 refine Below.setCell ?_ (by show w.heap.size≤m;have:=HSZ.out;omega) _
   exact hB
end
theorem Dr4 (x:Wd) (p:Wp) (i:Nat) (c:Cm) (ga wa:Option Addr) (gc wc:Nat) (w:World) (hx:Ai x=true) (h:Ab w p x) (hi:i<x.at_.length) (hg:Ae w ga c.gives) (hw:Ae w wa c.wants):Calls prog 9 #[.agg (wC x p),.int .i64 (i:Int),.agg (cC c ga gc wa wc)] w (rdP x p (doW x i c) w):=by
 cases hm:Ak c
 ·exact Gp4 x p i c ga wa gc wc w h hg hw hm
 have hk:1≤c.kind∧c.kind≤10:=by
  have h2:=hm
  rw [←Ej] at h2
  simp only [mayB,Co,Bool.and_eq_true,decide_eq_true_eq] at h2
  exact h2.1.1
 have:c.kind=1∨c.kind=2∨c.kind=3∨c.kind=4∨c.kind=5∨c.kind=6∨c.kind=7∨c.kind=8∨c.kind=9∨c.kind=10:=by omega
 rcases this with k|k|k|k|k|k|k|k|k|k
 ·exact Gq3 x p i c ga wa gc wc w hx h hi hm hg hw k
 ·exact Gq2 x p i c ga wa gc wc w hx h hi hm hg hw k
 ·exact Gq1 x p i c ga wa gc wc w hx h hi hm hg hw k
 ·exact Gq0 x p i c ga wa gc wc w hx h hi hm hg hw k
 ·exact Gp9 x p i c ga wa gc wc w hx h hi hm hg hw k
 ·exact Gp8 x p i c ga wa gc wc w hx h hi hm hg hw k
 ·exact Gp7 x p i c ga wa gc wc w hx h hi hm hg hw k
 ·exact Gp6 x p i c ga wa gc wc w hx h hi hm hg hw k
 ·exact Gp5 x p i c ga wa gc wc w hx h hi hm hg hw k
 ·exact Fz9 x p i c ga wa gc wc w hx h hi hm hg hw k
end Go.Proofs.Ytenpcndoilcjcaa
