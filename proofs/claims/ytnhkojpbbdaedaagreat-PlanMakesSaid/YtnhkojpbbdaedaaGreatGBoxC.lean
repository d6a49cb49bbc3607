/- boxes: is there such an item; the places; what is near. -/
import Derived.Test.YtnhkojpbbdaedaaGreatGTreeA
import Derived.Test.YtnhkojpbbdaedaaGreatGHoldA
import Derived.Test.YtnhkojpbbdaedaaGreatGBoxM
namespace Go.Proofs.YtnhkojpbbdaedaaGreat
open Go.ChangeShapes Go.WideShapes Go.ChangeAt Go.RowKit Go.Proofs.Tryz
open Lib (hid)
set_option linter.unusedVariables false
set_option maxHeartbeats 1000000
set_option maxRecDepth 100000
section
theorem Aw2 (x:Wd) (p:Wp) (k:Int) (w:World):Calls prog 109 #[.agg (wC x p),.int .i64 k] w fun e w'=>e=.returned (.bool (inB k x.wher.length))∧Below w.heap.size w w':=by
 have hb:=(Below.refl w.heap.size w).alloc (Nat.le_refl _) (.cells (wC x p) 29)
 unfold inB
 by_cases h1:0≤k
 ·by_cases h2:k<x.wher.length
  ·
   have hWC:=@wC.eq_1
   go_enter func109,ntmps109
   go_wp2_with fail
   go_ret
   exact ⟨Ag (by simp),hb⟩
  ·
   have hWC:=@wC.eq_1
   go_enter func109,ntmps109
   go_wp2_with fail
   go_ret
   exact ⟨Ag (by simp [h2]),hb⟩
 ·
  have hWC:=@wC.eq_1
  go_enter func109,ntmps109
  go_wp2_with fail
  go_ret
  exact ⟨Ag (by simp;omega),hb⟩
theorem Al0 (n:Int) (w:World):Calls prog 80 #[.int .i64 n] w fun e w'=>e=.returned (.agg #[.int .i64 1,.int .i64 n])∧Below w.heap.size w w':=by
 have hWC:=@wC.eq_1
 go_enter func80,ntmps80
 go_wp2_with fail
 refine bodyPost_ret (v:=.agg #[.int .i64 1,.int .i64 n]) (by simp [results,results80,go_sem]) rfl ⟨rfl,?_⟩
 exact b_a _
theorem Bi1 (n:Int) (w:World):Calls prog 76 #[.int .i64 n] w fun e w'=>e=.returned (.agg #[.int .i64 2,.int .i64 n])∧Below w.heap.size w w':=by
 have hWC:=@wC.eq_1
 go_enter func76,ntmps76
 go_wp2_with fail
 refine bodyPost_ret (v:=.agg #[.int .i64 2,.int .i64 n]) (by simp [results,results76,go_sem]) rfl ⟨rfl,?_⟩
 exact b_a _
theorem Dc7 (x:Wd) (p:Wp) (i k:Nat) (w:World) (hx:Ai x=true) (h:Ab w p x) (hi:i<x.at_.length) (hk:k<x.wher.length):Calls prog 112 #[.agg (wC x p),.int .i64 (i:Int),.int .i64 (k:Int)] w fun e w'=>e=.returned (.bool (De x i k))∧Below w.heap.size w w':=by
 obtain ⟨b,o,ea,hb,hc⟩:=h.at_.at_ hi
 have c1:=hc i hi
 rw [(Bn hx hi).1] at c1
 have hlen:=h.at_.len
 have HT:=hid (Bv hx)
 have H:=hid h
 have C0:=hid (Ac.new w (wC x p) 29)
 have HI:=hid (show inB (k:Int) x.wher.length=true by simp [inB,hk])
 have HN:=hid (show De x i k=(decide (Bh x.wher k=⟨0,(Ah x i:Int)⟩)||decide (Bh x.wher k=⟨1,(i:Int)⟩)) from rfl)
 have hi0:¬(i:Int)<0:=by omega
 generalize ((Ah x i:Nat):Int)=r at *
 obtain ⟨pd,pa,pac,pk,pkc,pw,pwc⟩:=p
 simp only at ea
 subst ea
 clear h hc hx
 have hWC:=@wC.eq_1
 go_enter func112,ntmps112
 go_wp2_with fail
 refine (Aw2 x ⟨pd,some ⟨b,o,none⟩,pac,pk,pkc,pw,pwc⟩ k _).mono ?_
 rintro e w1 ⟨rfl,b1⟩
 rw [HI.out]
 have C1:=hid (C0.out.call b1)
 clear b1
 have hc1:=C1.out.2.2
 have hl1:=C1.out.2.1
 go_wp2_with fail
 refine (Gr x ⟨pd,some ⟨b,o,none⟩,pac,pk,pkc,pw,pwc⟩ HT.out k hk _ (H.out.wh.below C1.out.1 (Nat.le_refl _))).mono ?_
 rintro e w2 ⟨rfl,b2⟩
 have C2:=hid (C1.out.call b2)
 clear b2 hc1 hl1
 have hc2:=C2.out.2.2
 have hl2:=C2.out.2.1
 have c2:=Ad c1 C2.out.1
 generalize Bh x.wher k=z at *
 obtain ⟨zk,zi⟩:=z
 have C3:=hid (C2.out.alloc (.cells #[.int .i64 zk,.int .i64 zi] 48))
 have D3:=hid (Blk.newn w2 48 #[.int .i64 zk,.int .i64 zi] (n:=w2.heap.size) rfl)
 have e1:=Ey zk zi 0 r
 have e2:=Ey zk zi 1 (i:Int)
 cases h1:decide ((⟨zk,zi⟩:Pl)=⟨0,r⟩)
 all_goals
  cases h2:decide ((⟨zk,zi⟩:Pl)=⟨1,(i:Int)⟩)
  all_goals
   rw [h1] at e1 HN
   rw [h2] at e2 HN
   clear h1 h2
   go_wp2_with fail
   clear hc2 hl2
   generalize w2.alloc (.cells #[.int .i64 zk,.int .i64 zi] 48)=V at *
   have hlc:=C3.out.2.1
   have hld:=D3.out.lt
   have c3:=Ad c1 C3.out.1
   have KS:Hid (∀w',Below V.heap.size V w'→Below V.heap.size V w'∧(∀j,w'.cell? ⟨w.heap.size,j,none⟩=((wC x ⟨pd,some ⟨b,o,none⟩,pac,pk,pkc,pw,pwc⟩)[j]?:Option Value))∧(∀j,w'.cell? ⟨w2.heap.size,j,none⟩=(#[.int .i64 zk,.int .i64 zi][j]?:Option Value))∧w'.cell? ⟨b,o+i,none⟩=some (.int .i64 r)) :=
    hid (fun w' hb=>⟨hb,(C3.out.call hb).2.2,(D3.out.call hb).cell,Ad c3 hb⟩)
   clear c2 c3
   refine tkS (S:=(fun w'=>Below V.heap.size V w'∧(∀j,w'.cell? ⟨w.heap.size,j,none⟩=((wC x ⟨pd,some ⟨b,o,none⟩,pac,pk,pkc,pw,pwc⟩)[j]?:Option Value))∧(∀j,w'.cell? ⟨w2.heap.size,j,none⟩=(#[.int .i64 zk,.int .i64 zi][j]?:Option Value))∧w'.cell? ⟨b,o+i,none⟩=some (.int .i64 r))) (by (with_reducible exact KS.out _ (Af (Below.refl _ _)))) (fun hHeld=>?_)
   refine tkl [0,1,2,3,4,5,6,7,8,9,10] ?_
   iterate 11
    first|refine tW ?_|refine tN ?_
    try go_frame
   first
    | (refine tkN 11 ?_;try go_frame)
    | (refine rdy1 11 (fun K hK=>?_)
       go_simp;refine (Al0 i _).mono ?_;rintro e w9 ⟨rfl,hb9⟩;try go_wp2_with fail
       refine hK.out _ _ (by (with_reducible exact KS.out _ (Aa hHeld.1 hHeld.1.size hb9))) (fun hHeld=>?_)
       clear hK K
       try go_frame)
   refine tkl [12,13,14] ?_
   iterate 3
    first|refine tW ?_|refine tN ?_
    try go_frame
   refine tkD ?_
   have BZ:=hid (Aa C3.out.1 C3.out.1.size hHeld.1)
   clear hHeld
   go_wp2_with fail
   go_ret
   exact ⟨by rw [HN.out];rfl,BZ.out⟩
end
section
def Eu (W:World) (v:Value) (P:Prop) (B:Bool) (err:Int):Prop :=
 ∃F fs,v=.agg #[.func (.func F) #[] fs,.int .i64 err]∧(∀(args:Array Value) (w:World),(callFunc F args).run prog w=.ok (.enter F args) w) ∧
  (P→∀W',Below W.heap.size W W'→Calls prog F fs W' fun e w'=>e=.returned (.bool B)∧Below W'.heap.size W' w')
theorem Eu.call {W W1:World} {v:Value} {P:Prop} {B:Bool} {err:Int} (h:Eu W v P B err) (hb:Below W.heap.size W W1):Eu W1 v P B err:=by
 obtain ⟨F,fs,h1,h2,h3⟩:=h
 exact ⟨F,fs,h1,h2,fun hp W' hb'=>h3 hp W' (hb.trans (hb'.mono hb.size))⟩
section
variable (x:Wd) (p:Wp) (n:Nat) (w:World) (hc:∀j,w.cell? ⟨n,j,none⟩=((wC x p)[j]?:Option Value)) (hl:n+1<w.heap.size)
include hc hl
theorem Bl5 (k:Int) (c1:w.cell? ⟨n+1,0,none⟩=some (.int .i64 k)):Calls prog 108 #[.pointer (some ⟨n,0,none⟩),.pointer (some ⟨n+1,0,none⟩)] w fun e w'=>e=.returned (.bool (!inB k x.wher.length))∧Below w.heap.size w w':=by
 have hl0:n<w.heap.size:=Nat.lt_of_succ_lt hl
 have hWC:=@wC.eq_1
 go_enter func108,ntmps108
 go_wp2_with fail
 refine (Aw2 x p k _).mono ?_
 rintro e w1 ⟨rfl,b1⟩
 have B1:=hid b1
 clear b1
 cases hb:inB k x.wher.length
 all_goals
  go_wp2_with fail
  go_ret
  exact ⟨Ag (by first|rfl|(rw [hb];rfl)),B1.out⟩
theorem Dv1 (hx:Ai x=true) (h:Ab w p x) (i:Nat) (hi:i<x.at_.length) (k:Nat) (hk:k<x.wher.length) (hl2:n+2<w.heap.size) (c1:w.cell? ⟨n+1,0,none⟩=some (.int .i64 (i:Int))) (c2:w.cell? ⟨n+2,0,none⟩=some (.int .i64 (k:Int))):Calls prog 111 #[.pointer (some ⟨n,0,none⟩),.pointer (some ⟨n+1,0,none⟩),.pointer (some ⟨n+2,0,none⟩)] w fun e w'=>e=.returned (.bool (!De x i k))∧Below w.heap.size w w':=by
 have hl0:n<w.heap.size:=Nat.lt_of_succ_lt hl
 have H:=hid h
 have HX:=hid hx
 clear h hx
 have hWC:=@wC.eq_1
 go_enter func111,ntmps111
 go_wp2_with fail
 refine (Dc7 x p i k _ HX.out H.out hi hk).mono ?_
 rintro e w1 ⟨rfl,b1⟩
 have B1:=hid b1
 clear b1
 cases hb:De x i k
 all_goals
  go_wp2_with fail
  go_ret
  exact ⟨Ag (by first|rfl|(rw [hb];rfl)),B1.out⟩
theorem Cw1 (hT:Tr x.wher) (h:Au w p.wh x.wher) (k c:Nat) (hk:c<x.wher.length) (hl2:n+2<w.heap.size) (c1:w.cell? ⟨n+1,0,none⟩=some (.int .i64 (k:Int))) (c2:w.cell? ⟨n+2,0,none⟩=some (.int .i64 (c:Int))):Calls prog 114 #[.pointer (some ⟨n,0,none⟩),.pointer (some ⟨n+2,0,none⟩),.pointer (some ⟨n+1,0,none⟩)] w fun e w'=>e=.returned (.bool (wB x.wher c k))∧Below w.heap.size w w':=by
 have hl0:n<w.heap.size:=Nat.lt_of_succ_lt hl
 have H:=hid h
 have HT:=hid hT
 clear h hT
 have hWC:=@wC.eq_1
 go_enter func114,ntmps114
 go_wp2_with fail
 refine (Cv x p HT.out c k hk _ H.out).mono ?_
 rintro e w1 ⟨rfl,b1⟩
 have B1:=hid b1
 clear b1
 go_wp2_with fail
 go_ret
 exact ⟨Ag (by first|rfl|(rw [hb];rfl)),B1.out⟩
theorem Cw2 (hx:Ai x=true) (h:Au w p.wh x.wher) (q:Nat) (g:Int) (hq:q<3) (c1:w.cell? ⟨n+1,0,none⟩=some (.int .i64 (q:Int))) (c2:w.cell? ⟨n+1,1,none⟩=some (.int .i64 g)):Calls prog 119 #[.pointer (some ⟨n,0,none⟩),.pointer (some ⟨n+1,0,none⟩)] w fun e w'=>e=.returned (.bool (decide (roomI x ⟨(q:Int),g⟩<1)))∧Below w.heap.size w w':=by
 have hl0:n<w.heap.size:=Nat.lt_of_succ_lt hl
 have H:=hid h
 have HX:=hid hx
 clear h hx
 obtain ⟨r,hr⟩:∃r,r=roomI x ⟨(q:Int),g⟩:=⟨_,rfl⟩
 rw [←hr]
 have HR:=hid (show Cb x.d q-(x.wher.count ⟨q,g⟩:Nat)=r from hr.symm)
 clear hr
 have hWC:=@wC.eq_1
 go_enter func119,ntmps119
 go_wp2_with fail
 refine (Lp x p q g hq (Yh HX.out hq) _ H.out (by have:=(Aj HX.out).2.2.2.1;omega)).mono ?_
 rintro e w1 ⟨rfl,b1⟩
 rw [HR.out]
 have B1:=hid b1
 clear b1
 by_cases hb:r<1
 all_goals
  go_wp2_with fail
  go_ret
  exact ⟨Ag (by simp [hb]),B1.out⟩
theorem Cw3 (hT:Tr x.wher) (h:Au w p.wh x.wher) (k c:Nat) (hk:k<x.wher.length) (hc2:c<x.wher.length) (hl2:n+2<w.heap.size) (c1:w.cell? ⟨n+1,0,none⟩=some (.int .i64 (k:Int))) (c2:w.cell? ⟨n+2,0,none⟩=some (.int .i64 (c:Int))):Calls prog 116 #[.pointer (some ⟨n,0,none⟩),.pointer (some ⟨n+2,0,none⟩),.pointer (some ⟨n+1,0,none⟩)] w fun e w'=>e=.returned (.bool (decide (4<dep x.wher c+1+hgt x.wher k)))∧Below w.heap.size w w':=by
 have hl0:n<w.heap.size:=Nat.lt_of_succ_lt hl
 have H:=hid h
 have HT:=hid hT
 have hd4:=hT.dep4 hc2
 have hh4:=hT.sum4 hk
 clear h hT
 have hWC:=@wC.eq_1
 go_enter func116,ntmps116
 go_wp2_with fail
 have w1:IntKind.i64.wrap ((dep x.wher c:Int)+1)=(dep x.wher c:Int)+1:=IntWalk.i64_in _ (by omega)
 have w2:IntKind.i64.wrap ((dep x.wher c:Int)+1+(hgt x.wher k:Int))=(dep x.wher c:Int)+1+(hgt x.wher k:Int):=IntWalk.i64_in _ (by omega)
 refine tkS (S:=(fun w'=>Below w.heap.size w w'∧(∀j,w'.cell? ⟨n,j,none⟩=((wC x p)[j]?:Option Value))∧w'.cell? ⟨n+1,0,none⟩=some (.int .i64 (k:Int))∧w'.cell? ⟨n+2,0,none⟩=some (.int .i64 (c:Int)))) (by (exact ⟨Af (Below.refl _ _),hc,c1,c2⟩)) (fun hHeld=>?_)
 refine tkl [0,1,4,5] ?_
 iterate 4
  first|refine tW ?_|refine tN ?_
  try go_frame
 refine rdy1 2 (fun K hK=>?_)
 go_simp;refine (Cr x p HT.out c hc2 _ (H.out.below hHeld.1 (Nat.le_refl _))).mono ?_;rintro e w9 ⟨rfl,hb9⟩;try go_wp2_with fail
 refine hK.out _ _ (by (with_reducible exact ⟨bl hHeld.1 hb9,fun j=>(hb9.cell (p:=⟨n,j,none⟩) (Nat.lt_of_lt_of_le hl0 hHeld.1.size)).trans (hHeld.2.1 j),Ad hHeld.2.2.1 hb9,Ad hHeld.2.2.2 hb9⟩)) (fun hHeld=>?_)
 clear hK K
 try go_frame
 refine tkl [3] ?_
 iterate 1
  first|refine tW ?_|refine tN ?_
  try go_frame
 refine rdy1 6 (fun K hK=>?_)
 go_simp;refine (Ip x p HT.out k hk _ (H.out.below hHeld.1 (Nat.le_refl _))).mono ?_;rintro e w9 ⟨rfl,hb9⟩;try go_wp2_with fail
 refine hK.out _ _ (by (with_reducible exact ⟨bl hHeld.1 hb9,fun j=>(hb9.cell (p:=⟨n,j,none⟩) (Nat.lt_of_lt_of_le hl0 hHeld.1.size)).trans (hHeld.2.1 j),Ad hHeld.2.2.1 hb9,Ad hHeld.2.2.2 hb9⟩)) (fun hHeld=>?_)
 clear hK K
 try go_frame
 refine tkl [7,8,9] ?_
 iterate 3
  first|refine tW ?_|refine tN ?_
  try go_frame
 refine tkD ?_
 have BZ:=hid hHeld.1
 clear hHeld
 go_wp2_with fail
 go_ret
 exact ⟨Ag (by rw [←decide_eq_decide.2 (show (4:Int)<(dep x.wher c:Int)+1+(hgt x.wher k:Int)↔4<dep x.wher c+1+hgt x.wher k by omega)]),BZ.out⟩
end
end
section
theorem Au2 (x:Wd) (p:Wp) (n:Nat) (w:World) (hc:∀j,w.cell? ⟨n,j,none⟩=((wC x p)[j]?:Option Value)) (hl:n+2<w.heap.size) (h:Au w p.wh x.wher) (k:Nat) (hk:k<x.wher.length) (zk zi:Int) (c1:w.cell? ⟨n+1,0,none⟩=some (.int .i64 (k:Int))) (d1:∀j,w.cell? ⟨n+2,j,none⟩=(#[.int .i64 zk,.int .i64 zi][j]?:Option Value)):Calls prog 110 #[.pointer (some ⟨n,0,none⟩),.pointer (some ⟨n+1,0,none⟩),.pointer (some ⟨n+2,0,none⟩)] w fun e w'=>e=.returned (.bool (!decide (plOf x.wher k=⟨zk,zi⟩)))∧Below w.heap.size w w':=by
 have hl0:n<w.heap.size:=by omega
 have hl1:n+1<w.heap.size:=by omega
 have hlen:=h.len
 obtain ⟨b,o,ea,hb,a0,a1⟩:=Au.cells h hk
 rw [←Bo hk] at a0 a1
 obtain ⟨pd,pa,pac,pk,pkc,pw,pwc⟩:=p
 simp only at ea
 subst ea
 generalize plOf x.wher k=y at *
 obtain ⟨yk,yi⟩:=y
 simp only at a0 a1
 have hr:=Kj yk yi zk zi
 cases h1:(decide ((⟨yk,yi⟩:Pl)=⟨zk,zi⟩))
 all_goals
  rw [h1] at hr
  clear h h1
  have hWC:=@wC.eq_1
  go_enter func110,ntmps110
  go_wp2_with fail
  refine tkS (S:=(fun w'=>Below w.heap.size w w'∧(∀j,w'.cell? ⟨n,j,none⟩=((wC x ⟨pd,pa,pac,pk,pkc,some ⟨b,o,none⟩,pwc⟩)[j]?:Option Value))∧w'.cell? ⟨n+1,0,none⟩=some (.int .i64 (k:Int))∧(∀j,w'.cell? ⟨n+2,j,none⟩=(#[.int .i64 zk,.int .i64 zi][j]?:Option Value))∧w'.cell? ⟨b,o+k*2,none⟩=some (.int .i64 yk)∧w'.cell? ⟨b,o+k*2+1,none⟩=some (.int .i64 yi))) (by (exact ⟨Af (Below.refl _ _),hc,c1,d1,a0,a1⟩)) (fun hHeld=>?_)
  refine tkl [0,1,2,3,4,5,6,7] ?_
  iterate 8
   first|refine tW ?_|refine tN ?_
   try go_frame
  refine tkD ?_
  have BZ:=hid hHeld.1
  clear hHeld
  go_wp2_with fail
  go_ret
  exact ⟨Ag rfl,BZ.out⟩
theorem Ch1 (x:Wd) (p:Wp) (n:Nat) (w:World) (hc:∀j,w.cell? ⟨n,j,none⟩=((wC x p)[j]?:Option Value)) (hl1:n+1<w.heap.size) (h:Mr w p.d.bo x.d.boxes) (k:Nat) (hk:k<x.d.boxes.length) (c1:w.cell? ⟨n+1,0,none⟩=some (.int .i64 (k:Int))):Calls prog 113 #[.pointer (some ⟨n+1,0,none⟩),.pointer (some ⟨n,0,none⟩)] w fun e w'=>e=.returned (.bool (!x.d.boxes.getD k false))∧Below w.heap.size w w':=by
 have hl0:n<w.heap.size:=by omega
 have hlen:=h.len
 obtain ⟨b,o,ea,hb,a0⟩:=Mr.cells h hk
 rw [show x.d.boxes[k]=x.d.boxes.getD k false by simp [List.getD,List.getElem?_eq_getElem hk]] at a0
 obtain ⟨⟨px,pxc,pp,ppc,pc,pcc,pi,pic,pb,pbc⟩,pa,pac,pk,pkc,pw,pwc⟩:=p
 simp only at ea
 subst ea
 clear h
 cases hv:x.d.boxes.getD k false
 all_goals
  rw [hv] at a0
  clear hv
  have hWC:=@wC.eq_1
  go_enter func113,ntmps113
  go_wp2_with fail
  go_ret
  exact ⟨Ag (by first|rfl|(simp;omega)),Below.refl _ _⟩
theorem Wm (x:Wd) (p:Wp) (k:Int) (w:World):Calls prog 78 #[.agg (wC x p),.int .i64 k] w fun e w'=>∃v,e=.returned v∧Eu w' v (True) (!inB k x.wher.length) 3∧Below w.heap.size w w':=by
 have hsf:∀(W:World) (p:Addr) (fn:Fn) (x y:Array Value),(store p (.func fn x y)).run prog W=stored prog W p (.func fn x y) .plain:=fun W p fn x y=>run_store _ _ _ _ _ rfl
 have C:=hid (Tri.start 29 3 120 w (wC x p) #[.int .i64 k] #[.func (.func 108) #[] #[.pointer (some ⟨w.heap.size,0,none⟩),.pointer (some ⟨w.heap.size+1,0,none⟩)],.int .i64 3])
 have hWC:=@wC.eq_1
 go_enter func78,ntmps78
 go_wp2_with fail
 refine bodyPost_ret (v:=.agg #[.func (.func 108) #[] #[.pointer (some ⟨w.heap.size,0,none⟩),.pointer (some ⟨w.heap.size+1,0,none⟩)],.int .i64 3]) (by simp [results,results78,go_sem]) rfl ⟨_,rfl,⟨_,_,rfl,enters_of func108 (by kernel_rfl) rfl,fun hp W' hb=>?_⟩,C.out.b⟩
 have D:=C.out.call hb
 exact Bl5 x p w.heap.size W' D.a.cell D.m.lt k (D.m.cell 0)
theorem Ah7 (x:Wd) (p:Wp) (k:Int) (g:Pl) (w:World) (h:Ab w p x):Calls prog 79 #[.agg (wC x p),.int .i64 k,.agg #[.int .i64 g.kind,.int .i64 g.id]] w fun e w'=>∃v,e=.returned v∧Eu w' v (inB k x.wher.length=true) (!decide (plOf x.wher k.toNat=g)) 5∧Below w.heap.size w w':=by
 have hsf:∀(W:World) (p:Addr) (fn:Fn) (x y:Array Value),(store p (.func fn x y)).run prog W=stored prog W p (.func fn x y) .plain:=fun W p fn x y=>run_store _ _ _ _ _ rfl
 have C:=hid (Qua.start 29 3 48 120 w (wC x p) #[.int .i64 k] #[.int .i64 g.kind,.int .i64 g.id] #[.func (.func 110) #[] #[.pointer (some ⟨w.heap.size,0,none⟩),.pointer (some ⟨w.heap.size+1,0,none⟩),.pointer (some ⟨w.heap.size+1+1,0,none⟩)],.int .i64 5])
 have hWC:=@wC.eq_1
 go_enter func79,ntmps79
 go_wp2_with fail
 refine bodyPost_ret (v:=.agg #[.func (.func 110) #[] #[.pointer (some ⟨w.heap.size,0,none⟩),.pointer (some ⟨w.heap.size+1,0,none⟩),.pointer (some ⟨w.heap.size+1+1,0,none⟩)],.int .i64 5]) (by simp [results,results79,go_sem]) rfl ⟨_,rfl,⟨_,_,rfl,enters_of func110 (by kernel_rfl) rfl,fun hp W' hb=>?_⟩,C.out.b⟩
 have D:=C.out.call hb
 have H:=h.below D.b (Nat.le_refl _)
 have hk:=hp
 obtain ⟨k',rfl⟩:∃q:Nat,k=q:=⟨k.toNat,by have:=(Bi _ _).1 hk;omega⟩
 have lk:k'<x.wher.length:=by have:=(Bi _ _).1 hk;omega
 obtain ⟨gk,gi⟩:=g
 exact Au2 x p w.heap.size W' D.a.cell D.n.lt H.wh k' lk gk gi (D.m.cell 0) D.n.cell
theorem Dk6 (x:Wd) (p:Wp) (i:Nat) (k:Int) (w:World) (hx:Ai x=true) (h:Ab w p x) (hi:i<x.at_.length):Calls prog 81 #[.agg (wC x p),.int .i64 (i:Int),.int .i64 k] w fun e w'=>∃v,e=.returned v∧Eu w' v (inB k x.wher.length=true) (!De x i k.toNat) 5∧Below w.heap.size w w':=by
 have hsf:∀(W:World) (p:Addr) (fn:Fn) (x y:Array Value),(store p (.func fn x y)).run prog W=stored prog W p (.func fn x y) .plain:=fun W p fn x y=>run_store _ _ _ _ _ rfl
 have C:=hid (Qua.start 29 3 3 120 w (wC x p) #[.int .i64 (i:Int)] #[.int .i64 k] #[.func (.func 111) #[] #[.pointer (some ⟨w.heap.size,0,none⟩),.pointer (some ⟨w.heap.size+1,0,none⟩),.pointer (some ⟨w.heap.size+1+1,0,none⟩)],.int .i64 5])
 have hWC:=@wC.eq_1
 go_enter func81,ntmps81
 go_wp2_with fail
 refine bodyPost_ret (v:=.agg #[.func (.func 111) #[] #[.pointer (some ⟨w.heap.size,0,none⟩),.pointer (some ⟨w.heap.size+1,0,none⟩),.pointer (some ⟨w.heap.size+1+1,0,none⟩)],.int .i64 5]) (by simp [results,results81,go_sem]) rfl ⟨_,rfl,⟨_,_,rfl,enters_of func111 (by kernel_rfl) rfl,fun hp W' hb=>?_⟩,C.out.b⟩
 have D:=C.out.call hb
 have H:=h.below D.b (Nat.le_refl _)
 have hk:=hp
 obtain ⟨k',rfl⟩:∃q:Nat,k=q:=⟨k.toNat,by have:=(Bi _ _).1 hk;omega⟩
 have lk:k'<x.wher.length:=by have:=(Bi _ _).1 hk;omega
 exact Dv1 x p w.heap.size W' D.a.cell D.m.lt hx H i hi k' lk D.n.lt (D.m.cell 0) (D.n.cell 0)
theorem Bv1 (x:Wd) (p:Wp) (k:Int) (w:World) (h:Ab w p x) (hl:x.d.boxes.length=x.wher.length):Calls prog 82 #[.agg (wC x p),.int .i64 k] w fun e w'=>∃v,e=.returned v∧Eu w' v (inB k x.wher.length=true) (!x.d.boxes.getD k.toNat false) 6∧Below w.heap.size w w':=by
 have hsf:∀(W:World) (p:Addr) (fn:Fn) (x y:Array Value),(store p (.func fn x y)).run prog W=stored prog W p (.func fn x y) .plain:=fun W p fn x y=>run_store _ _ _ _ _ rfl
 have C:=hid (Tri.start 29 3 120 w (wC x p) #[.int .i64 k] #[.func (.func 113) #[] #[.pointer (some ⟨w.heap.size+1,0,none⟩),.pointer (some ⟨w.heap.size,0,none⟩)],.int .i64 6])
 have HL:=hid hl
 clear hl
 have hWC:=@wC.eq_1
 go_enter func82,ntmps82
 go_wp2_with fail
 refine bodyPost_ret (v:=.agg #[.func (.func 113) #[] #[.pointer (some ⟨w.heap.size+1,0,none⟩),.pointer (some ⟨w.heap.size,0,none⟩)],.int .i64 6]) (by simp [results,results82,go_sem]) rfl ⟨_,rfl,⟨_,_,rfl,enters_of func113 (by kernel_rfl) rfl,fun hp W' hb=>?_⟩,C.out.b⟩
 have D:=C.out.call hb
 have H:=h.below D.b (Nat.le_refl _)
 have hk:=hp
 obtain ⟨k',rfl⟩:∃q:Nat,k=q:=⟨k.toNat,by have:=(Bi _ _).1 hk;omega⟩
 have lk:k'<x.wher.length:=by have:=(Bi _ _).1 hk;omega
 exact Ch1 x p w.heap.size W' D.a.cell D.m.lt H.d.bo k' (by have:=HL.out;omega) (D.m.cell 0)
theorem Em9 (x:Wd) (p:Wp) (k c:Int) (w:World) (hT:Tr x.wher) (h:Ab w p x):Calls prog 83 #[.agg (wC x p),.int .i64 k,.int .i64 c] w fun e w'=>∃v,e=.returned v∧Eu w' v (inB k x.wher.length=true∧inB c x.wher.length=true) (wB x.wher c.toNat k.toNat) 7∧Below w.heap.size w w':=by
 have hsf:∀(W:World) (p:Addr) (fn:Fn) (x y:Array Value),(store p (.func fn x y)).run prog W=stored prog W p (.func fn x y) .plain:=fun W p fn x y=>run_store _ _ _ _ _ rfl
 have C:=hid (Qua.start 29 3 3 120 w (wC x p) #[.int .i64 k] #[.int .i64 c] #[.func (.func 114) #[] #[.pointer (some ⟨w.heap.size,0,none⟩),.pointer (some ⟨w.heap.size+1+1,0,none⟩),.pointer (some ⟨w.heap.size+1,0,none⟩)],.int .i64 7])
 have hWC:=@wC.eq_1
 go_enter func83,ntmps83
 go_wp2_with fail
 refine bodyPost_ret (v:=.agg #[.func (.func 114) #[] #[.pointer (some ⟨w.heap.size,0,none⟩),.pointer (some ⟨w.heap.size+1+1,0,none⟩),.pointer (some ⟨w.heap.size+1,0,none⟩)],.int .i64 7]) (by simp [results,results83,go_sem]) rfl ⟨_,rfl,⟨_,_,rfl,enters_of func114 (by kernel_rfl) rfl,fun hp W' hb=>?_⟩,C.out.b⟩
 have D:=C.out.call hb
 have H:=h.below D.b (Nat.le_refl _)
 obtain ⟨hk,hc⟩:=hp
 obtain ⟨k',rfl⟩:∃q:Nat,k=q:=⟨k.toNat,by have:=(Bi _ _).1 hk;omega⟩
 obtain ⟨c',rfl⟩:∃q:Nat,c=q:=⟨c.toNat,by have:=(Bi _ _).1 hc;omega⟩
 have lc:c'<x.wher.length:=by have:=(Bi _ _).1 hc;omega
 exact Cw1 x p w.heap.size W' D.a.cell D.m.lt hT H.wh k' c' lc D.n.lt (D.m.cell 0) (D.n.cell 0)
theorem Er8 (x:Wd) (p:Wp) (k c:Int) (w:World) (hT:Tr x.wher) (h:Ab w p x):Calls prog 84 #[.agg (wC x p),.int .i64 k,.int .i64 c] w fun e w'=>∃v,e=.returned v∧Eu w' v (inB k x.wher.length=true∧inB c x.wher.length=true) (decide (4<dep x.wher c.toNat+1+hgt x.wher k.toNat)) 8∧Below w.heap.size w w':=by
 have hsf:∀(W:World) (p:Addr) (fn:Fn) (x y:Array Value),(store p (.func fn x y)).run prog W=stored prog W p (.func fn x y) .plain:=fun W p fn x y=>run_store _ _ _ _ _ rfl
 have C:=hid (Qua.start 29 3 3 120 w (wC x p) #[.int .i64 k] #[.int .i64 c] #[.func (.func 116) #[] #[.pointer (some ⟨w.heap.size,0,none⟩),.pointer (some ⟨w.heap.size+1+1,0,none⟩),.pointer (some ⟨w.heap.size+1,0,none⟩)],.int .i64 8])
 have hWC:=@wC.eq_1
 go_enter func84,ntmps84
 go_wp2_with fail
 refine bodyPost_ret (v:=.agg #[.func (.func 116) #[] #[.pointer (some ⟨w.heap.size,0,none⟩),.pointer (some ⟨w.heap.size+1+1,0,none⟩),.pointer (some ⟨w.heap.size+1,0,none⟩)],.int .i64 8]) (by simp [results,results84,go_sem]) rfl ⟨_,rfl,⟨_,_,rfl,enters_of func116 (by kernel_rfl) rfl,fun hp W' hb=>?_⟩,C.out.b⟩
 have D:=C.out.call hb
 have H:=h.below D.b (Nat.le_refl _)
 obtain ⟨hk,hc⟩:=hp
 obtain ⟨k',rfl⟩:∃q:Nat,k=q:=⟨k.toNat,by have:=(Bi _ _).1 hk;omega⟩
 obtain ⟨c',rfl⟩:∃q:Nat,c=q:=⟨c.toNat,by have:=(Bi _ _).1 hc;omega⟩
 have lk:k'<x.wher.length:=by have:=(Bi _ _).1 hk;omega
 have lc:c'<x.wher.length:=by have:=(Bi _ _).1 hc;omega
 exact Cw3 x p w.heap.size W' D.a.cell D.m.lt hT H.wh k' c' lk lc D.n.lt (D.m.cell 0) (D.n.cell 0)
theorem Cp9 (x:Wd) (p:Wp) (q:Nat) (g:Int) (w:World) (hx:Ai x=true) (h:Ab w p x) (hq:q<3):Calls prog 85 #[.agg (wC x p),.agg #[.int .i64 (q:Int),.int .i64 g]] w fun e w'=>∃v,e=.returned v∧Eu w' v (True) (decide (roomI x ⟨(q:Int),g⟩<1)) 9∧Below w.heap.size w w':=by
 have hsf:∀(W:World) (p:Addr) (fn:Fn) (x y:Array Value),(store p (.func fn x y)).run prog W=stored prog W p (.func fn x y) .plain:=fun W p fn x y=>run_store _ _ _ _ _ rfl
 have C:=hid (Tri.start 29 48 120 w (wC x p) #[.int .i64 (q:Int),.int .i64 g] #[.func (.func 119) #[] #[.pointer (some ⟨w.heap.size,0,none⟩),.pointer (some ⟨w.heap.size+1,0,none⟩)],.int .i64 9])
 have hWC:=@wC.eq_1
 go_enter func85,ntmps85
 go_wp2_with fail
 refine bodyPost_ret (v:=.agg #[.func (.func 119) #[] #[.pointer (some ⟨w.heap.size,0,none⟩),.pointer (some ⟨w.heap.size+1,0,none⟩)],.int .i64 9]) (by simp [results,results85,go_sem]) rfl ⟨_,rfl,⟨_,_,rfl,enters_of func119 (by kernel_rfl) rfl,fun hp W' hb=>?_⟩,C.out.b⟩
 have D:=C.out.call hb
 have H:=h.below D.b (Nat.le_refl _)
 exact Cw2 x p w.heap.size W' D.a.cell D.m.lt hx H.wh q g hq (D.m.cell 0) (D.m.cell 1)
end
section
def Off2 (a b:Nat) (A B:Array Value) (W:World):Prop:=(∀j,W.cell? ⟨a,j,none⟩=(A[j]?:Option Value))∧(∀j,W.cell? ⟨b,j,none⟩=(B[j]?:Option Value))
theorem Off2.set {a b r:Nat} {A B:Array Value} {W:World} (ha:a≠r) (hb:b≠r) (h:Off2 a b A B W) (i:Nat) (u:Value):Off2 a b A B (W.setCell ⟨r,i,none⟩ u) :=
 ⟨fun j=>(World.cell?_setCell_far _ _ _ _ (by simpa using Ne.symm ha)).trans (h.1 j),fun j=>(World.cell?_setCell_far _ _ _ _ (by simpa using Ne.symm hb)).trans (h.2 j)⟩
theorem Off2.drew {a b:Nat} {A B:Array Value} {W:World} (h:Off2 a b A B W):Off2 a b A B W.drew:=h
theorem Cr6 {a b:Nat} {A B:Array Value} {W:World} (h:Off2 a b A B W):(∀j,W.cell? ⟨a,j,none⟩=(A[j]?:Option Value))∧(∀j,W.cell? ⟨b,j,none⟩=(B[j]?:Option Value)):=h
def Vt:List (Bool × Int)→Int
 | []=>0
 | (b,e) :: r=>if b=true then e else Vt r
theorem Bw5:∀(L:List (Bool × Int)) (j:Nat) (hj:j<L.length),(∀l (hl:l<L.length),l<j→L[l].1=false)→L[j].1=true→Vt L=L[j].2
 | (b,e) :: r,0,_,_,h=>by simp only [List.getElem_cons_zero] at h ⊢;simp [Vt,h]
 | (b,e) :: r,j+1,hj,h0,h=>by
   have hb:b=false:=h0 0 (by simp) (by omega)
   simp only [List.getElem_cons_succ] at h ⊢
   simp only [Vt,hb,Bool.false_eq_true,if_false]
   exact Bw5 r j _ (fun l hl hlj=>by have:=h0 (l+1) (by simp;omega) (by omega);simpa using this) h
theorem Aw0:∀(L:List (Bool × Int)),(∀l (hl:l<L.length),L[l].1=false)→Vt L=0
 | [],_=>rfl
 | (b,e) :: r,h0=>by
   have hb:b=false:=h0 0 (by simp)
   simp only [Vt,hb,Bool.false_eq_true,if_false]
   exact Aw0 r (fun l hl=>by have:=h0 (l+1) (by simp;omega);simpa using this)
def Ur (x:Wd) (item:Int) (g:Pl) (L:List (Bool × Int)):Wd × Int:=if Vt L=0 then (putW x item.toNat g,0) else (x,Vt L)
def RowF (W:World) (bs:Nat) (L:List (Bool × Int)):Prop :=
 ∀j (hj:j<L.length),∃f,Eu W (.agg #[f,.int .i64 L[j].2]) (∀l (hl:l<L.length),l<j→L[l].1=false) L[j].1 L[j].2∧W.cell? ⟨bs,j*2,none⟩=some f∧W.cell? ⟨bs,j*2+1,none⟩=some (.int .i64 L[j].2)
theorem RowF.get {W W1:World} {bs:Nat} {L:List (Bool × Int)} (h:RowF W bs L) (hb:Below W.heap.size W W1) {j:Nat} (hj:j<L.length) (h0:∀l (hl:l<L.length),l<j→L[l].1=false) :
 ∃F fs,(∀(args:Array Value) (w:World),(callFunc F args).run prog w=.ok (.enter F args) w)∧W1.cell? ⟨bs,j*2,none⟩=some (.func (.func F) #[] fs)∧W1.cell? ⟨bs,j*2+1,none⟩=some (.int .i64 L[j].2)∧∀W',Below W1.heap.size W1 W'→Calls prog F fs W' fun e w'=>e=.returned (.bool L[j].1)∧Below W'.heap.size W' w':=by
 obtain ⟨f,hf,c0,c1⟩:=h j hj
 obtain ⟨F,fs,e,h1,h2⟩:=hf.call hb
 have e1:f=.func (.func F) #[] fs:=by simpa using e
 subst e1
 exact ⟨F,fs,h1,Ad c0 hb,Ad c1 hb,h2 h0⟩
theorem Bm0 (x:Wd) (p:Wp) (item:Int) (g:Pl) (bs:Nat) (cap:Nat) (L:List (Bool × Int)) (w:World) (hx:Ai x=true) (h:Ab w p x) (hL:L.length≤100) (hbs:bs<w.heap.size) (hr:RowF w bs L) (hne:∀j (hj:j<L.length),¬L[j].2=0) (hto:(∀l (hl:l<L.length),L[l].1=false)→∃k:Nat,item=k∧k<x.wher.length) :
 Calls prog 77 #[.agg (wC x p),.int .i64 item,.agg #[.int .i64 g.kind,.int .i64 g.id],.slice (some ⟨bs,0,none⟩) L.length cap] w fun e w'=>∃q:Wp,e=.returned (.tuple #[.agg (wC x q),.int .i64 (Ur x item g L).2])∧Took w.heap.size w' p q x (Ur x item g L)∧Below w.heap.size w w':=by
 have C0:=hid (Tri.start 29 48 29 w (wC x p) #[.int .i64 g.kind,.int .i64 g.id] zC)
 have H:=hid h
 have HX:=hid hx
 have HR:=hid hr
 have HNE:=hid hne
 have HTO:=hid hto
 obtain ⟨N,hN⟩:∃N,N=L.length:=⟨_,rfl⟩
 rw [←hN] at hL
 have HN:=hid hN
 clear h hx hr hne hto
 have hsf:∀(W:World) (p:Addr) (fn:Fn) (x y:Array Value),(store p (.func fn x y)).run prog W=stored prog W p (.func fn x y) .plain:=fun W p fn x y=>run_store _ _ _ _ _ rfl
 have hWC:=@wC.eq_1
 have hZC:=@zC.eq_1
 go_enter func77,ntmps77
 go_wp2_with fail
 go_loopw [14] (fun n wr=>∃j:Nat,j≤L.length∧n=.int .i64 j∧(∀l (hl:l<L.length),l<j→L[l].1=false)∧Tri 29 48 29 w wr (wC x p) #[.int .i64 g.kind,.int .i64 g.id] zC) (fun n _=>L.length-(intOf n).toNat)
 case atStart=>exact ⟨0,by omega,rfl,fun l hl h=>by omega,C0.out⟩
 case round =>
  obtain ⟨j,hj,rfl,hall,hT⟩:=hrel
  have HA:=hid hall
  have HT:=hid hT
  have hca:=hT.a.cell
  have hla:=hT.a.lt
  clear hall hT
  by_cases hjl:j<L.length
  ·obtain ⟨F,fs,he,c0,c1,hc⟩:=HR.out.get HT.out.b hjl HA.out
   have HC:=hid hc
   have hbw:bs<wr.heap.size:=by have:=HT.out.b.size;omega
   generalize hev:L[j].2=ev at *
   clear hc
   have D1:=hid (Blk.newn wr 120 #[.func (.func F) #[] fs,.int .i64 ev] (n:=wr.heap.size) rfl)
   have B1:=hid ((Below.refl wr.heap.size wr).alloc (Nat.le_refl _) (.cells #[.func (.func F) #[] fs,.int .i64 ev] 120))
   go_wp2_with fail
   refine (HC.out _ B1.out).mono ?_
   rintro e w2 ⟨rfl,b2⟩
   have D2:=hid (D1.out.call b2)
   have C2:=hid ((HT.out.call B1.out).call b2)
   clear b2 hca hla c0 c1 he hsf
   cases hv:L[j].1
   ·have HV:=hid hv
    clear hv
    go_wp2_with fail
    go_roundw
    case rel =>
     refine ⟨j+1,by omega,by go_num,fun l hl hlj=>?_,C2.out⟩
     by_cases e:l=j
     ·subst e;exact HV.out
     ·exact HA.out l hl (by omega)
    case measure=>simp [intOf];omega
   ·have HE:=hid (show Ur x item g L=(x,ev) by have e:=Bw5 L j hjl HA.out hv;have h:=HNE.out j hjl;rw [hev] at e h;unfold Ur;rw [e,if_neg h])
    have HNZ:=hid (show ¬ev=0 by have h:=HNE.out j hjl;rw [hev] at h;exact h)
    clear hv
    have O3:=hid (show Off2 w.heap.size wr.heap.size (wC x p) #[.func (.func F) #[] fs,.int .i64 ev] w2 from ⟨C2.out.a.cell,D2.out.cell⟩)
    have n1:w.heap.size≠w.heap.size+1+1:=by omega
    have n2:wr.heap.size≠w.heap.size+1+1:=by have:=HT.out.size;omega
    have n3:w.heap.size+1+1≠wr.heap.size:=by omega
    have hca:=C2.out.a.cell
    have hla:=C2.out.a.lt
    have hcd:=D2.out.cell
    have hld:=D2.out.lt
    go_wp2_with fail
    refine tkS (S:=(fun w'=>(∀j,w'.cell? ⟨w.heap.size,j,none⟩=((wC x p)[j]?:Option Value))∧(∀j,w'.cell? ⟨wr.heap.size,j,none⟩=(#[.func (.func F) #[] fs,.int .i64 ev][j]?:Option Value)))) (by (exact ⟨hca,hcd⟩)) (fun hHeld=>?_)
    clear hca hla hcd hld
    have hcr:∀i,World.cell? w2 ⟨w.heap.size+1+1,i,none⟩=_:=C2.out.r.cell
    have hzr:∀i,World.frozen? w2 ⟨w.heap.size+1+1,i,none⟩=false:=C2.out.r.frozen
    have hlr:w.heap.size+1+1<w2.heap.size:=C2.out.r.lt
    refine tkl [0,1,2] ?_
    iterate 3
     refine tW ?_
     try go_frame
    refine rdy1 3 (fun K hK=>?_)
    go_simp
    try go_wp2_with fail
    refine hK.out _ _ (by (refine Cr6 (a:=w.heap.size) (b:=wr.heap.size) (A:=(wC x p)) (B:=#[.func (.func F) #[] fs,.int .i64 ev]) ?_;(with_reducible refine Off2.drew ?_);(iterate 11 with_reducible refine Off2.set n1 n2 ?_ _ _);with_reducible exact O3.out)) (fun hHeld=>?_)
    clear hK K
    try go_frame
    refine tkl [4] (tW ?_)
    try go_frame
    refine tkD ?_
    go_wp2_with fail
    rw [HE.out]
    refine bodyPost_ret (v:=.tuple #[.agg (wC x p),.int .i64 ev]) (by simp [results,results77,go_sem,hcr]) rfl ⟨p,rfl,.inl ⟨HNZ.out,rfl,rfl⟩,?_⟩
    refine Af ?_
    iterate 11 refine bs_2 ?_
    exact C2.out.b
  ·have hall:∀l (hl:l<L.length),L[l].1=false:=fun l hl=>HA.out l hl (by omega)
   obtain ⟨k,rfl,hk⟩:=HTO.out hall
   have HE:=hid (show Ur x (k:Int) g L=(putW x k g,0) by unfold Ur;rw [Aw0 L hall,if_pos rfl];rfl)
   clear hall
   have hcm:=HT.out.m.cell
   have hlm:=HT.out.m.lt
   go_wp2_with fail
   refine (Bm2 x p k g _ (H.out.below HT.out.b (Nat.le_refl _)) (Ci HX.out) hk).mono ?_
   rintro e w4 ⟨⟨qd,qa,qac,qk,qkc,qw,qwc⟩,rfl,ho,b4⟩
   have C4:=hid (HT.out.call b4)
   have HO:=hid (ho.less HT.out.size)
   clear b4 ho hca hla hcm hlm
   obtain ⟨hcr,hzr,hlr⟩:=C4.out.rr
   go_wp2_with fail
   rw [HE.out]
   refine bodyPost_ret (v:=.tuple #[.agg (wC x ⟨qd,qa,qac,qk,qkc,qw,qwc⟩),.int .i64 0]) (by simp [results,results77,go_sem,hcr]) rfl ⟨⟨qd,qa,qac,qk,qkc,qw,qwc⟩,rfl,.inr ⟨rfl,?_⟩,?_⟩
   ·refine Ao.less (n:=w.heap.size+3) ?_ (by omega)
    iterate 11 refine Ao.set (q:=w.heap.size+2) ?_ (by omega) _ _
    exact HO.out
   ·iterate 11 refine bs_2 ?_
    exact C4.out.b
end
section
theorem Eu.imp {W:World} {v:Value} {P Q:Prop} {B:Bool} {err:Int} (h:Eu W v P B err) (hq:Q→P):Eu W v Q B err:=by
 obtain ⟨F,fs,h1,h2,h3⟩:=h
 exact ⟨F,fs,h1,h2,fun q=>h3 (hq q)⟩
def putL (x:Wd) (i:Nat) (item b:Int):List (Bool × Int):=[(!inB item x.wher.length,3),(!inB b x.wher.length,3),(!decide (plOf x.wher item.toNat=⟨1,(i:Int)⟩),5),(!De x i b.toNat,5),(!x.d.boxes.getD b.toNat false,6),(wB x.wher b.toNat item.toNat,7),(decide (4<dep x.wher b.toNat+1+hgt x.wher item.toNat),8),(decide (roomI x ⟨2,b⟩<1),9)]
def Jq (x:Wd) (i:Nat) (item b:Int):List (Bool × Int):=[(!inB item x.wher.length,3),(!inB b x.wher.length,3),(!De x i b.toNat,5),(!x.d.boxes.getD b.toNat false,6),(!decide (plOf x.wher item.toNat=⟨2,b⟩),5),(decide (roomI x ⟨1,(i:Int)⟩<1),9)]
theorem Ga3 {x:Wd} (h:Ai x=true) (i:Nat) (item b:Int):Ur x item ⟨2,b⟩ (putL x i item b)=boxW x i item b:=by
 unfold boxW Ur putL
 simp only [Vt]
 by_cases h1:inB item x.wher.length=true
 ·by_cases h2:inB b x.wher.length=true
  ·have hb0:=(Bi _ _).1 h2
   obtain ⟨c,rfl⟩:∃c:Nat,b=c:=⟨b.toNat,by omega⟩
   have hr:=Ab7 h c
   have e:box c=⟨2,(c:Int)⟩:=rfl
   rw [e] at hr
   have hlt:roomI x ⟨2,(c:Int)⟩<1↔roomI x ⟨2,(c:Int)⟩=0:=by omega
   simp only [h1,h2,Int.toNat_natCast,Bool.not_true,Bool.false_eq_true,if_false,or_self,hlt,e]
   by_cases h3:plOf x.wher item.toNat=⟨1,(i:Int)⟩
   ·simp only [h3,decide_true,Bool.not_true,Bool.false_eq_true,if_false,not_true,false_or]
    cases h4:De x i c
    ·simp
    ·cases h5:x.d.boxes.getD c false
     ·simp
     ·cases h6:wB x.wher c item.toNat
      ·by_cases h7:4<dep x.wher c+1+hgt x.wher item.toNat
       ·simp [h7]
       ·by_cases h8:roomI x ⟨2,(c:Int)⟩=0
        ·simp [h7,h8]
        ·simp [h7,h8]
      ·simp
   ·simp [h3]
  ·simp [h1,h2]
 ·simp [h1]
theorem Eu9 {x:Wd} (h:Ai x=true) (i:Nat) (item b:Int):Ur x item ⟨1,(i:Int)⟩ (Jq x i item b)=outW x i item b:=by
 unfold outW Ur Jq
 simp only [Vt]
 have hr:=Hz h (f:=⟨1,(i:Int)⟩) (by simp)
 have hlt:roomI x ⟨1,(i:Int)⟩<1↔roomI x ⟨1,(i:Int)⟩=0:=by omega
 by_cases h1:inB item x.wher.length=true
 ·by_cases h2:inB b x.wher.length=true
  ·have hb0:=(Bi _ _).1 h2
   obtain ⟨c,rfl⟩:∃c:Nat,b=c:=⟨b.toNat,by omega⟩
   have e:box c=⟨2,(c:Int)⟩:=rfl
   simp only [h1,h2,Int.toNat_natCast,Bool.not_true,Bool.false_eq_true,if_false,or_self,hlt,e]
   cases h4:De x i c
   ·simp
   ·cases h5:x.d.boxes.getD c false
    ·simp
    ·by_cases h3:plOf x.wher item.toNat=⟨2,(c:Int)⟩
     ·by_cases h8:roomI x ⟨1,(i:Int)⟩=0
      ·simp [h3,h8]
      ·simp [h3,h8]
     ·simp [h3]
  ·simp [h1,h2]
 ·simp [h1]
theorem Fm5 {V:World} {bs:Nat} {t:TypeId} {f0 f1 f2 f3 f4 f5 f6 f7:Value} {B0 B1 B2 B3 B4 B5 B6 B7:Bool} {P0 P1 P2 P3 P4 P5 P6 P7:Prop} (hV:Blk V bs t #[f0,.int .i64 3,f1,.int .i64 3,f2,.int .i64 5,f3,.int .i64 5,f4,.int .i64 6,f5,.int .i64 7,f6,.int .i64 8,f7,.int .i64 9]) (G0:Eu V (.agg #[f0,.int .i64 3]) P0 B0 3) (G1:Eu V (.agg #[f1,.int .i64 3]) P1 B1 3) (G2:Eu V (.agg #[f2,.int .i64 5]) P2 B2 5) (G3:Eu V (.agg #[f3,.int .i64 5]) P3 B3 5) (G4:Eu V (.agg #[f4,.int .i64 6]) P4 B4 6) (G5:Eu V (.agg #[f5,.int .i64 7]) P5 B5 7) (G6:Eu V (.agg #[f6,.int .i64 8]) P6 B6 8) (G7:Eu V (.agg #[f7,.int .i64 9]) P7 B7 9) (i0:P0) (i1:B0=false→P1) (i2:B0=false→B1=false→P2) (i3:B0=false→B1=false→B2=false→P3) (i4:B0=false→B1=false→B2=false→B3=false→P4) (i5:B0=false→B1=false→B2=false→B3=false→B4=false→P5) (i6:B0=false→B1=false→B2=false→B3=false→B4=false→B5=false→P6) (i7:B0=false→B1=false→B2=false→B3=false→B4=false→B5=false→B6=false→P7):RowF V bs [(B0,3),(B1,3),(B2,5),(B3,5),(B4,6),(B5,7),(B6,8),(B7,9)]:=by
 intro j hj
 rcases j with _|_|_|_|_|_|_|_|j
 ·exact ⟨f0,G0.imp (fun h=>i0),hV.cell 0,hV.cell 1⟩
 ·exact ⟨f1,G1.imp (fun h=>i1 (h 0 (by simp) (by omega))),hV.cell 2,hV.cell 3⟩
 ·exact ⟨f2,G2.imp (fun h=>i2 (h 0 (by simp) (by omega)) (h 1 (by simp) (by omega))),hV.cell 4,hV.cell 5⟩
 ·exact ⟨f3,G3.imp (fun h=>i3 (h 0 (by simp) (by omega)) (h 1 (by simp) (by omega)) (h 2 (by simp) (by omega))),hV.cell 6,hV.cell 7⟩
 ·exact ⟨f4,G4.imp (fun h=>i4 (h 0 (by simp) (by omega)) (h 1 (by simp) (by omega)) (h 2 (by simp) (by omega)) (h 3 (by simp) (by omega))),hV.cell 8,hV.cell 9⟩
 ·exact ⟨f5,G5.imp (fun h=>i5 (h 0 (by simp) (by omega)) (h 1 (by simp) (by omega)) (h 2 (by simp) (by omega)) (h 3 (by simp) (by omega)) (h 4 (by simp) (by omega))),hV.cell 10,hV.cell 11⟩
 ·exact ⟨f6,G6.imp (fun h=>i6 (h 0 (by simp) (by omega)) (h 1 (by simp) (by omega)) (h 2 (by simp) (by omega)) (h 3 (by simp) (by omega)) (h 4 (by simp) (by omega)) (h 5 (by simp) (by omega))),hV.cell 12,hV.cell 13⟩
 ·exact ⟨f7,G7.imp (fun h=>i7 (h 0 (by simp) (by omega)) (h 1 (by simp) (by omega)) (h 2 (by simp) (by omega)) (h 3 (by simp) (by omega)) (h 4 (by simp) (by omega)) (h 5 (by simp) (by omega)) (h 6 (by simp) (by omega))),hV.cell 14,hV.cell 15⟩
 ·simp at hj;omega
theorem Eh9 {V:World} {bs:Nat} {t:TypeId} {f0 f1 f2 f3 f4 f5:Value} {B0 B1 B2 B3 B4 B5:Bool} {P0 P1 P2 P3 P4 P5:Prop} (hV:Blk V bs t #[f0,.int .i64 3,f1,.int .i64 3,f2,.int .i64 5,f3,.int .i64 6,f4,.int .i64 5,f5,.int .i64 9]) (G0:Eu V (.agg #[f0,.int .i64 3]) P0 B0 3) (G1:Eu V (.agg #[f1,.int .i64 3]) P1 B1 3) (G2:Eu V (.agg #[f2,.int .i64 5]) P2 B2 5) (G3:Eu V (.agg #[f3,.int .i64 6]) P3 B3 6) (G4:Eu V (.agg #[f4,.int .i64 5]) P4 B4 5) (G5:Eu V (.agg #[f5,.int .i64 9]) P5 B5 9) (i0:P0) (i1:B0=false→P1) (i2:B0=false→B1=false→P2) (i3:B0=false→B1=false→B2=false→P3) (i4:B0=false→B1=false→B2=false→B3=false→P4) (i5:B0=false→B1=false→B2=false→B3=false→B4=false→P5):RowF V bs [(B0,3),(B1,3),(B2,5),(B3,6),(B4,5),(B5,9)]:=by
 intro j hj
 rcases j with _|_|_|_|_|_|j
 ·exact ⟨f0,G0.imp (fun h=>i0),hV.cell 0,hV.cell 1⟩
 ·exact ⟨f1,G1.imp (fun h=>i1 (h 0 (by simp) (by omega))),hV.cell 2,hV.cell 3⟩
 ·exact ⟨f2,G2.imp (fun h=>i2 (h 0 (by simp) (by omega)) (h 1 (by simp) (by omega))),hV.cell 4,hV.cell 5⟩
 ·exact ⟨f3,G3.imp (fun h=>i3 (h 0 (by simp) (by omega)) (h 1 (by simp) (by omega)) (h 2 (by simp) (by omega))),hV.cell 6,hV.cell 7⟩
 ·exact ⟨f4,G4.imp (fun h=>i4 (h 0 (by simp) (by omega)) (h 1 (by simp) (by omega)) (h 2 (by simp) (by omega)) (h 3 (by simp) (by omega))),hV.cell 8,hV.cell 9⟩
 ·exact ⟨f5,G5.imp (fun h=>i5 (h 0 (by simp) (by omega)) (h 1 (by simp) (by omega)) (h 2 (by simp) (by omega)) (h 3 (by simp) (by omega)) (h 4 (by simp) (by omega))),hV.cell 10,hV.cell 11⟩
 ·simp at hj;omega
theorem Wu {x:Wd} (h:Ai x=true):x.d.boxes.length=x.wher.length:=by
 have hm:=(Aj h).2.2.2.2
 have h2:=hm.2
 simp only [mayD,Iw,Bool.and_eq_true,decide_eq_true_eq] at h2
 have:=h2.2.2.2.2.1
 omega
theorem Oq {b:Bool} (h:(!b)=false):b=true:=by simpa using h
theorem Fn4 (x:Wd) (i:Nat) (item b:Int):∀j (hj:j<(putL x i item b).length),¬(putL x i item b)[j].2=0:=by
 intro j hj
 rcases j with _|_|_|_|_|_|_|_|j
 all_goals try (simp [putL];done)
 simp [putL] at hj;omega
theorem Ef9 (x:Wd) (i:Nat) (item b:Int):∀j (hj:j<(Jq x i item b).length),¬(Jq x i item b)[j].2=0:=by
 intro j hj
 rcases j with _|_|_|_|_|_|j
 all_goals try (simp [Jq];done)
 simp [Jq] at hj;omega
theorem Ak9 (x:Wd) (p:Wp) (i:Nat) (item b:Int) (w:World) (hx:Ai x=true) (h:Ab w p x) (hi:i<x.at_.length):Calls prog 48 #[.agg (wC x p),.int .i64 (i:Int),.int .i64 item,.int .i64 b] w fun e w'=>∃q:Wp,e=.returned (.tuple #[.agg (wC x q),.int .i64 (boxW x i item b).2])∧Took w.heap.size w' p q x (boxW x i item b)∧Below w.heap.size w w':=by
 have H:=hid h
 have HX:=hid hx
 have HT:=hid (Bv hx)
 have HBL:=hid (Wu hx)
 clear h hx
 have C0:=hid (Two.start 29 29 w (wC x p) zC)
 obtain ⟨y,hy⟩:∃y,y=boxW x i item b:=⟨_,rfl⟩
 have HY:=hid hy
 rw [←hy]
 clear hy
 have HNE:Hid (∀j (hj:j<(putL x i item b).length),¬(putL x i item b)[j].2=0):=hid (Fn4 x i item b)
 have HTO:Hid ((∀l (hl:l<(putL x i item b).length),(putL x i item b)[l].1=false)→∃k:Nat,item=k∧k<x.wher.length):=hid (fun h=>by have h0:=Oq (h 0 (by simp [putL]));have:=(Bi _ _).1 h0;exact ⟨item.toNat,by omega,by omega⟩)
 have hWC:=@wC.eq_1
 have hZC:=@zC.eq_1
 go_enter func48,ntmps48
 go_wp2_with fail
 refine (Bi1 b _).mono ?_
 rintro e w0 ⟨rfl,b0⟩
 have C1:=hid (C0.out.call b0)
 clear b0 C0
 go_wp2_with fail
 have B1:=hid ((Below.refl w0.heap.size w0).alloc (Nat.le_refl _) (.cells #[.int .i64 2,.int .i64 b] 48))
 have D1:=hid (Blk.newn w0 48 #[.int .i64 2,.int .i64 b] (n:=w0.heap.size) rfl)
 have C2:=hid (C1.out.call B1.out)
 generalize w0.alloc (.cells #[.int .i64 2,.int .i64 b] 48)=V0 at *
 have CD:=hid C2.out.drew
 have DD:=hid D1.out.drew
 refine tkS (S:=(fun w'=>(∀j,w'.cell? ⟨w.heap.size,j,none⟩=((wC x p)[j]?:Option Value))∧(∀j,w'.cell? ⟨w0.heap.size,j,none⟩=(#[.int .i64 2,.int .i64 b][j]?:Option Value)))) (by (with_reducible exact ⟨CD.out.a.cell,DD.out.cell⟩)) (fun hHeld=>?_)
 have CX:=hid CD.out
 have DX:=hid DD.out
 refine tkl [0,1,2,3,4,6,7,9,10,11,14,15,16,18,19,21,22,23,25,26,27,29,30] ?_
 iterate 23
  refine tW ?_
  try go_frame
 refine rdy1 5 (fun K hK=>?_)
 go_simp
 refine (Wm x p item _).mono ?_;rintro e v0 ⟨_,rfl,f0,b0⟩;obtain ⟨F0,fs0,rfl,-,-⟩:=id f0;have C_0:=hid (CX.out.call b0);have D_0:=hid (DX.out.call b0);have G0:=hid f0;clear b0 f0
 try go_wp2_with fail
 refine hK.out _ _ (by (with_reducible exact ⟨C_0.out.a.cell,D_0.out.cell⟩)) (fun hHeld=>?_)
 clear hK K
 try go_frame
 refine rdy1 8 (fun K hK=>?_)
 go_simp
 refine (Wm x p b _).mono ?_;rintro e v1 ⟨_,rfl,f1,b1⟩;obtain ⟨F1,fs1,rfl,-,-⟩:=id f1;have C_1:=hid (C_0.out.call b1);have D_1:=hid (D_0.out.call b1);replace G0:=hid (G0.out.call b1);have G1:=hid f1;clear b1 f1
 try go_wp2_with fail
 refine hK.out _ _ (by (with_reducible exact ⟨C_1.out.a.cell,D_1.out.cell⟩)) (fun hHeld=>?_)
 clear hK K
 try go_frame
 refine rdy1 12 (fun K hK=>?_)
 go_simp
 refine (Al0 (i:Int) _).mono ?_;rintro e v2 ⟨rfl,b2⟩;have C_2:=hid (C_1.out.call b2);have D_2:=hid (D_1.out.call b2);replace G0:=hid (G0.out.call b2);replace G1:=hid (G1.out.call b2);clear b2
 try go_wp2_with fail
 refine hK.out _ _ (by (with_reducible exact ⟨C_2.out.a.cell,D_2.out.cell⟩)) (fun hHeld=>?_)
 clear hK K
 try go_frame
 refine rdy1 13 (fun K hK=>?_)
 go_simp
 refine (Ah7 x p item ⟨1,(i:Int)⟩ _ (H.out.below C_2.out.b (Nat.le_refl _))).mono ?_;rintro e v3 ⟨_,rfl,f3,b3⟩;obtain ⟨F3,fs3,rfl,-,-⟩:=id f3;have C_3:=hid (C_2.out.call b3);have D_3:=hid (D_2.out.call b3);replace G0:=hid (G0.out.call b3);replace G1:=hid (G1.out.call b3);have G3:=hid f3;clear b3 f3
 try go_wp2_with fail
 refine hK.out _ _ (by (with_reducible exact ⟨C_3.out.a.cell,D_3.out.cell⟩)) (fun hHeld=>?_)
 clear hK K
 try go_frame
 refine rdy1 17 (fun K hK=>?_)
 go_simp
 refine (Dk6 x p i b _ HX.out (H.out.below C_3.out.b (Nat.le_refl _)) hi).mono ?_;rintro e v4 ⟨_,rfl,f4,b4⟩;obtain ⟨F4,fs4,rfl,-,-⟩:=id f4;have C_4:=hid (C_3.out.call b4);have D_4:=hid (D_3.out.call b4);replace G0:=hid (G0.out.call b4);replace G1:=hid (G1.out.call b4);replace G3:=hid (G3.out.call b4);have G4:=hid f4;clear b4 f4
 try go_wp2_with fail
 refine hK.out _ _ (by (with_reducible exact ⟨C_4.out.a.cell,D_4.out.cell⟩)) (fun hHeld=>?_)
 clear hK K
 try go_frame
 refine rdy1 20 (fun K hK=>?_)
 go_simp
 refine (Bv1 x p b _ (H.out.below C_4.out.b (Nat.le_refl _)) HBL.out).mono ?_;rintro e v5 ⟨_,rfl,f5,b5⟩;obtain ⟨F5,fs5,rfl,-,-⟩:=id f5;have C_5:=hid (C_4.out.call b5);have D_5:=hid (D_4.out.call b5);replace G0:=hid (G0.out.call b5);replace G1:=hid (G1.out.call b5);replace G3:=hid (G3.out.call b5);replace G4:=hid (G4.out.call b5);have G5:=hid f5;clear b5 f5
 try go_wp2_with fail
 refine hK.out _ _ (by (with_reducible exact ⟨C_5.out.a.cell,D_5.out.cell⟩)) (fun hHeld=>?_)
 clear hK K
 try go_frame
 refine rdy1 24 (fun K hK=>?_)
 go_simp
 refine (Em9 x p item b _ HT.out (H.out.below C_5.out.b (Nat.le_refl _))).mono ?_;rintro e v6 ⟨_,rfl,f6,b6⟩;obtain ⟨F6,fs6,rfl,-,-⟩:=id f6;have C_6:=hid (C_5.out.call b6);have D_6:=hid (D_5.out.call b6);replace G0:=hid (G0.out.call b6);replace G1:=hid (G1.out.call b6);replace G3:=hid (G3.out.call b6);replace G4:=hid (G4.out.call b6);replace G5:=hid (G5.out.call b6);have G6:=hid f6;clear b6 f6
 try go_wp2_with fail
 refine hK.out _ _ (by (with_reducible exact ⟨C_6.out.a.cell,D_6.out.cell⟩)) (fun hHeld=>?_)
 clear hK K
 try go_frame
 refine rdy1 28 (fun K hK=>?_)
 go_simp
 refine (Er8 x p item b _ HT.out (H.out.below C_6.out.b (Nat.le_refl _))).mono ?_;rintro e v7 ⟨_,rfl,f7,b7⟩;obtain ⟨F7,fs7,rfl,-,-⟩:=id f7;have C_7:=hid (C_6.out.call b7);have D_7:=hid (D_6.out.call b7);replace G0:=hid (G0.out.call b7);replace G1:=hid (G1.out.call b7);replace G3:=hid (G3.out.call b7);replace G4:=hid (G4.out.call b7);replace G5:=hid (G5.out.call b7);replace G6:=hid (G6.out.call b7);have G7:=hid f7;clear b7 f7
 try go_wp2_with fail
 refine hK.out _ _ (by (with_reducible exact ⟨C_7.out.a.cell,D_7.out.cell⟩)) (fun hHeld=>?_)
 clear hK K
 try go_frame
 refine rdy1 31 (fun K hK=>?_)
 go_simp
 refine (Cp9 x p 2 b _ HX.out (H.out.below C_7.out.b (Nat.le_refl _)) (by omega)).mono ?_;rintro e v8 ⟨_,rfl,f8,b8⟩;obtain ⟨F8,fs8,rfl,-,-⟩:=id f8;have C_8:=hid (C_7.out.call b8);have D_8:=hid (D_7.out.call b8);replace G0:=hid (G0.out.call b8);replace G1:=hid (G1.out.call b8);replace G3:=hid (G3.out.call b8);replace G4:=hid (G4.out.call b8);replace G5:=hid (G5.out.call b8);replace G6:=hid (G6.out.call b8);replace G7:=hid (G7.out.call b8);have G8:=hid f8;clear b8 f8
 try go_wp2_with fail
 refine hK.out _ _ (by (with_reducible exact ⟨C_8.out.a.cell,D_8.out.cell⟩)) (fun hHeld=>?_)
 clear hK K
 try go_frame
 have BB:=hid ((Below.refl v8.heap.size v8).alloc (Nat.le_refl _) (.cells #[.func (.func F0) #[] fs0,.int .i64 3,.func (.func F1) #[] fs1,.int .i64 3,.func (.func F3) #[] fs3,.int .i64 5,.func (.func F4) #[] fs4,.int .i64 5,.func (.func F5) #[] fs5,.int .i64 6,.func (.func F6) #[] fs6,.int .i64 7,.func (.func F7) #[] fs7,.int .i64 8,.func (.func F8) #[] fs8,.int .i64 9] 120))
 have BR:=hid (Blk.newn v8 120 #[.func (.func F0) #[] fs0,.int .i64 3,.func (.func F1) #[] fs1,.int .i64 3,.func (.func F3) #[] fs3,.int .i64 5,.func (.func F4) #[] fs4,.int .i64 5,.func (.func F5) #[] fs5,.int .i64 6,.func (.func F6) #[] fs6,.int .i64 7,.func (.func F7) #[] fs7,.int .i64 8,.func (.func F8) #[] fs8,.int .i64 9] (n:=v8.heap.size) rfl)
 have CB:=hid (C_8.out.call BB.out)
 have DB:=hid (D_8.out.call BB.out)
 replace G0:=hid (G0.out.call BB.out)
 replace G1:=hid (G1.out.call BB.out)
 replace G3:=hid (G3.out.call BB.out)
 replace G4:=hid (G4.out.call BB.out)
 replace G5:=hid (G5.out.call BB.out)
 replace G6:=hid (G6.out.call BB.out)
 replace G7:=hid (G7.out.call BB.out)
 replace G8:=hid (G8.out.call BB.out)
 refine rdy1 32 (fun K hK=>?_)
 go_simp
 try go_wp2_with fail
 refine hK.out _ _ (by (with_reducible exact ⟨CB.out.a.cell,DB.out.cell⟩)) (fun hHeld=>?_)
 clear hK K
 try go_frame
 have RR:=hid (Fm5 BR.out G0.out G1.out G3.out G4.out G5.out G6.out G7.out G8.out trivial (fun _=>trivial) (fun h0 _=>Oq h0) (fun _ h1 _=>Oq h1) (fun _ h1 _ _=>Oq h1) (fun h0 h1 _ _ _=>⟨Oq h0,Oq h1⟩) (fun h0 h1 _ _ _ _=>⟨Oq h0,Oq h1⟩) (fun _ _ _ _ _ _ _=>trivial))
 generalize v8.alloc (.cells #[.func (.func F0) #[] fs0,.int .i64 3,.func (.func F1) #[] fs1,.int .i64 3,.func (.func F3) #[] fs3,.int .i64 5,.func (.func F4) #[] fs4,.int .i64 5,.func (.func F5) #[] fs5,.int .i64 6,.func (.func F6) #[] fs6,.int .i64 7,.func (.func F7) #[] fs7,.int .i64 8,.func (.func F8) #[] fs8,.int .i64 9] 120)=VB at *
 refine rdy1 33 (fun K hK=>?_)
 go_simp
 refine (Bm0 x p item ⟨2,b⟩ v8.heap.size 8 (putL x i item b) _ HX.out (H.out.below CB.out.b (Nat.le_refl _)) (by simp [putL]) BR.out.lt RR.out HNE.out HTO.out).mono ?_;rintro e w9 ⟨⟨qd,qa,qac,qk,qkc,qw,qwc⟩,rfl,wn,hb9⟩;rw [Ga3 HX.out,←HY.out] at wn ⊢;have CC:=hid (CB.out.call hb9);have DC:=hid (DB.out.call hb9)
 try go_wp2_with fail
 refine hK.out _ _ (by (with_reducible exact ⟨CC.out.a.cell,DC.out.cell⟩)) (fun hHeld=>?_)
 clear hK K
 try go_frame
 have WN:=hid wn
 obtain ⟨hc2,hz2,hs2⟩:=CC.out.r.all
 have OC:=hid (show Off2 w.heap.size w0.heap.size (wC x p) #[.int .i64 2,.int .i64 b] w9 from ⟨CC.out.a.cell,DC.out.cell⟩)
 have n1:w.heap.size≠w.heap.size+1:=by omega
 have n2:w0.heap.size≠w.heap.size+1:=by have:=C1.out.r.lt;omega
 clear wn hb9
 refine tkl [34,35] ?_
 iterate 2
  refine tW ?_
  try go_frame
 refine rdy1 36 (fun K hK=>?_)
 go_simp
 try go_wp2_with fail
 refine hK.out _ _ (by (refine Cr6 (a:=w.heap.size) (b:=w0.heap.size) (A:=(wC x p)) (B:=#[.int .i64 2,.int .i64 b]) ?_;(iterate 11 with_reducible refine Off2.set n1 n2 ?_ _ _);with_reducible exact OC.out)) (fun hHeld=>?_)
 clear hK K
 try go_frame
 refine tkl [37] (tW ?_)
 try go_frame
 refine tkD ?_
 go_wp2_with fail
 refine bodyPost_ret (v:=.tuple #[.agg (wC x ⟨qd,qa,qac,qk,qkc,qw,qwc⟩),.int .i64 y.2]) (by simp [results,results48,go_sem,hc2]) rfl ⟨⟨qd,qa,qac,qk,qkc,qw,qwc⟩,rfl,?_,?_⟩
 ·refine Took.less (n:=VB.heap.size) ?_ (by have:=CB.out.r.lt;omega)
  iterate 11 refine Took.set (b:=w.heap.size+1) ?_ CB.out.r.lt _ _
  exact WN.out
 ·iterate 11 refine bs_1 ?_
  exact CC.out.b
theorem Aa0 (x:Wd) (p:Wp) (i:Nat) (item b:Int) (w:World) (hx:Ai x=true) (h:Ab w p x) (hi:i<x.at_.length):Calls prog 49 #[.agg (wC x p),.int .i64 (i:Int),.int .i64 item,.int .i64 b] w fun e w'=>∃q:Wp,e=.returned (.tuple #[.agg (wC x q),.int .i64 (outW x i item b).2])∧Took w.heap.size w' p q x (outW x i item b)∧Below w.heap.size w w':=by
 have H:=hid h
 have HX:=hid hx
 have HT:=hid (Bv hx)
 have HBL:=hid (Wu hx)
 clear h hx
 have C0:=hid (Two.start 29 29 w (wC x p) zC)
 obtain ⟨y,hy⟩:∃y,y=outW x i item b:=⟨_,rfl⟩
 have HY:=hid hy
 rw [←hy]
 clear hy
 have HNE:Hid (∀j (hj:j<(Jq x i item b).length),¬(Jq x i item b)[j].2=0):=hid (Ef9 x i item b)
 have HTO:Hid ((∀l (hl:l<(Jq x i item b).length),(Jq x i item b)[l].1=false)→∃k:Nat,item=k∧k<x.wher.length):=hid (fun h=>by have h0:=Oq (h 0 (by simp [Jq]));have:=(Bi _ _).1 h0;exact ⟨item.toNat,by omega,by omega⟩)
 have hWC:=@wC.eq_1
 have hZC:=@zC.eq_1
 go_enter func49,ntmps49
 go_wp2_with fail
 refine (Al0 (i:Int) _).mono ?_
 rintro e w0 ⟨rfl,b0⟩
 have C1:=hid (C0.out.call b0)
 clear b0 C0
 go_wp2_with fail
 have B1:=hid ((Below.refl w0.heap.size w0).alloc (Nat.le_refl _) (.cells #[.int .i64 1,.int .i64 (i:Int)] 48))
 have D1:=hid (Blk.newn w0 48 #[.int .i64 1,.int .i64 (i:Int)] (n:=w0.heap.size) rfl)
 have C2:=hid (C1.out.call B1.out)
 generalize w0.alloc (.cells #[.int .i64 1,.int .i64 (i:Int)] 48)=V0 at *
 have CD:=hid C2.out.drew
 have DD:=hid D1.out.drew
 refine tkS (S:=(fun w'=>(∀j,w'.cell? ⟨w.heap.size,j,none⟩=((wC x p)[j]?:Option Value))∧(∀j,w'.cell? ⟨w0.heap.size,j,none⟩=(#[.int .i64 1,.int .i64 (i:Int)][j]?:Option Value)))) (by (with_reducible exact ⟨CD.out.a.cell,DD.out.cell⟩)) (fun hHeld=>?_)
 have CX:=hid CD.out
 have DX:=hid DD.out
 refine tkl [0,1,2,3,4,6,7,9,10,11,13,14,16,17,18,21,22] ?_
 iterate 17
  refine tW ?_
  try go_frame
 refine rdy1 5 (fun K hK=>?_)
 go_simp
 refine (Wm x p item _).mono ?_;rintro e v0 ⟨_,rfl,f0,b0⟩;obtain ⟨F0,fs0,rfl,-,-⟩:=id f0;have C_0:=hid (CX.out.call b0);have D_0:=hid (DX.out.call b0);have G0:=hid f0;clear b0 f0
 try go_wp2_with fail
 refine hK.out _ _ (by (with_reducible exact ⟨C_0.out.a.cell,D_0.out.cell⟩)) (fun hHeld=>?_)
 clear hK K
 try go_frame
 refine rdy1 8 (fun K hK=>?_)
 go_simp
 refine (Wm x p b _).mono ?_;rintro e v1 ⟨_,rfl,f1,b1⟩;obtain ⟨F1,fs1,rfl,-,-⟩:=id f1;have C_1:=hid (C_0.out.call b1);have D_1:=hid (D_0.out.call b1);replace G0:=hid (G0.out.call b1);have G1:=hid f1;clear b1 f1
 try go_wp2_with fail
 refine hK.out _ _ (by (with_reducible exact ⟨C_1.out.a.cell,D_1.out.cell⟩)) (fun hHeld=>?_)
 clear hK K
 try go_frame
 refine rdy1 12 (fun K hK=>?_)
 go_simp
 refine (Dk6 x p i b _ HX.out (H.out.below C_1.out.b (Nat.le_refl _)) hi).mono ?_;rintro e v2 ⟨_,rfl,f2,b2⟩;obtain ⟨F2,fs2,rfl,-,-⟩:=id f2;have C_2:=hid (C_1.out.call b2);have D_2:=hid (D_1.out.call b2);replace G0:=hid (G0.out.call b2);replace G1:=hid (G1.out.call b2);have G2:=hid f2;clear b2 f2
 try go_wp2_with fail
 refine hK.out _ _ (by (with_reducible exact ⟨C_2.out.a.cell,D_2.out.cell⟩)) (fun hHeld=>?_)
 clear hK K
 try go_frame
 refine rdy1 15 (fun K hK=>?_)
 go_simp
 refine (Bv1 x p b _ (H.out.below C_2.out.b (Nat.le_refl _)) HBL.out).mono ?_;rintro e v3 ⟨_,rfl,f3,b3⟩;obtain ⟨F3,fs3,rfl,-,-⟩:=id f3;have C_3:=hid (C_2.out.call b3);have D_3:=hid (D_2.out.call b3);replace G0:=hid (G0.out.call b3);replace G1:=hid (G1.out.call b3);replace G2:=hid (G2.out.call b3);have G3:=hid f3;clear b3 f3
 try go_wp2_with fail
 refine hK.out _ _ (by (with_reducible exact ⟨C_3.out.a.cell,D_3.out.cell⟩)) (fun hHeld=>?_)
 clear hK K
 try go_frame
 refine rdy1 19 (fun K hK=>?_)
 go_simp
 refine (Bi1 b _).mono ?_;rintro e v4 ⟨rfl,b4⟩;have C_4:=hid (C_3.out.call b4);have D_4:=hid (D_3.out.call b4);replace G0:=hid (G0.out.call b4);replace G1:=hid (G1.out.call b4);replace G2:=hid (G2.out.call b4);replace G3:=hid (G3.out.call b4);clear b4
 try go_wp2_with fail
 refine hK.out _ _ (by (with_reducible exact ⟨C_4.out.a.cell,D_4.out.cell⟩)) (fun hHeld=>?_)
 clear hK K
 try go_frame
 refine rdy1 20 (fun K hK=>?_)
 go_simp
 refine (Ah7 x p item ⟨2,b⟩ _ (H.out.below C_4.out.b (Nat.le_refl _))).mono ?_;rintro e v5 ⟨_,rfl,f5,b5⟩;obtain ⟨F5,fs5,rfl,-,-⟩:=id f5;have C_5:=hid (C_4.out.call b5);have D_5:=hid (D_4.out.call b5);replace G0:=hid (G0.out.call b5);replace G1:=hid (G1.out.call b5);replace G2:=hid (G2.out.call b5);replace G3:=hid (G3.out.call b5);have G5:=hid f5;clear b5 f5
 try go_wp2_with fail
 refine hK.out _ _ (by (with_reducible exact ⟨C_5.out.a.cell,D_5.out.cell⟩)) (fun hHeld=>?_)
 clear hK K
 try go_frame
 refine rdy1 23 (fun K hK=>?_)
 go_simp
 refine (Cp9 x p 1 i _ HX.out (H.out.below C_5.out.b (Nat.le_refl _)) (by omega)).mono ?_;rintro e v6 ⟨_,rfl,f6,b6⟩;obtain ⟨F6,fs6,rfl,-,-⟩:=id f6;have C_6:=hid (C_5.out.call b6);have D_6:=hid (D_5.out.call b6);replace G0:=hid (G0.out.call b6);replace G1:=hid (G1.out.call b6);replace G2:=hid (G2.out.call b6);replace G3:=hid (G3.out.call b6);replace G5:=hid (G5.out.call b6);have G6:=hid f6;clear b6 f6
 try go_wp2_with fail
 refine hK.out _ _ (by (with_reducible exact ⟨C_6.out.a.cell,D_6.out.cell⟩)) (fun hHeld=>?_)
 clear hK K
 try go_frame
 have BB:=hid ((Below.refl v6.heap.size v6).alloc (Nat.le_refl _) (.cells #[.func (.func F0) #[] fs0,.int .i64 3,.func (.func F1) #[] fs1,.int .i64 3,.func (.func F2) #[] fs2,.int .i64 5,.func (.func F3) #[] fs3,.int .i64 6,.func (.func F5) #[] fs5,.int .i64 5,.func (.func F6) #[] fs6,.int .i64 9] 120))
 have BR:=hid (Blk.newn v6 120 #[.func (.func F0) #[] fs0,.int .i64 3,.func (.func F1) #[] fs1,.int .i64 3,.func (.func F2) #[] fs2,.int .i64 5,.func (.func F3) #[] fs3,.int .i64 6,.func (.func F5) #[] fs5,.int .i64 5,.func (.func F6) #[] fs6,.int .i64 9] (n:=v6.heap.size) rfl)
 have CB:=hid (C_6.out.call BB.out)
 have DB:=hid (D_6.out.call BB.out)
 replace G0:=hid (G0.out.call BB.out)
 replace G1:=hid (G1.out.call BB.out)
 replace G2:=hid (G2.out.call BB.out)
 replace G3:=hid (G3.out.call BB.out)
 replace G5:=hid (G5.out.call BB.out)
 replace G6:=hid (G6.out.call BB.out)
 refine rdy1 24 (fun K hK=>?_)
 go_simp
 try go_wp2_with fail
 refine hK.out _ _ (by (with_reducible exact ⟨CB.out.a.cell,DB.out.cell⟩)) (fun hHeld=>?_)
 clear hK K
 try go_frame
 have RR:=hid (Eh9 BR.out G0.out G1.out G2.out G3.out G5.out G6.out trivial (fun _=>trivial) (fun _ h1=>Oq h1) (fun _ h1 _=>Oq h1) (fun h0 _ _ _=>Oq h0) (fun _ _ _ _ _=>trivial))
 generalize v6.alloc (.cells #[.func (.func F0) #[] fs0,.int .i64 3,.func (.func F1) #[] fs1,.int .i64 3,.func (.func F2) #[] fs2,.int .i64 5,.func (.func F3) #[] fs3,.int .i64 6,.func (.func F5) #[] fs5,.int .i64 5,.func (.func F6) #[] fs6,.int .i64 9] 120)=VB at *
 refine rdy1 25 (fun K hK=>?_)
 go_simp
 refine (Bm0 x p item ⟨1,(i:Int)⟩ v6.heap.size 6 (Jq x i item b) _ HX.out (H.out.below CB.out.b (Nat.le_refl _)) (by simp [Jq]) BR.out.lt RR.out HNE.out HTO.out).mono ?_;rintro e w9 ⟨⟨qd,qa,qac,qk,qkc,qw,qwc⟩,rfl,wn,hb9⟩;rw [Eu9 HX.out,←HY.out] at wn ⊢;have CC:=hid (CB.out.call hb9);have DC:=hid (DB.out.call hb9)
 try go_wp2_with fail
 refine hK.out _ _ (by (with_reducible exact ⟨CC.out.a.cell,DC.out.cell⟩)) (fun hHeld=>?_)
 clear hK K
 try go_frame
 have WN:=hid wn
 obtain ⟨hc2,hz2,hs2⟩:=CC.out.r.all
 have OC:=hid (show Off2 w.heap.size w0.heap.size (wC x p) #[.int .i64 1,.int .i64 (i:Int)] w9 from ⟨CC.out.a.cell,DC.out.cell⟩)
 have n1:w.heap.size≠w.heap.size+1:=by omega
 have n2:w0.heap.size≠w.heap.size+1:=by have:=C1.out.r.lt;omega
 clear wn hb9
 refine tkl [26,27] ?_
 iterate 2
  refine tW ?_
  try go_frame
 refine rdy1 28 (fun K hK=>?_)
 go_simp
 try go_wp2_with fail
 refine hK.out _ _ (by (refine Cr6 (a:=w.heap.size) (b:=w0.heap.size) (A:=(wC x p)) (B:=#[.int .i64 1,.int .i64 (i:Int)]) ?_;(iterate 11 with_reducible refine Off2.set n1 n2 ?_ _ _);with_reducible exact OC.out)) (fun hHeld=>?_)
 clear hK K
 try go_frame
 refine tkl [29] (tW ?_)
 try go_frame
 refine tkD ?_
 go_wp2_with fail
 refine bodyPost_ret (v:=.tuple #[.agg (wC x ⟨qd,qa,qac,qk,qkc,qw,qwc⟩),.int .i64 y.2]) (by simp [results,results49,go_sem,hc2]) rfl ⟨⟨qd,qa,qac,qk,qkc,qw,qwc⟩,rfl,?_,?_⟩
 ·refine Took.less (n:=VB.heap.size) ?_ (by have:=CB.out.r.lt;omega)
  iterate 11 refine Took.set (b:=w.heap.size+1) ?_ CB.out.r.lt _ _
  exact WN.out
 ·iterate 11 refine bs_1 ?_
  exact CC.out.b
end
end Go.Proofs.YtnhkojpbbdaedaaGreat
