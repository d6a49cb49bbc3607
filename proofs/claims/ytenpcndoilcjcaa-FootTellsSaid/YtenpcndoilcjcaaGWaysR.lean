/- The document's own answers: who goes, and is pushed. -/
import Derived.Test.YtenpcndoilcjcaaGWaysC
namespace Go.Proofs.Ytenpcndoilcjcaa
open Go.ChangeShapes Go.WideShapes Go.ChangeAt Go.RowKit Go.Proofs.Try
open Lib (hid)
set_option linter.unusedVariables false
set_option maxRecDepth 100000
section
def Du (n:Nat) (W:World) (p q:Wp) (x:Wd) (R:Wd × Int × Int):Prop:=(¬R.2.2=0∧R.1=x∧q=p)∨(R.2.2=0∧R.1.d=x.d∧Cc n W p.d q R.1)
theorem Du.call {n:Nat} {W W':World} {p q:Wp} {x:Wd} {R:Wd × Int × Int} (h:Du n W p q x R) (hb:Below W.heap.size W W'):Du n W' p q x R:=h.imp id (fun ⟨h1,h2,h3⟩=>⟨h1,h2,h3.call hb⟩)
theorem Du.set {n:Nat} {W:World} {p q:Wp} {x:Wd} {R:Wd × Int × Int} (h:Du n W p q x R) {b:Nat} (hb:b<n) (i:Nat) (u:Value):Du n (W.setCell ⟨b,i,none⟩ u) p q x R:=h.imp id (fun ⟨h1,h2,h3⟩=>⟨h1,h2,h3.set hb i u⟩)
theorem Du.less {n m:Nat} {W:World} {p q:Wp} {x:Wd} {R:Wd × Int × Int} (h:Du n W p q x R) (hm:m≤n):Du m W p q x R:=h.imp id (fun ⟨h1,h2,h3⟩=>⟨h1,h2,h3.less hm⟩)
theorem Du.world {w W:World} {p q:Wp} {x:Wd} {R:Wd × Int × Int} (h:Du w.heap.size W p q x R) (hw:Ab w p x) (hb:Below w.heap.size w W):Ab W q R.1:=by
 rcases h with ⟨_,h1,h2⟩|⟨_,h1,h2⟩
 ·rw [h1,h2];exact hw.call hb
 ·exact h2.new.world (by rw [h1];exact hw.d) hb
theorem Ds4 (x:Wd) (e f xc:Nat) (pp pc pi pb:Option Addr) (ppc pcc pic pbc:Nat) (b o pac:Nat) (pk pw:Option Addr) (pkc pwc:Nat) (k d:Nat) (hd:d<4) (w:World) (hx:Ai x=true) (h:Ab w ⟨⟨some ⟨e,f,none⟩,xc,pp,ppc,pc,pcc,pi,pic,pb,pbc⟩,some ⟨b,o,none⟩,pac,pk,pkc,pw,pwc⟩ x) (hk:k<x.at_.length) (c0:w.cell? ⟨b,o+k,none⟩=some (.int .i64 (Ah x k:Int))) (c1:w.cell? ⟨e,f+Ah x k*4+d,none⟩=some (.int .i64 (-1))):Calls prog 49 #[.agg (wC x ⟨⟨some ⟨e,f,none⟩,xc,pp,ppc,pc,pcc,pi,pic,pb,pbc⟩,some ⟨b,o,none⟩,pac,pk,pkc,pw,pwc⟩),.int .i64 (k:Int),.int .i64 (d:Int)] w fun e' w'=>e'=.returned (.tuple #[.agg (wC x ⟨⟨some ⟨e,f,none⟩,xc,pp,ppc,pc,pcc,pi,pic,pb,pbc⟩,some ⟨b,o,none⟩,pac,pk,pkc,pw,pwc⟩),.int .i64 0,.int .i64 4])∧Below w.heap.size w w':=by
 have C0:=hid (Two.start 29 29 w (wC x ⟨⟨some ⟨e,f,none⟩,xc,pp,ppc,pc,pcc,pi,pic,pb,pbc⟩,some ⟨b,o,none⟩,pac,pk,pkc,pw,pwc⟩) zC)
 have hrl:=(Bn hx hk).2
 have hlen:=h.at_.len
 have hlen2:=h.d.ex.len
 have hd2:(d:Int)<4:=by omega
 clear hx h
 have D0:=hid (Ad c0 C0.out.b)
 have D1:=hid (Ad c1 C0.out.b)
 clear c0 c1
 have hWC:=@wC.eq_1
 have hZC:=@zC.eq_1
 go_enter func49,ntmps49
 go_wp2_with fail
 refine tkS (S:=(fun w'=>Two 29 29 w w' (wC x ⟨⟨some ⟨e,f,none⟩,xc,pp,ppc,pc,pcc,pi,pic,pb,pbc⟩,some ⟨b,o,none⟩,pac,pk,pkc,pw,pwc⟩) zC∧(∀j,w'.cell? ⟨w.heap.size,j,none⟩=((wC x ⟨⟨some ⟨e,f,none⟩,xc,pp,ppc,pc,pcc,pi,pic,pb,pbc⟩,some ⟨b,o,none⟩,pac,pk,pkc,pw,pwc⟩)[j]?:Option Value))∧w'.cell? ⟨b,o+k,none⟩=some (.int .i64 (Ah x k:Int))∧w'.cell? ⟨e,f+Ah x k*4+d,none⟩=some (.int .i64 (-1)))) (by (first|(exact ⟨C0.out.drew,C0.out.drew.a.cell,D0.out,D1.out⟩))) (fun hHeld=>?_)
 refine tkl [0,1,2,3,4,5,6,7,8,9,10,11,12] ?_
 iterate 13
  first|refine tW ?_|refine tN ?_
  try go_frame
 refine tkD ?_
 have D2:=hid hHeld.1
 clear hHeld
 have hc1:=D2.out.a.cell
 have hl1:=D2.out.a.lt
 obtain ⟨hc2,hz2,hs2⟩:=D2.out.r.all
 go_wp2_with fail
 refine bodyPost_ret (v:=.tuple #[.agg (wC x ⟨⟨some ⟨e,f,none⟩,xc,pp,ppc,pc,pcc,pi,pic,pb,pbc⟩,some ⟨b,o,none⟩,pac,pk,pkc,pw,pwc⟩),.int .i64 0,.int .i64 4]) (by simp [results,results49,go_sem]) rfl ⟨rfl,?_⟩
 exact Af ((b_a _).alloc (by simp) _)
theorem Fn6 (x:Wd) (e f xc:Nat) (pp pc pi pb:Option Addr) (ppc pcc pic pbc:Nat) (b o pac:Nat) (pk pw:Option Addr) (pkc pwc:Nat) (k d:Nat) (hd:d<4) (t:Int) (w:World) (hx:Ai x=true) (h:Ab w ⟨⟨some ⟨e,f,none⟩,xc,pp,ppc,pc,pcc,pi,pic,pb,pbc⟩,some ⟨b,o,none⟩,pac,pk,pkc,pw,pwc⟩ x) (hk:k<x.at_.length) (c0:w.cell? ⟨b,o+k,none⟩=some (.int .i64 (Ah x k:Int))) (c1:w.cell? ⟨e,f+Ah x k*4+d,none⟩=some (.int .i64 t)) (ht:¬t=-1):Calls prog 49 #[.agg (wC x ⟨⟨some ⟨e,f,none⟩,xc,pp,ppc,pc,pcc,pi,pic,pb,pbc⟩,some ⟨b,o,none⟩,pac,pk,pkc,pw,pwc⟩),.int .i64 (k:Int),.int .i64 (d:Int)] w fun e' w'=>∃q:Wp,e'=.returned (.tuple #[.agg (wC x q),.int .i64 t,.int .i64 0])∧Cc w.heap.size w' ⟨some ⟨e,f,none⟩,xc,pp,ppc,pc,pcc,pi,pic,pb,pbc⟩ q (goW x k t)∧Below w.heap.size w w':=by
 have C0:=hid (Two.start 29 29 w (wC x ⟨⟨some ⟨e,f,none⟩,xc,pp,ppc,pc,pcc,pi,pic,pb,pbc⟩,some ⟨b,o,none⟩,pac,pk,pkc,pw,pwc⟩) zC)
 have hrl:=(Bn hx hk).2
 have hlen:=h.at_.len
 have hlen2:=h.d.ex.len
 have hd2:(d:Int)<4:=by omega
 have HX:=hid hx
 have H:=hid h
 have hne:(t==-1)=false:=by simpa using ht
 clear hx h ht
 have D0:=hid (Ad c0 C0.out.b)
 have D1:=hid (Ad c1 C0.out.b)
 clear c0 c1
 have hWC:=@wC.eq_1
 have hZC:=@zC.eq_1
 go_enter func49,ntmps49
 go_wp2_with fail
 refine tkS (S:=(fun w'=>Two 29 29 w w' (wC x ⟨⟨some ⟨e,f,none⟩,xc,pp,ppc,pc,pcc,pi,pic,pb,pbc⟩,some ⟨b,o,none⟩,pac,pk,pkc,pw,pwc⟩) zC∧(∀j,w'.cell? ⟨w.heap.size,j,none⟩=((wC x ⟨⟨some ⟨e,f,none⟩,xc,pp,ppc,pc,pcc,pi,pic,pb,pbc⟩,some ⟨b,o,none⟩,pac,pk,pkc,pw,pwc⟩)[j]?:Option Value))∧w'.cell? ⟨b,o+k,none⟩=some (.int .i64 (Ah x k:Int))∧w'.cell? ⟨e,f+Ah x k*4+d,none⟩=some (.int .i64 t))) (by (first|(exact ⟨C0.out.drew,C0.out.drew.a.cell,D0.out,D1.out⟩))) (fun hHeld=>?_)
 refine tkl [0,1,2,3,4,5,6,7,8,9,10,11,12] ?_
 iterate 13
  first|refine tW ?_|refine tN ?_
  try go_frame
 refine tkD ?_
 have D2:=hid hHeld.1
 clear hHeld
 have hc1:=D2.out.a.cell
 have hl1:=D2.out.a.lt
 go_wp2_with fail
 refine (Iq x ⟨⟨some ⟨e,f,none⟩,xc,pp,ppc,pc,pcc,pi,pic,pb,pbc⟩,some ⟨b,o,none⟩,pac,pk,pkc,pw,pwc⟩ _ (H.out.below D2.out.b (Nat.le_refl _)) (Ae8 HX.out)).mono ?_
 rintro e' w3 ⟨⟨qd,qa,qac,qk,qkc,qw,qwc⟩,rfl,-,b3,hn⟩
 obtain ⟨hqd,_⟩:=id hn
 simp only at hqd
 subst hqd
 obtain ⟨g,hqa,hb1,hb2,cA,fA,hput⟩:=hn.putAt hk
 simp only at hqa
 subst hqa
 have D3:=hid (D2.out.call b3)
 have hs1:=D2.out.size
 have n1:w.heap.size+1≠g:=by omega
 have n2:g≠w.heap.size+1:=by omega
 have HP:=hid ((hput t).less (m:=w.heap.size+2) hs1)
 have fA:=fA k
 clear hc1 hl1 hn hput b3
 obtain ⟨hc2,hz2,hs2⟩:=D3.out.r.all
 go_wp2_with fail
 refine bodyPost_ret (v:=.tuple #[.agg (wC x ⟨⟨some ⟨e,f,none⟩,xc,pp,ppc,pc,pcc,pi,pic,pb,pbc⟩,some ⟨g,0,none⟩,qac,qk,qkc,qw,qwc⟩),.int .i64 t,.int .i64 0]) (by simp [results,results49,go_sem,hc2,hs2]) rfl ⟨⟨⟨some ⟨e,f,none⟩,xc,pp,ppc,pc,pcc,pi,pic,pb,pbc⟩,some ⟨g,0,none⟩,qac,qk,qkc,qw,qwc⟩,rfl,?_,?_⟩
 ·refine Cc.less (n:=w.heap.size+2) (Cc.alloc ?_ _) (by omega)
  iterate 11 refine Cc.set (b:=w.heap.size+1) ?_ (by omega) _ _
  exact HP.out
 ·refine Below.alloc ?_ (by simp [World.setCell];omega) _
  iterate 11 refine bs_1 ?_
  refine Below.setCell ?_ (by show w.heap.size≤g;omega) _
  exact D3.out.b
theorem Co0 (x:Wd) (p:Wp) (k d:Nat) (hd:d<4) (w:World) (hx:Ai x=true) (h:Ab w p x) (hk:k<x.at_.length):Calls prog 49 #[.agg (wC x p),.int .i64 (k:Int),.int .i64 (d:Int)] w fun e w'=>∃q:Wp,e=.returned (.tuple #[.agg (wC x q),.int .i64 (Ck x k d).2.1,.int .i64 (Ck x k d).2.2])∧Du w.heap.size w' p q x (Ck x k d)∧Below w.heap.size w w':=by
 have hr:=Bn hx hk
 obtain ⟨b,o,ea,hb,hc⟩:=h.at_.at_ hk
 have c0:=hc k hk
 rw [hr.1] at c0
 obtain ⟨e,f,ee,hb2,hc2⟩:=h.d.ex.at_ hr.2
 have c1:=hc2 _ hr.2 d hd
 rw [Au1 _ hd,Tv hr.2] at c1
 obtain ⟨⟨px,xc,pp,ppc,pc,pcc,pi,pic,pb,pbc⟩,pa,pac,pk,pkc,pw,pwc⟩:=p
 simp only at ea ee
 subst ea ee
 by_cases ht:toW x (Ah x k) d=-1
 ·have hm:Ck x k d=(x,0,4):=by unfold Ck;rw [if_pos ht]
  rw [hm]
  rw [ht] at c1
  exact (Ds4 x e f xc pp pc pi pb ppc pcc pic pbc b o pac pk pw pkc pwc k d hd w hx h hk c0 c1).mono fun e' w' ⟨h1,h2⟩=>⟨_,h1,.inl ⟨by simp,rfl,rfl⟩,h2⟩
 ·have hm:Ck x k d=(goW x k (toW x (Ah x k) d),toW x (Ah x k) d,0):=by unfold Ck;rw [if_neg ht]
  rw [hm]
  exact (Fn6 x e f xc pp pc pi pb ppc pcc pic pbc b o pac pk pw pkc pwc k d hd _ w hx h hk c0 c1 ht).mono fun e' w' ⟨q',h1,h2,h3⟩=>⟨q',h1,.inr ⟨rfl,rfl,h2⟩,h3⟩
theorem Bf6 (x:Wd) (p:Wp) (k d:Nat) (hd:d<4) (w:World) (hx:Ai x=true) (h:Ab w p x) (hk:k<x.at_.length):Calls prog 21 #[.agg (wC x p),.int .i64 (k:Int),.int .i64 (d:Int)] w fun e w'=>∃q:Wp,e=.returned (.tuple #[.agg (wC x q),.int .i64 (Ck x k d).2.1,.int .i64 (Ck x k d).2.2])∧Du w.heap.size w' p q x (Ck x k d)∧Below w.heap.size w w':=by
 have C0:=hid (Two.start 29 29 w (wC x p) zC)
 have H:=hid h
 have HX:=hid hx
 clear h hx
 obtain ⟨y,hy⟩:∃y,y=Ck x k d:=⟨_,rfl⟩
 have HY:=hid hy
 rw [←hy]
 clear hy
 have hWC:=@wC.eq_1
 have hZC:=@zC.eq_1
 go_enter func21,ntmps21
 go_wp2_with fail
 refine (Co0 x p k d hd _ HX.out (H.out.below C0.out.b (Nat.le_refl _)) hk).mono ?_
 rintro e w2 ⟨⟨qd,qa,qac,qk,qkc,qw,qwc⟩,rfl,wn,b2⟩
 rw [←HY.out] at wn ⊢
 have D2:=hid (C0.out.call b2)
 have WN:=hid (Du.less wn C0.out.size)
 obtain ⟨hc2,hz2,hs2⟩:=D2.out.r.all
 clear wn b2
 go_wp2_with fail
 refine bodyPost_ret (v:=.tuple #[.agg (wC x ⟨qd,qa,qac,qk,qkc,qw,qwc⟩),.int .i64 y.2.1,.int .i64 y.2.2]) (by simp [results,results21,go_sem,hc2]) rfl ⟨⟨qd,qa,qac,qk,qkc,qw,qwc⟩,rfl,?_,?_⟩
 ·refine Du.less (n:=(w.heap.size+2)) ?_ (by omega)
  iterate 11 refine Du.set (b:=w.heap.size+1) ?_ (by omega) _ _
  exact WN.out
 ·iterate 11 refine bs_1 ?_
  exact D2.out.b
end
section
theorem Dq4 (x:Wd) (p:Wp) (i:Nat) (q:Int) (d:Nat) (w:World) (hq:q<0):Calls prog 22 #[.agg (wC x p),.int .i64 (i:Int),.int .i64 q,.int .i64 (d:Int)] w fun e w'=>e=.returned (.tuple #[.agg (wC x p),.int .i64 0,.int .i64 3])∧Below w.heap.size w w':=by
 have hWC:=@wC.eq_1
 have hZC:=@zC.eq_1
 go_enter func22,ntmps22
 go_wp2_with fail
 refine bodyPost_ret (v:=.tuple #[.agg (wC x p),.int .i64 0,.int .i64 3]) (by simp [results,results22,go_sem]) rfl ⟨rfl,?_⟩
 exact (b_a _).alloc (by simp) _
theorem Cz6 (x:Wd) (p:Wp) (i:Nat) (q:Int) (d:Nat) (w:World) (h0:¬q<0) (hq:(x.at_.length:Int)≤q):Calls prog 22 #[.agg (wC x p),.int .i64 (i:Int),.int .i64 q,.int .i64 (d:Int)] w fun e w'=>e=.returned (.tuple #[.agg (wC x p),.int .i64 0,.int .i64 3])∧Below w.heap.size w w':=by
 have hWC:=@wC.eq_1
 have hZC:=@zC.eq_1
 go_enter func22,ntmps22
 go_wp2_with fail
 refine bodyPost_ret (v:=.tuple #[.agg (wC x p),.int .i64 0,.int .i64 3]) (by simp [results,results22,go_sem]) rfl ⟨rfl,?_⟩
 exact (b_a _).alloc (by simp) _
theorem Cz5 (x:Wd) (p:Wp) (i:Nat) (d:Nat) (w:World) (hi:i<x.at_.length):Calls prog 22 #[.agg (wC x p),.int .i64 (i:Int),.int .i64 (i:Int),.int .i64 (d:Int)] w fun e w'=>e=.returned (.tuple #[.agg (wC x p),.int .i64 0,.int .i64 12])∧Below w.heap.size w w':=by
 have hWC:=@wC.eq_1
 have hZC:=@zC.eq_1
 go_enter func22,ntmps22
 go_wp2_with fail
 refine bodyPost_ret (v:=.tuple #[.agg (wC x p),.int .i64 0,.int .i64 12]) (by simp [results,results22,go_sem]) rfl ⟨rfl,?_⟩
 exact (b_a _).alloc (by simp) _
theorem Eh8 (x:Wd) (pd:Dp) (b o pac:Nat) (pk pw:Option Addr) (pkc pwc:Nat) (i k:Nat) (d:Nat) (hd:d<4) (w:World) (hx:Ai x=true) (h:Ab w ⟨pd,some ⟨b,o,none⟩,pac,pk,pkc,pw,pwc⟩ x) (hi:i<x.at_.length) (hk:k<x.at_.length) (hik:¬k=i) (r1 r2:Int) (c0:w.cell? ⟨b,o+i,none⟩=some (.int .i64 r1)) (c1:w.cell? ⟨b,o+k,none⟩=some (.int .i64 r2)) (y:Wd × Int × Int) (hy:if r1=r2 then y=Ck x k d else y=(x,0,5)):Calls prog 22 #[.agg (wC x ⟨pd,some ⟨b,o,none⟩,pac,pk,pkc,pw,pwc⟩),.int .i64 (i:Int),.int .i64 (k:Int),.int .i64 (d:Int)] w fun e w'=>∃q:Wp,e=.returned (.tuple #[.agg (wC x q),.int .i64 y.2.1,.int .i64 y.2.2])∧Du w.heap.size w' ⟨pd,some ⟨b,o,none⟩,pac,pk,pkc,pw,pwc⟩ q x y∧Below w.heap.size w w':=by
 have C0:=hid (Two.start 29 29 w (wC x ⟨pd,some ⟨b,o,none⟩,pac,pk,pkc,pw,pwc⟩) zC)
 have HX:=hid hx
 have H:=hid h
 have hlen:=h.at_.len
 have hne:((k:Int)==(i:Int))=false:=by simp;omega
 have hlt:¬(x.at_.length:Int)≤(k:Int):=by omega
 have HY:=hid hy
 have D0:=hid (Ad c0 C0.out.b)
 have D1:=hid (Ad c1 C0.out.b)
 clear hx h c0 c1 hy hik
 by_cases hr:r1=r2
 ·have HY2:=hid (show y=Ck x k d by have:=HY.out;rwa [if_pos hr] at this)
  have hrn:(r1 != r2)=false:=by simpa using hr
  clear hr HY
  have hWC:=@wC.eq_1
  have hZC:=@zC.eq_1
  go_enter func22,ntmps22
  go_wp2_with fail
  refine tkS (S:=(fun w'=>Two 29 29 w w' (wC x ⟨pd,some ⟨b,o,none⟩,pac,pk,pkc,pw,pwc⟩) zC∧(∀j,w'.cell? ⟨w.heap.size,j,none⟩=((wC x ⟨pd,some ⟨b,o,none⟩,pac,pk,pkc,pw,pwc⟩)[j]?:Option Value))∧w'.cell? ⟨b,o+i,none⟩=some (.int .i64 r1)∧w'.cell? ⟨b,o+k,none⟩=some (.int .i64 r2))) (by (first|(exact ⟨C0.out.drew,C0.out.drew.a.cell,D0.out,D1.out⟩))) (fun hHeld=>?_)
  refine tkl [0,1,2,3,4,5,6,7,8,9,10] ?_
  iterate 11
   first|refine tW ?_|refine tN ?_
   try go_frame
  refine tkD ?_
  have D3:=hid hHeld.1
  clear hHeld
  have hc1:=D3.out.a.cell
  have hl1:=D3.out.a.lt
  obtain ⟨hc2,hz2,hs2⟩:=D3.out.r.all
  go_wp2_with fail
  clear hc1 hl1 hc2 hz2 hs2
  refine (Co0 x ⟨pd,some ⟨b,o,none⟩,pac,pk,pkc,pw,pwc⟩ k d hd _ HX.out (H.out.below D3.out.b (Nat.le_refl _)) hk).mono ?_
  rintro e w2 ⟨⟨qd,qa,qac,qk,qkc,qw,qwc⟩,rfl,wn,b2⟩
  rw [←HY2.out] at wn ⊢
  have D2:=hid (D3.out.call b2)
  have WN:=hid (Du.less wn D3.out.size)
  obtain ⟨hc2,hz2,hs2⟩:=D2.out.r.all
  clear wn b2
  go_wp2_with fail
  refine bodyPost_ret (v:=.tuple #[.agg (wC x ⟨qd,qa,qac,qk,qkc,qw,qwc⟩),.int .i64 y.2.1,.int .i64 y.2.2]) (by simp [results,results22,go_sem,hc2]) rfl ⟨⟨qd,qa,qac,qk,qkc,qw,qwc⟩,rfl,?_,?_⟩
  ·refine Du.less (n:=(w.heap.size+2)) ?_ (by omega)
   iterate 11 refine Du.set (b:=w.heap.size+1) ?_ (by omega) _ _
   exact WN.out
  ·iterate 11 refine bs_1 ?_
   exact D2.out.b
 ·have hy2:y=(x,0,5):=by have:=HY.out;rwa [if_neg hr] at this
  have hrn:(r1 != r2)=true:=by simpa using hr
  subst hy2
  clear hr HY
  have hWC:=@wC.eq_1
  have hZC:=@zC.eq_1
  go_enter func22,ntmps22
  go_wp2_with fail
  refine tkS (S:=(fun w'=>Two 29 29 w w' (wC x ⟨pd,some ⟨b,o,none⟩,pac,pk,pkc,pw,pwc⟩) zC∧(∀j,w'.cell? ⟨w.heap.size,j,none⟩=((wC x ⟨pd,some ⟨b,o,none⟩,pac,pk,pkc,pw,pwc⟩)[j]?:Option Value))∧w'.cell? ⟨b,o+i,none⟩=some (.int .i64 r1)∧w'.cell? ⟨b,o+k,none⟩=some (.int .i64 r2))) (by (first|(exact ⟨C0.out.drew,C0.out.drew.a.cell,D0.out,D1.out⟩))) (fun hHeld=>?_)
  refine tkl [0,1,2,3,4,5,6,7,8,9,10] ?_
  iterate 11
   first|refine tW ?_|refine tN ?_
   try go_frame
  refine tkD ?_
  have D3:=hid hHeld.1
  clear hHeld
  have hc1:=D3.out.a.cell
  have hl1:=D3.out.a.lt
  obtain ⟨hc2,hz2,hs2⟩:=D3.out.r.all
  go_wp2_with fail
  refine bodyPost_ret (v:=.tuple #[.agg (wC x ⟨pd,some ⟨b,o,none⟩,pac,pk,pkc,pw,pwc⟩),.int .i64 0,.int .i64 5]) (by simp [results,results22,go_sem]) rfl ⟨_,rfl,.inl ⟨by simp,rfl,rfl⟩,?_⟩
  exact Af ((b_a _).alloc (by simp) _)
theorem Bf4 (x:Wd) (p:Wp) (i:Nat) (q:Int) (d:Nat) (hd:d<4) (w:World) (hx:Ai x=true) (h:Ab w p x) (hi:i<x.at_.length):Calls prog 22 #[.agg (wC x p),.int .i64 (i:Int),.int .i64 q,.int .i64 (d:Int)] w fun e w'=>∃q':Wp,e=.returned (.tuple #[.agg (wC x q'),.int .i64 (Eg x i q d).2.1,.int .i64 (Eg x i q d).2.2])∧Du w.heap.size w' p q' x (Eg x i q d)∧Below w.heap.size w w':=by
 by_cases h1:q<0
 ·have hp:Eg x i q d=(x,0,3):=by unfold Eg;rw [if_pos (by simp [inB];omega)]
  rw [hp]
  exact (Dq4 x p i q d w h1).mono fun e' w' ⟨h1,h2⟩=>⟨_,h1,.inl ⟨by simp,rfl,rfl⟩,h2⟩
 by_cases h2:(x.at_.length:Int)≤q
 ·have hp:Eg x i q d=(x,0,3):=by unfold Eg;rw [if_pos (by simp [inB];omega)]
  rw [hp]
  exact (Cz6 x p i q d w h1 h2).mono fun e' w' ⟨h1,h2⟩=>⟨_,h1,.inl ⟨by simp,rfl,rfl⟩,h2⟩
 have hin:¬inB q x.at_.length=false:=by simp [inB];omega
 obtain ⟨k,rfl⟩:∃k:Nat,q=k:=⟨q.toNat,by omega⟩
 have hk:k<x.at_.length:=by omega
 by_cases h3:k=i
 ·subst h3
  rw [Ai1 hi]
  exact (Cz5 x p k d w hi).mono fun e' w' ⟨h1,h2⟩=>⟨_,h1,.inl ⟨by simp,rfl,rfl⟩,h2⟩
 ·obtain ⟨b,o,ea,hb,hc⟩:=h.at_.at_ hi
  obtain ⟨pd,pa,pac,pk,pkc,pw,pwc⟩:=p
  simp only at ea
  subst ea
  refine Eh8 x pd b o pac pk pw pkc pwc i k d hd w hx h hi hk h3 _ _ (hc i hi) (hc k hk) _ ?_
  rw [(Bn hx hi).1,(Bn hx hk).1]
  unfold Eg
  rw [if_neg hin,if_neg (show ¬(k:Int)=i by omega)]
  by_cases h4:Ah x i=Ah x k
  ·rw [if_pos (by rw [h4]),if_neg (by simpa using h4)];rfl
  ·rw [if_neg (by omega),if_pos (by simpa using h4)]
end
end Go.Proofs.Ytenpcndoilcjcaa
