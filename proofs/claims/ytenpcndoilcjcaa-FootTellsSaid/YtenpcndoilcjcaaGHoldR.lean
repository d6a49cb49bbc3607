/- The document's own: an item brought elsewhere, what is got, and dropped. -/
import Derived.Test.YtenpcndoilcjcaaGHoldA
namespace Go.Proofs.Ytenpcndoilcjcaa
open Go.ChangeShapes Go.WideShapes Go.ChangeAt Go.RowKit Go.Proofs.Try
open Lib (hid)
set_option linter.unusedVariables false
set_option maxRecDepth 100000
section
theorem Cc.putPlace {n:Nat} {W:World} {p:Dp} {q:Wp} {x:Wd} (h:Cc n W p q x) {k:Nat} (hk:k<x.wher.length):∃b,q.wh=some ⟨b,0,none⟩∧n≤b∧b<W.heap.size∧(W.cell? ⟨b,k*2,none⟩=some (.int .i64 x.wher[k].kind)∧W.cell? ⟨b,k*2+1,none⟩=some (.int .i64 x.wher[k].id))∧(∀r,W.frozen? ⟨b,r,none⟩=false) ∧
 ∀y:Pl,Cc n ((W.setCell ⟨b,k*2,none⟩ (.int .i64 y.kind)).setCell ⟨b,k*2+1,none⟩ (.int .i64 y.id)) p q ⟨x.d,x.at_,x.coins,x.wher.set k y⟩:=by
 obtain ⟨h0,m1,m2,g1,g2,h1,l1,h2,l2,h3⟩:=h
 obtain ⟨b,hb,hn,hl,hc,hf,hput⟩:=h3.put hk (j:=0) (by omega)
 refine ⟨b,hb,by omega,hl,⟨by simpa [plC] using hc 0 (by omega),by simpa [plC] using hc 1 (by omega)⟩,hf,fun y=>⟨h0,m1,m2,g1,g2,(h1.far (fun r hr=>by have:=l1 r hr;omega) _ _).far (fun r hr=>by have:=l1 r hr;omega) _ _,l1,(h2.far (fun r hr=>by have:=l2 r hr;omega) _ _).far (fun r hr=>by have:=l2 r hr;omega) _ _,l2,?_⟩⟩
 have h4:=hput (.int .i64 y.kind) ⟨y.kind,x.wher[k].id⟩ rfl (fun r hr=>by
  obtain rfl|rfl:r=0∨r=1:=by omega
  ·rfl
  ·rfl)
 obtain ⟨b',hb',_,_,_,_,hput'⟩:=h4.put (i:=k) (by simpa using hk) (j:=1) (by omega)
 obtain rfl:b'=b:=by simpa using hb'.symm
 have h5:=hput' (.int .i64 y.id) y rfl (fun r hr=>by
  obtain rfl|rfl:r=0∨r=1:=by omega
  ·simp [plC]
  ·rfl)
 rw [hb]
 simpa using h5
set_option maxHeartbeats 400000 in
theorem Ad4 (x:Wd) (p:Wp) (k:Nat) (y:Pl) (w:World) (h:Ab w p x) (hf:FewW x) (hk:k<x.wher.length):Calls prog 51 #[.agg (wC x p),.int .i64 (k:Int),.agg #[.int .i64 y.kind,.int .i64 y.id]] w fun e w'=>∃q:Wp,e=.returned (.agg (wC x q))∧Cc w.heap.size w' p.d q (putW x k y)∧Below w.heap.size w w':=by
 have C0:=hid (Tri.start 29 52 29 w (wC x p) #[.int .i64 y.kind,.int .i64 y.id] zC)
 have H:=hid h
 have HF:=hid hf
 have hlen:=h.wh.len
 clear h hf
 have hWC:=@wC.eq_1
 have hZC:=@zC.eq_1
 go_enter func51,ntmps51
 go_wp2_with fail
 refine (Iq x p _ (H.out.below C0.out.b (Nat.le_refl _)) HF.out).mono ?_
 rintro e w1 ⟨⟨qd,qa,qac,qk,qkc,qw,qwc⟩,rfl,-,b1,ho⟩
 obtain ⟨rfl,-⟩:=id ho
 obtain ⟨g,hqw,hg0,hg2,⟨cA,cB⟩,fA,hput⟩:=ho.putPlace hk
 simp only at hqw
 subst hqw
 have hg1:=C0.out.size
 have C1:=hid (C0.out.call b1)
 have HP:=hid ((hput y).less hg1)
 have hg1:w.heap.size+3≤g:=Nat.le_trans hg1 hg0
 have hsz:=C1.out.size
 clear ho b1 hg0 hput
 have hca:=C1.out.a.cell
 have hla:=C1.out.a.lt
 have hcm:=C1.out.m.cell
 have hlm:=C1.out.m.lt
 obtain ⟨hcr,hzr,hlr⟩:=C1.out.r.all
 have n3:g≠w.heap.size+2:=by omega
 have n4:w.heap.size+2≠g:=by omega
 have n5:w.heap.size+1≠g:=by omega
 have n6:w.heap.size≠g:=by omega
 go_wp2_with fail
 refine bodyPost_ret (v:=.agg (wC x ⟨p.d,qa,qac,qk,qkc,some ⟨g,0,none⟩,qwc⟩)) (by simp [results,results51,go_sem,hcr,hlr]) rfl ⟨⟨p.d,qa,qac,qk,qkc,some ⟨g,0,none⟩,qwc⟩,rfl,?_,?_⟩
 ·refine Cc.less (n:=w.heap.size+3) (Cc.alloc ?_ _) (by omega)
  iterate 11 refine Cc.set (b:=w.heap.size+2) ?_ (by omega) _ _
  exact HP.out
 ·refine Below.alloc ?_ (by simp [World.setCell];omega) _
  iterate 11 refine bs_2 ?_
  iterate 2 refine Below.setCell ?_ (by show w.heap.size≤g;omega) _
  exact C1.out.b
def Ae6 (n:Nat) (W:World) (p q:Wp) (x:Wd) (R:Wd × Int):Prop:=(¬R.2=0∧R.1=x∧q=p)∨(R.2=0∧R.1.d=x.d∧Cc n W p.d q R.1)
theorem Ae6.world {w W:World} {p q:Wp} {x:Wd} {R:Wd × Int} (h:Ae6 w.heap.size W p q x R) (hw:Ab w p x) (hb:Below w.heap.size w W):Ab W q R.1:=by
 rcases h with ⟨_,h1,h2⟩|⟨_,h1,h2⟩
 ·rw [h1,h2];exact hw.call hb
 ·exact h2.new.world (by rw [h1];exact hw.d) hb
theorem rS7 {t s:TypeId} {w v:World} {cs:Array Value} (h:TwoE t s w v cs) {p1 p2 p3:Addr} {u1 u2 u3:Value} (c1:w.cell? p1=some u1) (c2:w.cell? p2=some u2) (c3:w.cell? p3=some u3):Below w.heap.size w v∧w.heap.size<v.heap.size∧(∀i,v.cell? ⟨w.heap.size,i,none⟩=cs[i]?)∧w.heap.size+1<v.heap.size∧v.cell? p1=some u1∧v.cell? p2=some u2∧v.cell? p3=some u3:=by
 obtain ⟨h1,h2,h3,h4⟩:=Ry h
 exact ⟨h1,h2,h3,h4,Ad c1 h1,Ad c2 h1,Ad c3 h1⟩
theorem Ab6 (x:Wd) (p:Wp) (i:Nat) (w:World) (hx:Ai x=true) (h:Ab w p x):Calls prog 50 #[.agg (wC x p),.agg #[.int .i64 1,.int .i64 (i:Int)]] w fun e w'=>e=.returned (.int .i64 (roomI x ⟨1,(i:Int)⟩))∧Below w.heap.size w w' :=
 Ld x p 1 i (by decide) (Yh hx (by decide)) w h.wh (by have:=(Aj hx).2.2.2.1;omega)
theorem Bz4 (x:Wd) (p:Wp) (i:Nat) (w:World) (hx:Ai x=true) (h:Ab w p x):Calls prog 50 #[.agg (wC x p),.agg #[.int .i64 0,.int .i64 (i:Int)]] w fun e w'=>e=.returned (.int .i64 (roomI x ⟨0,(i:Int)⟩))∧Below w.heap.size w w' :=
 Ld x p 0 i (by decide) (Yh hx (by decide)) w h.wh (by have:=(Aj hx).2.2.2.1;omega)
theorem Bf1 (x:Wd) (p:Wp) (k i:Nat) (w:World) (h:Ab w p x) (hf:FewW x) (hk:k<x.wher.length):Calls prog 51 #[.agg (wC x p),.int .i64 (k:Int),.agg #[.int .i64 1,.int .i64 (i:Int)]] w fun e w'=>∃q:Wp,e=.returned (.agg (wC x q))∧Cc w.heap.size w' p.d q (putW x k ⟨1,(i:Int)⟩)∧Below w.heap.size w w' :=
 Ad4 x p k ⟨1,i⟩ w h hf hk
theorem Cn6 (x:Wd) (p:Wp) (k i:Nat) (w:World) (h:Ab w p x) (hf:FewW x) (hk:k<x.wher.length):Calls prog 51 #[.agg (wC x p),.int .i64 (k:Int),.agg #[.int .i64 0,.int .i64 (i:Int)]] w fun e w'=>∃q:Wp,e=.returned (.agg (wC x q))∧Cc w.heap.size w' p.d q (putW x k ⟨0,(i:Int)⟩)∧Below w.heap.size w w' :=
 Ad4 x p k ⟨0,i⟩ w h hf hk
end
section
theorem Ei2 (x:Wd) (p:Wp) (i:Nat) (q:Int) (w:World) (hq:q<0):Calls prog 23 #[.agg (wC x p),.int .i64 (i:Int),.int .i64 q] w fun e w'=>e=.returned (.tuple #[.agg (wC x p),.int .i64 3])∧Below w.heap.size w w':=by
 have hWC:=@wC.eq_1
 have hZC:=@zC.eq_1
 go_enter func23,ntmps23
 go_wp2_with fail
 refine bodyPost_ret (v:=.tuple #[.agg (wC x p),.int .i64 3]) (by simp [results,results23,go_sem]) rfl ⟨rfl,?_⟩
 exact (b_a _).alloc (by simp) _
theorem Dq9 (x:Wd) (p:Wp) (i:Nat) (q:Int) (w:World) (h0:¬q<0) (hq:(x.wher.length:Int)≤q):Calls prog 23 #[.agg (wC x p),.int .i64 (i:Int),.int .i64 q] w fun e w'=>e=.returned (.tuple #[.agg (wC x p),.int .i64 3])∧Below w.heap.size w w':=by
 have hWC:=@wC.eq_1
 have hZC:=@zC.eq_1
 go_enter func23,ntmps23
 go_wp2_with fail
 refine bodyPost_ret (v:=.tuple #[.agg (wC x p),.int .i64 3]) (by simp [results,results23,go_sem]) rfl ⟨rfl,?_⟩
 exact (b_a _).alloc (by simp) _
section
variable (x:Wd) (pd:Dp) (ab ao pac:Nat) (pk:Option Addr) (pkc b o pwc:Nat) (i k:Nat) (w:World) (hx:Ai x=true) (h:Ab w ⟨pd,some ⟨ab,ao,none⟩,pac,pk,pkc,some ⟨b,o,none⟩,pwc⟩ x) (hi:i<x.at_.length) (hk:k<x.wher.length)
 (c0:w.cell? ⟨b,o+k*2,none⟩=some (.int .i64 (plOf x.wher k).kind)) (c1:w.cell? ⟨b,o+k*2+1,none⟩=some (.int .i64 (plOf x.wher k).id)) (c2:w.cell? ⟨ab,ao+i,none⟩=some (.int .i64 (Ah x i:Int)))
include hx h hi hk c0 c1 c2
theorem Dr1 (hz:¬plOf x.wher k=⟨0,(Ah x i:Int)⟩):Calls prog 23 #[.agg (wC x ⟨pd,some ⟨ab,ao,none⟩,pac,pk,pkc,some ⟨b,o,none⟩,pwc⟩),.int .i64 (i:Int),.int .i64 (k:Int)] w fun e w'=>e=.returned (.tuple #[.agg (wC x ⟨pd,some ⟨ab,ao,none⟩,pac,pk,pkc,some ⟨b,o,none⟩,pwc⟩),.int .i64 5])∧Below w.heap.size w w':=by
 generalize plOf x.wher k=z at *
 obtain ⟨zk,zi⟩:=z
 have C0:=hid (Two.start 29 29 w (wC x ⟨pd,some ⟨ab,ao,none⟩,pac,pk,pkc,some ⟨b,o,none⟩,pwc⟩) zC)
 have H:=hid h
 have HX:=hid hx
 have hlen:=h.wh.len
 have hlen2:=h.at_.len
 have hlt:¬(x.wher.length:Int)≤(k:Int):=by omega
 have hrun:=Kj zk zi 0 (Ah x i:Int)
 simp only [hz,decide_false,Bool.not_false] at hrun
 simp only at c0 c1
 clear h hx hz
 have S0:=hid (rS7 (TwoE.mk C0.out.drew) c0 c1 c2)
 have E0:=hid c0
 have E1:=hid c1
 have E2:=hid c2
 clear c0 c1 c2
 have hWC:=@wC.eq_1
 have hZC:=@zC.eq_1
 go_enter func23,ntmps23
 go_wp2_with fail
 refine tkS (S:=(fun w'=>Below w.heap.size w w'∧w.heap.size<w'.heap.size∧(∀i,w'.cell? ⟨w.heap.size,i,none⟩=((wC x ⟨pd,some ⟨ab,ao,none⟩,pac,pk,pkc,some ⟨b,o,none⟩,pwc⟩)[i]?:Option Value))∧w.heap.size+1<w'.heap.size∧w'.cell? ⟨b,o+k*2,none⟩=some (.int .i64 zk)∧w'.cell? ⟨b,o+k*2+1,none⟩=some (.int .i64 zi)∧w'.cell? ⟨ab,ao+i,none⟩=some (.int .i64 (Ah x i:Int)))) (by (with_reducible exact S0.out)) (fun hHeld=>?_)
 refine tkl [0,1,2,3,4,5,6,7,8,9,10,11] ?_
 iterate 12
  first|refine tW ?_|refine tN ?_
  try go_frame
 refine tkD ?_
 clear hHeld
 have C1:=hid C0.out.drew
 generalize ((w.alloc (.cells (wC x ⟨pd,some ⟨ab,ao,none⟩,pac,pk,pkc,some ⟨b,o,none⟩,pwc⟩) 29)).alloc (.cells zC 29)).drew=W2 at *
 have hca:=C1.out.a.cell
 have hla:=C1.out.a.lt
 obtain ⟨hcr,hzr,hlr⟩:=C1.out.r.all
 go_wp2_with fail
 refine bodyPost_ret (v:=.tuple #[.agg (wC x ⟨pd,some ⟨ab,ao,none⟩,pac,pk,pkc,some ⟨b,o,none⟩,pwc⟩),.int .i64 5]) (by simp [results,results23,go_sem,hcr]) rfl ⟨rfl,?_⟩
 iterate 11 refine bs_1 ?_
 exact C1.out.b
theorem Dr0 (hz:plOf x.wher k=⟨0,(Ah x i:Int)⟩) (hr:roomI x ⟨1,(i:Int)⟩=0):Calls prog 23 #[.agg (wC x ⟨pd,some ⟨ab,ao,none⟩,pac,pk,pkc,some ⟨b,o,none⟩,pwc⟩),.int .i64 (i:Int),.int .i64 (k:Int)] w fun e w'=>e=.returned (.tuple #[.agg (wC x ⟨pd,some ⟨ab,ao,none⟩,pac,pk,pkc,some ⟨b,o,none⟩,pwc⟩),.int .i64 9])∧Below w.heap.size w w':=by
 have HR:=hid hr
 clear hr
 generalize plOf x.wher k=z at *
 obtain ⟨zk,zi⟩:=z
 have C0:=hid (Two.start 29 29 w (wC x ⟨pd,some ⟨ab,ao,none⟩,pac,pk,pkc,some ⟨b,o,none⟩,pwc⟩) zC)
 have H:=hid h
 have HX:=hid hx
 have hlen:=h.wh.len
 have hlen2:=h.at_.len
 have hlt:¬(x.wher.length:Int)≤(k:Int):=by omega
 have hrun:=Kj zk zi 0 (Ah x i:Int)
 simp only [hz,decide_true,Bool.not_true] at hrun
 simp only at c0 c1
 clear h hx hz
 have S0:=hid (rS7 (TwoE.mk C0.out.drew) c0 c1 c2)
 have E0:=hid c0
 have E1:=hid c1
 have E2:=hid c2
 clear c0 c1 c2
 have hWC:=@wC.eq_1
 have hZC:=@zC.eq_1
 go_enter func23,ntmps23
 go_wp2_with fail
 refine tkS (S:=(fun w'=>Below w.heap.size w w'∧w.heap.size<w'.heap.size∧(∀i,w'.cell? ⟨w.heap.size,i,none⟩=((wC x ⟨pd,some ⟨ab,ao,none⟩,pac,pk,pkc,some ⟨b,o,none⟩,pwc⟩)[i]?:Option Value))∧w.heap.size+1<w'.heap.size∧w'.cell? ⟨b,o+k*2,none⟩=some (.int .i64 zk)∧w'.cell? ⟨b,o+k*2+1,none⟩=some (.int .i64 zi)∧w'.cell? ⟨ab,ao+i,none⟩=some (.int .i64 (Ah x i:Int)))) (by (with_reducible exact S0.out)) (fun hHeld=>?_)
 refine tkl [0,1,2,3,4,5,6,7,8,9,10,11] ?_
 iterate 12
  first|refine tW ?_|refine tN ?_
  try go_frame
 refine tkD ?_
 clear hHeld
 have C1:=hid C0.out.drew
 generalize ((w.alloc (.cells (wC x ⟨pd,some ⟨ab,ao,none⟩,pac,pk,pkc,some ⟨b,o,none⟩,pwc⟩) 29)).alloc (.cells zC 29)).drew=W2 at *
 have hca:=C1.out.a.cell
 have hla:=C1.out.a.lt
 obtain ⟨hcr,hzr,hlr⟩:=C1.out.r.all
 go_wp2_with fail
 refine (Ab6 x ⟨pd,some ⟨ab,ao,none⟩,pac,pk,pkc,some ⟨b,o,none⟩,pwc⟩ i _ HX.out (H.out.below C1.out.b (Nat.le_refl _))).mono ?_
 rintro e w2 ⟨rfl,b2⟩
 rw [HR.out]
 have C3:=hid (C1.out.call b2)
 clear b2 hca hla hcr hzr hlr
 have hca:=C3.out.a.cell
 have hla:=C3.out.a.lt
 obtain ⟨hcr,hzr,hlr⟩:=C3.out.r.all
 go_wp2_with fail
 refine bodyPost_ret (v:=.tuple #[.agg (wC x ⟨pd,some ⟨ab,ao,none⟩,pac,pk,pkc,some ⟨b,o,none⟩,pwc⟩),.int .i64 9]) (by simp [results,results23,go_sem,hcr]) rfl ⟨rfl,?_⟩
 iterate 11 refine bs_1 ?_
 exact C3.out.b
theorem Fm9 (hz:plOf x.wher k=⟨0,(Ah x i:Int)⟩) (r:Int) (hr:roomI x ⟨1,(i:Int)⟩=r) (hr1:(r==0)=false):Calls prog 23 #[.agg (wC x ⟨pd,some ⟨ab,ao,none⟩,pac,pk,pkc,some ⟨b,o,none⟩,pwc⟩),.int .i64 (i:Int),.int .i64 (k:Int)] w fun e w'=>∃q:Wp,e=.returned (.tuple #[.agg (wC x q),.int .i64 0])∧Cc w.heap.size w' pd q (putW x k ⟨1,(i:Int)⟩)∧Below w.heap.size w w':=by
 have HR:=hid hr
 clear hr
 generalize plOf x.wher k=z at *
 obtain ⟨zk,zi⟩:=z
 have C0:=hid (Two.start 29 29 w (wC x ⟨pd,some ⟨ab,ao,none⟩,pac,pk,pkc,some ⟨b,o,none⟩,pwc⟩) zC)
 have H:=hid h
 have HX:=hid hx
 have hlen:=h.wh.len
 have hlen2:=h.at_.len
 have hlt:¬(x.wher.length:Int)≤(k:Int):=by omega
 have hrun:=Kj zk zi 0 (Ah x i:Int)
 simp only [hz,decide_true,Bool.not_true] at hrun
 simp only at c0 c1
 clear h hx hz
 have S0:=hid (rS7 (TwoE.mk C0.out.drew) c0 c1 c2)
 have E0:=hid c0
 have E1:=hid c1
 have E2:=hid c2
 clear c0 c1 c2
 have hWC:=@wC.eq_1
 have hZC:=@zC.eq_1
 go_enter func23,ntmps23
 go_wp2_with fail
 refine tkS (S:=(fun w'=>Below w.heap.size w w'∧w.heap.size<w'.heap.size∧(∀i,w'.cell? ⟨w.heap.size,i,none⟩=((wC x ⟨pd,some ⟨ab,ao,none⟩,pac,pk,pkc,some ⟨b,o,none⟩,pwc⟩)[i]?:Option Value))∧w.heap.size+1<w'.heap.size∧w'.cell? ⟨b,o+k*2,none⟩=some (.int .i64 zk)∧w'.cell? ⟨b,o+k*2+1,none⟩=some (.int .i64 zi)∧w'.cell? ⟨ab,ao+i,none⟩=some (.int .i64 (Ah x i:Int)))) (by (with_reducible exact S0.out)) (fun hHeld=>?_)
 refine tkl [0,1,2,3,4,5,6,7,8,9,10,11] ?_
 iterate 12
  first|refine tW ?_|refine tN ?_
  try go_frame
 refine tkD ?_
 clear hHeld
 have C1:=hid C0.out.drew
 generalize ((w.alloc (.cells (wC x ⟨pd,some ⟨ab,ao,none⟩,pac,pk,pkc,some ⟨b,o,none⟩,pwc⟩) 29)).alloc (.cells zC 29)).drew=W2 at *
 have hca:=C1.out.a.cell
 have hla:=C1.out.a.lt
 obtain ⟨hcr,hzr,hlr⟩:=C1.out.r.all
 go_wp2_with fail
 refine (Ab6 x ⟨pd,some ⟨ab,ao,none⟩,pac,pk,pkc,some ⟨b,o,none⟩,pwc⟩ i _ HX.out (H.out.below C1.out.b (Nat.le_refl _))).mono ?_
 rintro e w2 ⟨rfl,b2⟩
 rw [HR.out]
 have C3:=hid (C1.out.call b2)
 clear b2 hca hla hcr hzr hlr
 have hca:=C3.out.a.cell
 have hla:=C3.out.a.lt
 obtain ⟨hcr,hzr,hlr⟩:=C3.out.r.all
 go_wp2_with fail
 refine (Bf1 x ⟨pd,some ⟨ab,ao,none⟩,pac,pk,pkc,some ⟨b,o,none⟩,pwc⟩ k i _ (H.out.below C3.out.b (Nat.le_refl _)) (Ci HX.out) hk).mono ?_
 rintro e w3 ⟨⟨qd,qa,qac,qk,qkc,qw,qwc⟩,rfl,ho,b3⟩
 have C4:=hid (C3.out.call b3)
 have HO:=hid (ho.less C3.out.size)
 clear b3 ho hca hla hcr hzr hlr
 obtain ⟨hcr,hzr,hlr⟩:=C4.out.r.all
 go_wp2_with fail
 refine bodyPost_ret (v:=.tuple #[.agg (wC x ⟨qd,qa,qac,qk,qkc,qw,qwc⟩),.int .i64 0]) (by simp [results,results23,go_sem,hcr]) rfl ⟨⟨qd,qa,qac,qk,qkc,qw,qwc⟩,rfl,?_,?_⟩
 ·refine Cc.less (n:=w.heap.size+2) ?_ (by omega)
  iterate 11 refine Cc.set (b:=w.heap.size+1) ?_ (by omega) _ _
  exact HO.out
 ·iterate 11 refine bs_1 ?_
  exact C4.out.b
end
theorem Ak1 (x:Wd) (p:Wp) (i:Nat) (item:Int) (w:World) (hx:Ai x=true) (h:Ab w p x) (hi:i<x.at_.length):Calls prog 23 #[.agg (wC x p),.int .i64 (i:Int),.int .i64 item] w fun e w'=>∃q:Wp,e=.returned (.tuple #[.agg (wC x q),.int .i64 (getW x i item).2])∧Ae6 w.heap.size w' p q x (getW x i item)∧Below w.heap.size w w':=by
 unfold getW
 rcases Ho x item ⟨0,(Ah x i:Int)⟩ ⟨1,(i:Int)⟩ with ⟨h1,e⟩|⟨k,rfl,hk,hc⟩
 ·rw [e]
  by_cases h0:item<0
  ·exact (Ei2 x p i item w h0).mono fun e' w' ⟨h2,h3⟩=>⟨_,h2,.inl ⟨by simp,rfl,rfl⟩,h3⟩
  ·exact (Dq9 x p i item w h0 (by simp [inB] at h1;omega)).mono fun e' w' ⟨h2,h3⟩=>⟨_,h2,.inl ⟨by simp,rfl,rfl⟩,h3⟩
 ·obtain ⟨b,o,ea,hb,c0,c1⟩:=Au.cells h.wh hk
  rw [←Bo hk] at c0 c1
  obtain ⟨ab,ao,ea2,hb2,hc2⟩:=h.at_.at_ hi
  have c2:=hc2 i hi
  rw [(Bn hx hi).1] at c2
  obtain ⟨pd,pa,pac,pk,pkc,pw,pwc⟩:=p
  simp only at ea ea2
  subst ea ea2
  rcases hc with ⟨h1,e⟩|⟨h1,h2,e⟩|⟨h1,h2,e⟩
  all_goals rw [e]
  ·exact (Dr1 x pd ab ao pac pk pkc b o pwc i k w hx h hi hk c0 c1 c2 h1).mono fun e' w' ⟨h2,h3⟩=>⟨_,h2,.inl ⟨by simp,rfl,rfl⟩,h3⟩
  ·exact (Dr0 x pd ab ao pac pk pkc b o pwc i k w hx h hi hk c0 c1 c2 h1 h2).mono fun e' w' ⟨h2,h3⟩=>⟨_,h2,.inl ⟨by simp,rfl,rfl⟩,h3⟩
  ·exact (Fm9 x pd ab ao pac pk pkc b o pwc i k w hx h hi hk c0 c1 c2 h1 _ rfl (by simpa using h2)).mono fun e' w' ⟨q,h4,h5,h6⟩=>⟨q,h4,.inr ⟨rfl,rfl,h5⟩,h6⟩
end
section
theorem Dr5 (x:Wd) (p:Wp) (i:Nat) (q:Int) (w:World) (hq:q<0):Calls prog 24 #[.agg (wC x p),.int .i64 (i:Int),.int .i64 q] w fun e w'=>e=.returned (.tuple #[.agg (wC x p),.int .i64 3])∧Below w.heap.size w w':=by
 have hWC:=@wC.eq_1
 have hZC:=@zC.eq_1
 go_enter func24,ntmps24
 go_wp2_with fail
 refine bodyPost_ret (v:=.tuple #[.agg (wC x p),.int .i64 3]) (by simp [results,results24,go_sem]) rfl ⟨rfl,?_⟩
 exact (b_a _).alloc (by simp) _
theorem Db5 (x:Wd) (p:Wp) (i:Nat) (q:Int) (w:World) (h0:¬q<0) (hq:(x.wher.length:Int)≤q):Calls prog 24 #[.agg (wC x p),.int .i64 (i:Int),.int .i64 q] w fun e w'=>e=.returned (.tuple #[.agg (wC x p),.int .i64 3])∧Below w.heap.size w w':=by
 have hWC:=@wC.eq_1
 have hZC:=@zC.eq_1
 go_enter func24,ntmps24
 go_wp2_with fail
 refine bodyPost_ret (v:=.tuple #[.agg (wC x p),.int .i64 3]) (by simp [results,results24,go_sem]) rfl ⟨rfl,?_⟩
 exact (b_a _).alloc (by simp) _
section
variable (x:Wd) (pd:Dp) (ab ao pac:Nat) (pk:Option Addr) (pkc b o pwc:Nat) (i k:Nat) (w:World) (hx:Ai x=true) (h:Ab w ⟨pd,some ⟨ab,ao,none⟩,pac,pk,pkc,some ⟨b,o,none⟩,pwc⟩ x) (hi:i<x.at_.length) (hk:k<x.wher.length)
 (c0:w.cell? ⟨b,o+k*2,none⟩=some (.int .i64 (plOf x.wher k).kind)) (c1:w.cell? ⟨b,o+k*2+1,none⟩=some (.int .i64 (plOf x.wher k).id)) (c2:w.cell? ⟨ab,ao+i,none⟩=some (.int .i64 (Ah x i:Int)))
include hx h hi hk c0 c1 c2
theorem Db7 (hz:¬plOf x.wher k=⟨1,(i:Int)⟩):Calls prog 24 #[.agg (wC x ⟨pd,some ⟨ab,ao,none⟩,pac,pk,pkc,some ⟨b,o,none⟩,pwc⟩),.int .i64 (i:Int),.int .i64 (k:Int)] w fun e w'=>e=.returned (.tuple #[.agg (wC x ⟨pd,some ⟨ab,ao,none⟩,pac,pk,pkc,some ⟨b,o,none⟩,pwc⟩),.int .i64 5])∧Below w.heap.size w w':=by
 generalize plOf x.wher k=z at *
 obtain ⟨zk,zi⟩:=z
 have C0:=hid (Two.start 29 29 w (wC x ⟨pd,some ⟨ab,ao,none⟩,pac,pk,pkc,some ⟨b,o,none⟩,pwc⟩) zC)
 have H:=hid h
 have HX:=hid hx
 have hlen:=h.wh.len
 have hlen2:=h.at_.len
 have hlt:¬(x.wher.length:Int)≤(k:Int):=by omega
 have hrun:=Kj zk zi 1 (i:Int)
 simp only [hz,decide_false,Bool.not_false] at hrun
 simp only at c0 c1
 clear h hx hz
 have B0:=hid hi
 have E0:=hid c0
 have E1:=hid c1
 have E2:=hid c2
 have c0:=Ad c0 C0.out.b
 have c1:=Ad c1 C0.out.b
 have C1:=hid C0.out
 have hWC:=@wC.eq_1
 have hZC:=@zC.eq_1
 go_enter func24,ntmps24
 have hca:=C1.out.a.cell
 have hla:=C1.out.a.lt
 obtain ⟨hcr,hzr,hlr⟩:=C1.out.r.all
 go_wp2_with fail
 refine bodyPost_ret (v:=.tuple #[.agg (wC x ⟨pd,some ⟨ab,ao,none⟩,pac,pk,pkc,some ⟨b,o,none⟩,pwc⟩),.int .i64 5]) (by simp [results,results24,go_sem]) rfl ⟨rfl,?_⟩
 exact (b_a _).alloc (by simp) _
theorem Db6 (hz:plOf x.wher k=⟨1,(i:Int)⟩) (hr:roomI x ⟨0,(Ah x i:Int)⟩=0):Calls prog 24 #[.agg (wC x ⟨pd,some ⟨ab,ao,none⟩,pac,pk,pkc,some ⟨b,o,none⟩,pwc⟩),.int .i64 (i:Int),.int .i64 (k:Int)] w fun e w'=>e=.returned (.tuple #[.agg (wC x ⟨pd,some ⟨ab,ao,none⟩,pac,pk,pkc,some ⟨b,o,none⟩,pwc⟩),.int .i64 9])∧Below w.heap.size w w':=by
 have HR:=hid hr
 clear hr
 generalize plOf x.wher k=z at *
 obtain ⟨zk,zi⟩:=z
 have C0:=hid (Two.start 29 29 w (wC x ⟨pd,some ⟨ab,ao,none⟩,pac,pk,pkc,some ⟨b,o,none⟩,pwc⟩) zC)
 have H:=hid h
 have HX:=hid hx
 have hlen:=h.wh.len
 have hlen2:=h.at_.len
 have hlt:¬(x.wher.length:Int)≤(k:Int):=by omega
 have hrun:=Kj zk zi 1 (i:Int)
 simp only [hz,decide_true,Bool.not_true] at hrun
 simp only at c0 c1
 clear h hx hz
 have B0:=hid hi
 have E0:=hid c0
 have E1:=hid c1
 have E2:=hid c2
 have c0:=Ad c0 C0.out.b
 have c1:=Ad c1 C0.out.b
 have C1:=hid C0.out
 have hWC:=@wC.eq_1
 have hZC:=@zC.eq_1
 go_enter func24,ntmps24
 have hca:=C1.out.a.cell
 have hla:=C1.out.a.lt
 obtain ⟨hcr,hzr,hlr⟩:=C1.out.r.all
 go_wp2_with fail
 clear hca hla hcr hzr hlr
 refine tkS (S:=(fun w'=>Below w.heap.size w w'∧w.heap.size<w'.heap.size∧(∀i,w'.cell? ⟨w.heap.size,i,none⟩=((wC x ⟨pd,some ⟨ab,ao,none⟩,pac,pk,pkc,some ⟨b,o,none⟩,pwc⟩)[i]?:Option Value))∧w.heap.size+1<w'.heap.size∧w'.cell? ⟨b,o+k*2,none⟩=some (.int .i64 zk)∧w'.cell? ⟨b,o+k*2+1,none⟩=some (.int .i64 zi)∧w'.cell? ⟨ab,ao+i,none⟩=some (.int .i64 (Ah x i:Int)))) (by (first|(with_reducible exact rS7 (TwoE.mk C1.out.drew) E0.out E1.out E2.out))) (fun hHeld=>?_)
 refine tkl [0,1,2,3,4,5,6] ?_
 iterate 7
  refine tW ?_
  try go_frame
 refine rdy1 7 (fun K hK=>?_)
 go_simp
 refine (Bz4 x ⟨pd,some ⟨ab,ao,none⟩,pac,pk,pkc,some ⟨b,o,none⟩,pwc⟩ (Ah x i) _ HX.out (H.out.below C1.out.drew.b (Nat.le_refl _))).mono ?_;rintro e w2 ⟨rfl,hb2⟩;rw [HR.out];have C3:=hid (C1.out.drew.call hb2);clear hb2
 try go_wp2_with fail
 refine hK.out _ _ (by (first|(with_reducible exact rS7 (TwoE.mk C3.out) E0.out E1.out E2.out))) (fun hHeld=>?_)
 clear hK K
 try go_frame
 refine tkl [8] (tW ?_)
 try go_frame
 refine tkD ?_
 clear hHeld
 have hca:=C3.out.a.cell
 have hla:=C3.out.a.lt
 obtain ⟨hcr,hzr,hlr⟩:=C3.out.r.all
 go_wp2_with fail
 refine bodyPost_ret (v:=.tuple #[.agg (wC x ⟨pd,some ⟨ab,ao,none⟩,pac,pk,pkc,some ⟨b,o,none⟩,pwc⟩),.int .i64 9]) (by simp [results,results24,go_sem,hcr]) rfl ⟨rfl,?_⟩
 iterate 11 refine bs_1 ?_
 exact C3.out.b
theorem Ej6 (hz:plOf x.wher k=⟨1,(i:Int)⟩) (r:Int) (hr:roomI x ⟨0,(Ah x i:Int)⟩=r) (hr1:(r==0)=false):Calls prog 24 #[.agg (wC x ⟨pd,some ⟨ab,ao,none⟩,pac,pk,pkc,some ⟨b,o,none⟩,pwc⟩),.int .i64 (i:Int),.int .i64 (k:Int)] w fun e w'=>∃q:Wp,e=.returned (.tuple #[.agg (wC x q),.int .i64 0])∧Cc w.heap.size w' pd q (putW x k ⟨0,(Ah x i:Int)⟩)∧Below w.heap.size w w':=by
 have HR:=hid hr
 clear hr
 generalize plOf x.wher k=z at *
 obtain ⟨zk,zi⟩:=z
 have C0:=hid (Two.start 29 29 w (wC x ⟨pd,some ⟨ab,ao,none⟩,pac,pk,pkc,some ⟨b,o,none⟩,pwc⟩) zC)
 have H:=hid h
 have HX:=hid hx
 have hlen:=h.wh.len
 have hlen2:=h.at_.len
 have hlt:¬(x.wher.length:Int)≤(k:Int):=by omega
 have hrun:=Kj zk zi 1 (i:Int)
 simp only [hz,decide_true,Bool.not_true] at hrun
 simp only at c0 c1
 clear h hx hz
 have B0:=hid hi
 have E0:=hid c0
 have E1:=hid c1
 have E2:=hid c2
 have c0:=Ad c0 C0.out.b
 have c1:=Ad c1 C0.out.b
 have C1:=hid C0.out
 have hWC:=@wC.eq_1
 have hZC:=@zC.eq_1
 go_enter func24,ntmps24
 have hca:=C1.out.a.cell
 have hla:=C1.out.a.lt
 obtain ⟨hcr,hzr,hlr⟩:=C1.out.r.all
 go_wp2_with fail
 clear hca hla hcr hzr hlr
 refine tkS (S:=(fun w'=>Below w.heap.size w w'∧w.heap.size<w'.heap.size∧(∀i,w'.cell? ⟨w.heap.size,i,none⟩=((wC x ⟨pd,some ⟨ab,ao,none⟩,pac,pk,pkc,some ⟨b,o,none⟩,pwc⟩)[i]?:Option Value))∧w.heap.size+1<w'.heap.size∧w'.cell? ⟨b,o+k*2,none⟩=some (.int .i64 zk)∧w'.cell? ⟨b,o+k*2+1,none⟩=some (.int .i64 zi)∧w'.cell? ⟨ab,ao+i,none⟩=some (.int .i64 (Ah x i:Int)))) (by (first|(with_reducible exact rS7 (TwoE.mk C1.out.drew) E0.out E1.out E2.out))) (fun hHeld=>?_)
 refine tkl [0,1,2,3,4,5,6] ?_
 iterate 7
  refine tW ?_
  try go_frame
 refine rdy1 7 (fun K hK=>?_)
 go_simp
 refine (Bz4 x ⟨pd,some ⟨ab,ao,none⟩,pac,pk,pkc,some ⟨b,o,none⟩,pwc⟩ (Ah x i) _ HX.out (H.out.below C1.out.drew.b (Nat.le_refl _))).mono ?_;rintro e w2 ⟨rfl,hb2⟩;rw [HR.out];have C3:=hid (C1.out.drew.call hb2);clear hb2
 try go_wp2_with fail
 refine hK.out _ _ (by (first|(with_reducible exact rS7 (TwoE.mk C3.out) E0.out E1.out E2.out))) (fun hHeld=>?_)
 clear hK K
 try go_frame
 refine tkl [8] (tW ?_)
 try go_frame
 refine tkD ?_
 clear hHeld
 have hca:=C3.out.a.cell
 have hla:=C3.out.a.lt
 obtain ⟨hcr,hzr,hlr⟩:=C3.out.r.all
 go_wp2_with fail
 clear hca hla hcr hzr hlr
 refine tkS (S:=(fun w'=>Below w.heap.size w w'∧w.heap.size<w'.heap.size∧(∀i,w'.cell? ⟨w.heap.size,i,none⟩=((wC x ⟨pd,some ⟨ab,ao,none⟩,pac,pk,pkc,some ⟨b,o,none⟩,pwc⟩)[i]?:Option Value))∧w.heap.size+1<w'.heap.size∧w'.cell? ⟨b,o+k*2,none⟩=some (.int .i64 zk)∧w'.cell? ⟨b,o+k*2+1,none⟩=some (.int .i64 zi)∧w'.cell? ⟨ab,ao+i,none⟩=some (.int .i64 (Ah x i:Int)))) (by (first|(with_reducible exact rS7 (TwoE.mk C3.out.drew) E0.out E1.out E2.out))) (fun hHeld=>?_)
 refine tkl [0,1,2,3,4,5,6,7] ?_
 iterate 8
  refine tW ?_
  try go_frame
 refine rdy1 8 (fun K hK=>?_)
 go_simp
 refine (Cn6 x ⟨pd,some ⟨ab,ao,none⟩,pac,pk,pkc,some ⟨b,o,none⟩,pwc⟩ k (Ah x i) _ (H.out.below C3.out.drew.b (Nat.le_refl _)) (Ci HX.out) hk).mono ?_;rintro e w3 ⟨⟨qd,qa,qac,qk,qkc,qw,qwc⟩,rfl,ho,hb3⟩;have C4:=hid (C3.out.drew.call hb3);have HO:=hid (ho.less C3.out.drew.size)
 try go_wp2_with fail
 refine hK.out _ _ (by (first|(with_reducible exact rS7 (TwoE.mk C4.out) E0.out E1.out E2.out))) (fun hHeld=>?_)
 clear hK K
 try go_frame
 obtain ⟨hcr,hzr,hlr⟩:=C4.out.r.all
 clear ho hb3
 refine rdy1 9 (fun K hK=>?_)
 go_simp
 try go_wp2_with fail
 refine hK.out _ _ (by (first|(refine rS7 (t:=29) (s:=29) (w:=w) ?_ E0.out E1.out E2.out;(iterate 11 with_reducible refine TwoE.set2 ?_ _ _);with_reducible exact TwoE.mk C4.out))) (fun hHeld=>?_)
 clear hK K
 try go_frame
 refine tkl [10] (tW ?_)
 try go_frame
 refine tkD ?_
 go_wp2_with fail
 refine bodyPost_ret (v:=.tuple #[.agg (wC x ⟨qd,qa,qac,qk,qkc,qw,qwc⟩),.int .i64 0]) (by simp [results,results24,go_sem,hcr]) rfl ⟨⟨qd,qa,qac,qk,qkc,qw,qwc⟩,rfl,?_,?_⟩
 ·refine Cc.less (n:=w.heap.size+2) ?_ (by omega)
  iterate 11 refine Cc.set (b:=w.heap.size+1) ?_ (by omega) _ _
  exact HO.out
 ·iterate 11 refine bs_1 ?_
  exact C4.out.b
end
theorem Bg3 (x:Wd) (p:Wp) (i:Nat) (item:Int) (w:World) (hx:Ai x=true) (h:Ab w p x) (hi:i<x.at_.length):Calls prog 24 #[.agg (wC x p),.int .i64 (i:Int),.int .i64 item] w fun e w'=>∃q:Wp,e=.returned (.tuple #[.agg (wC x q),.int .i64 (Nj x i item).2])∧Ae6 w.heap.size w' p q x (Nj x i item)∧Below w.heap.size w w':=by
 unfold Nj
 rcases Ho x item ⟨1,(i:Int)⟩ ⟨0,(Ah x i:Int)⟩ with ⟨h1,e⟩|⟨k,rfl,hk,hc⟩
 ·rw [e]
  by_cases h0:item<0
  ·exact (Dr5 x p i item w h0).mono fun e' w' ⟨h2,h3⟩=>⟨_,h2,.inl ⟨by simp,rfl,rfl⟩,h3⟩
  ·exact (Db5 x p i item w h0 (by simp [inB] at h1;omega)).mono fun e' w' ⟨h2,h3⟩=>⟨_,h2,.inl ⟨by simp,rfl,rfl⟩,h3⟩
 ·obtain ⟨b,o,ea,hb,c0,c1⟩:=Au.cells h.wh hk
  rw [←Bo hk] at c0 c1
  obtain ⟨ab,ao,ea2,hb2,hc2⟩:=h.at_.at_ hi
  have c2:=hc2 i hi
  rw [(Bn hx hi).1] at c2
  obtain ⟨pd,pa,pac,pk,pkc,pw,pwc⟩:=p
  simp only at ea ea2
  subst ea ea2
  rcases hc with ⟨h1,e⟩|⟨h1,h2,e⟩|⟨h1,h2,e⟩
  all_goals rw [e]
  ·exact (Db7 x pd ab ao pac pk pkc b o pwc i k w hx h hi hk c0 c1 c2 h1).mono fun e' w' ⟨h2,h3⟩=>⟨_,h2,.inl ⟨by simp,rfl,rfl⟩,h3⟩
  ·exact (Db6 x pd ab ao pac pk pkc b o pwc i k w hx h hi hk c0 c1 c2 h1 h2).mono fun e' w' ⟨h2,h3⟩=>⟨_,h2,.inl ⟨by simp,rfl,rfl⟩,h3⟩
  ·exact (Ej6 x pd ab ao pac pk pkc b o pwc i k w hx h hi hk c0 c1 c2 h1 _ rfl (by simpa using h2)).mono fun e' w' ⟨q,h4,h5,h6⟩=>⟨q,h4,.inr ⟨rfl,rfl,h5⟩,h6⟩
end
end Go.Proofs.Ytenpcndoilcjcaa
