/- The document's own: Height, In, Under, Is. -/
import Derived.Test.YtenpcndoilcjcaaTreeRefA
import Derived.Test.YtenpcndoilcjcaaGSightC
namespace Go.Proofs.Ytenpcndoilcjcaa
open Go.ChangeShapes Go.WideShapes Go.ChangeAt Go.RowKit Go.Proofs.Try
open Lib (hid)
set_option linter.unusedVariables false
set_option maxHeartbeats 2000000
set_option maxRecDepth 100000
section
theorem Bf0 (x:Wd) (d:Dp) (a kk pw:Option Addr) (ac kc wc:Nat) (yk yi:Int) (hT:Tr x.wher) (w:World) (h:Au w pw x.wher) (hl16:x.wher.length≤40):Calls prog 57 #[.agg (wC x ⟨d,a,ac,kk,kc,pw,wc⟩),.agg #[.int .i64 yk,.int .i64 yi]] w fun e w'=>∃q cap,e=.returned (.slice q (Bf x.wher x.wher.length ⟨yk,yi⟩).length cap)∧OwnR 3 94 seC w.heap.size w' q (Bf x.wher x.wher.length ⟨yk,yi⟩)∧Below w.heap.size w w':=by
 have H:=hid h
 have HT:=hid hT
 clear h hT
 have HP:=hid (Ac.pair w (wC x ⟨d,a,ac,kk,kc,pw,wc⟩) #[.int .i64 yk,.int .i64 yi] 29 52)
 have hWC:=@wC.eq_1
 go_enter func57,ntmps57
 go_wp2_with fail
 go_loopw [5,6] (fun v i wr=>∃k:Nat,k≤x.wher.length∧i=.int .i64 k∧Dt 3 94 seC (w.heap.size+2) wr v (Bf x.wher k ⟨yk,yi⟩)∧Ac w w.heap.size (wC x ⟨d,a,ac,kk,kc,pw,wc⟩) wr∧Ac w (w.heap.size+1) #[.int .i64 yk,.int .i64 yi] wr) (fun _ i _=>x.wher.length-(intOf i).toNat)
 case atStart=>exact ⟨0,Nat.zero_le _,rfl,Dt.nil _,HP.out.1,HP.out.2⟩
 case round =>
  obtain ⟨k,hk,rfl,hR,h1,h2⟩:=hrel
  have hc1:=h1.2.2
  have hc2:=h2.2.2
  have hl2:=h2.2.1
  have HR:=hid hR
  by_cases hlt:k<x.wher.length
  ·obtain ⟨b,o,hbo,hb,c0,c1⟩:=Au.cells (Ar.below H.out h1.1 (Nat.le_refl _)) hlt
   have hbw:=World.block_lt_of_cell? wr _ c0
   have HY:=hid (Qv (ps:=x.wher) (n:=k) (p:=⟨yk,yi⟩))
   have HN:=hid (Ua (ps:=x.wher) (n:=k) (p:=⟨yk,yi⟩))
   have HG:=hid (Bo hlt)
   have HIL:=hid (Hd x.wher k ⟨yk,yi⟩)
   subst hbo
   have HRT:=hid (Lc x ⟨d,a,ac,kk,kc,some ⟨b,o,none⟩,wc⟩ HT.out k hlt)
   have K1:=hid h1
   have K2:=hid h2
   clear h1 h2 hR
   generalize x.wher[k]=z at *
   obtain ⟨zk,zi⟩:=z
   simp only at c0 c1
   obtain ⟨r,hr⟩:∃r,Bh x.wher k=r:=⟨_,rfl⟩
   obtain ⟨rk,ri⟩:=r
   have hrun:=Ey rk ri yk yi
   have hw:IntKind.i64.wrap ((k:Int)+1)=(k:Int)+1:=IntWalk.i64_in _ (by omega)
   have HRR:=hid hr
   clear hr
   have C0:=hid c0
   have C1:=hid c1
   have HV:=hid (Ar.below H.out K1.out.1 (Nat.le_refl _))
   have KS:Hid (∀w',Below wr.heap.size wr w'→Below wr.heap.size wr w'∧(∀i,w'.cell? ⟨w.heap.size,i,none⟩=((wC x ⟨d,a,ac,kk,kc,some ⟨b,o,none⟩,wc⟩)[i]?:Option Value))∧(∀i,w'.cell? ⟨w.heap.size+1,i,none⟩=(#[.int .i64 yk,.int .i64 yi][i]?:Option Value))):=hid (fun w' hb=>⟨hb,fun i=>(hb.cell (p:=⟨w.heap.size,i,none⟩) K1.out.2.1).trans (K1.out.2.2 i),fun i=>(hb.cell (p:=⟨w.heap.size+1,i,none⟩) K2.out.2.1).trans (K2.out.2.2 i)⟩)
   by_cases he:(⟨rk,ri⟩:Pl)=⟨yk,yi⟩
   ·have HX:=hid (HY.out (HRR.out.trans he))
    simp only [he,decide_true] at hrun
    clear he HY HN
    go_wp2_with fail
    clear hc1 hc2 c0 c1
    refine tkS (S:=(fun w'=>Below wr.heap.size wr w'∧(∀i,w'.cell? ⟨w.heap.size,i,none⟩=((wC x ⟨d,a,ac,kk,kc,some ⟨b,o,none⟩,wc⟩)[i]?:Option Value))∧(∀i,w'.cell? ⟨w.heap.size+1,i,none⟩=(#[.int .i64 yk,.int .i64 yi][i]?:Option Value)))) (by (with_reducible exact KS.out _ (Af (Below.refl _ _)))) (fun hHeld=>?_)
    refine tkl [0,1,3] ?_
    iterate 3
     first|refine tW ?_|refine tN ?_
     try go_frame
    refine rdy1 2 (fun K hK=>?_)
    go_simp;refine (HRT.out _ (HV.out.below hHeld.1 (Nat.le_refl _))).mono ?_;rintro e w9 ⟨rfl,hb9⟩;rw [HRR.out];try go_wp2_with fail
    refine hK.out _ _ (by (with_reducible exact KS.out _ (Aa hHeld.1 hHeld.1.size hb9))) (fun hHeld=>?_)
    clear hK K
    try go_frame
    refine tkl [4] ?_
    iterate 1
     first|refine tW ?_|refine tN ?_
     try go_frame
    refine tkD ?_
    have HB:=hid hHeld.1
    have L1:=hid (K1.out.call HB.out)
    have L2:=hid (K2.out.call HB.out)
    have R2:=hid (HR.out.call HB.out)
    have cz:=(HB.out.cell (p:=⟨b,o+k*2,none⟩) hbw).trans C0.out
    have cy:=(HB.out.cell (p:=⟨b,o+k*2+1,none⟩) hbw).trans C1.out
    have d1:=L1.out.2.2
    have m1:=L1.out.2.1
    clear hHeld
    obtain ⟨v3,W3,hr3,hg3,hb3⟩:=R2.out.one underlying37 Bk6 rfl (by decide) (by decide) Rz Bb5 ⟨(k:Int),zk,zi⟩ (by have:=HIL.out;omega) (by have:=HB.out.size;have:=L1.out.1.size;have:=L2.out.2.1;omega)
    have HRN:=hid (show (Builtin.append_ #[37,37] 37 #[_,.slice (some ⟨_,0,none⟩) 1 1]).run prog (World.alloc _ (.cells #[.int .i64 k,.int .i64 zk,.int .i64 zi] 94))=.ok v3 W3 by simpa [seC] using hr3)
    have HG3:=hid hg3
    have HB3:=hid hb3
    clear hr3 hg3 hb3
    go_wp2_with (at_builtin;refine Bb rfl (.tmp 19) (.tmp 27) 37 rfl _ _ v3 W3 rfl rfl HRN.out ?_)
    go_roundw
    case rel=>exact ⟨k+1,by omega,by go_num,by rw [HX.out];simpa [Jz,HG.out] using HG3.out,R2.out.holds L1.out HB3.out (by omega) (by omega),R2.out.holds L2.out HB3.out (by omega) (by omega)⟩
    case measure=>simp [intOf];omega
   ·have HX:=hid (HN.out (by rw [HRR.out];exact he))
    simp only [he,decide_false] at hrun
    clear he HY HN
    go_wp2_with fail
    clear hc1 hc2 c0 c1
    refine tkS (S:=(fun w'=>Below wr.heap.size wr w'∧(∀i,w'.cell? ⟨w.heap.size,i,none⟩=((wC x ⟨d,a,ac,kk,kc,some ⟨b,o,none⟩,wc⟩)[i]?:Option Value))∧(∀i,w'.cell? ⟨w.heap.size+1,i,none⟩=(#[.int .i64 yk,.int .i64 yi][i]?:Option Value)))) (by (with_reducible exact KS.out _ (Af (Below.refl _ _)))) (fun hHeld=>?_)
    refine tkl [0,1,3] ?_
    iterate 3
     first|refine tW ?_|refine tN ?_
     try go_frame
    refine rdy1 2 (fun K hK=>?_)
    go_simp;refine (HRT.out _ (HV.out.below hHeld.1 (Nat.le_refl _))).mono ?_;rintro e w9 ⟨rfl,hb9⟩;rw [HRR.out];try go_wp2_with fail
    refine hK.out _ _ (by (with_reducible exact KS.out _ (Aa hHeld.1 hHeld.1.size hb9))) (fun hHeld=>?_)
    clear hK K
    try go_frame
    refine tkl [4] ?_
    iterate 1
     first|refine tW ?_|refine tN ?_
     try go_frame
    refine tkD ?_
    have HB:=hid hHeld.1
    have L1:=hid (K1.out.call HB.out)
    have L2:=hid (K2.out.call HB.out)
    have R2:=hid (HR.out.call HB.out)
    have cz:=(HB.out.cell (p:=⟨b,o+k*2,none⟩) hbw).trans C0.out
    have cy:=(HB.out.cell (p:=⟨b,o+k*2+1,none⟩) hbw).trans C1.out
    have d1:=L1.out.2.2
    have m1:=L1.out.2.1
    clear hHeld
    go_wp2_with fail
    go_roundw
    case rel=>exact ⟨k+1,by omega,by go_num,by rw [HX.out];exact R2.out,L1.out,L2.out⟩
    case measure=>simp [intOf];omega
  ·have hke:k=x.wher.length:=by omega
   subst hke
   have H1:=hid h1
   obtain ⟨q,cap,rfl,hO⟩:=hR.own Rz
   have HO:=hid (hO.less (m:=w.heap.size) (by omega))
   clear H h1 h2 hR hO HR
   go_wp2_with fail
   go_ret
   exact ⟨_,_,rfl,HO.out,H1.out.1⟩
theorem Vp (x:Wd) (p:Wp) (y:Pl) (hT:Tr x.wher) (w:World) (h:Au w p.wh x.wher) (hl16:x.wher.length≤40):Calls prog 57 #[.agg (wC x p),.agg #[.int .i64 y.kind,.int .i64 y.id]] w fun e w'=>∃q cap,e=.returned (.slice q (Bf x.wher x.wher.length y).length cap)∧OwnR 3 94 seC w.heap.size w' q (Bf x.wher x.wher.length y)∧Below w.heap.size w w' :=
 Bf0 x p.d p.at_ p.co p.wh p.atc p.coc p.whc y.kind y.id hT w h hl16
end
section
theorem Fy1 (x:Wd) (pd:Dp) (b o pac:Nat) (pk pw:Option Addr) (pkc pwc:Nat) (i:Nat) (w:World) (hx:Ai x=true) (h:Ab w ⟨pd,some ⟨b,o,none⟩,pac,pk,pkc,pw,pwc⟩ x) (hi:i<x.at_.length):Calls prog 29 #[.agg (wC x ⟨pd,some ⟨b,o,none⟩,pac,pk,pkc,pw,pwc⟩),.int .i64 (i:Int)] w fun e w'=>∃qa ia qc ic,e=.returned (.agg #[.int .i64 0,.int .i64 9,.int .i64 (Ah x i:Int),.slice qa (Gw x x.at_.length (Ah x i)).length qc,.slice ia (Bf x.wher x.wher.length ⟨0,(Ah x i:Int)⟩).length ic,.int .i64 0])∧NewR w.heap.size w' qa ia (Gh x i)∧Below w.heap.size w w':=by
 obtain ⟨b',o',eb,hb,hcs⟩:=h.at_.at_ hi
 simp only [Option.some.injEq,Addr.mk.injEq,and_true] at eb
 obtain ⟨rfl,rfl⟩:=eb
 have c0:=hcs i hi
 rw [(Bn hx hi).1] at c0
 have hlen:=Aj hx
 have h6:=hlen.2.1
 have h7:x.at_.length=x.coins.length:=hlen.2.2.1.symm
 have HX:=hid hx
 have HT:=hid (Bv hx)
 have HWA:=hid h
 have HW16:=hid (show x.wher.length≤40 by have:=hlen.2.2.2.1;omega)
 have hi1:¬(x.at_.length:Int)≤(i:Int):=by omega
 have hi2:(x.at_.length≤i)=False:=by simp;omega
 have HI:=hid hi
 have HIK:=hid (show i<x.coins.length by omega)
 clear hlen h hx hcs hi h6 h7
 have C0:=hid (Two.start 29 39 w (wC x ⟨pd,some ⟨b,o,none⟩,pac,pk,pkc,pw,pwc⟩) #[.int .i64 0,.int .i64 0,.int .i64 0,.slice none 0 0,.slice none 0 0,.int .i64 0])
 have hWC:=@wC.eq_1
 go_enter func29,ntmps29
 go_wp2_with fail
 generalize (w.alloc (.cells (wC x ⟨pd,some ⟨b,o,none⟩,pac,pk,pkc,pw,pwc⟩) 29)).alloc (.cells #[.int .i64 0,.int .i64 0,.int .i64 0,.slice none 0 0,.slice none 0 0,.int .i64 0] 39)=V0 at *
 replace c0:=Ad c0 C0.out.b
 have D0:=hid C0.out.drew
 clear C0
 replace c0:=Ad c0 (Af (Below.refl _ _))
 refine tkS (S:=(fun w'=>Below w.heap.size w w'∧w.heap.size<w'.heap.size∧(∀ii,w'.cell? ⟨w.heap.size,ii,none⟩=((wC x ⟨pd,some ⟨b,o,none⟩,pac,pk,pkc,pw,pwc⟩)[ii]?:Option Value))∧w.heap.size+1<w'.heap.size∧w'.cell? ⟨b,o+i,none⟩=some (.int .i64 (Ah x i:Int)))) (by (first|(with_reducible exact ⟨D0.out.b,D0.out.a.lt,D0.out.a.cell,D0.out.r.lt,c0⟩))) (fun hHeld=>?_)
 refine tkl [0,1,2,3,4,5,6,7,8,9,10,12,13,14,15,16,17,18] ?_
 iterate 18
  refine tW ?_
  try go_frame
 refine rdy1 11 (fun K hK=>?_)
 go_simp
 refine (Bn0 x ⟨pd,some ⟨b,o,none⟩,pac,pk,pkc,pw,pwc⟩ (Ah x i) _ HX.out (HWA.out.below D0.out.b (Nat.le_refl _)).at_).mono ?_;rintro e w2 ⟨qa,qc,rfl,g1,hb1⟩;have D1:=hid (D0.out.call hb1);have G1:=hid g1;have c1:=Ad c0 hb1;clear hb1 g1
 try go_wp2_with fail
 refine hK.out _ _ (by (first|(with_reducible exact ⟨D1.out.b,D1.out.a.lt,D1.out.a.cell,D1.out.r.lt,c1⟩))) (fun hHeld=>?_)
 clear hK K
 try go_frame
 refine rdy1 19 (fun K hK=>?_)
 go_simp
 refine (Vp x ⟨pd,some ⟨b,o,none⟩,pac,pk,pkc,pw,pwc⟩ ⟨0,(Ah x i:Int)⟩ HT.out _ (HWA.out.below D1.out.b (Nat.le_refl _)).wh HW16.out).mono ?_;rintro e w3 ⟨ia,ic,rfl,g2,hb2⟩;have D2:=hid (D1.out.call hb2);have Q1:=hid (G1.out.call hb2);have G2:=hid g2;have HB2:=hid hb2;have c2:=Ad c1 hb2;clear hb2 g2
 try go_wp2_with fail
 refine hK.out _ _ (by (first|(with_reducible exact ⟨D2.out.b,D2.out.a.lt,D2.out.a.cell,D2.out.r.lt,c2⟩))) (fun hHeld=>?_)
 clear hK K
 try go_frame
 refine tkl [20] (tW ?_)
 try go_frame
 obtain ⟨hc2,hz2,hs2⟩:=D2.out.r.all
 refine rdy1 21 (fun K hK=>?_)
 go_simp
 try go_wp2_with fail
 refine hK.out _ _ (by (first|(refine and5 (Ry (t:=29) (s:=39) (w:=w) ?_) ?_;exact (by (iterate 6 with_reducible refine TwoE.set2 ?_ _ _);with_reducible exact TwoE.mk D2.out);(iterate 6 with_reducible refine (World.cell?_setCell_far _ _ _ _ (by show w.heap.size+1≠b;omega)).trans ?_);with_reducible exact c2))) (fun hHeld=>?_)
 clear hK K
 try go_frame
 refine tkD ?_
 go_wp2_with fail
 refine bodyPost_ret (v:=.agg #[.int .i64 0,.int .i64 9,.int .i64 (Ah x i:Int),.slice qa (Gw x x.at_.length (Ah x i)).length qc,.slice ia (Bf x.wher x.wher.length ⟨0,(Ah x i:Int)⟩).length ic,.int .i64 0]) (by simp [results,results29,go_sem,hc2]) rfl ⟨qa,ia,qc,ic,rfl,?_,?_⟩
 ·refine NewR.less (n:=w.heap.size+2) ?_ (by omega)
  iterate 6 refine NewR.set (q:=w.heap.size+1) ?_ (by omega) _ _
  exact ⟨Q1.out.less (by have:=D0.out.size;omega),G2.out.less (by have:=D1.out.size;omega)⟩
 ·iterate 6 refine bs_1 ?_
  exact D2.out.b
theorem Dz9 (x:Wd) (p:Wp) (i:Nat) (w:World) (hx:Ai x=true) (h:Ab w p x) (hi:i<x.at_.length) {R:Rp} (hR:Gh x i=R):Calls prog 29 #[.agg (wC x p),.int .i64 (i:Int)] w fun e w'=>∃qa ia qc ic,e=.returned (.agg #[.int .i64 R.err,.int .i64 R.kind,.int .i64 R.room,.slice qa R.players.length qc,.slice ia R.items.length ic,.int .i64 R.coins])∧NewR w.heap.size w' qa ia R∧Below w.heap.size w w':=by
 subst hR
 obtain ⟨pd,pa,pac,pk,pkc,pw,pwc⟩:=p
 obtain ⟨b,o,eb,-,-⟩:=h.at_.at_ hi
 simp only at eb
 subst eb
 exact Fy1 x pd b o pac pk pw pkc pwc i w hx h hi
theorem Gm6 (x:Wd) (pd:Dp) (b o pac kb ko pkc:Nat) (pw:Option Addr) (pwc:Nat) (i:Nat) (w:World) (hx:Ai x=true) (h:Ab w ⟨pd,some ⟨b,o,none⟩,pac,some ⟨kb,ko,none⟩,pkc,pw,pwc⟩ x) (hi:i<x.at_.length):Calls prog 30 #[.agg (wC x ⟨pd,some ⟨b,o,none⟩,pac,some ⟨kb,ko,none⟩,pkc,pw,pwc⟩),.int .i64 (i:Int)] w fun e w'=>∃qa ia qc ic,e=.returned (.agg #[.int .i64 0,.int .i64 10,.int .i64 0,.slice qa 0 qc,.slice ia (Bf x.wher x.wher.length ⟨1,(i:Int)⟩).length ic,.int .i64 (Qm x i)])∧NewR w.heap.size w' qa ia (Lh x i)∧Below w.heap.size w w':=by
 obtain ⟨hk,ek⟩:=Xw hx hi
 obtain ⟨b',o',eb,hb,hcs⟩:=h.co.at_ hk
 simp only [Option.some.injEq,Addr.mk.injEq,and_true] at eb
 obtain ⟨rfl,rfl⟩:=eb
 have c0:=hcs i hk
 rw [ek] at c0
 have hlen:=Aj hx
 have h6:=hlen.2.1
 have h7:x.at_.length=x.coins.length:=hlen.2.2.1.symm
 have HX:=hid hx
 have HT:=hid (Bv hx)
 have HWA:=hid h
 have HW16:=hid (show x.wher.length≤40 by have:=hlen.2.2.2.1;omega)
 have hi1:¬(x.coins.length:Int)≤(i:Int):=by omega
 have hi2:(x.coins.length≤i)=False:=by simp;omega
 have HI:=hid hi
 have HIK:=hid (show i<x.coins.length by omega)
 clear hlen h hx hcs hk ek hi h6 h7
 have C0:=hid (Two.start 29 39 w (wC x ⟨pd,some ⟨b,o,none⟩,pac,some ⟨kb,ko,none⟩,pkc,pw,pwc⟩) #[.int .i64 0,.int .i64 0,.int .i64 0,.slice none 0 0,.slice none 0 0,.int .i64 0])
 have hWC:=@wC.eq_1
 go_enter func30,ntmps30
 go_wp2_with fail
 generalize (w.alloc (.cells (wC x ⟨pd,some ⟨b,o,none⟩,pac,some ⟨kb,ko,none⟩,pkc,pw,pwc⟩) 29)).alloc (.cells #[.int .i64 0,.int .i64 0,.int .i64 0,.slice none 0 0,.slice none 0 0,.int .i64 0] 39)=V0 at *
 replace c0:=Ad c0 C0.out.b
 have D0:=hid C0.out.drew
 clear C0
 replace c0:=Ad c0 (Af (Below.refl _ _))
 refine tkS (S:=(fun w'=>Below w.heap.size w w'∧w.heap.size<w'.heap.size∧(∀ii,w'.cell? ⟨w.heap.size,ii,none⟩=((wC x ⟨pd,some ⟨b,o,none⟩,pac,some ⟨kb,ko,none⟩,pkc,pw,pwc⟩)[ii]?:Option Value))∧w.heap.size+1<w'.heap.size∧w'.cell? ⟨kb,ko+i,none⟩=some (.int .i64 (Qm x i)))) (by (first|(with_reducible exact ⟨D0.out.b,D0.out.a.lt,D0.out.a.cell,D0.out.r.lt,c0⟩))) (fun hHeld=>?_)
 refine tkl [0,1,2,3,4,5,6,7] ?_
 iterate 8
  refine tW ?_
  try go_frame
 refine rdy1 8 (fun K hK=>?_)
 go_simp
 refine (Vp x ⟨pd,some ⟨b,o,none⟩,pac,some ⟨kb,ko,none⟩,pkc,pw,pwc⟩ ⟨1,(i:Int)⟩ HT.out _ (HWA.out.below D0.out.b (Nat.le_refl _)).wh HW16.out).mono ?_;rintro e w3 ⟨ia,ic,rfl,g2,hb2⟩;have D2:=hid (D0.out.call hb2);have G2:=hid g2;have HB2:=hid hb2;have c2:=Ad c0 hb2;clear hb2 g2
 try go_wp2_with fail
 refine hK.out _ _ (by (first|(with_reducible exact ⟨D2.out.b,D2.out.a.lt,D2.out.a.cell,D2.out.r.lt,c2⟩))) (fun hHeld=>?_)
 clear hK K
 try go_frame
 refine tkl [9] (tW ?_)
 try go_frame
 obtain ⟨hc2,hz2,hs2⟩:=D2.out.r.all
 refine rdy1 10 (fun K hK=>?_)
 go_simp
 try go_wp2_with fail
 refine hK.out _ _ (by (first|(refine and5 (Ry (t:=29) (s:=39) (w:=w) ?_) ?_;exact (by (iterate 6 with_reducible refine TwoE.set2 ?_ _ _);with_reducible exact TwoE.mk D2.out);(iterate 6 with_reducible refine (World.cell?_setCell_far _ _ _ _ (by show w.heap.size+1≠kb;omega)).trans ?_);with_reducible exact c2))) (fun hHeld=>?_)
 clear hK K
 try go_frame
 refine tkD ?_
 go_wp2_with fail
 refine bodyPost_ret (v:=.agg #[.int .i64 0,.int .i64 10,.int .i64 0,.slice none 0 0,.slice ia (Bf x.wher x.wher.length ⟨1,(i:Int)⟩).length ic,.int .i64 (Qm x i)]) (by simp [results,results30,go_sem,hc2]) rfl ⟨none,ia,0,ic,rfl,?_,?_⟩
 ·refine NewR.less (n:=w.heap.size+2) ?_ (by omega)
  iterate 6 refine NewR.set (q:=w.heap.size+1) ?_ (by omega) _ _
  exact ⟨Aq8 _ _ _ _ _,G2.out.less (by have:=D0.out.size;omega)⟩
 ·iterate 6 refine bs_1 ?_
  exact D2.out.b
theorem Ev7 (x:Wd) (p:Wp) (i:Nat) (w:World) (hx:Ai x=true) (h:Ab w p x) (hi:i<x.at_.length) {R:Rp} (hR:Lh x i=R):Calls prog 30 #[.agg (wC x p),.int .i64 (i:Int)] w fun e w'=>∃qa ia qc ic,e=.returned (.agg #[.int .i64 R.err,.int .i64 R.kind,.int .i64 R.room,.slice qa R.players.length qc,.slice ia R.items.length ic,.int .i64 R.coins])∧NewR w.heap.size w' qa ia R∧Below w.heap.size w w':=by
 subst hR
 obtain ⟨pd,pa,pac,pk,pkc,pw,pwc⟩:=p
 obtain ⟨b,o,eb,-,-⟩:=h.at_.at_ hi
 simp only at eb
 subst eb
 obtain ⟨hk,-⟩:=Xw hx hi
 obtain ⟨kb,ko,ek,-,-⟩:=h.co.at_ hk
 simp only at ek
 subst ek
 exact Gm6 x pd b o pac kb ko pkc pw pwc i w hx h hi
end
end Go.Proofs.Ytenpcndoilcjcaa
