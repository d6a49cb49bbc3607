/- tree.Under: what hangs from a place. -/
import Derived.Test.YtnhkojpbbdaedaaGreatGTreeA
import Derived.Test.YtnhkojpbbdaedaaGreatGTreeL
namespace Go.Proofs.YtnhkojpbbdaedaaGreat
open Go.ChangeShapes Go.WideShapes Go.ChangeAt Go.RowKit
open Lib (hid)
set_option linter.unusedVariables false
open Go.RowKit
set_option maxRecDepth 100000 in
set_option maxHeartbeats 2000000 in
theorem Bk0 (x:Wd) (d:Dp) (a kk pw:Option Addr) (ac kc wc:Nat) (yk yi:Int) (hT:Tr x.wher) (w:World) (h:Au w pw x.wher) (hl16:x.wher.length≤40):Calls Tryz.prog 96 #[.agg (wC x ⟨d,a,ac,kk,kc,pw,wc⟩),.agg #[.int .i64 yk,.int .i64 yi]] w fun e w'=>∃q cap,e=.returned (.slice q (Bf x.wher x.wher.length ⟨yk,yi⟩).length cap)∧OwnR 3 148 seC w.heap.size w' q (Bf x.wher x.wher.length ⟨yk,yi⟩)∧Below w.heap.size w w':=by
 have H:=hid h
 have HT:=hid hT
 clear h hT
 have HP:=hid (Ac.pair w (wC x ⟨d,a,ac,kk,kc,pw,wc⟩) #[.int .i64 yk,.int .i64 yi] 29 48)
 have hWC:=@wC.eq_1
 go_enter Tryz.func96,Tryz.ntmps96
 go_wp2_with fail
 go_loopw [5,11] (fun v i wr=>∃k:Nat,k≤x.wher.length∧i=.int .i64 k∧Dt 3 148 seC (w.heap.size+2) wr v (Bf x.wher k ⟨yk,yi⟩)∧Ac w w.heap.size (wC x ⟨d,a,ac,kk,kc,pw,wc⟩) wr∧Ac w (w.heap.size+1) #[.int .i64 yk,.int .i64 yi] wr) (fun _ i _=>x.wher.length-(intOf i).toNat)
 case atStart=>exact ⟨0,Nat.zero_le _,rfl,Dt.nil _,HP.out.1,HP.out.2⟩
 case round =>
  obtain ⟨k,hk,rfl,hR,h1,h2⟩:=hrel
  have hc1:=h1.2.2
  have hc2:=h2.2.2
  have hl2:=h2.2.1
  have HR:=hid hR
  by_cases hlt:k<x.wher.length
  ·obtain ⟨b,o,hbo,hb,c0,c1⟩:=Au.cells (Ar.below H.out h1.1 (Nat.le_refl _)) hlt
   have HY:=hid (Qv (ps:=x.wher) (n:=k) (p:=⟨yk,yi⟩))
   have HN:=hid (Ua (ps:=x.wher) (n:=k) (p:=⟨yk,yi⟩))
   have HG:=hid (Bo hlt)
   have HIL:=hid (Hd x.wher k ⟨yk,yi⟩)
   subst hbo
   have HRT:=hid (Gr x ⟨d,a,ac,kk,kc,some ⟨b,o,none⟩,wc⟩ HT.out k hlt)
   have H1:=hid h1
   have H2:=hid h2
   clear h1 h2 hR
   generalize x.wher[k]=z at *
   obtain ⟨zk,zi⟩:=z
   simp only at c0 c1
   obtain ⟨r,hr⟩:∃r,Bh x.wher k=r:=⟨_,rfl⟩
   obtain ⟨rk,ri⟩:=r
   have hrun:=Ey rk ri yk yi
   have hw:IntKind.i64.wrap ((k:Int)+1)=(k:Int)+1:=IntWalk.i64_in _ (by omega)
   have HRR:=hid hr
   clear hr
   have HBX:=hid (Blk.new wr 48 #[.int .i64 zk,.int .i64 zi])
   have R1:=hid (HR.out.call (b_a (.cells #[.int .i64 zk,.int .i64 zi] 48)))
   have K1:=hid (H1.out.alloc (.cells #[.int .i64 zk,.int .i64 zi] 48))
   have K2:=hid (H2.out.alloc (.cells #[.int .i64 zk,.int .i64 zi] 48))
   have sz:(wr.alloc (.cells #[.int .i64 zk,.int .i64 zi] 48)).heap.size=wr.heap.size+1:=by simp
   clear HR H1 H2
   by_cases he:(⟨rk,ri⟩:Pl)=⟨yk,yi⟩
   ·have HX:=hid (HY.out (HRR.out.trans he))
    simp only [he,decide_true] at hrun
    clear he HY HN
    go_wp2_with fail
    clear hc1 hc2 c0 c1
    generalize (wr.alloc (.cells #[.int .i64 zk,.int .i64 zi] 48))=V1 at *
    have HV:=hid (Ar.below H.out K1.out.1 (Nat.le_refl _))
    have KS:Hid (∀w',Below V1.heap.size V1 w'→Below V1.heap.size V1 w'∧(∀i,w'.cell? ⟨w.heap.size,i,none⟩=((wC x ⟨d,a,ac,kk,kc,some ⟨b,o,none⟩,wc⟩)[i]?:Option Value))∧(∀i,w'.cell? ⟨w.heap.size+1,i,none⟩=(#[.int .i64 yk,.int .i64 yi][i]?:Option Value))):=hid (fun w' hb=>⟨hb,fun i=>(hb.cell (p:=⟨w.heap.size,i,none⟩) K1.out.2.1).trans (K1.out.2.2 i),fun i=>(hb.cell (p:=⟨w.heap.size+1,i,none⟩) K2.out.2.1).trans (K2.out.2.2 i)⟩)
    refine tkS (S:=(fun w'=>Below V1.heap.size V1 w'∧(∀i,w'.cell? ⟨w.heap.size,i,none⟩=((wC x ⟨d,a,ac,kk,kc,some ⟨b,o,none⟩,wc⟩)[i]?:Option Value))∧(∀i,w'.cell? ⟨w.heap.size+1,i,none⟩=(#[.int .i64 yk,.int .i64 yi][i]?:Option Value)))) (by (with_reducible exact KS.out _ (Af (Below.refl _ _)))) (fun hHeld=>?_)
    refine tkl [0,1,3] ?_
    iterate 3
     first|refine tW ?_|refine tN ?_
     try go_frame
    refine rdy1 2 (fun K hK=>?_)
    go_simp;refine (HRT.out _ (HV.out.below hHeld.1 (Nat.le_refl _))).mono ?_;rintro e w9 ⟨rfl,hb9⟩;rw [HRR.out];try go_wp2_with fail
    refine hK.out _ _ (by (with_reducible exact KS.out _ (Aa hHeld.1 hHeld.1.size hb9))) (fun hHeld=>?_)
    clear hK K
    try go_frame
    refine tkl [4] ?_
    iterate 1
     first|refine tW ?_|refine tN ?_
     try go_frame
    refine tkD ?_
    have HB:=hid hHeld.1
    have L1:=hid (K1.out.call HB.out)
    have L2:=hid (K2.out.call HB.out)
    have R2:=hid (R1.out.call HB.out)
    have cz:=(HBX.out.call HB.out).cell
    have lz:=(HBX.out.call HB.out).lt
    clear hHeld
    obtain ⟨v3,W3,hr3,hg3,hb3⟩:=R2.out.one Tryz.underlying36 Bk6 rfl (by decide) (by decide) Rz Bb5 ⟨(k:Int),zk,zi⟩ (by have:=HIL.out;omega) (by have:=HB.out.size;have:=L1.out.1.size;have:=L2.out.2.1;omega)
    have HRN:=hid (show (Builtin.append_ #[36,36] 36 #[_,.slice (some ⟨_,0,none⟩) 1 1]).run Tryz.prog (World.alloc _ (.cells #[.int .i64 k,.int .i64 zk,.int .i64 zi] 148))=.ok v3 W3 by simpa [seC] using hr3)
    have HG3:=hid hg3
    have HB3:=hid hb3
    clear hr3 hg3 hb3
    go_wp2_with (at_builtin;refine Bb rfl (.tmp 21) (.tmp 25) 36 rfl _ _ v3 W3 rfl rfl HRN.out ?_)
    go_roundw
    case rel=>exact ⟨k+1,by omega,by go_num,by rw [HX.out];simpa [Jz,HG.out] using HG3.out,R2.out.holds L1.out HB3.out (by omega) (by omega),R2.out.holds L2.out HB3.out (by omega) (by omega)⟩
    case measure=>simp [intOf];omega
   ·have HX:=hid (HN.out (by rw [HRR.out];exact he))
    simp only [he,decide_false] at hrun
    clear he HY HN
    go_wp2_with fail
    clear hc1 hc2 c0 c1
    generalize (wr.alloc (.cells #[.int .i64 zk,.int .i64 zi] 48))=V1 at *
    have HV:=hid (Ar.below H.out K1.out.1 (Nat.le_refl _))
    have KS:Hid (∀w',Below V1.heap.size V1 w'→Below V1.heap.size V1 w'∧(∀i,w'.cell? ⟨w.heap.size,i,none⟩=((wC x ⟨d,a,ac,kk,kc,some ⟨b,o,none⟩,wc⟩)[i]?:Option Value))∧(∀i,w'.cell? ⟨w.heap.size+1,i,none⟩=(#[.int .i64 yk,.int .i64 yi][i]?:Option Value))):=hid (fun w' hb=>⟨hb,fun i=>(hb.cell (p:=⟨w.heap.size,i,none⟩) K1.out.2.1).trans (K1.out.2.2 i),fun i=>(hb.cell (p:=⟨w.heap.size+1,i,none⟩) K2.out.2.1).trans (K2.out.2.2 i)⟩)
    refine tkS (S:=(fun w'=>Below V1.heap.size V1 w'∧(∀i,w'.cell? ⟨w.heap.size,i,none⟩=((wC x ⟨d,a,ac,kk,kc,some ⟨b,o,none⟩,wc⟩)[i]?:Option Value))∧(∀i,w'.cell? ⟨w.heap.size+1,i,none⟩=(#[.int .i64 yk,.int .i64 yi][i]?:Option Value)))) (by (with_reducible exact KS.out _ (Af (Below.refl _ _)))) (fun hHeld=>?_)
    refine tkl [0,1,3] ?_
    iterate 3
     first|refine tW ?_|refine tN ?_
     try go_frame
    refine rdy1 2 (fun K hK=>?_)
    go_simp;refine (HRT.out _ (HV.out.below hHeld.1 (Nat.le_refl _))).mono ?_;rintro e w9 ⟨rfl,hb9⟩;rw [HRR.out];try go_wp2_with fail
    refine hK.out _ _ (by (with_reducible exact KS.out _ (Aa hHeld.1 hHeld.1.size hb9))) (fun hHeld=>?_)
    clear hK K
    try go_frame
    refine tkl [4] ?_
    iterate 1
     first|refine tW ?_|refine tN ?_
     try go_frame
    refine tkD ?_
    have HB:=hid hHeld.1
    have L1:=hid (K1.out.call HB.out)
    have L2:=hid (K2.out.call HB.out)
    have R2:=hid (R1.out.call HB.out)
    have cz:=(HBX.out.call HB.out).cell
    have lz:=(HBX.out.call HB.out).lt
    clear hHeld
    go_wp2_with fail
    go_roundw
    case rel=>exact ⟨k+1,by omega,by go_num,by rw [HX.out];exact R2.out,L1.out,L2.out⟩
    case measure=>simp [intOf];omega
  ·have hke:k=x.wher.length:=by omega
   subst hke
   have H1:=hid h1
   obtain ⟨q,cap,rfl,hO⟩:=hR.own Rz
   have HO:=hid (hO.less (m:=w.heap.size) (by omega))
   clear H h1 h2 hR hO HR
   go_wp2_with fail
   go_ret
   exact ⟨_,_,rfl,HO.out,H1.out.1⟩
theorem Ms (x:Wd) (p:Wp) (y:Pl) (hT:Tr x.wher) (w:World) (h:Au w p.wh x.wher) (hl16:x.wher.length≤40):Calls Tryz.prog 96 #[.agg (wC x p),.agg #[.int .i64 y.kind,.int .i64 y.id]] w fun e w'=>∃q cap,e=.returned (.slice q (Bf x.wher x.wher.length y).length cap)∧OwnR 3 148 seC w.heap.size w' q (Bf x.wher x.wher.length y)∧Below w.heap.size w w' :=
 Bk0 x p.d p.at_ p.co p.wh p.atc p.coc p.whc y.kind y.id hT w h hl16
end Go.Proofs.YtnhkojpbbdaedaaGreat
