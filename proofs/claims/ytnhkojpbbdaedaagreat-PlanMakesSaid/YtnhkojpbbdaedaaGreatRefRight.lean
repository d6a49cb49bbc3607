/- The document's own Right: the loops. -/
import Derived.Test.YtnhkojpbbdaedaaGreatGRefMay
namespace Go.Proofs.YtnhkojpbbdaedaaGreat
open Go.ChangeShapes Go.WideShapes Go.ChangeAt Go.RowKit
open Lib (hid)
set_option linter.unusedVariables false
open Go.RowKit
open List (setIfInBounds_toArray)
def RR (w:World) (A B:Array Value) (wr:World):Prop:=Ac w w.heap.size A wr∧Ac w (w.heap.size+1) B wr
set_option maxRecDepth 100000 in
set_option maxHeartbeats 4000000 in
theorem Bf3 (x:Wd) (px pp pc pi pb pa pk pw:Option Addr) (pxc ppc pcc pic pbc pac pkc pwc:Nat) (w:World) (h:Ab w ⟨⟨px,pxc,pp,ppc,pc,pcc,pi,pic,pb,pbc⟩,pa,pac,pk,pkc,pw,pwc⟩ x) (hm:mayD x.d=true) (hl:Aw3 x) :
 Calls Tryz.prog 6 #[.agg (wC x ⟨⟨px,pxc,pp,ppc,pc,pcc,pi,pic,pb,pbc⟩,pa,pac,pk,pkc,pw,pwc⟩)] w fun e w'=>e=.returned (.bool (Ai x))∧Below w.heap.size w w':=by
 have HR:=hid (Av3 hm hl)
 have H:=hid h
 have HP:=hid (Ac.pair w (wC x ⟨⟨px,pxc,pp,ppc,pc,pcc,pi,pic,pb,pbc⟩,pa,pac,pk,pkc,pw,pwc⟩) (dC x.d ⟨px,pxc,pp,ppc,pc,pcc,pi,pic,pb,pbc⟩) 29 26)
 have HX:=hid hm
 have HFW:=hid (Kv hm)
 obtain ⟨e1,e2,e3⟩:=hl
 have E1:=hid e1
 have E2:=hid e2
 have E3:=hid e3
 have q1:((x.at_.length:Int) != (x.d.players.length:Int))=false:=by simp;omega
 have q2:((x.coins.length:Int) != (x.d.players.length:Int))=false:=by simp;omega
 have q3:((x.wher.length:Int) != (x.d.items.length:Int))=false:=by simp;omega
 have hw16:x.wher.length≤16:=by have:=HFW.out;omega
 have ha6:x.at_.length≤6:=by have:=HFW.out;omega
 clear h hm e1 e2 e3
 have hWC:=@wC.eq_1
 have hDC:=@dC.eq_1
 go_enter Tryz.func6,Tryz.ntmps6
 go_wp2_with fail
 refine (Ih x.d _ _ (H.out.below HP.out.1.1 (Nat.le_refl _)).d).mono ?_
 rintro e w1 ⟨rfl,b1⟩
 rw [HX.out]
 have HQ:=hid (show RR w (wC x ⟨⟨px,pxc,pp,ppc,pc,pcc,pi,pic,pb,pbc⟩,pa,pac,pk,pkc,pw,pwc⟩) (dC x.d ⟨px,pxc,pp,ppc,pc,pcc,pi,pic,pb,pbc⟩) w1 from Ac.call2 HP.out b1)
 clear b1 HP
 have hcA:=HQ.out.1.2.2
 have hcB:=HQ.out.2.2.2
 go_wp2_with fail
 clear hcA hcB q1 q2 q3
 go_loopw [4] (fun i wr=>∃j:Nat,j≤x.at_.length∧i=.int .i64 j∧(x.at_.take j).all (fun n=>inB n x.d.exits.length)=true∧(x.coins.take j).all isB=true∧RR w (wC x ⟨⟨px,pxc,pp,ppc,pc,pcc,pi,pic,pb,pbc⟩,pa,pac,pk,pkc,pw,pwc⟩) (dC x.d ⟨px,pxc,pp,ppc,pc,pcc,pi,pic,pb,pbc⟩) wr) (fun i _=>x.at_.length-(intOf i).toNat)
 case atStart=>exact ⟨0,Nat.zero_le _,rfl,rfl,rfl,HQ.out⟩
 case round =>
  obtain ⟨j,hj,rfl,ht1,ht2,hrr⟩:=hrel
  clear HQ
  have T1:=hid ht1
  have T2:=hid ht2
  have HQ:=hid hrr
  clear ht1 ht2 hrr
  have hcA:=HQ.out.1.2.2
  have hcB:=HQ.out.2.2.2
  by_cases hlj:j<x.at_.length
  ·have hlc:j<x.coins.length:=by have h1:=E1.out;have h2:=E2.out;omega
   obtain ⟨b,o,rfl,hb,hcs⟩:=(show Ae _ pa x.at_ from H.out.at_).at_ hlj
   have hi1:=(HQ.out.1.1.cell (p:=⟨b,o+j,none⟩) hb).trans (hcs j hlj)
   obtain ⟨b2,o2,rfl,hb2,hcs2⟩:=(show Ae _ pk x.coins from H.out.co).at_ hlc
   have hi2:=(HQ.out.1.1.cell (p:=⟨b2,o2+j,none⟩) hb2).trans (hcs2 j hlc)
   clear hcs hcs2
   have F1:=hid (Ch (fun n=>inB n x.d.exits.length) hlj T1.out)
   have F2:=hid (Ch isB hlc T2.out)
   have N1:=hid (Ht (fun n=>inB n x.d.exits.length) hlj)
   have N2:=hid (Ht isB hlc)
   generalize x.at_[j]=u at *
   generalize x.coins[j]=v at *
   have CA:=hid hcA
   have CB:=hid hcB
   have I1:=hid hi1
   have I2:=hid hi2
   cases hx:inB u x.d.exits.length
   ·have HX:=hid hx
    have HX2:=hid (show ofB x.at_ x.d.exits.length=false from N1.out hx)
    clear hx F1 F2 N1 N2
    go_wp2_with fail
    refine tkS (S:=(fun w'=>(∀i,w'.cell? ⟨w.heap.size,i,none⟩=((wC x ⟨⟨px,pxc,pp,ppc,pc,pcc,pi,pic,pb,pbc⟩,some ⟨b,o,none⟩,pac,some ⟨b2,o2,none⟩,pkc,pw,pwc⟩)[i]?:Option Value))∧(∀i,w'.cell? ⟨w.heap.size+1,i,none⟩=((dC x.d ⟨px,pxc,pp,ppc,pc,pcc,pi,pic,pb,pbc⟩)[i]?:Option Value))∧w'.cell? ⟨b,o+j,none⟩=some (.int .i64 u)∧w'.cell? ⟨b2,o2+j,none⟩=some (.int .i64 v))) (by (first|(exact ⟨CA.out,CB.out,I1.out,I2.out⟩)|(exact hHeld))) (fun hHeld=>?_)
    refine tkl [0,1,2,3,4,5,6,7,8,9,10,11,12,13,14,15,16,17,18] ?_
    iterate 19
     first
      | refine tW ?_|refine tN ?_
      | (refine rT (fun K hK=>?_)
         go_simp
         first
          | (go_at_call 19;refine (Bg _ _ _).mono ?_;rintro e w9 ⟨rfl,rfl⟩;rw [HX.out])
         try go_wp2_with fail
         refine hK.out _ _ (by (exact ⟨CA.out,CB.out,I1.out,I2.out⟩)) (fun hHeld=>?_)
         clear hK K)
     try go_frame
    refine tkD ?_
    go_wp2_with fail
    go_ret
    exact ⟨Ag (by rw [HR.out,HX2.out];simp),HQ.out.1.drew.1⟩
   cases hy:isB v
   ·have HX:=hid hx
    have HY:=hid hy
    have HX2:=hid (show Kk x.coins=false from N2.out hy)
    clear hx hy F1 F2 N1 N2
    go_wp2_with fail
    refine tkS (S:=(fun w'=>(∀i,w'.cell? ⟨w.heap.size,i,none⟩=((wC x ⟨⟨px,pxc,pp,ppc,pc,pcc,pi,pic,pb,pbc⟩,some ⟨b,o,none⟩,pac,some ⟨b2,o2,none⟩,pkc,pw,pwc⟩)[i]?:Option Value))∧(∀i,w'.cell? ⟨w.heap.size+1,i,none⟩=((dC x.d ⟨px,pxc,pp,ppc,pc,pcc,pi,pic,pb,pbc⟩)[i]?:Option Value))∧w'.cell? ⟨b,o+j,none⟩=some (.int .i64 u)∧w'.cell? ⟨b2,o2+j,none⟩=some (.int .i64 v))) (by (first|(exact ⟨CA.out,CB.out,I1.out,I2.out⟩)|(exact hHeld))) (fun hHeld=>?_)
    refine tkl [0,1,2,3,4,5,6,7,8,9,10,11,12,13,14,15,16,17,18] ?_
    iterate 19
     first
      | refine tW ?_|refine tN ?_
      | (refine rT (fun K hK=>?_)
         go_simp
         first
          | (go_at_call 19;refine (Bg _ _ _).mono ?_;rintro e w9 ⟨rfl,rfl⟩;rw [HX.out])
          | (go_at_call 20;refine (Br _ _).mono ?_;rintro e w9 ⟨rfl,rfl⟩;rw [HY.out])
         try go_wp2_with fail
         refine hK.out _ _ (by (exact ⟨CA.out,CB.out,I1.out,I2.out⟩)) (fun hHeld=>?_)
         clear hK K)
     try go_frame
    refine tkD ?_
    go_wp2_with fail
    go_ret
    exact ⟨Ag (by rw [HR.out,HX2.out];simp),HQ.out.1.drew.1⟩
   ·have HX:=hid hx
    have HY:=hid hy
    have G1:=hid (F1.out hx)
    have G2:=hid (F2.out hy)
    clear hx hy F1 F2 N1 N2
    go_wp2_with fail
    refine tkS (S:=(fun w'=>(∀i,w'.cell? ⟨w.heap.size,i,none⟩=((wC x ⟨⟨px,pxc,pp,ppc,pc,pcc,pi,pic,pb,pbc⟩,some ⟨b,o,none⟩,pac,some ⟨b2,o2,none⟩,pkc,pw,pwc⟩)[i]?:Option Value))∧(∀i,w'.cell? ⟨w.heap.size+1,i,none⟩=((dC x.d ⟨px,pxc,pp,ppc,pc,pcc,pi,pic,pb,pbc⟩)[i]?:Option Value))∧w'.cell? ⟨b,o+j,none⟩=some (.int .i64 u)∧w'.cell? ⟨b2,o2+j,none⟩=some (.int .i64 v))) (by (first|(exact ⟨CA.out,CB.out,I1.out,I2.out⟩)|(exact hHeld))) (fun hHeld=>?_)
    refine tkl [0,1,2,3,4,5,6,7,8,9,10,11,12,13,14,15,16,17,18] ?_
    iterate 19
     first
      | refine tW ?_|refine tN ?_
      | (refine rT (fun K hK=>?_)
         go_simp
         first
          | (go_at_call 19;refine (Bg _ _ _).mono ?_;rintro e w9 ⟨rfl,rfl⟩;rw [HX.out])
          | (go_at_call 20;refine (Br _ _).mono ?_;rintro e w9 ⟨rfl,rfl⟩;rw [HY.out])
         try go_wp2_with fail
         refine hK.out _ _ (by (exact ⟨CA.out,CB.out,I1.out,I2.out⟩)) (fun hHeld=>?_)
         clear hK K)
     try go_frame
    refine tkD ?_
    go_wp2_with fail
    go_roundw
    case rel=>exact ⟨j+1,by omega,by go_num,G1.out,G2.out,⟨HQ.out.1.drew,HQ.out.2.drew⟩⟩
    case measure=>simp [intOf];omega
  ·have hje:j=x.at_.length:=by omega
   subst hje
   have A1:=hid (show ofB x.at_ x.d.exits.length=true from Ff _ T1.out)
   have A2:=hid (show Kk x.coins=true from Ff _ (by have h1:=T2.out;have h2:=E1.out;have h3:=E2.out;rwa [show x.at_.length=x.coins.length by omega] at h1))
   clear T1 T2
   go_wp2_with fail
   clear hcA hcB
   go_loopw [5] (fun i wr=>∃j:Nat,j≤x.wher.length∧i=.int .i64 j∧(x.wher.take j).all (Cw x.d)=true∧RR w (wC x ⟨⟨px,pxc,pp,ppc,pc,pcc,pi,pic,pb,pbc⟩,pa,pac,pk,pkc,pw,pwc⟩) (dC x.d ⟨px,pxc,pp,ppc,pc,pcc,pi,pic,pb,pbc⟩) wr) (fun i _=>x.wher.length-(intOf i).toNat)
   case atStart=>exact ⟨0,Nat.zero_le _,rfl,rfl,HQ.out⟩
   case round =>
    obtain ⟨j,hj,rfl,ht1,hrr⟩:=hrel
    clear HQ
    have T1:=hid ht1
    have HQ:=hid hrr
    clear ht1 hrr
    have hcA:=HQ.out.1.2.2
    have hcB:=HQ.out.2.2.2
    have hls:=HQ.out.2.2.1
    by_cases hlj:j<x.wher.length
    ·obtain ⟨b,o,rfl,hb,c0,c1⟩:=Au.cells (Ar.below (show Au _ pw x.wher from H.out.wh) HQ.out.1.1 (Nat.le_refl _)) hlj
     have F1:=hid (Ch (Cw x.d) hlj T1.out)
     have N1:=hid (Ht (Cw x.d) hlj)
     generalize x.wher[j]=z at *
     obtain ⟨zk,zi⟩:=z
     simp only at c0 c1
     by_cases k0:zk=0
     ·subst k0
      have DD:=hid (show Cw x.d ⟨0,zi⟩=inB zi x.d.exits.length by simp [Cw])
      cases hx:inB zi x.d.exits.length
      ·have HX:=hid hx
       have HX2:=hid (N1.out (DD.out.trans hx))
       clear hx F1 N1
       go_wp2_with fail
       refine (Bg _ _ _).mono ?_
       rintro e w' ⟨rfl,rfl⟩
       rw [HX.out]
       go_wp2_with fail
       go_ret
       exact ⟨Ag (by rw [HR.out,HX2.out];simp),(HQ.out.1.alloc _).1⟩
      ·have HX:=hid hx
       have HX2:=hid (F1.out (DD.out.trans hx))
       clear hx F1 N1
       go_wp2_with fail
       refine (Bg _ _ _).mono ?_
       rintro e w' ⟨rfl,rfl⟩
       rw [HX.out]
       go_wp2_with fail
       go_roundw
       case rel=>exact ⟨j+1,by omega,by go_num,HX2.out,⟨HQ.out.1.alloc _,HQ.out.2.alloc _⟩⟩
       case measure=>simp [intOf];omega
     by_cases k1:zk=1
     ·subst k1
      have DD:=hid (show Cw x.d ⟨1,zi⟩=inB zi x.d.players.length by simp [Cw])
      clear k0
      cases hx:inB zi x.d.players.length
      ·have HX:=hid hx
       have HX2:=hid (N1.out (DD.out.trans hx))
       clear hx F1 N1
       go_wp2_with fail
       refine (Bg _ _ _).mono ?_
       rintro e w' ⟨rfl,rfl⟩
       rw [HX.out]
       go_wp2_with fail
       go_ret
       exact ⟨Ag (by rw [HR.out,HX2.out];simp),(HQ.out.1.alloc _).1⟩
      ·have HX:=hid hx
       have HX2:=hid (F1.out (DD.out.trans hx))
       clear hx F1 N1
       go_wp2_with fail
       refine (Bg _ _ _).mono ?_
       rintro e w' ⟨rfl,rfl⟩
       rw [HX.out]
       go_wp2_with fail
       go_roundw
       case rel=>exact ⟨j+1,by omega,by go_num,HX2.out,⟨HQ.out.1.alloc _,HQ.out.2.alloc _⟩⟩
       case measure=>simp [intOf];omega
     by_cases k2:zk=2
     ·subst k2
      have DD:=hid (show Cw x.d ⟨2,zi⟩=(inB zi x.d.items.length&&x.d.boxes.getD zi.toNat false) by
       have h1:=HFW.out.2.2.2.2.2.1
       simp [Cw,h1])
      clear k0 k1
      cases hx:inB zi x.d.items.length
      ·have HX:=hid hx
       have HX2:=hid (N1.out (DD.out.trans (by rw [hx];rfl)))
       clear hx F1 N1
       go_wp2_with fail
       refine (Bg _ _ _).mono ?_
       rintro e w' ⟨rfl,rfl⟩
       rw [HX.out]
       go_wp2_with fail
       go_ret
       exact ⟨Ag (by rw [HR.out,HX2.out];simp),(HQ.out.1.alloc _).1⟩
      ·have HX:=hid hx
       obtain ⟨g0,g1⟩:=(Bi _ _).1 hx
       obtain ⟨m,rfl⟩:∃m:Nat,zi=m:=⟨zi.toNat,by omega⟩
       have hlm:m<x.d.boxes.length:=by have h1:=HFW.out.2.2.2.2.2.1;omega
       obtain ⟨b4,o4,rfl,hb4,c4⟩:=Mr.cells (Ar.below (show Mr _ pb x.d.boxes from H.out.d.bo) HQ.out.1.1 (Nat.le_refl _)) hlm
       have hg:x.d.boxes.getD (m:Int).toNat false=x.d.boxes[m]:=by simp [List.getD,List.getElem?_eq_getElem hlm]
       have DD2:=hid (show Cw x.d ⟨2,m⟩=x.d.boxes[m] from DD.out.trans (by rw [hx,hg];rfl))
       clear hx hg DD g0 g1
       generalize x.d.boxes[m]=v at *
       cases v
       ·have HX2:=hid (N1.out DD2.out)
        clear F1 N1
        go_wp2_with fail
        refine (Bg _ _ _).mono ?_
        rintro e w' ⟨rfl,rfl⟩
        rw [HX.out]
        go_wp2_with fail
        go_ret
        exact ⟨Ag (by rw [HR.out,HX2.out];simp),(HQ.out.1.alloc _).1⟩
       ·have HX2:=hid (F1.out DD2.out)
        clear F1 N1
        go_wp2_with fail
        refine (Bg _ _ _).mono ?_
        rintro e w' ⟨rfl,rfl⟩
        rw [HX.out]
        go_wp2_with fail
        go_roundw
        case rel=>exact ⟨j+1,by omega,by go_num,HX2.out,⟨HQ.out.1.alloc _,HQ.out.2.alloc _⟩⟩
        case measure=>simp [intOf];omega
     ·have HX2:=hid (N1.out (show Cw x.d ⟨zk,zi⟩=false by simp [Cw,k0,k1,k2]))
      have z0:(zk==0)=false:=by simpa using k0
      have z1:(zk==1)=false:=by simpa using k1
      have z2:(zk==2)=false:=by simpa using k2
      clear k0 k1 k2 F1 N1
      go_wp2_with fail
      go_ret
      exact ⟨Ag (by rw [HR.out,HX2.out];simp),(HQ.out.1.alloc _).1⟩
    ·have hje:j=x.wher.length:=by omega
     subst hje
     have A3:=hid (Ff _ T1.out)
     have PB:=hid (show Dv x.d x.wher=true by have h1:=E3.out;have h2:=A3.out;simp only [Dv,h1,decide_true,Bool.true_and];exact h2)
     clear T1
     go_wp2_with fail
     clear hcA hcB hls
     go_loopw [8] (fun i wr=>∃j:Nat,j≤x.wher.length∧i=.int .i64 j∧(x.wher.take j).all (Gu x.wher 4)=true∧(x.wher.take j).all (fun p=>decide (((x.wher.count p:Nat):Int)≤Cb x.d p.kind))=true∧Ac w w.heap.size (wC x ⟨⟨px,pxc,pp,ppc,pc,pcc,pi,pic,pb,pbc⟩,pa,pac,pk,pkc,pw,pwc⟩) wr) (fun i _=>x.wher.length-(intOf i).toNat)
     case atStart=>exact ⟨0,Nat.zero_le _,rfl,rfl,rfl,HQ.out.1⟩
     case round =>
      obtain ⟨j,hj,rfl,ht1,ht2,hrr⟩:=hrel
      clear HQ
      have T1:=hid ht1
      have T2:=hid ht2
      have HQ:=hid hrr
      clear ht1 ht2 hrr
      have hcA:=HQ.out.2.2
      by_cases hlj:j<x.wher.length
      ·obtain ⟨b,o,rfl,hb,c0,c1⟩:=Au.cells (Ar.below (show Au _ pw x.wher from H.out.wh) HQ.out.1 (Nat.le_refl _)) hlj
       have F1:=hid (Ch (Gu x.wher 4) hlj T1.out)
       have N1:=hid (Ht (Gu x.wher 4) hlj)
       have F2:=hid (Ch (fun p=>decide (((x.wher.count p:Nat):Int)≤Cb x.d p.kind)) hlj T2.out)
       have N2:=hid (Ht (fun p=>decide (((x.wher.count p:Nat):Int)≤Cb x.d p.kind)) hlj)
       have HBI:=hid (Xc HX.out PB.out)
       have HZ:=hid (HBI.out x.wher[j] (List.getElem_mem hlj))
       obtain ⟨z0,z3,_⟩:=Ap8 HX.out PB.out x.wher[j] (List.getElem_mem hlj)
       generalize x.wher[j]=z at *
       obtain ⟨zk,zi⟩:=z
       obtain ⟨q,rfl⟩:∃q:Nat,zk=q:=⟨zk.toNat,by simp only at z0;omega⟩
       have hq:q<3:=by simp only at z3;omega
       simp only at c0 c1
       have CA:=hid hcA
       have I0:=hid c0
       have I1:=hid c1
       have hls:=HQ.out.2.1
       obtain ⟨dd,hdd⟩:∃dd,Ir x.wher ⟨q,zi⟩=dd:=⟨_,rfl⟩
       obtain ⟨cc,hcc⟩:∃cc,x.wher.count ⟨q,zi⟩=cc:=⟨_,rfl⟩
       have DE:=hid (show Gu x.wher 4 ⟨q,zi⟩=decide (dd≤4) by rw [Bj0,hdd])
       have DF:=hid (show decide (((x.wher.count ⟨q,zi⟩:Nat):Int)≤Cb x.d q)=decide ((cc:Int)≤Cb x.d q) by rw [hcc])
       have DDD:=hid hdd
       have DCC:=hid hcc
       clear hdd hcc z0 z3
       by_cases h4:dd≤4
       ·have h4a:¬((4:Int)<(dd:Int)):=by omega
        have h4b:decide ((4:Int)<(dd:Int))=false:=by simp;omega
        by_cases hcp:(cc:Int)≤Cb x.d q
        ·have G1:=hid (F1.out (DE.out.trans (decide_eq_true h4)))
         have G2:=hid (F2.out (DF.out.trans (decide_eq_true hcp)))
         have hcpa:¬(Cb x.d q<(cc:Int)):=by omega
         clear F1 F2 N1 N2 h4 hcp
         go_wp2_with fail
         refine tkS (S:=(fun w'=>Below w.heap.size w w'∧w.heap.size<w'.heap.size∧(∀i,w'.cell? ⟨w.heap.size,i,none⟩=((wC x ⟨⟨px,pxc,pp,ppc,pc,pcc,pi,pic,pb,pbc⟩,pa,pac,pk,pkc,some ⟨b,o,none⟩,pwc⟩)[i]?:Option Value))∧w'.cell? ⟨b,o+j*2,none⟩=some (.int .i64 q)∧w'.cell? ⟨b,o+j*2+1,none⟩=some (.int .i64 zi))) (by (exact ⟨HQ.out.drew.1,HQ.out.drew.2.1,CA.out,I0.out,I1.out⟩)) (fun hHeld=>?_)
         refine tkl [0,1,2,3,4,5,6,7,8,9,10,11,12,13,14,16,17,18,19,20,21,15,22,23,24] ?_
         iterate 25
          first
           | refine tW ?_|refine tN ?_
           | (refine rT (fun K hK=>?_)
              go_simp
              first
               | (go_at_call 21;refine (Cu x ⟨⟨px,pxc,pp,ppc,pc,pcc,pi,pic,pb,pbc⟩,pa,pac,pk,pkc,some ⟨b,o,none⟩,pwc⟩ ⟨q,zi⟩ _ (Ar.below (show Au _ _ x.wher from H.out.wh) hHeld.1 (Nat.le_refl _)) HBI.out HZ.out).mono ?_;rintro e w9 ⟨rfl,hb9⟩;rw [DDD.out])
               | (go_at_call 22;refine (Fg x ⟨⟨px,pxc,pp,ppc,pc,pcc,pi,pic,pb,pbc⟩,pa,pac,pk,pkc,some ⟨b,o,none⟩,pwc⟩ ⟨q,zi⟩ _ (Ar.below (show Au _ _ x.wher from H.out.wh) hHeld.1 (Nat.le_refl _))).mono ?_;rintro e w9 ⟨rfl,hb9⟩;rw [DCC.out])
               | (go_at_call 23;refine (Ij x ⟨⟨px,pxc,pp,ppc,pc,pcc,pi,pic,pb,pbc⟩,pa,pac,pk,pkc,some ⟨b,o,none⟩,pwc⟩ q zi hq _).mono ?_;rintro e w9 ⟨rfl,hb9⟩)
              try go_wp2_with fail
              refine hK.out _ _ (by (exact ⟨(Ac.call ⟨hHeld.1,hHeld.2.1,hHeld.2.2.1⟩ hb9).1,(Ac.call ⟨hHeld.1,hHeld.2.1,hHeld.2.2.1⟩ hb9).2.1,(Ac.call ⟨hHeld.1,hHeld.2.1,hHeld.2.2.1⟩ hb9).2.2,Ad hHeld.2.2.2.1 hb9,Ad hHeld.2.2.2.2 hb9⟩)) (fun hHeld=>?_)
              clear hK K)
          try go_frame
         refine tkD ?_
         have HE:=hid hHeld
         clear hHeld
         go_wp2_with fail
         go_roundw
         case rel=>exact ⟨j+1,by omega,by go_num,G1.out,G2.out,⟨HE.out.1,HE.out.2.1,HE.out.2.2.1⟩⟩
         case measure=>simp [intOf];omega
        ·have HX2:=hid (show fitB x.d x.wher=false from N2.out (DF.out.trans (decide_eq_false hcp)))
         have hcpa:Cb x.d q<(cc:Int):=by omega
         clear F1 F2 N1 N2 h4 hcp
         go_wp2_with fail
         refine tkS (S:=(fun w'=>Below w.heap.size w w'∧w.heap.size<w'.heap.size∧(∀i,w'.cell? ⟨w.heap.size,i,none⟩=((wC x ⟨⟨px,pxc,pp,ppc,pc,pcc,pi,pic,pb,pbc⟩,pa,pac,pk,pkc,some ⟨b,o,none⟩,pwc⟩)[i]?:Option Value))∧w'.cell? ⟨b,o+j*2,none⟩=some (.int .i64 q)∧w'.cell? ⟨b,o+j*2+1,none⟩=some (.int .i64 zi))) (by (exact ⟨HQ.out.drew.1,HQ.out.drew.2.1,CA.out,I0.out,I1.out⟩)) (fun hHeld=>?_)
         refine tkl [0,1,2,3,4,5,6,7,8,9,10,11,12,13,14,16,17,18,19,20,21,15,22,23,24] ?_
         iterate 25
          first
           | refine tW ?_|refine tN ?_
           | (refine rT (fun K hK=>?_)
              go_simp
              first
               | (go_at_call 21;refine (Cu x ⟨⟨px,pxc,pp,ppc,pc,pcc,pi,pic,pb,pbc⟩,pa,pac,pk,pkc,some ⟨b,o,none⟩,pwc⟩ ⟨q,zi⟩ _ (Ar.below (show Au _ _ x.wher from H.out.wh) hHeld.1 (Nat.le_refl _)) HBI.out HZ.out).mono ?_;rintro e w9 ⟨rfl,hb9⟩;rw [DDD.out])
               | (go_at_call 22;refine (Fg x ⟨⟨px,pxc,pp,ppc,pc,pcc,pi,pic,pb,pbc⟩,pa,pac,pk,pkc,some ⟨b,o,none⟩,pwc⟩ ⟨q,zi⟩ _ (Ar.below (show Au _ _ x.wher from H.out.wh) hHeld.1 (Nat.le_refl _))).mono ?_;rintro e w9 ⟨rfl,hb9⟩;rw [DCC.out])
               | (go_at_call 23;refine (Ij x ⟨⟨px,pxc,pp,ppc,pc,pcc,pi,pic,pb,pbc⟩,pa,pac,pk,pkc,some ⟨b,o,none⟩,pwc⟩ q zi hq _).mono ?_;rintro e w9 ⟨rfl,hb9⟩)
              try go_wp2_with fail
              refine hK.out _ _ (by (exact ⟨(Ac.call ⟨hHeld.1,hHeld.2.1,hHeld.2.2.1⟩ hb9).1,(Ac.call ⟨hHeld.1,hHeld.2.1,hHeld.2.2.1⟩ hb9).2.1,(Ac.call ⟨hHeld.1,hHeld.2.1,hHeld.2.2.1⟩ hb9).2.2,Ad hHeld.2.2.2.1 hb9,Ad hHeld.2.2.2.2 hb9⟩)) (fun hHeld=>?_)
              clear hK K)
          try go_frame
         refine tkD ?_
         have HE:=hid hHeld
         clear hHeld
         go_wp2_with fail
         go_ret
         exact ⟨Ag (by rw [HR.out,HX2.out];simp),HE.out.1⟩
       ·have h4a:(4:Int)<(dd:Int):=by omega
        have HX2:=hid (show Sk x.wher=false from N1.out (DE.out.trans (decide_eq_false h4)))
        clear F1 F2 N1 N2 h4
        go_wp2_with fail
        refine tkS (S:=(fun w'=>Below w.heap.size w w'∧w.heap.size<w'.heap.size∧(∀i,w'.cell? ⟨w.heap.size,i,none⟩=((wC x ⟨⟨px,pxc,pp,ppc,pc,pcc,pi,pic,pb,pbc⟩,pa,pac,pk,pkc,some ⟨b,o,none⟩,pwc⟩)[i]?:Option Value))∧w'.cell? ⟨b,o+j*2,none⟩=some (.int .i64 q)∧w'.cell? ⟨b,o+j*2+1,none⟩=some (.int .i64 zi))) (by (exact ⟨HQ.out.drew.1,HQ.out.drew.2.1,CA.out,I0.out,I1.out⟩)) (fun hHeld=>?_)
        refine tkl [0,1,2,3,4,5,6,7,8,9,10,11,12,13,14,15,16,17,18,19,20,21,22,23,24] ?_
        iterate 25
         first
          | refine tW ?_|refine tN ?_
          | (refine rT (fun K hK=>?_)
             go_simp
             first
              | (go_at_call 21;refine (Cu x ⟨⟨px,pxc,pp,ppc,pc,pcc,pi,pic,pb,pbc⟩,pa,pac,pk,pkc,some ⟨b,o,none⟩,pwc⟩ ⟨q,zi⟩ _ (Ar.below (show Au _ _ x.wher from H.out.wh) hHeld.1 (Nat.le_refl _)) HBI.out HZ.out).mono ?_;rintro e w9 ⟨rfl,hb9⟩;rw [DDD.out])
             try go_wp2_with fail
             refine hK.out _ _ (by (exact ⟨(Ac.call ⟨hHeld.1,hHeld.2.1,hHeld.2.2.1⟩ hb9).1,(Ac.call ⟨hHeld.1,hHeld.2.1,hHeld.2.2.1⟩ hb9).2.1,(Ac.call ⟨hHeld.1,hHeld.2.1,hHeld.2.2.1⟩ hb9).2.2,Ad hHeld.2.2.2.1 hb9,Ad hHeld.2.2.2.2 hb9⟩)) (fun hHeld=>?_)
             clear hK K)
         try go_frame
        refine tkD ?_
        have HE:=hid hHeld
        clear hHeld
        go_wp2_with fail
        go_ret
        exact ⟨Ag (by rw [HR.out,HX2.out];simp),HE.out.1⟩
      ·have hje:j=x.wher.length:=by omega
       subst hje
       have A4:=hid (show Sk x.wher=true from Ff _ T1.out)
       have A5:=hid (show fitB x.d x.wher=true from Ff _ T2.out)
       clear T1 T2
       go_wp2_with fail
       go_ret
       exact ⟨Ag (by rw [HR.out,A1.out,A2.out,A4.out,A5.out,A3.out];rfl),HQ.out.1⟩
theorem Ef (x:Wd) (p:Wp) (w:World) (h:Ab w p x):Calls Tryz.prog 6 #[.agg (wC x p)] w fun e w'=>e=.returned (.bool (Ai x))∧Below w.heap.size w w':=by
 by_cases hn:mayD x.d=true∧Aw3 x
 ·exact Bf3 x p.d.ex p.d.pl p.d.co p.d.it p.d.bo p.at_ p.co p.wh p.d.exc p.d.plc p.d.coc p.d.itc p.d.boc p.atc p.coc p.whc w h hn.1 hn.2
 ·exact Ap4 x p w h hn
end Go.Proofs.YtnhkojpbbdaedaaGreat
