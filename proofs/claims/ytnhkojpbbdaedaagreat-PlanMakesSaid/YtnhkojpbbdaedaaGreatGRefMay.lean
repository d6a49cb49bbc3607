/- The document's own May, of descriptions: the mathematics; lengths and caps that may not be. -/
import Derived.Test.YtnhkojpbbdaedaaGreatGRight
import Derived.Test.YtnhkojpbbdaedaaGreatGRefD
namespace Go.Proofs.YtnhkojpbbdaedaaGreat
open Go.ChangeShapes Go.WideShapes Go.ChangeAt Go.RowKit Go.Proofs.Tryz
open Lib (hid)
set_option linter.unusedVariables false
set_option maxRecDepth 100000
section
theorem Pd (xs:List Int) (k:Int):(Bu xs).count ⟨0,k⟩=xs.count k:=by
 induction xs with
 | nil=>rfl
 | cons x r ih =>
   simp only [Bu,List.map_cons,List.count_cons] at ih ⊢
   rw [ih]
   congr 1
   simp
def Yi (d:Ds):Prop:=1≤d.exits.length∧d.exits.length≤8∧1≤d.players.length∧d.players.length≤6∧d.coins.length=d.players.length∧d.items.length≤16∧d.boxes.length=d.items.length
theorem Dk2 {d:Ds} (h:¬Yi d):mayD d=false:=by
 rw [Bool.eq_false_iff];intro hm
 have:=Kv hm
 exact h ⟨by omega,by omega,by omega,by omega,by omega,by omega,by omega⟩
theorem Si (n:Int):inB n 65=capB n:=by
 unfold inB capB
 congr 1
 simp;omega
theorem Bv6 {d:Ds} (h:Yi d) (hc:Ot [d.room,d.player,d.box]=true):mayD d=(d.exits.all (exB d.exits.length)&&((ofB d.players d.exits.length&&Kk d.coins)&&(ofB d.items d.exits.length&&fitB d (Bu d.items)))):=by
 obtain ⟨h1,h2,h3,h4,h5,h6,h7⟩:=h
 simp only [mayD,Oy,Qp,Dr,Iw,hc,h5,h7,decide_eq_true h1,decide_eq_true h2,decide_eq_true h3,decide_eq_true h4,decide_eq_true h6,Bool.true_and,decide_true]
theorem Dl5 {d:Ds} (hc:Ot [d.room,d.player,d.box]=false):mayD d=false:=by simp [mayD,hc]
def Cr4 (d:Ds) (k:Nat):Prop:=∀i:Nat,i<k→((d.items.count (i:Int):Nat):Int)≤d.room
theorem Di6 {d:Ds} {k:Nat} (hr:0≤d.room) (h:¬((d.items.count (k:Int):Nat):Int)≤d.room):fitB d (Bu d.items)=false:=by
 have hm:(⟨0,(k:Int)⟩:Pl)∈Bu d.items:=by
  have:0<(Bu d.items).count ⟨0,k⟩:=by rw [Pd];omega
  exact List.count_pos_iff.1 this
 rw [Bool.eq_false_iff];intro hf
 have:=List.all_eq_true.1 hf _ hm
 rw [Pd] at this
 simp [Cb] at this
 omega
theorem Cm9 {d:Ds} (h:Cr4 d d.exits.length) (ho:ofB d.items d.exits.length=true):fitB d (Bu d.items)=true:=by
 simp only [fitB,List.all_eq_true,decide_eq_true_eq]
 intro p hp
 obtain ⟨n,hn,rfl⟩:=List.mem_map.1 hp
 obtain ⟨n0,n1⟩:=(Ux _ _).1 ho n hn
 obtain ⟨m,rfl⟩:∃m:Nat,n=m:=⟨n.toNat,by omega⟩
 rw [Pd]
 have:=h m (by omega)
 simpa [Cb] using this
theorem Cp5 {xs:List Int} {k:Nat} {p:Int} (hk:k<xs.length) (h:xs[k]=p):(xs.take (k+1)).count p=(xs.take k).count p+1:=by
 rw [List.take_succ_eq_append_getElem hk,List.count_append,h];simp
theorem Dk4 {xs:List Int} {k:Nat} {p:Int} (hk:k<xs.length) (h:¬xs[k]=p):(xs.take (k+1)).count p=(xs.take k).count p:=by
 rw [List.take_succ_eq_append_getElem hk,List.count_append,show [xs[k]].count p=0 from List.count_eq_zero.2 (by simpa using fun e=>h e.symm)];rfl
theorem Dk8 (e:Ex) {j:Nat} (hj:j<4):(exC e)[j]?=some (.int .i64 (e.get j)):=by
 match j,hj with
 | 0,_=>rfl
 | 1,_=>rfl
 | 2,_=>rfl
 | 3,_=>rfl
theorem Bf7 (d:Ds) (p:Dp) (w:World) (hn:¬Yi d):Calls prog 18 #[.agg (dC d p)] w fun e w'=>e=.returned (.bool (mayD d))∧Below w.heap.size w w':=by
 have HR:=hid (Dk2 hn)
 have HB:=hid ((Below.refl w.heap.size w).alloc (Nat.le_refl _) (.cells (dC d p) 26))
 by_cases e0:d.exits.length<1
 ·have q0:((d.exits.length:Int)<1):=by omega
  clear hn e0
  have hDC:=@dC.eq_1
  go_enter func18,ntmps18
  go_wp2_with fail
  go_ret
  exact ⟨Ag HR.out.symm,HB.out⟩
 by_cases e1:8<d.exits.length
 ·have q1:((8:Int)<d.exits.length):=by omega
  have q0:¬((d.exits.length:Int)<1):=by omega
  clear hn e0 e1
  have hDC:=@dC.eq_1
  go_enter func18,ntmps18
  go_wp2_with fail
  go_ret
  exact ⟨Ag HR.out.symm,HB.out⟩
 by_cases e2:d.players.length<1
 ·have q2:((d.players.length:Int)<1):=by omega
  have q0:¬((d.exits.length:Int)<1):=by omega
  have q1:¬((8:Int)<d.exits.length):=by omega
  clear hn e0 e1 e2
  have hDC:=@dC.eq_1
  go_enter func18,ntmps18
  go_wp2_with fail
  go_ret
  exact ⟨Ag HR.out.symm,HB.out⟩
 by_cases e3:6<d.players.length
 ·have q3:((6:Int)<d.players.length):=by omega
  have q0:¬((d.exits.length:Int)<1):=by omega
  have q1:¬((8:Int)<d.exits.length):=by omega
  have q2:¬((d.players.length:Int)<1):=by omega
  clear hn e0 e1 e2 e3
  have hDC:=@dC.eq_1
  go_enter func18,ntmps18
  go_wp2_with fail
  go_ret
  exact ⟨Ag HR.out.symm,HB.out⟩
 by_cases e4:¬d.coins.length=d.players.length
 ·have q4:((d.coins.length:Int) != (d.players.length:Int))=true:=by simp;omega
  have q0:¬((d.exits.length:Int)<1):=by omega
  have q1:¬((8:Int)<d.exits.length):=by omega
  have q2:¬((d.players.length:Int)<1):=by omega
  have q3:¬((6:Int)<d.players.length):=by omega
  clear hn e0 e1 e2 e3 e4
  have hDC:=@dC.eq_1
  go_enter func18,ntmps18
  go_wp2_with fail
  go_ret
  exact ⟨Ag HR.out.symm,HB.out⟩
 by_cases e5:16<d.items.length
 ·have q5:((16:Int)<d.items.length):=by omega
  have q0:¬((d.exits.length:Int)<1):=by omega
  have q1:¬((8:Int)<d.exits.length):=by omega
  have q2:¬((d.players.length:Int)<1):=by omega
  have q3:¬((6:Int)<d.players.length):=by omega
  have q4:((d.coins.length:Int) != (d.players.length:Int))=false:=by simp;omega
  clear hn e0 e1 e2 e3 e4 e5
  have hDC:=@dC.eq_1
  go_enter func18,ntmps18
  go_wp2_with fail
  go_ret
  exact ⟨Ag HR.out.symm,HB.out⟩
 by_cases e6:¬d.boxes.length=d.items.length
 ·have q6:((d.boxes.length:Int) != (d.items.length:Int))=true:=by simp;omega
  have q0:¬((d.exits.length:Int)<1):=by omega
  have q1:¬((8:Int)<d.exits.length):=by omega
  have q2:¬((d.players.length:Int)<1):=by omega
  have q3:¬((6:Int)<d.players.length):=by omega
  have q4:((d.coins.length:Int) != (d.players.length:Int))=false:=by simp;omega
  have q5:¬((16:Int)<d.items.length):=by omega
  clear hn e0 e1 e2 e3 e4 e5 e6
  have hDC:=@dC.eq_1
  go_enter func18,ntmps18
  go_wp2_with fail
  go_ret
  exact ⟨Ag HR.out.symm,HB.out⟩
 exact absurd ⟨by omega,by omega,by omega,by omega,by omega,by omega,by omega⟩ hn
theorem Bg0 (d:Ds) (p:Dp) (w:World) (hn:Yi d) (hc:Ot [d.room,d.player,d.box]=false):Calls prog 18 #[.agg (dC d p)] w fun e w'=>e=.returned (.bool (mayD d))∧Below w.heap.size w w':=by
 have HR:=hid (Dl5 hc)
 have HB:=hid ((Below.refl w.heap.size w).alloc (Nat.le_refl _) (.cells (dC d p) 26))
 obtain ⟨h1,h2,h3,h4,h5,h6,h7⟩:=hn
 have q0:¬((d.exits.length:Int)<1):=by omega
 have q1:¬((8:Int)<d.exits.length):=by omega
 have q2:¬((d.players.length:Int)<1):=by omega
 have q3:¬((6:Int)<d.players.length):=by omega
 have q4:((d.coins.length:Int) != (d.players.length:Int))=false:=by simp;omega
 have q5:¬((16:Int)<d.items.length):=by omega
 have q6:((d.boxes.length:Int) != (d.items.length:Int))=false:=by simp;omega
 clear h1 h2 h3 h4 h5 h6 h7
 simp only [Ot,List.all_cons,List.all_nil,Bool.and_true] at hc
 cases x1:capB d.room
 ·have X1:=hid ((Si d.room).trans x1)
  clear x1 hc
  have hDC:=@dC.eq_1
  go_enter func18,ntmps18
  go_wp2_with fail
  refine (Bg _ _ _).mono ?_
  rintro e w' ⟨rfl,rfl⟩
  rw [X1.out]
  go_wp2_with fail
  go_ret
  exact ⟨Ag HR.out.symm,HB.out⟩
 cases x2:capB d.player
 ·have X1:=hid ((Si d.room).trans x1)
  have X2:=hid ((Si d.player).trans x2)
  clear x1 x2 hc
  have hDC:=@dC.eq_1
  go_enter func18,ntmps18
  go_wp2_with fail
  refine (Bg _ _ _).mono ?_
  rintro e w' ⟨rfl,rfl⟩
  rw [X1.out]
  go_wp2_with fail
  refine (Bg _ _ _).mono ?_
  rintro e w' ⟨rfl,rfl⟩
  rw [X2.out]
  go_wp2_with fail
  go_ret
  exact ⟨Ag HR.out.symm,HB.out⟩
 cases x3:capB d.box
 ·have X1:=hid ((Si d.room).trans x1)
  have X2:=hid ((Si d.player).trans x2)
  have X3:=hid ((Si d.box).trans x3)
  clear x1 x2 x3 hc
  have hDC:=@dC.eq_1
  go_enter func18,ntmps18
  go_wp2_with fail
  refine (Bg _ _ _).mono ?_
  rintro e w' ⟨rfl,rfl⟩
  rw [X1.out]
  go_wp2_with fail
  refine (Bg _ _ _).mono ?_
  rintro e w' ⟨rfl,rfl⟩
  rw [X2.out]
  go_wp2_with fail
  refine (Bg _ _ _).mono ?_
  rintro e w' ⟨rfl,rfl⟩
  rw [X3.out]
  go_wp2_with fail
  go_ret
  exact ⟨Ag HR.out.symm,HB.out⟩
 rw [x1,x2,x3] at hc
 cases hc
end
section
set_option maxHeartbeats 1000000 in
theorem Cg1 (d:Ds) (px pp pc pi pb:Option Addr) (pxc ppc pcc pic pbc:Nat) (w:World) (h:Ce w ⟨px,pxc,pp,ppc,pc,pcc,pi,pic,pb,pbc⟩ d) (hn:Yi d) (hc:Ot [d.room,d.player,d.box]=true):Calls prog 18 #[.agg (dC d ⟨px,pxc,pp,ppc,pc,pcc,pi,pic,pb,pbc⟩)] w fun e w'=>e=.returned (.bool (mayD d))∧Below w.heap.size w w':=by
 have HR:=hid (Bv6 hn hc)
 have HB:=hid ((Below.refl w.heap.size w).alloc (Nat.le_refl _) (.cells (dC d ⟨px,pxc,pp,ppc,pc,pcc,pi,pic,pb,pbc⟩) 26))
 have HW:=hid (h.below HB.out (Nat.le_refl _))
 have HWx:=hid (show Qu _ px d.exits from HW.out.ex)
 have HWp:=hid (show Ae _ pp d.players from HW.out.pl)
 have HWc:=hid (show Ae _ pc d.coins from HW.out.co)
 have HWi:=hid (show Ae _ pi d.items from HW.out.it)
 clear HW h
 have HC:=hid (Ac.new w (dC d ⟨px,pxc,pp,ppc,pc,pcc,pi,pic,pb,pbc⟩) 26).2.2
 obtain ⟨h1,h2,h3,h4,h5,h6,h7⟩:=hn
 have q0:¬((d.exits.length:Int)<1):=by omega
 have q1:¬((8:Int)<d.exits.length):=by omega
 have q2:¬((d.players.length:Int)<1):=by omega
 have q3:¬((6:Int)<d.players.length):=by omega
 have q4:((d.coins.length:Int) != (d.players.length:Int))=false:=by simp;omega
 have q5:¬((16:Int)<d.items.length):=by omega
 have q6:((d.boxes.length:Int) != (d.items.length:Int))=false:=by simp;omega
 have L0:=hid h5
 have li:d.items.length≤16:=h6
 have lp:d.players.length≤6:=h4
 have le:d.exits.length≤8:=h2
 clear h1 h2 h3 h4 h5 h6 h7
 simp only [Ot,List.all_cons,List.all_nil,Bool.and_true,Bool.and_eq_true] at hc
 obtain ⟨x1,x2,x3⟩:=hc
 have hr0:0≤d.room:=by simp [capB] at x1;exact x1.1
 have X1:=hid ((Si d.room).trans x1)
 have X2:=hid ((Si d.player).trans x2)
 have X3:=hid ((Si d.box).trans x3)
 clear x1 x2 x3
 have hDC:=@dC.eq_1
 go_enter func18,ntmps18
 go_wp2_with fail
 refine (Bg _ _ _).mono ?_
 rintro e w' ⟨rfl,rfl⟩
 rw [X1.out]
 go_wp2_with fail
 refine (Bg _ _ _).mono ?_
 rintro e w' ⟨rfl,rfl⟩
 rw [X2.out]
 go_wp2_with fail
 refine (Bg _ _ _).mono ?_
 rintro e w' ⟨rfl,rfl⟩
 rw [X3.out]
 go_wp2_with fail
 have HL:=hid (show w.heap.size<(w.alloc (.cells (dC d ⟨px,pxc,pp,ppc,pc,pcc,pi,pic,pb,pbc⟩) 26)).heap.size by simp)
 generalize w.alloc (.cells (dC d ⟨px,pxc,pp,ppc,pc,pcc,pi,pic,pb,pbc⟩) 26)=W0 at *
 clear X1 X2 X3 q0 q1 q2 q3 q4 q5 q6
 go_loopw [4] (fun i wr=>∃k:Nat,k≤d.exits.length∧i=.int .i64 k∧(d.exits.take k).all (exB d.exits.length)=true∧Cr4 d k∧W0=wr) (fun i _=>d.exits.length-(intOf i).toNat)
 case atStart=>exact ⟨0,Nat.zero_le _,rfl,rfl,fun i hi=>absurd hi (by omega),rfl⟩
 case round =>
  obtain ⟨k,hk,rfl,htk,hroom,rfl⟩:=hrel
  have HT:=hid htk
  have HRm:=hid hroom
  clear htk hroom
  have hcl:=HC.out
  by_cases hlt:k<d.exits.length
  ·obtain ⟨b,o,rfl,hb,hcs⟩:=Ar.at_ HWx.out hlt
   have HF:=hid (Ch (exB d.exits.length) hlt HT.out)
   have HN:=hid (Ht (exB d.exits.length) hlt)
   have HCS:=hid (fun j (hj:j<4)=>(hcs k hlt j hj).trans (Dk8 _ hj))
   clear hcs
   generalize d.exits[k]=x at *
   go_wp2_with fail
   go_loopw [5] (fun i wr=>∃j:Nat,j≤4∧i=.int .i64 j∧(∀q,q<j→toB d.exits.length (x.get q)=true)∧W0=wr) (fun i _=>4-(intOf i).toNat)
   case atStart=>exact ⟨0,by omega,rfl,fun q hq=>absurd hq (by omega),rfl⟩
   case round =>
    obtain ⟨j,hj,rfl,hq,rfl⟩:=hrel
    have HQ:=hid hq
    clear hq
    by_cases hj4:j<4
    ·have HX:Hid (toB d.exits.length (x.get j)=false→exB d.exits.length x=false):=hid (fun h=>Cl1 hj4 h)
     have HS:Hid (toB d.exits.length (x.get j)=true→∀q,q<j+1→toB d.exits.length (x.get q)=true):=hid (fun h q hq=>by
      by_cases e:q=j
      ·subst e;exact h
      ·exact HQ.out q (by omega))
     have hcell:=HCS.out j hj4
     generalize x.get j=t at *
     cases hx:toB d.exits.length t
     ·have HX2:=hid (HN.out (HX.out hx))
      obtain ⟨hne,hin⟩:=Dm2 hx
      have HI:=hid hin
      have hne':(t != -1)=true:=by simpa using hne
      clear hx hin HX HS HF HN HQ hne
      go_wp2_with fail
      refine (Bg _ _ _).mono ?_
      rintro e w' ⟨rfl,rfl⟩
      rw [HI.out]
      go_wp2_with fail
      go_ret
      exact ⟨Ag (by rw [HR.out,HX2.out];rfl),HB.out⟩
     ·have HX2:=hid (HS.out hx)
      rcases Az9 hx with ht|⟨hne,hin⟩
      ·subst ht
       clear hx HX HS HF HN HQ
       go_wp2_with fail
       go_roundw
       case rel=>exact ⟨j+1,by omega,by go_num,HX2.out,by trivial⟩
       case measure=>simp [intOf];omega
      ·have HI:=hid hin
       have hne':(t != -1)=true:=by simpa using hne
       clear hx hin HX HS HF HN HQ hne
       go_wp2_with fail
       refine (Bg _ _ _).mono ?_
       rintro e w' ⟨rfl,rfl⟩
       rw [HI.out]
       go_wp2_with fail
       go_roundw
       case rel=>exact ⟨j+1,by omega,by go_num,HX2.out,by trivial⟩
       case measure=>simp [intOf];omega
    ·obtain rfl:j=4:=by omega
     have HX:=hid (HF.out ((Ay5 _ _).2 HQ.out))
     clear HF HN HQ
     go_wp2_with fail
     go_loopw [6,7] (fun n i wr=>∃m:Nat,m≤d.items.length∧i=.int .i64 m∧n=.int .i64 ((d.items.take m).count (k:Int):Nat)∧W0=wr) (fun _ i _=>d.items.length-(intOf i).toNat)
     case atStart=>exact ⟨0,Nat.zero_le _,rfl,rfl,rfl⟩
     case round =>
      obtain ⟨m,hm,rfl,rfl,rfl⟩:=hrel
      have hcn:=List.count_le_length (a:=(k:Int)) (l:=d.items.take m)
      rw [List.length_take] at hcn
      by_cases hlm:m<d.items.length
      ·obtain ⟨b2,o2,rfl,hb2,hcs2⟩:=HWi.out.at_ hlm
       have hi1:=hcs2 m hlm
       clear hcs2
       have HY:=hid (Cp5 (p:=(k:Int)) hlm)
       have HNN:=hid (Dk4 (p:=(k:Int)) hlm)
       generalize d.items[m]=z at *
       by_cases he:z=(k:Int)
       ·have HX3:=hid (HY.out he)
        have he2:(z==(k:Int))=true:=by simpa using he
        clear he HY HNN
        have hw:IntKind.i64.wrap ((((d.items.take m).count (k:Int):Nat):Int)+1)=(((d.items.take m).count (k:Int):Nat):Int)+1:=IntWalk.i64_in _ (by omega)
        generalize (d.items.take m).count (k:Int)=cc at *
        go_wp2_with fail
        go_roundw
        case rel=>exact ⟨m+1,by omega,by go_num,by rw [HX3.out];go_num,by trivial⟩
        case measure=>simp [intOf];omega
       ·have HX3:=hid (HNN.out he)
        have he2:(z==(k:Int))=false:=by simpa using he
        clear he HY HNN
        generalize (d.items.take m).count (k:Int)=cc at *
        go_wp2_with fail
        go_roundw
        case rel=>exact ⟨m+1,by omega,by go_num,by rw [HX3.out],by trivial⟩
        case measure=>simp [intOf];omega
      ·have hme:m=d.items.length:=by omega
       subst hme
       rw [List.take_length] at hcn ⊢
       have HY:Hid (((d.items.count (k:Int):Nat):Int)≤d.room→Cr4 d (k+1)):=hid (fun hle i hi=>by
        by_cases e:i=k
        ·subst e;exact hle
        ·exact HRm.out i (by omega))
       have HNN:Hid (¬((d.items.count (k:Int):Nat):Int)≤d.room→fitB d (Bu d.items)=false):=hid (Di6 hr0)
       generalize d.items.count (k:Int)=cc at *
       by_cases hgt:d.room<(cc:Int)
       ·have HX3:=hid (HNN.out (by omega))
        go_wp2_with fail
        go_ret
        exact ⟨Ag (by rw [HR.out,HX3.out];simp),HB.out⟩
       ·have HX3:=hid (HY.out (by omega))
        go_wp2_with fail
        go_roundw
        case rel=>exact ⟨k+1,by omega,by go_num,HX.out,HX3.out,by trivial⟩
        case measure=>simp [intOf];omega
  ·have hke:k=d.exits.length:=by omega
   subst hke
   have HE:=hid (Ff _ HT.out)
   clear HT
   go_wp2_with fail
   go_loopw [8] (fun i wr=>∃j:Nat,j≤d.players.length∧i=.int .i64 j∧(d.players.take j).all (fun n=>inB n d.exits.length)=true∧(d.coins.take j).all isB=true∧W0=wr) (fun i _=>d.players.length-(intOf i).toNat)
   case atStart=>exact ⟨0,Nat.zero_le _,rfl,rfl,rfl,rfl⟩
   case round =>
    obtain ⟨j,hj,rfl,ht1,ht2,rfl⟩:=hrel
    have T1:=hid ht1
    have T2:=hid ht2
    clear ht1 ht2
    by_cases hlj:j<d.players.length
    ·have hlc:j<d.coins.length:=by have:=L0.out;omega
     obtain ⟨b,o,rfl,hb,hcs⟩:=HWp.out.at_ hlj
     have hi1:=hcs j hlj
     obtain ⟨b2,o2,rfl,hb2,hcs2⟩:=HWc.out.at_ hlc
     have hi2:=hcs2 j hlc
     clear hcs hcs2
     have F1:=hid (Ch (fun n=>inB n d.exits.length) hlj T1.out)
     have F2:=hid (Ch isB hlc T2.out)
     have N1:=hid (Ht (fun n=>inB n d.exits.length) hlj)
     have N2:=hid (Ht isB hlc)
     generalize d.players[j]=x at *
     generalize d.coins[j]=y at *
     cases hx:inB x d.exits.length
     ·have HX:=hid hx
      have HX2:=hid (show ofB d.players d.exits.length=false from N1.out hx)
      clear hx F1 F2 N1 N2
      go_wp2_with fail
      refine (Bg _ _ _).mono ?_
      rintro e w' ⟨rfl,rfl⟩
      rw [HX.out]
      go_wp2_with fail
      go_ret
      exact ⟨Ag (by rw [HR.out,HX2.out];simp),HB.out⟩
     cases hy:isB y
     ·have HX:=hid hx
      have HY:=hid hy
      have HX2:=hid (show Kk d.coins=false from N2.out hy)
      clear hx hy F1 F2 N1 N2
      go_wp2_with fail
      refine (Bg _ _ _).mono ?_
      rintro e w' ⟨rfl,rfl⟩
      rw [HX.out]
      go_wp2_with fail
      refine (Br _ _).mono ?_
      rintro e w' ⟨rfl,rfl⟩
      rw [HY.out]
      go_wp2_with fail
      go_ret
      exact ⟨Ag (by rw [HR.out,HX2.out];simp),HB.out⟩
     ·have HX:=hid hx
      have HY:=hid hy
      have G1:=hid (F1.out hx)
      have G2:=hid (F2.out hy)
      clear hx hy F1 F2 N1 N2
      go_wp2_with fail
      refine (Bg _ _ _).mono ?_
      rintro e w' ⟨rfl,rfl⟩
      rw [HX.out]
      go_wp2_with fail
      refine (Br _ _).mono ?_
      rintro e w' ⟨rfl,rfl⟩
      rw [HY.out]
      go_wp2_with fail
      go_roundw
      case rel=>exact ⟨j+1,by omega,by go_num,G1.out,G2.out,by trivial⟩
      case measure=>simp [intOf];omega
    ·have hje:j=d.players.length:=by omega
     subst hje
     have A1:=hid (show ofB d.players d.exits.length=true from Ff _ T1.out)
     have A2:=hid (show Kk d.coins=true from Ff _ (by have:=T2.out;rwa [←L0.out] at this))
     clear T1 T2
     go_wp2_with fail
     go_loopw [9] (fun i wr=>∃j:Nat,j≤d.items.length∧i=.int .i64 j∧(d.items.take j).all (fun n=>inB n d.exits.length)=true∧W0=wr) (fun i _=>d.items.length-(intOf i).toNat)
     case atStart=>exact ⟨0,Nat.zero_le _,rfl,rfl,rfl⟩
     case round =>
      obtain ⟨j,hj2,rfl,ht1,rfl⟩:=hrel
      have T1:=hid ht1
      clear ht1
      by_cases hlj2:j<d.items.length
      ·obtain ⟨b,o,rfl,hb,hcs⟩:=HWi.out.at_ hlj2
       have hi1:=hcs j hlj2
       clear hcs
       have F1:=hid (Ch (fun n=>inB n d.exits.length) hlj2 T1.out)
       have N1:=hid (Ht (fun n=>inB n d.exits.length) hlj2)
       generalize d.items[j]=x at *
       cases hx:inB x d.exits.length
       ·have HX:=hid hx
        have HX2:=hid (show ofB d.items d.exits.length=false from N1.out hx)
        clear hx F1 N1
        go_wp2_with fail
        refine (Bg _ _ _).mono ?_
        rintro e w' ⟨rfl,rfl⟩
        rw [HX.out]
        go_wp2_with fail
        go_ret
        exact ⟨Ag (by rw [HR.out,HX2.out];simp),HB.out⟩
       ·have HX:=hid hx
        have G1:=hid (F1.out hx)
        clear hx F1 N1
        go_wp2_with fail
        refine (Bg _ _ _).mono ?_
        rintro e w' ⟨rfl,rfl⟩
        rw [HX.out]
        go_wp2_with fail
        go_roundw
        case rel=>exact ⟨j+1,by omega,by go_num,G1.out,by trivial⟩
        case measure=>simp [intOf];omega
      ·have hje2:j=d.items.length:=by omega
       subst hje2
       have A3:=hid (show ofB d.items d.exits.length=true from Ff _ T1.out)
       have A4:=hid (Cm9 HRm.out A3.out)
       clear T1
       go_wp2_with fail
       go_ret
       exact ⟨Ag (by rw [HR.out,HE.out,A1.out,A2.out,A3.out,A4.out];rfl),HB.out⟩
theorem Ih (d:Ds) (p:Dp) (w:World) (h:Ce w p d):Calls prog 18 #[.agg (dC d p)] w fun e w'=>e=.returned (.bool (mayD d))∧Below w.heap.size w w':=by
 by_cases hn:Yi d
 ·cases hc:Ot [d.room,d.player,d.box]
  ·exact Bg0 d p w hn hc
  ·exact Cg1 d p.ex p.pl p.co p.it p.bo p.exc p.plc p.coc p.itc p.boc w h hn hc
 ·exact Bf7 d p w hn
end
section
def Aw3 (x:Wd):Prop:=x.at_.length=x.d.players.length∧x.coins.length=x.d.players.length∧x.wher.length=x.d.items.length
theorem Cn1 {x:Wd} (h:¬(mayD x.d=true∧Aw3 x)):Ai x=false:=by
 rw [Bool.eq_false_iff];intro hr
 simp only [Ai,Dr,Dv,Bool.and_eq_true,decide_eq_true_eq] at hr
 exact h ⟨hr.1,by omega,by omega,by omega⟩
theorem Av3 {x:Wd} (hm:mayD x.d=true) (h:Aw3 x):Ai x=((ofB x.at_ x.d.exits.length&&Kk x.coins)&&(x.wher.all (Cw x.d)&&(Sk x.wher&&fitB x.d x.wher))):=by
 obtain ⟨h1,h2,h3⟩:=h
 simp [Ai,Dr,Dv,hm,h1,h2,h3]
theorem Ap4 (x:Wd) (p:Wp) (w:World) (h:Ab w p x) (hn:¬(mayD x.d=true∧Aw3 x)):Calls prog 6 #[.agg (wC x p)] w fun e w'=>e=.returned (.bool (Ai x))∧Below w.heap.size w w':=by
 have HR:=hid (Cn1 hn)
 have H:=hid h
 have HP:=hid (Ac.pair w (wC x p) (dC x.d p.d) 29 26)
 clear h
 cases hx:mayD x.d
 ·have HX:=hid hx
  clear hx hn
  have hWC:=@wC.eq_1
  have hDC:=@dC.eq_1
  go_enter func6,ntmps6
  go_wp2_with fail
  refine (Ih x.d p.d _ (H.out.below HP.out.1.1 (Nat.le_refl _)).d).mono ?_
  rintro e w1 ⟨rfl,b1⟩
  rw [HX.out]
  have HQ:=hid (Ac.call2 HP.out b1)
  clear b1
  go_wp2_with fail
  go_ret
  exact ⟨Ag HR.out.symm,HQ.out.1.1⟩
 have HX:=hid hx
 by_cases e1:x.at_.length=x.d.players.length
 rotate_left
 ·have q1:((x.at_.length:Int) != (x.d.players.length:Int))=true:=by simp;omega
  clear hx hn e1
  have hWC:=@wC.eq_1
  have hDC:=@dC.eq_1
  go_enter func6,ntmps6
  go_wp2_with fail
  refine (Ih x.d p.d _ (H.out.below HP.out.1.1 (Nat.le_refl _)).d).mono ?_
  rintro e w1 ⟨rfl,b1⟩
  rw [HX.out]
  have HQ:=hid (Ac.call2 HP.out b1)
  clear b1
  have hcA:=HQ.out.1.2.2
  have hcB:=HQ.out.2.2.2
  go_wp2_with fail
  go_ret
  exact ⟨Ag HR.out.symm,HQ.out.1.1⟩
 by_cases e2:x.coins.length=x.d.players.length
 rotate_left
 ·have q1:((x.at_.length:Int) != (x.d.players.length:Int))=false:=by simp;omega
  have q2:((x.coins.length:Int) != (x.d.players.length:Int))=true:=by simp;omega
  clear hx hn e1 e2
  have hWC:=@wC.eq_1
  have hDC:=@dC.eq_1
  go_enter func6,ntmps6
  go_wp2_with fail
  refine (Ih x.d p.d _ (H.out.below HP.out.1.1 (Nat.le_refl _)).d).mono ?_
  rintro e w1 ⟨rfl,b1⟩
  rw [HX.out]
  have HQ:=hid (Ac.call2 HP.out b1)
  clear b1
  have hcA:=HQ.out.1.2.2
  have hcB:=HQ.out.2.2.2
  go_wp2_with fail
  go_ret
  exact ⟨Ag HR.out.symm,HQ.out.1.1⟩
 by_cases e3:x.wher.length=x.d.items.length
 ·exact absurd ⟨hx,e1,e2,e3⟩ hn
 ·have q1:((x.at_.length:Int) != (x.d.players.length:Int))=false:=by simp;omega
  have q2:((x.coins.length:Int) != (x.d.players.length:Int))=false:=by simp;omega
  have q3:((x.wher.length:Int) != (x.d.items.length:Int))=true:=by simp;omega
  clear hx hn e1 e2 e3
  have hWC:=@wC.eq_1
  have hDC:=@dC.eq_1
  go_enter func6,ntmps6
  go_wp2_with fail
  refine (Ih x.d p.d _ (H.out.below HP.out.1.1 (Nat.le_refl _)).d).mono ?_
  rintro e w1 ⟨rfl,b1⟩
  rw [HX.out]
  have HQ:=hid (Ac.call2 HP.out b1)
  clear b1
  have hcA:=HQ.out.1.2.2
  have hcB:=HQ.out.2.2.2
  go_wp2_with fail
  go_ret
  exact ⟨Ag HR.out.symm,HQ.out.1.1⟩
end
end Go.Proofs.YtnhkojpbbdaedaaGreat
