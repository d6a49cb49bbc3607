/- The document's own: Root, Depth, Within, of items. -/
import Derived.Test.YtenpcndoilcjcaaGAs
namespace Go.Proofs.Ytenpcndoilcjcaa
open Go.ChangeShapes Go.WideShapes Go.ChangeAt Go.RowKit Go.Proofs.Try
open Lib (hid)
set_option linter.unusedVariables false
set_option maxHeartbeats 1000000
set_option maxRecDepth 100000
open Go.RowKit
theorem Bp5 (x:Wd) (d:Dp) (a kk pw:Option Addr) (ac kc wc:Nat) (hT:Tr x.wher):∀i:Nat,i<x.wher.length→∀w:World,Au w pw x.wher→Calls prog 42 #[.agg (wC x ⟨d,a,ac,kk,kc,pw,wc⟩),.int .i64 (i:Int)] w fun e w'=>e=.returned (.agg #[.int .i64 (Bh x.wher i).kind,.int .i64 (Bh x.wher i).id])∧Below w.heap.size w w':=by
 refine hT.ind (fun i hi hk w h=>?_) (fun i j hi hj he hu ih w h=>?_)
 ·have HL:=hid (Em hk)
  have HR:=hid (show Below w.heap.size w (((w.alloc (.cells (wC x ⟨d,a,ac,kk,kc,pw,wc⟩) 29)).alloc (.cells #[.int .i64 (plOf x.wher i).kind,.int .i64 (plOf x.wher i).id] 52)).alloc (.cells #[.int .i64 (plOf x.wher i).kind,.int .i64 (plOf x.wher i).id] 52)) from (((Below.refl _ w).alloc (Nat.le_refl _) _).alloc (by simp) _).alloc (by simp;omega) _)
  obtain ⟨b,o,hbo,hb,c0,c1⟩:=Au.cells h hi
  subst hbo
  rw [←Bo hi] at c0 c1
  generalize plOf x.wher i=z at *
  obtain ⟨zk,zi⟩:=z
  simp only at c0 c1 hk HR
  have q:(zk != 2)=true:=by simpa using hk
  clear hk h
  have hWC:=@wC.eq_1
  go_enter func42,ntmps42
  go_wp2_with fail
  refine bodyPost_ret (v:=.agg #[.int .i64 zk,.int .i64 zi]) (by simp [results,results42,go_sem]) rfl ?_
  exact ⟨by rw [HL.out],HR.out⟩
 ·have HL:=hid (Et hu)
  obtain ⟨b,o,hbo,hb,c0,c1⟩:=Au.cells h hi
  subst hbo
  rw [←Bo hi,he] at c0 c1
  simp only [box] at c0 c1
  have HB:=hid (Below.refl w.heap.size w |>.alloc (Nat.le_refl _) (.cells (wC x ⟨d,a,ac,kk,kc,some ⟨b,o,none⟩,wc⟩) 29) |>.alloc (by simp) (.cells #[.int .i64 0,.int .i64 0] 52) |>.alloc (by simp;omega) (.cells #[.int .i64 2,.int .i64 (j:Int)] 52))
  have HK:=hid ((Blk.newn (w.alloc (.cells (wC x ⟨d,a,ac,kk,kc,some ⟨b,o,none⟩,wc⟩) 29)) 52 #[.int .i64 0,.int .i64 0] (n:=w.heap.size+1) (by simp)).alloc (.cells #[.int .i64 2,.int .i64 (j:Int)] 52))
  have IH:=hid ih
  have H:=hid h
  obtain ⟨r,hr⟩:∃r,Bh x.wher j=r:=⟨_,rfl⟩
  obtain ⟨rk,ri⟩:=r
  have HRR:=hid hr
  clear ih h he hu hr
  have hWC:=@wC.eq_1
  go_enter func42,ntmps42
  go_wp2_with fail
  refine (IH.out _ (H.out.below HB.out (Nat.le_refl _))).mono ?_
  rintro e w1 ⟨rfl,b1⟩
  rw [HRR.out]
  have hB:=HB.out.trans (b1.mono HB.out.size)
  have hK:=HK.out.call b1
  have HB1:=hid hB
  have HK1:=hid hK
  have c2:=hK.cell
  have f2:=hK.frozen
  have l2:=hK.lt
  clear hB hK b1 c0 c1
  go_wp2_with fail
  have c5:=((HK1.out.set_ 0 (.int .i64 rk)).set_ 1 (.int .i64 ri)).cell
  refine bodyPost_ret (v:=.agg #[.int .i64 rk,.int .i64 ri]) (by simp [results,results42,go_sem,c5]) rfl ?_
  exact ⟨by rw [HL.out,HRR.out],(HB1.out.setCell (p:=⟨w.heap.size+1,0,none⟩) (by show w.heap.size≤w.heap.size+1;omega) _).setCell (p:=⟨w.heap.size+1,1,none⟩) (by show w.heap.size≤w.heap.size+1;omega) _⟩
theorem Lc (x:Wd) (p:Wp) (hT:Tr x.wher) (i:Nat) (hi:i<x.wher.length) (w:World) (h:Au w p.wh x.wher):Calls prog 42 #[.agg (wC x p),.int .i64 (i:Int)] w fun e w'=>e=.returned (.agg #[.int .i64 (Bh x.wher i).kind,.int .i64 (Bh x.wher i).id])∧Below w.heap.size w w' :=
 Bp5 x p.d p.at_ p.co p.wh p.atc p.coc p.whc hT i hi w h
theorem Ax3 (x:Wd) (d:Dp) (a kk pw:Option Addr) (ac kc wc:Nat) (hT:Tr x.wher) (j:Nat):∀i:Nat,i<x.wher.length→∀w:World,Au w pw x.wher→Calls prog 54 #[.agg (wC x ⟨d,a,ac,kk,kc,pw,wc⟩),.int .i64 (i:Int),.int .i64 (j:Int)] w fun e w'=>e=.returned (.bool (wB x.wher i j))∧Below w.heap.size w w':=by
 have same:∀(i:Nat) (w:World),i=j→Calls prog 54 #[.agg (wC x ⟨d,a,ac,kk,kc,pw,wc⟩),.int .i64 (i:Int),.int .i64 (j:Int)] w fun e w'=>e=.returned (.bool true)∧Below w.heap.size w w':=by
  intro i w hij
  subst hij
  have HB:=hid (Below.refl w.heap.size w |>.alloc (Nat.le_refl _) (.cells (wC x ⟨d,a,ac,kk,kc,pw,wc⟩) 29))
  have hWC:=@wC.eq_1
  go_enter func54,ntmps54
  go_wp2_with fail
  go_ret
  exact ⟨rfl,HB.out⟩
 refine hT.ind (fun i hi hk w h=>?_) (fun i k hi hk he hu ih w h=>?_)
 ·by_cases hij:i=j
  ·have:=same i w hij
   rwa [show wB x.wher i j=true by rw [hij,Eh]]
  rw [show wB x.wher i j=false by rw [Ku j hk];simpa using hij]
  have q0:((i:Int)==(j:Int))=false:=by simp;omega
  have HR:=hid (show Below w.heap.size w ((w.alloc (.cells (wC x ⟨d,a,ac,kk,kc,pw,wc⟩) 29)).alloc (.cells #[.int .i64 (plOf x.wher i).kind,.int .i64 (plOf x.wher i).id] 52)) from (((Below.refl _ w).alloc (Nat.le_refl _) _).alloc (by simp) _))
  obtain ⟨b,o,hbo,hb,c0,c1⟩:=Au.cells h hi
  subst hbo
  rw [←Bo hi] at c0 c1
  generalize plOf x.wher i=z at *
  obtain ⟨zk,zi⟩:=z
  simp only at c0 c1 hk HR
  have q:(zk==2)=false:=by simpa using hk
  clear hk h same hij
  have hWC:=@wC.eq_1
  go_enter func54,ntmps54
  go_wp2_with fail
  go_ret
  exact ⟨rfl,HR.out⟩
 ·by_cases hij:i=j
  ·have:=same i w hij
   rwa [show wB x.wher i j=true by rw [hij,Eh]]
  rw [show wB x.wher i j=wB x.wher k j by rw [Ig j hu];simp [hij]]
  have q0:((i:Int)==(j:Int))=false:=by simp;omega
  obtain ⟨b,o,hbo,hb,c0,c1⟩:=Au.cells h hi
  subst hbo
  rw [←Bo hi,he] at c0 c1
  simp only [box] at c0 c1
  have HB:=hid (Below.refl w.heap.size w |>.alloc (Nat.le_refl _) (.cells (wC x ⟨d,a,ac,kk,kc,some ⟨b,o,none⟩,wc⟩) 29) |>.alloc (by simp) (.cells #[.int .i64 2,.int .i64 (k:Int)] 52))
  have IH:=hid ih
  have H:=hid h
  obtain ⟨r,hr⟩:∃r,wB x.wher k j=r:=⟨_,rfl⟩
  rw [hr]
  have HRR:=hid hr
  clear ih h he hu hr same hij
  have hWC:=@wC.eq_1
  go_enter func54,ntmps54
  go_wp2_with fail
  refine (IH.out _ (H.out.below HB.out (Nat.le_refl _))).mono ?_
  rintro e w1 ⟨rfl,b1⟩
  rw [HRR.out]
  have HB1:=hid (HB.out.trans (b1.mono HB.out.size))
  clear b1 c0 c1
  go_wp2_with fail
  go_ret
  exact ⟨rfl,HB1.out⟩
theorem Nz (x:Wd) (p:Wp) (hT:Tr x.wher) (i j:Nat) (hi:i<x.wher.length) (w:World) (h:Au w p.wh x.wher):Calls prog 54 #[.agg (wC x p),.int .i64 (i:Int),.int .i64 (j:Int)] w fun e w'=>e=.returned (.bool (wB x.wher i j))∧Below w.heap.size w w' :=
 Ax3 x p.d p.at_ p.co p.wh p.atc p.coc p.whc hT j i hi w h
end Go.Proofs.Ytenpcndoilcjcaa
