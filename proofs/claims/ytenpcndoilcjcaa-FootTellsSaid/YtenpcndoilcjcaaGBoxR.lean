/- The document's own: is there such an item; is it near. -/
import Derived.Test.YtenpcndoilcjcaaTreeRefA
import Derived.Test.YtenpcndoilcjcaaGBoxM
import Derived.Test.YtenpcndoilcjcaaHoldE
namespace Go.Proofs.Ytenpcndoilcjcaa
open Go.ChangeShapes Go.WideShapes Go.ChangeAt Go.RowKit Go.Proofs.Try
set_option linter.unusedVariables false
set_option maxHeartbeats 1000000
set_option maxRecDepth 100000
section
theorem Ke (x:Wd) (p:Wp) (k:Int) (w:World):Calls prog 52 #[.agg (wC x p),.int .i64 k] w fun e w'=>e=.returned (.bool (inB k x.wher.length))∧Below w.heap.size w w':=by
 have hb:=(Below.refl w.heap.size w).alloc (Nat.le_refl _) (.cells (wC x p) 29)
 unfold inB
 by_cases h1:0≤k
 ·by_cases h2:k<x.wher.length
  ·
   have hWC:=@wC.eq_1
   go_enter func52,ntmps52
   go_wp2_with fail
   go_ret
   exact ⟨Ag (by simp),hb⟩
  ·
   have hWC:=@wC.eq_1
   go_enter func52,ntmps52
   go_wp2_with fail
   go_ret
   exact ⟨Ag (by simp [h2]),hb⟩
 ·
  have hWC:=@wC.eq_1
  go_enter func52,ntmps52
  go_wp2_with fail
  go_ret
  exact ⟨Ag (by simp;omega),hb⟩
theorem Gh8 (x:Wd) (pd:Dp) (b o pac:Nat) (pk pw:Option Addr) (pkc pwc:Nat) (i k:Nat) (w:World) (hT:Tr x.wher) (h:Ab w ⟨pd,some ⟨b,o,none⟩,pac,pk,pkc,pw,pwc⟩ x) (hk:k<x.wher.length) (r:Int) (hb:b<w.heap.size) (hi:i<x.at_.length) (c1:w.cell? ⟨b,o+i,none⟩=some (.int .i64 r)) (hz:Bh x.wher k=⟨0,r⟩):Calls prog 53 #[.agg (wC x ⟨pd,some ⟨b,o,none⟩,pac,pk,pkc,pw,pwc⟩),.int .i64 (i:Int),.int .i64 (k:Int)] w fun e w'=>e=.returned (.bool true)∧Below w.heap.size w w':=by
 have hlen:=h.at_.len
 have HT:=Lib.hid hT
 have H:=Lib.hid h
 have HZ:=Lib.hid hz
 have C0:=Lib.hid (Ac.new w (wC x ⟨pd,some ⟨b,o,none⟩,pac,pk,pkc,pw,pwc⟩) 29)
 clear h hT hz
 have hc1:=C0.out.2.2
 have hl1:=C0.out.2.1
 have hWC:=@wC.eq_1
 go_enter func53,ntmps53
 go_wp2_with fail
 refine (Lc x ⟨pd,some ⟨b,o,none⟩,pac,pk,pkc,pw,pwc⟩ HT.out k hk _ (H.out.wh.below C0.out.1 (Nat.le_refl _))).mono ?_
 rintro e w2 ⟨rfl,b2⟩
 rw [HZ.out]
 have C2:=Lib.hid (C0.out.call b2)
 clear b2 hc1 hl1
 have hc2:=C2.out.2.2
 have hl2:=C2.out.2.1
 have C3:=Lib.hid (C2.out.alloc (.cells #[.int .i64 0,.int .i64 r] 52))
 have D3:=Lib.hid (Blk.newn w2 52 #[.int .i64 0,.int .i64 r] (n:=w2.heap.size) rfl)
 go_wp2_with fail
 clear hc2 hl2
 generalize w2.alloc (.cells #[.int .i64 0,.int .i64 r] 52)=V at *
 have hlc:=C3.out.2.1
 have hld:=D3.out.lt
 have c3:=Ad c1 C3.out.1
 have KS:Hid (∀w',Below V.heap.size V w'→Below V.heap.size V w'∧(∀j,w'.cell? ⟨w.heap.size,j,none⟩=((wC x ⟨pd,some ⟨b,o,none⟩,pac,pk,pkc,pw,pwc⟩)[j]?:Option Value))∧(∀j,w'.cell? ⟨w2.heap.size,j,none⟩=(#[.int .i64 0,.int .i64 r][j]?:Option Value))∧w'.cell? ⟨b,o+i,none⟩=some (.int .i64 r)) :=
  Lib.hid (fun w' hb=>⟨hb,(C3.out.call hb).2.2,(D3.out.call hb).cell,Ad c3 hb⟩)
 clear c1 c3
 refine tkS (S:=(fun w'=>Below V.heap.size V w'∧(∀j,w'.cell? ⟨w.heap.size,j,none⟩=((wC x ⟨pd,some ⟨b,o,none⟩,pac,pk,pkc,pw,pwc⟩)[j]?:Option Value))∧(∀j,w'.cell? ⟨w2.heap.size,j,none⟩=(#[.int .i64 0,.int .i64 r][j]?:Option Value))∧w'.cell? ⟨b,o+i,none⟩=some (.int .i64 r))) (by (with_reducible exact KS.out _ (Af (Below.refl _ _)))) (fun hHeld=>?_)
 refine tkl [0,1,2,3,4,5,6,7,8,9,10,11,12,13] ?_
 iterate 14
  refine tW ?_
  try go_frame
 refine tkl [14,15,16,17,18,19,20,21,22] ?_
 iterate 9
  refine tN ?_
  try go_frame
 refine tkl [23,24] ?_
 iterate 2
  refine tW ?_
  try go_frame
 refine tkD ?_
 have BZ:=Lib.hid (Aa C3.out.1 C3.out.1.size hHeld.1)
 clear hHeld
 go_wp2_with fail
 go_ret
 exact ⟨rfl,BZ.out⟩
theorem Gh7 (x:Wd) (pd:Dp) (b o pac:Nat) (pk pw:Option Addr) (pkc pwc:Nat) (i k:Nat) (w:World) (hT:Tr x.wher) (h:Ab w ⟨pd,some ⟨b,o,none⟩,pac,pk,pkc,pw,pwc⟩ x) (hk:k<x.wher.length) (r zi:Int) (hb:b<w.heap.size) (hi:i<x.at_.length) (c1:w.cell? ⟨b,o+i,none⟩=some (.int .i64 r)) (hz:Bh x.wher k=⟨0,zi⟩) (h1:(zi==r)=false):Calls prog 53 #[.agg (wC x ⟨pd,some ⟨b,o,none⟩,pac,pk,pkc,pw,pwc⟩),.int .i64 (i:Int),.int .i64 (k:Int)] w fun e w'=>e=.returned (.bool false)∧Below w.heap.size w w':=by
 have hlen:=h.at_.len
 have HT:=Lib.hid hT
 have H:=Lib.hid h
 have HZ:=Lib.hid hz
 have C0:=Lib.hid (Ac.new w (wC x ⟨pd,some ⟨b,o,none⟩,pac,pk,pkc,pw,pwc⟩) 29)
 clear h hT hz
 have hc1:=C0.out.2.2
 have hl1:=C0.out.2.1
 have hWC:=@wC.eq_1
 go_enter func53,ntmps53
 go_wp2_with fail
 refine (Lc x ⟨pd,some ⟨b,o,none⟩,pac,pk,pkc,pw,pwc⟩ HT.out k hk _ (H.out.wh.below C0.out.1 (Nat.le_refl _))).mono ?_
 rintro e w2 ⟨rfl,b2⟩
 rw [HZ.out]
 have C2:=Lib.hid (C0.out.call b2)
 clear b2 hc1 hl1
 have hc2:=C2.out.2.2
 have hl2:=C2.out.2.1
 have C3:=Lib.hid (C2.out.alloc (.cells #[.int .i64 0,.int .i64 zi] 52))
 have D3:=Lib.hid (Blk.newn w2 52 #[.int .i64 0,.int .i64 zi] (n:=w2.heap.size) rfl)
 go_wp2_with fail
 clear hc2 hl2
 generalize w2.alloc (.cells #[.int .i64 0,.int .i64 zi] 52)=V at *
 have hlc:=C3.out.2.1
 have hld:=D3.out.lt
 have c3:=Ad c1 C3.out.1
 have KS:Hid (∀w',Below V.heap.size V w'→Below V.heap.size V w'∧(∀j,w'.cell? ⟨w.heap.size,j,none⟩=((wC x ⟨pd,some ⟨b,o,none⟩,pac,pk,pkc,pw,pwc⟩)[j]?:Option Value))∧(∀j,w'.cell? ⟨w2.heap.size,j,none⟩=(#[.int .i64 0,.int .i64 zi][j]?:Option Value))∧w'.cell? ⟨b,o+i,none⟩=some (.int .i64 r)) :=
  Lib.hid (fun w' hb=>⟨hb,(C3.out.call hb).2.2,(D3.out.call hb).cell,Ad c3 hb⟩)
 clear c1 c3
 refine tkS (S:=(fun w'=>Below V.heap.size V w'∧(∀j,w'.cell? ⟨w.heap.size,j,none⟩=((wC x ⟨pd,some ⟨b,o,none⟩,pac,pk,pkc,pw,pwc⟩)[j]?:Option Value))∧(∀j,w'.cell? ⟨w2.heap.size,j,none⟩=(#[.int .i64 0,.int .i64 zi][j]?:Option Value))∧w'.cell? ⟨b,o+i,none⟩=some (.int .i64 r))) (by (with_reducible exact KS.out _ (Af (Below.refl _ _)))) (fun hHeld=>?_)
 refine tkl [0,1,2,3,4,5,6,7,8,9,10,11,12,13,14,15,16,17] ?_
 iterate 18
  refine tW ?_
  try go_frame
 refine tkl [18,19,20,21] ?_
 iterate 4
  refine tN ?_
  try go_frame
 refine tkl [22,23,24] ?_
 iterate 3
  refine tW ?_
  try go_frame
 refine tkD ?_
 have BZ:=Lib.hid (Aa C3.out.1 C3.out.1.size hHeld.1)
 clear hHeld
 go_wp2_with fail
 go_ret
 exact ⟨rfl,BZ.out⟩
theorem Gh6 (x:Wd) (pd:Dp) (b o pac:Nat) (pk pw:Option Addr) (pkc pwc:Nat) (i k:Nat) (w:World) (hT:Tr x.wher) (h:Ab w ⟨pd,some ⟨b,o,none⟩,pac,pk,pkc,pw,pwc⟩ x) (hk:k<x.wher.length) (r:Int) (hb:b<w.heap.size) (hi:i<x.at_.length) (c1:w.cell? ⟨b,o+i,none⟩=some (.int .i64 r)) (hz:Bh x.wher k=⟨1,(i:Int)⟩):Calls prog 53 #[.agg (wC x ⟨pd,some ⟨b,o,none⟩,pac,pk,pkc,pw,pwc⟩),.int .i64 (i:Int),.int .i64 (k:Int)] w fun e w'=>e=.returned (.bool true)∧Below w.heap.size w w':=by
 have hlen:=h.at_.len
 have HT:=Lib.hid hT
 have H:=Lib.hid h
 have HZ:=Lib.hid hz
 have C0:=Lib.hid (Ac.new w (wC x ⟨pd,some ⟨b,o,none⟩,pac,pk,pkc,pw,pwc⟩) 29)
 clear h hT hz
 have hc1:=C0.out.2.2
 have hl1:=C0.out.2.1
 have hWC:=@wC.eq_1
 go_enter func53,ntmps53
 go_wp2_with fail
 refine (Lc x ⟨pd,some ⟨b,o,none⟩,pac,pk,pkc,pw,pwc⟩ HT.out k hk _ (H.out.wh.below C0.out.1 (Nat.le_refl _))).mono ?_
 rintro e w2 ⟨rfl,b2⟩
 rw [HZ.out]
 have C2:=Lib.hid (C0.out.call b2)
 clear b2 hc1 hl1
 have hc2:=C2.out.2.2
 have hl2:=C2.out.2.1
 have C3:=Lib.hid (C2.out.alloc (.cells #[.int .i64 1,.int .i64 (i:Int)] 52))
 have D3:=Lib.hid (Blk.newn w2 52 #[.int .i64 1,.int .i64 (i:Int)] (n:=w2.heap.size) rfl)
 go_wp2_with fail
 clear hc2 hl2
 generalize w2.alloc (.cells #[.int .i64 1,.int .i64 (i:Int)] 52)=V at *
 have hlc:=C3.out.2.1
 have hld:=D3.out.lt
 have c3:=Ad c1 C3.out.1
 have KS:Hid (∀w',Below V.heap.size V w'→Below V.heap.size V w'∧(∀j,w'.cell? ⟨w.heap.size,j,none⟩=((wC x ⟨pd,some ⟨b,o,none⟩,pac,pk,pkc,pw,pwc⟩)[j]?:Option Value))∧(∀j,w'.cell? ⟨w2.heap.size,j,none⟩=(#[.int .i64 1,.int .i64 (i:Int)][j]?:Option Value))∧w'.cell? ⟨b,o+i,none⟩=some (.int .i64 r)) :=
  Lib.hid (fun w' hb=>⟨hb,(C3.out.call hb).2.2,(D3.out.call hb).cell,Ad c3 hb⟩)
 clear c1 c3
 refine tkS (S:=(fun w'=>Below V.heap.size V w'∧(∀j,w'.cell? ⟨w.heap.size,j,none⟩=((wC x ⟨pd,some ⟨b,o,none⟩,pac,pk,pkc,pw,pwc⟩)[j]?:Option Value))∧(∀j,w'.cell? ⟨w2.heap.size,j,none⟩=(#[.int .i64 1,.int .i64 (i:Int)][j]?:Option Value))∧w'.cell? ⟨b,o+i,none⟩=some (.int .i64 r))) (by (with_reducible exact KS.out _ (Af (Below.refl _ _)))) (fun hHeld=>?_)
 refine tkl [0,1,2,3] ?_
 iterate 4
  refine tW ?_
  try go_frame
 refine tkl [4,5,6,7,8,9,10,11] ?_
 iterate 8
  refine tN ?_
  try go_frame
 refine tkl [12,13,14,15,16,17,18,19,20,21,22,23,24] ?_
 iterate 13
  refine tW ?_
  try go_frame
 refine tkD ?_
 have BZ:=Lib.hid (Aa C3.out.1 C3.out.1.size hHeld.1)
 clear hHeld
 go_wp2_with fail
 go_ret
 exact ⟨rfl,BZ.out⟩
theorem Gh5 (x:Wd) (pd:Dp) (b o pac:Nat) (pk pw:Option Addr) (pkc pwc:Nat) (i k:Nat) (w:World) (hT:Tr x.wher) (h:Ab w ⟨pd,some ⟨b,o,none⟩,pac,pk,pkc,pw,pwc⟩ x) (hk:k<x.wher.length) (r zi:Int) (hb:b<w.heap.size) (hi:i<x.at_.length) (c1:w.cell? ⟨b,o+i,none⟩=some (.int .i64 r)) (hz:Bh x.wher k=⟨1,zi⟩) (h1:(zi==(i:Int))=false):Calls prog 53 #[.agg (wC x ⟨pd,some ⟨b,o,none⟩,pac,pk,pkc,pw,pwc⟩),.int .i64 (i:Int),.int .i64 (k:Int)] w fun e w'=>e=.returned (.bool false)∧Below w.heap.size w w':=by
 have hlen:=h.at_.len
 have HT:=Lib.hid hT
 have H:=Lib.hid h
 have HZ:=Lib.hid hz
 have C0:=Lib.hid (Ac.new w (wC x ⟨pd,some ⟨b,o,none⟩,pac,pk,pkc,pw,pwc⟩) 29)
 clear h hT hz
 have hc1:=C0.out.2.2
 have hl1:=C0.out.2.1
 have hWC:=@wC.eq_1
 go_enter func53,ntmps53
 go_wp2_with fail
 refine (Lc x ⟨pd,some ⟨b,o,none⟩,pac,pk,pkc,pw,pwc⟩ HT.out k hk _ (H.out.wh.below C0.out.1 (Nat.le_refl _))).mono ?_
 rintro e w2 ⟨rfl,b2⟩
 rw [HZ.out]
 have C2:=Lib.hid (C0.out.call b2)
 clear b2 hc1 hl1
 have hc2:=C2.out.2.2
 have hl2:=C2.out.2.1
 have C3:=Lib.hid (C2.out.alloc (.cells #[.int .i64 1,.int .i64 zi] 52))
 have D3:=Lib.hid (Blk.newn w2 52 #[.int .i64 1,.int .i64 zi] (n:=w2.heap.size) rfl)
 go_wp2_with fail
 clear hc2 hl2
 generalize w2.alloc (.cells #[.int .i64 1,.int .i64 zi] 52)=V at *
 have hlc:=C3.out.2.1
 have hld:=D3.out.lt
 have c3:=Ad c1 C3.out.1
 have KS:Hid (∀w',Below V.heap.size V w'→Below V.heap.size V w'∧(∀j,w'.cell? ⟨w.heap.size,j,none⟩=((wC x ⟨pd,some ⟨b,o,none⟩,pac,pk,pkc,pw,pwc⟩)[j]?:Option Value))∧(∀j,w'.cell? ⟨w2.heap.size,j,none⟩=(#[.int .i64 1,.int .i64 zi][j]?:Option Value))∧w'.cell? ⟨b,o+i,none⟩=some (.int .i64 r)) :=
  Lib.hid (fun w' hb=>⟨hb,(C3.out.call hb).2.2,(D3.out.call hb).cell,Ad c3 hb⟩)
 clear c1 c3
 refine tkS (S:=(fun w'=>Below V.heap.size V w'∧(∀j,w'.cell? ⟨w.heap.size,j,none⟩=((wC x ⟨pd,some ⟨b,o,none⟩,pac,pk,pkc,pw,pwc⟩)[j]?:Option Value))∧(∀j,w'.cell? ⟨w2.heap.size,j,none⟩=(#[.int .i64 1,.int .i64 zi][j]?:Option Value))∧w'.cell? ⟨b,o+i,none⟩=some (.int .i64 r))) (by (with_reducible exact KS.out _ (Af (Below.refl _ _)))) (fun hHeld=>?_)
 refine tkl [0,1,2,3] ?_
 iterate 4
  refine tW ?_
  try go_frame
 refine tkl [4,5,6,7,8,9,10,11] ?_
 iterate 8
  refine tN ?_
  try go_frame
 refine tkl [12,13,14,15,16,17,18,19,20,21,22,23,24] ?_
 iterate 13
  refine tW ?_
  try go_frame
 refine tkD ?_
 have BZ:=Lib.hid (Aa C3.out.1 C3.out.1.size hHeld.1)
 clear hHeld
 go_wp2_with fail
 go_ret
 exact ⟨rfl,BZ.out⟩
theorem Gh4 (x:Wd) (pd:Dp) (b o pac:Nat) (pk pw:Option Addr) (pkc pwc:Nat) (i k:Nat) (w:World) (hT:Tr x.wher) (h:Ab w ⟨pd,some ⟨b,o,none⟩,pac,pk,pkc,pw,pwc⟩ x) (hk:k<x.wher.length) (r zk zi:Int) (hb:b<w.heap.size) (hi:i<x.at_.length) (c1:w.cell? ⟨b,o+i,none⟩=some (.int .i64 r)) (hz:Bh x.wher k=⟨zk,zi⟩) (h0:(zk==0)=false) (h1:(zk==1)=false):Calls prog 53 #[.agg (wC x ⟨pd,some ⟨b,o,none⟩,pac,pk,pkc,pw,pwc⟩),.int .i64 (i:Int),.int .i64 (k:Int)] w fun e w'=>e=.returned (.bool false)∧Below w.heap.size w w':=by
 have hlen:=h.at_.len
 have HT:=Lib.hid hT
 have H:=Lib.hid h
 have HZ:=Lib.hid hz
 have C0:=Lib.hid (Ac.new w (wC x ⟨pd,some ⟨b,o,none⟩,pac,pk,pkc,pw,pwc⟩) 29)
 clear h hT hz
 have hc1:=C0.out.2.2
 have hl1:=C0.out.2.1
 have hWC:=@wC.eq_1
 go_enter func53,ntmps53
 go_wp2_with fail
 refine (Lc x ⟨pd,some ⟨b,o,none⟩,pac,pk,pkc,pw,pwc⟩ HT.out k hk _ (H.out.wh.below C0.out.1 (Nat.le_refl _))).mono ?_
 rintro e w2 ⟨rfl,b2⟩
 rw [HZ.out]
 have C2:=Lib.hid (C0.out.call b2)
 clear b2 hc1 hl1
 have hc2:=C2.out.2.2
 have hl2:=C2.out.2.1
 have C3:=Lib.hid (C2.out.alloc (.cells #[.int .i64 zk,.int .i64 zi] 52))
 have D3:=Lib.hid (Blk.newn w2 52 #[.int .i64 zk,.int .i64 zi] (n:=w2.heap.size) rfl)
 go_wp2_with fail
 clear hc2 hl2
 generalize w2.alloc (.cells #[.int .i64 zk,.int .i64 zi] 52)=V at *
 have hlc:=C3.out.2.1
 have hld:=D3.out.lt
 have c3:=Ad c1 C3.out.1
 have KS:Hid (∀w',Below V.heap.size V w'→Below V.heap.size V w'∧(∀j,w'.cell? ⟨w.heap.size,j,none⟩=((wC x ⟨pd,some ⟨b,o,none⟩,pac,pk,pkc,pw,pwc⟩)[j]?:Option Value))∧(∀j,w'.cell? ⟨w2.heap.size,j,none⟩=(#[.int .i64 zk,.int .i64 zi][j]?:Option Value))∧w'.cell? ⟨b,o+i,none⟩=some (.int .i64 r)) :=
  Lib.hid (fun w' hb=>⟨hb,(C3.out.call hb).2.2,(D3.out.call hb).cell,Ad c3 hb⟩)
 clear c1 c3
 refine tkS (S:=(fun w'=>Below V.heap.size V w'∧(∀j,w'.cell? ⟨w.heap.size,j,none⟩=((wC x ⟨pd,some ⟨b,o,none⟩,pac,pk,pkc,pw,pwc⟩)[j]?:Option Value))∧(∀j,w'.cell? ⟨w2.heap.size,j,none⟩=(#[.int .i64 zk,.int .i64 zi][j]?:Option Value))∧w'.cell? ⟨b,o+i,none⟩=some (.int .i64 r))) (by (with_reducible exact KS.out _ (Af (Below.refl _ _)))) (fun hHeld=>?_)
 refine tkl [0,1,2,3] ?_
 iterate 4
  refine tW ?_
  try go_frame
 refine tkl [4,5,6,7,8,9,10,11] ?_
 iterate 8
  refine tN ?_
  try go_frame
 refine tkl [12,13,14,15,16,17] ?_
 iterate 6
  refine tW ?_
  try go_frame
 refine tkl [18,19,20,21] ?_
 iterate 4
  refine tN ?_
  try go_frame
 refine tkl [22,23,24] ?_
 iterate 3
  refine tW ?_
  try go_frame
 refine tkD ?_
 have BZ:=Lib.hid (Aa C3.out.1 C3.out.1.size hHeld.1)
 clear hHeld
 go_wp2_with fail
 go_ret
 exact ⟨rfl,BZ.out⟩
theorem Oe (x:Wd) (p:Wp) (i k:Nat) (w:World) (hx:Ai x=true) (h:Ab w p x) (hi:i<x.at_.length) (hk:k<x.wher.length):Calls prog 53 #[.agg (wC x p),.int .i64 (i:Int),.int .i64 (k:Int)] w fun e w'=>e=.returned (.bool (De x i k))∧Below w.heap.size w w':=by
 obtain ⟨b,o,ea,hb,hc⟩:=h.at_.at_ hi
 have c1:=hc i hi
 rw [(Bn hx hi).1] at c1
 have hN:De x i k=(decide (Bh x.wher k=⟨0,(Ah x i:Int)⟩)||decide (Bh x.wher k=⟨1,(i:Int)⟩)):=rfl
 obtain ⟨pd,pa,pac,pk,pkc,pw,pwc⟩:=p
 simp only at ea
 subst ea
 rcases hz:Bh x.wher k with ⟨zk,zi⟩
 rw [hz] at hN
 generalize ((Ah x i:Nat):Int)=r at *
 by_cases h0:zk=0
 ·subst h0
  by_cases h1:zi=r
  ·subst h1
   rw [show De x i k=true by rw [hN];simp]
   exact Gh8 x pd b o pac pk pw pkc pwc i k w (Bv hx) h hk _ hb hi c1 hz
  ·rw [show De x i k=false by rw [hN];simp [h1]]
   exact Gh7 x pd b o pac pk pw pkc pwc i k w (Bv hx) h hk _ _ hb hi c1 hz (by simpa using h1)
 ·by_cases h2:zk=1
  ·subst h2
   by_cases h1:zi=i
   ·subst h1
    rw [show De x i k=true by rw [hN];simp]
    exact Gh6 x pd b o pac pk pw pkc pwc i k w (Bv hx) h hk _ hb hi c1 hz
   ·rw [show De x i k=false by rw [hN];simp [h1]]
    exact Gh5 x pd b o pac pk pw pkc pwc i k w (Bv hx) h hk _ _ hb hi c1 hz (by simpa using h1)
  ·rw [show De x i k=false by rw [hN];simp [h0,h2]]
   exact Gh4 x pd b o pac pk pw pkc pwc i k w (Bv hx) h hk _ _ _ hb hi c1 hz (by simpa using h0) (by simpa using h2)
end
section
theorem Jb {x:Wd} (h:Ai x=true):x.d.boxes.length=x.wher.length:=by
 have hm:=(Aj h).2.2.2.2
 have h2:=hm.2
 simp only [mayD,Iw,Bool.and_eq_true,decide_eq_true_eq] at h2
 have:=h2.2.2.2.2.1
 omega
theorem Ci7 {x y:Wd} (hs:Am x y) (p:Wp) (q:Pl) (w:World) (h:Au w p.wh y.wher) (hid:Zh y.wher) (hy:q.kind=2→0≤q.id∧q.id<y.wher.length) :
 Calls prog 46 #[.agg (wC x p),.agg #[.int .i64 q.kind,.int .i64 q.id]] w fun e w'=>e=.returned (.int .i64 (Ir y.wher q:Nat))∧Below w.heap.size w w':=by
 have:=Cu y p q w h hid hy
 rwa [hs.val] at this
theorem Cq5 {ps:List Pl} (hT:Tr ps) {k b:Nat} (hb:b<ps.length):Zh (ps.set k (box b)):=by
 intro p hp h2
 rw [List.length_set]
 rcases List.mem_or_eq_of_mem_set hp with hp|rfl
 ·exact hT.ids p hp h2
 ·simp only [box];omega
theorem Ei8 (x:Wd) (p:Wp) (k c:Nat) (w:World) (h:Ab w p x) (hf:FewW x) (hk:k<x.wher.length):Calls prog 51 #[.agg (wC x p),.int .i64 (k:Int),.agg #[.int .i64 2,.int .i64 (c:Int)]] w fun e w'=>∃q:Wp,e=.returned (.agg (wC x q))∧Cc w.heap.size w' p.d q (putW x k (box c))∧Below w.heap.size w w' :=
 Ad4 x p k (box c) w h hf hk
theorem Eh6 (x:Wd) (p:Wp) (i:Nat) (w:World) (hx:Ai x=true) (h:Ab w p x):Calls prog 50 #[.agg (wC x p),.agg #[.int .i64 2,.int .i64 (i:Int)]] w fun e w'=>e=.returned (.int .i64 (roomI x (box i)))∧Below w.heap.size w w' :=
 Ld x p 2 i (by decide) (Yh hx (by decide)) w h.wh (by have:=(Aj hx).2.2.2.1;omega)
theorem Dj7 (x:Wd) (p:Wp) (i:Nat) (k c:Int) (w:World) (h1:inB k x.wher.length=false):Calls prog 25 #[.agg (wC x p),.int .i64 (i:Int),.int .i64 k,.int .i64 c] w fun e w'=>e=.returned (.tuple #[.agg (wC x p),.int .i64 3])∧Below w.heap.size w w':=by
 have C0:=Lib.hid (Two.start 29 29 w (wC x p) zC)
 have H1:=Lib.hid h1
 clear h1
 have hWC:=@wC.eq_1
 have hZC:=@zC.eq_1
 go_enter func25,ntmps25
 go_wp2_with fail
 refine (Ke x p k _).mono ?_
 rintro e w1 ⟨rfl,b1⟩
 rw [H1.out]
 have C1:=Lib.hid (C0.out.call b1)
 clear b1
 have hca:=C1.out.a.cell
 have hla:=C1.out.a.lt
 obtain ⟨hcr,hzr,hlr⟩:=C1.out.rr
 go_wp2_with fail
 refine bodyPost_ret (v:=.tuple #[.agg (wC x p),.int .i64 3]) (by simp [results,results25,go_sem,hcr]) rfl ⟨rfl,?_⟩
 iterate 11 refine bs_1 ?_
 exact C1.out.b
theorem Dj6 (x:Wd) (p:Wp) (i:Nat) (k c:Int) (w:World) (h1:inB k x.wher.length=true) (h2:inB c x.wher.length=false):Calls prog 25 #[.agg (wC x p),.int .i64 (i:Int),.int .i64 k,.int .i64 c] w fun e w'=>e=.returned (.tuple #[.agg (wC x p),.int .i64 3])∧Below w.heap.size w w':=by
 have C0:=Lib.hid (Two.start 29 29 w (wC x p) zC)
 have H1:=Lib.hid h1
 have H2:=Lib.hid h2
 clear h1 h2
 have hWC:=@wC.eq_1
 have hZC:=@zC.eq_1
 go_enter func25,ntmps25
 go_wp2_with fail
 refine (Ke x p k _).mono ?_
 rintro e w1 ⟨rfl,b1⟩
 rw [H1.out]
 have C1:=Lib.hid (C0.out.call b1)
 clear b1
 have hca:=C1.out.a.cell
 have hla:=C1.out.a.lt
 obtain ⟨hcr,hzr,hlr⟩:=C1.out.rr
 go_wp2_with fail
 refine (Ke x p c _).mono ?_
 rintro e w2 ⟨rfl,b2⟩
 rw [H2.out]
 have C2:=Lib.hid (C1.out.call b2)
 clear b2 hca hla hcr hzr hlr
 have hca:=C2.out.a.cell
 have hla:=C2.out.a.lt
 obtain ⟨hcr,hzr,hlr⟩:=C2.out.rr
 go_wp2_with fail
 refine bodyPost_ret (v:=.tuple #[.agg (wC x p),.int .i64 3]) (by simp [results,results25,go_sem,hcr]) rfl ⟨rfl,?_⟩
 iterate 11 refine bs_1 ?_
 exact C2.out.b
section
variable (x:Wd) (px pp pc pi pa pk:Option Addr) (pxc ppc pcc pic bb bo pbc pac pkc b o pwc:Nat) (i k c:Nat) (w:World) (hx:Ai x=true) (h:Ab w ⟨⟨px,pxc,pp,ppc,pc,pcc,pi,pic,some ⟨bb,bo,none⟩,pbc⟩,pa,pac,pk,pkc,some ⟨b,o,none⟩,pwc⟩ x) (hi:i<x.at_.length) (hk:k<x.wher.length) (hc:c<x.wher.length) (hbb:bb<w.heap.size) (hb:b<w.heap.size)
 (c0:w.cell? ⟨b,o+k*2,none⟩=some (.int .i64 (plOf x.wher k).kind)) (c1:w.cell? ⟨b,o+k*2+1,none⟩=some (.int .i64 (plOf x.wher k).id)) (c2:w.cell? ⟨bb,bo+c,none⟩=some (.bool (x.d.boxes.getD c false)))
include hx h hi hk hc hbb hb c0 c1 c2
theorem Ea7 (hz:¬plOf x.wher k=⟨1,(i:Int)⟩):Calls prog 25 #[.agg (wC x ⟨⟨px,pxc,pp,ppc,pc,pcc,pi,pic,some ⟨bb,bo,none⟩,pbc⟩,pa,pac,pk,pkc,some ⟨b,o,none⟩,pwc⟩),.int .i64 (i:Int),.int .i64 (k:Int),.int .i64 (c:Int)] w fun e w'=>e=.returned (.tuple #[.agg (wC x ⟨⟨px,pxc,pp,ppc,pc,pcc,pi,pic,some ⟨bb,bo,none⟩,pbc⟩,pa,pac,pk,pkc,some ⟨b,o,none⟩,pwc⟩),.int .i64 5])∧Below w.heap.size w w':=by
 have C0:=Lib.hid (Two.start 29 29 w (wC x ⟨⟨px,pxc,pp,ppc,pc,pcc,pi,pic,some ⟨bb,bo,none⟩,pbc⟩,pa,pac,pk,pkc,some ⟨b,o,none⟩,pwc⟩) zC)
 have H:=Lib.hid h
 have HX:=Lib.hid hx
 have HT:=Lib.hid (Bv hx)
 have HBL:=Lib.hid (show (c:Int)<(x.d.boxes.length:Int) by have:=Jb hx;omega)
 have hlen:=h.wh.len
 have hlenb:=h.d.bo.len
 have hcb:c<x.d.boxes.length:=by have:=HBL.out;omega
 have HI:=Lib.hid (show inB (k:Int) x.wher.length=true by simp [inB,hk])
 have HJ:=Lib.hid (show inB (c:Int) x.wher.length=true by simp [inB,hc])
 have HB:=Lib.hid hi
 have HC:=Lib.hid hc
 clear h hx hi hc
 generalize plOf x.wher k=z at *
 generalize hgb:x.d.boxes.getD c false=bv at *
 clear hgb
 obtain ⟨zk,zi⟩:=z
 simp only at c0 c1
 have hrun:=Kj zk zi 1 (i:Int)
 simp only [hz,decide_false,Bool.not_false] at hrun
 have hWC:=@wC.eq_1
 have hZC:=@zC.eq_1
 go_enter func25,ntmps25
 go_wp2_with fail
 refine (Ke x ⟨⟨px,pxc,pp,ppc,pc,pcc,pi,pic,some ⟨bb,bo,none⟩,pbc⟩,pa,pac,pk,pkc,some ⟨b,o,none⟩,pwc⟩ k _).mono ?_
 rintro e w1 ⟨rfl,b1⟩
 rw [HI.out]
 have C1:=Lib.hid (C0.out.call b1)
 clear b1
 have hca:=C1.out.a.cell
 have hla:=C1.out.a.lt
 obtain ⟨hcr,hzr,hlr⟩:=C1.out.rr
 go_wp2_with fail
 refine (Ke x ⟨⟨px,pxc,pp,ppc,pc,pcc,pi,pic,some ⟨bb,bo,none⟩,pbc⟩,pa,pac,pk,pkc,some ⟨b,o,none⟩,pwc⟩ c _).mono ?_
 rintro e w2 ⟨rfl,b2⟩
 rw [HJ.out]
 have C2:=Lib.hid (C1.out.call b2)
 clear b2 hca hla hcr hzr hlr
 have hca:=C2.out.a.cell
 have hla:=C2.out.a.lt
 obtain ⟨hcr,hzr,hlr⟩:=C2.out.rr
 have d0:=Ad c0 C2.out.b
 have d1:=Ad c1 C2.out.b
 have d2:=Ad c2 C2.out.b
 have hbw:b<w2.heap.size:=by have:=C2.out.b.size;omega
 have hbbw:bb<w2.heap.size:=by have:=C2.out.b.size;omega
 go_wp2_with fail
 refine bodyPost_ret (v:=.tuple #[.agg (wC x ⟨⟨px,pxc,pp,ppc,pc,pcc,pi,pic,some ⟨bb,bo,none⟩,pbc⟩,pa,pac,pk,pkc,some ⟨b,o,none⟩,pwc⟩),.int .i64 5]) (by simp [results,results25,go_sem,hcr]) rfl ⟨rfl,?_⟩
 iterate 11 refine bs_1 ?_
 exact C2.out.b
theorem Ew0 (hz:plOf x.wher k=⟨1,(i:Int)⟩) (hn:De x i c=false):Calls prog 25 #[.agg (wC x ⟨⟨px,pxc,pp,ppc,pc,pcc,pi,pic,some ⟨bb,bo,none⟩,pbc⟩,pa,pac,pk,pkc,some ⟨b,o,none⟩,pwc⟩),.int .i64 (i:Int),.int .i64 (k:Int),.int .i64 (c:Int)] w fun e w'=>e=.returned (.tuple #[.agg (wC x ⟨⟨px,pxc,pp,ppc,pc,pcc,pi,pic,some ⟨bb,bo,none⟩,pbc⟩,pa,pac,pk,pkc,some ⟨b,o,none⟩,pwc⟩),.int .i64 5])∧Below w.heap.size w w':=by
 have HN:=Lib.hid hn
 clear hn
 have C0:=Lib.hid (Two.start 29 29 w (wC x ⟨⟨px,pxc,pp,ppc,pc,pcc,pi,pic,some ⟨bb,bo,none⟩,pbc⟩,pa,pac,pk,pkc,some ⟨b,o,none⟩,pwc⟩) zC)
 have H:=Lib.hid h
 have HX:=Lib.hid hx
 have HT:=Lib.hid (Bv hx)
 have HBL:=Lib.hid (show (c:Int)<(x.d.boxes.length:Int) by have:=Jb hx;omega)
 have hlen:=h.wh.len
 have hlenb:=h.d.bo.len
 have hcb:c<x.d.boxes.length:=by have:=HBL.out;omega
 have HI:=Lib.hid (show inB (k:Int) x.wher.length=true by simp [inB,hk])
 have HJ:=Lib.hid (show inB (c:Int) x.wher.length=true by simp [inB,hc])
 have HB:=Lib.hid hi
 have HC:=Lib.hid hc
 clear h hx hi hc
 generalize plOf x.wher k=z at *
 generalize hgb:x.d.boxes.getD c false=bv at *
 clear hgb
 obtain ⟨zk,zi⟩:=z
 simp only at c0 c1
 have hrun:=Kj zk zi 1 (i:Int)
 simp only [hz,decide_true,Bool.not_true] at hrun
 have hWC:=@wC.eq_1
 have hZC:=@zC.eq_1
 go_enter func25,ntmps25
 go_wp2_with fail
 refine (Ke x ⟨⟨px,pxc,pp,ppc,pc,pcc,pi,pic,some ⟨bb,bo,none⟩,pbc⟩,pa,pac,pk,pkc,some ⟨b,o,none⟩,pwc⟩ k _).mono ?_
 rintro e w1 ⟨rfl,b1⟩
 rw [HI.out]
 have C1:=Lib.hid (C0.out.call b1)
 clear b1
 have hca:=C1.out.a.cell
 have hla:=C1.out.a.lt
 obtain ⟨hcr,hzr,hlr⟩:=C1.out.rr
 go_wp2_with fail
 refine (Ke x ⟨⟨px,pxc,pp,ppc,pc,pcc,pi,pic,some ⟨bb,bo,none⟩,pbc⟩,pa,pac,pk,pkc,some ⟨b,o,none⟩,pwc⟩ c _).mono ?_
 rintro e w2 ⟨rfl,b2⟩
 rw [HJ.out]
 have C2:=Lib.hid (C1.out.call b2)
 clear b2 hca hla hcr hzr hlr
 have hca:=C2.out.a.cell
 have hla:=C2.out.a.lt
 obtain ⟨hcr,hzr,hlr⟩:=C2.out.rr
 have d0:=Ad c0 C2.out.b
 have d1:=Ad c1 C2.out.b
 have d2:=Ad c2 C2.out.b
 have hbw:b<w2.heap.size:=by have:=C2.out.b.size;omega
 have hbbw:bb<w2.heap.size:=by have:=C2.out.b.size;omega
 go_wp2_with fail
 refine (Oe x ⟨⟨px,pxc,pp,ppc,pc,pcc,pi,pic,some ⟨bb,bo,none⟩,pbc⟩,pa,pac,pk,pkc,some ⟨b,o,none⟩,pwc⟩ i c _ HX.out (H.out.below C2.out.b (Nat.le_refl _)) HB.out HC.out).mono ?_
 rintro e w3 ⟨rfl,b3⟩
 rw [HN.out]
 have C3:=Lib.hid (C2.out.call b3)
 have d0:=Ad c0 C3.out.b
 have d1:=Ad c1 C3.out.b
 have d2:=Ad c2 C3.out.b
 have hbw:b<w3.heap.size:=by have:=C3.out.b.size;omega
 have hbbw:bb<w3.heap.size:=by have:=C3.out.b.size;omega
 clear b3 hca hla hcr hzr hlr
 have hca:=C3.out.a.cell
 have hla:=C3.out.a.lt
 obtain ⟨hcr,hzr,hlr⟩:=C3.out.rr
 go_wp2_with fail
 refine bodyPost_ret (v:=.tuple #[.agg (wC x ⟨⟨px,pxc,pp,ppc,pc,pcc,pi,pic,some ⟨bb,bo,none⟩,pbc⟩,pa,pac,pk,pkc,some ⟨b,o,none⟩,pwc⟩),.int .i64 5]) (by simp [results,results25,go_sem,hcr]) rfl ⟨rfl,?_⟩
 iterate 11 refine bs_1 ?_
 exact C3.out.b
theorem Dj8 (hz:plOf x.wher k=⟨1,(i:Int)⟩) (hn:De x i c=true) (hv:x.d.boxes.getD c false=false):Calls prog 25 #[.agg (wC x ⟨⟨px,pxc,pp,ppc,pc,pcc,pi,pic,some ⟨bb,bo,none⟩,pbc⟩,pa,pac,pk,pkc,some ⟨b,o,none⟩,pwc⟩),.int .i64 (i:Int),.int .i64 (k:Int),.int .i64 (c:Int)] w fun e w'=>e=.returned (.tuple #[.agg (wC x ⟨⟨px,pxc,pp,ppc,pc,pcc,pi,pic,some ⟨bb,bo,none⟩,pbc⟩,pa,pac,pk,pkc,some ⟨b,o,none⟩,pwc⟩),.int .i64 6])∧Below w.heap.size w w':=by
 have HN:=Lib.hid hn
 clear hn
 have C0:=Lib.hid (Two.start 29 29 w (wC x ⟨⟨px,pxc,pp,ppc,pc,pcc,pi,pic,some ⟨bb,bo,none⟩,pbc⟩,pa,pac,pk,pkc,some ⟨b,o,none⟩,pwc⟩) zC)
 have H:=Lib.hid h
 have HX:=Lib.hid hx
 have HT:=Lib.hid (Bv hx)
 have HBL:=Lib.hid (show (c:Int)<(x.d.boxes.length:Int) by have:=Jb hx;omega)
 have hlen:=h.wh.len
 have hlenb:=h.d.bo.len
 have hcb:c<x.d.boxes.length:=by have:=HBL.out;omega
 have HI:=Lib.hid (show inB (k:Int) x.wher.length=true by simp [inB,hk])
 have HJ:=Lib.hid (show inB (c:Int) x.wher.length=true by simp [inB,hc])
 have HB:=Lib.hid hi
 have HC:=Lib.hid hc
 clear h hx hi hc
 generalize plOf x.wher k=z at *
 generalize hgb:x.d.boxes.getD c false=bv at *
 clear hgb
 obtain ⟨zk,zi⟩:=z
 simp only at c0 c1
 have hrun:=Kj zk zi 1 (i:Int)
 simp only [hz,decide_true,Bool.not_true] at hrun
 have hWC:=@wC.eq_1
 have hZC:=@zC.eq_1
 go_enter func25,ntmps25
 go_wp2_with fail
 refine (Ke x ⟨⟨px,pxc,pp,ppc,pc,pcc,pi,pic,some ⟨bb,bo,none⟩,pbc⟩,pa,pac,pk,pkc,some ⟨b,o,none⟩,pwc⟩ k _).mono ?_
 rintro e w1 ⟨rfl,b1⟩
 rw [HI.out]
 have C1:=Lib.hid (C0.out.call b1)
 clear b1
 have hca:=C1.out.a.cell
 have hla:=C1.out.a.lt
 obtain ⟨hcr,hzr,hlr⟩:=C1.out.rr
 go_wp2_with fail
 refine (Ke x ⟨⟨px,pxc,pp,ppc,pc,pcc,pi,pic,some ⟨bb,bo,none⟩,pbc⟩,pa,pac,pk,pkc,some ⟨b,o,none⟩,pwc⟩ c _).mono ?_
 rintro e w2 ⟨rfl,b2⟩
 rw [HJ.out]
 have C2:=Lib.hid (C1.out.call b2)
 clear b2 hca hla hcr hzr hlr
 have hca:=C2.out.a.cell
 have hla:=C2.out.a.lt
 obtain ⟨hcr,hzr,hlr⟩:=C2.out.rr
 have d0:=Ad c0 C2.out.b
 have d1:=Ad c1 C2.out.b
 have d2:=Ad c2 C2.out.b
 have hbw:b<w2.heap.size:=by have:=C2.out.b.size;omega
 have hbbw:bb<w2.heap.size:=by have:=C2.out.b.size;omega
 go_wp2_with fail
 refine (Oe x ⟨⟨px,pxc,pp,ppc,pc,pcc,pi,pic,some ⟨bb,bo,none⟩,pbc⟩,pa,pac,pk,pkc,some ⟨b,o,none⟩,pwc⟩ i c _ HX.out (H.out.below C2.out.b (Nat.le_refl _)) HB.out HC.out).mono ?_
 rintro e w3 ⟨rfl,b3⟩
 rw [HN.out]
 have C3:=Lib.hid (C2.out.call b3)
 have d0:=Ad c0 C3.out.b
 have d1:=Ad c1 C3.out.b
 have d2:=Ad c2 C3.out.b
 have hbw:b<w3.heap.size:=by have:=C3.out.b.size;omega
 have hbbw:bb<w3.heap.size:=by have:=C3.out.b.size;omega
 clear b3 hca hla hcr hzr hlr
 have hca:=C3.out.a.cell
 have hla:=C3.out.a.lt
 obtain ⟨hcr,hzr,hlr⟩:=C3.out.rr
 go_wp2_with fail
 refine bodyPost_ret (v:=.tuple #[.agg (wC x ⟨⟨px,pxc,pp,ppc,pc,pcc,pi,pic,some ⟨bb,bo,none⟩,pbc⟩,pa,pac,pk,pkc,some ⟨b,o,none⟩,pwc⟩),.int .i64 6]) (by simp [results,results25,go_sem,hcr]) rfl ⟨rfl,?_⟩
 iterate 11 refine bs_1 ?_
 exact C3.out.b
theorem Ea6 (hz:plOf x.wher k=⟨1,(i:Int)⟩) (hn:De x i c=true) (hv:x.d.boxes.getD c false=true) (hw:wB x.wher c k=true):Calls prog 25 #[.agg (wC x ⟨⟨px,pxc,pp,ppc,pc,pcc,pi,pic,some ⟨bb,bo,none⟩,pbc⟩,pa,pac,pk,pkc,some ⟨b,o,none⟩,pwc⟩),.int .i64 (i:Int),.int .i64 (k:Int),.int .i64 (c:Int)] w fun e w'=>e=.returned (.tuple #[.agg (wC x ⟨⟨px,pxc,pp,ppc,pc,pcc,pi,pic,some ⟨bb,bo,none⟩,pbc⟩,pa,pac,pk,pkc,some ⟨b,o,none⟩,pwc⟩),.int .i64 7])∧Below w.heap.size w w':=by
 have HN:=Lib.hid hn
 clear hn
 have HW:=Lib.hid hw
 clear hw
 have C0:=Lib.hid (Two.start 29 29 w (wC x ⟨⟨px,pxc,pp,ppc,pc,pcc,pi,pic,some ⟨bb,bo,none⟩,pbc⟩,pa,pac,pk,pkc,some ⟨b,o,none⟩,pwc⟩) zC)
 have H:=Lib.hid h
 have HX:=Lib.hid hx
 have HT:=Lib.hid (Bv hx)
 have HBL:=Lib.hid (show (c:Int)<(x.d.boxes.length:Int) by have:=Jb hx;omega)
 have hlen:=h.wh.len
 have hlenb:=h.d.bo.len
 have hcb:c<x.d.boxes.length:=by have:=HBL.out;omega
 have HI:=Lib.hid (show inB (k:Int) x.wher.length=true by simp [inB,hk])
 have HJ:=Lib.hid (show inB (c:Int) x.wher.length=true by simp [inB,hc])
 have HB:=Lib.hid hi
 have HC:=Lib.hid hc
 clear h hx hi hc
 generalize plOf x.wher k=z at *
 generalize hgb:x.d.boxes.getD c false=bv at *
 clear hgb
 obtain ⟨zk,zi⟩:=z
 simp only at c0 c1
 have hrun:=Kj zk zi 1 (i:Int)
 simp only [hz,decide_true,Bool.not_true] at hrun
 have hWC:=@wC.eq_1
 have hZC:=@zC.eq_1
 go_enter func25,ntmps25
 go_wp2_with fail
 refine (Ke x ⟨⟨px,pxc,pp,ppc,pc,pcc,pi,pic,some ⟨bb,bo,none⟩,pbc⟩,pa,pac,pk,pkc,some ⟨b,o,none⟩,pwc⟩ k _).mono ?_
 rintro e w1 ⟨rfl,b1⟩
 rw [HI.out]
 have C1:=Lib.hid (C0.out.call b1)
 clear b1
 have hca:=C1.out.a.cell
 have hla:=C1.out.a.lt
 obtain ⟨hcr,hzr,hlr⟩:=C1.out.rr
 go_wp2_with fail
 refine (Ke x ⟨⟨px,pxc,pp,ppc,pc,pcc,pi,pic,some ⟨bb,bo,none⟩,pbc⟩,pa,pac,pk,pkc,some ⟨b,o,none⟩,pwc⟩ c _).mono ?_
 rintro e w2 ⟨rfl,b2⟩
 rw [HJ.out]
 have C2:=Lib.hid (C1.out.call b2)
 clear b2 hca hla hcr hzr hlr
 have hca:=C2.out.a.cell
 have hla:=C2.out.a.lt
 obtain ⟨hcr,hzr,hlr⟩:=C2.out.rr
 have d0:=Ad c0 C2.out.b
 have d1:=Ad c1 C2.out.b
 have d2:=Ad c2 C2.out.b
 have hbw:b<w2.heap.size:=by have:=C2.out.b.size;omega
 have hbbw:bb<w2.heap.size:=by have:=C2.out.b.size;omega
 go_wp2_with fail
 refine (Oe x ⟨⟨px,pxc,pp,ppc,pc,pcc,pi,pic,some ⟨bb,bo,none⟩,pbc⟩,pa,pac,pk,pkc,some ⟨b,o,none⟩,pwc⟩ i c _ HX.out (H.out.below C2.out.b (Nat.le_refl _)) HB.out HC.out).mono ?_
 rintro e w3 ⟨rfl,b3⟩
 rw [HN.out]
 have C3:=Lib.hid (C2.out.call b3)
 have d0:=Ad c0 C3.out.b
 have d1:=Ad c1 C3.out.b
 have d2:=Ad c2 C3.out.b
 have hbw:b<w3.heap.size:=by have:=C3.out.b.size;omega
 have hbbw:bb<w3.heap.size:=by have:=C3.out.b.size;omega
 clear b3 hca hla hcr hzr hlr
 have hca:=C3.out.a.cell
 have hla:=C3.out.a.lt
 obtain ⟨hcr,hzr,hlr⟩:=C3.out.rr
 go_wp2_with fail
 refine (Nz x ⟨⟨px,pxc,pp,ppc,pc,pcc,pi,pic,some ⟨bb,bo,none⟩,pbc⟩,pa,pac,pk,pkc,some ⟨b,o,none⟩,pwc⟩ HT.out c k HC.out _ (H.out.below C3.out.b (Nat.le_refl _)).wh).mono ?_
 rintro e w4 ⟨rfl,b4⟩
 rw [HW.out]
 have C4:=Lib.hid (C3.out.call b4)
 clear b4 hca hla hcr hzr hlr
 have hca:=C4.out.a.cell
 have hla:=C4.out.a.lt
 obtain ⟨hcr,hzr,hlr⟩:=C4.out.rr
 go_wp2_with fail
 refine bodyPost_ret (v:=.tuple #[.agg (wC x ⟨⟨px,pxc,pp,ppc,pc,pcc,pi,pic,some ⟨bb,bo,none⟩,pbc⟩,pa,pac,pk,pkc,some ⟨b,o,none⟩,pwc⟩),.int .i64 7]) (by simp [results,results25,go_sem,hcr]) rfl ⟨rfl,?_⟩
 iterate 11 refine bs_1 ?_
 exact C4.out.b
end
end
section
section
variable (x:Wd) (px pp pc pi pa pk:Option Addr) (pxc ppc pcc pic bb bo pbc pac pkc b o pwc:Nat) (i k c:Nat) (w:World) (hx:Ai x=true) (h:Ab w ⟨⟨px,pxc,pp,ppc,pc,pcc,pi,pic,some ⟨bb,bo,none⟩,pbc⟩,pa,pac,pk,pkc,some ⟨b,o,none⟩,pwc⟩ x) (hi:i<x.at_.length) (hk:k<x.wher.length) (hc:c<x.wher.length) (hbb:bb<w.heap.size) (hb:b<w.heap.size)
 (c0:w.cell? ⟨b,o+k*2,none⟩=some (.int .i64 (plOf x.wher k).kind)) (c1:w.cell? ⟨b,o+k*2+1,none⟩=some (.int .i64 (plOf x.wher k).id)) (c2:w.cell? ⟨bb,bo+c,none⟩=some (.bool (x.d.boxes.getD c false)))
include hx h hi hk hc hbb hb c0 c1 c2
theorem Fn2 (hz:plOf x.wher k=⟨1,(i:Int)⟩) (hn:De x i c=true) (hv:x.d.boxes.getD c false=true) (hw:wB x.wher c k=false):Calls prog 25 #[.agg (wC x ⟨⟨px,pxc,pp,ppc,pc,pcc,pi,pic,some ⟨bb,bo,none⟩,pbc⟩,pa,pac,pk,pkc,some ⟨b,o,none⟩,pwc⟩),.int .i64 (i:Int),.int .i64 (k:Int),.int .i64 (c:Int)] w fun e w'=>∃q:Wp,e=.returned (.tuple #[.agg (wC x q),.int .i64 (boxW x i k c).2])∧Ae6 w.heap.size w' ⟨⟨px,pxc,pp,ppc,pc,pcc,pi,pic,some ⟨bb,bo,none⟩,pbc⟩,pa,pac,pk,pkc,some ⟨b,o,none⟩,pwc⟩ q x (boxW x i k c)∧Below w.heap.size w w':=by
 have HEQ:=Lib.hid (show boxW x i k c=if 4<dep x.wher c+1+hgt x.wher k then (x,8) else if roomI x (box c)=0 then (x,9) else (putW x k (box c),0) by
  unfold boxW
  simp only [Int.toNat_natCast]
  rw [if_neg (by simp [inB,hk,hc]),if_neg (by simp [hz,hn]),if_neg (by rw [hv];simp),if_neg (by rw [hw];simp)])
 have HDI:=Lib.hid (Cq3 (ps:=x.wher) (k:=k) (b:=c) (Bv hx) hk)
 have HDP:=Lib.hid (fun n (hn:n<x.wher.length)=>Dv5 (ps:=x.wher) (k:=k) (b:=c) (Bv hx) hk hc hw hn)
 have HDL:=Lib.hid (fun n (hn:n<x.wher.length)=>Dl3 (ps:=x.wher) (k:=k) (b:=c) (Bv hx) hc hn)
 have HBI:=Lib.hid (Cq5 (ps:=x.wher) (k:=k) (b:=c) (Bv hx) hc)
 have HK:=Lib.hid hk
 have HN:=Lib.hid hn
 clear hn
 have HW:=Lib.hid hw
 clear hw
 have C0:=Lib.hid (Two.start 29 29 w (wC x ⟨⟨px,pxc,pp,ppc,pc,pcc,pi,pic,some ⟨bb,bo,none⟩,pbc⟩,pa,pac,pk,pkc,some ⟨b,o,none⟩,pwc⟩) zC)
 have H:=Lib.hid h
 have HX:=Lib.hid hx
 have HT:=Lib.hid (Bv hx)
 have HBL:=Lib.hid (show (c:Int)<(x.d.boxes.length:Int) by have:=Jb hx;omega)
 have hlen:=h.wh.len
 have hlenb:=h.d.bo.len
 have hcb:c<x.d.boxes.length:=by have:=HBL.out;omega
 have HI:=Lib.hid (show inB (k:Int) x.wher.length=true by simp [inB,hk])
 have HJ:=Lib.hid (show inB (c:Int) x.wher.length=true by simp [inB,hc])
 have HB:=Lib.hid hi
 have HC:=Lib.hid hc
 clear h hx hi hc
 generalize plOf x.wher k=z at *
 generalize hgb:x.d.boxes.getD c false=bv at *
 clear hgb
 obtain ⟨zk,zi⟩:=z
 simp only at c0 c1
 have hrun:=Kj zk zi 1 (i:Int)
 simp only [hz,decide_true,Bool.not_true] at hrun
 have hWC:=@wC.eq_1
 have hZC:=@zC.eq_1
 go_enter func25,ntmps25
 go_wp2_with fail
 refine (Ke x ⟨⟨px,pxc,pp,ppc,pc,pcc,pi,pic,some ⟨bb,bo,none⟩,pbc⟩,pa,pac,pk,pkc,some ⟨b,o,none⟩,pwc⟩ k _).mono ?_
 rintro e w1 ⟨rfl,b1⟩
 rw [HI.out]
 have C1:=Lib.hid (C0.out.call b1)
 clear b1
 have hca:=C1.out.a.cell
 have hla:=C1.out.a.lt
 obtain ⟨hcr,hzr,hlr⟩:=C1.out.rr
 go_wp2_with fail
 refine (Ke x ⟨⟨px,pxc,pp,ppc,pc,pcc,pi,pic,some ⟨bb,bo,none⟩,pbc⟩,pa,pac,pk,pkc,some ⟨b,o,none⟩,pwc⟩ c _).mono ?_
 rintro e w2 ⟨rfl,b2⟩
 rw [HJ.out]
 have C2:=Lib.hid (C1.out.call b2)
 clear b2 hca hla hcr hzr hlr
 have hca:=C2.out.a.cell
 have hla:=C2.out.a.lt
 obtain ⟨hcr,hzr,hlr⟩:=C2.out.rr
 have d0:=Ad c0 C2.out.b
 have d1:=Ad c1 C2.out.b
 have d2:=Ad c2 C2.out.b
 have hbw:b<w2.heap.size:=by have:=C2.out.b.size;omega
 have hbbw:bb<w2.heap.size:=by have:=C2.out.b.size;omega
 go_wp2_with fail
 refine (Oe x ⟨⟨px,pxc,pp,ppc,pc,pcc,pi,pic,some ⟨bb,bo,none⟩,pbc⟩,pa,pac,pk,pkc,some ⟨b,o,none⟩,pwc⟩ i c _ HX.out (H.out.below C2.out.b (Nat.le_refl _)) HB.out HC.out).mono ?_
 rintro e w3 ⟨rfl,b3⟩
 rw [HN.out]
 have C3:=Lib.hid (C2.out.call b3)
 have d0:=Ad c0 C3.out.b
 have d1:=Ad c1 C3.out.b
 have d2:=Ad c2 C3.out.b
 have hbw:b<w3.heap.size:=by have:=C3.out.b.size;omega
 have hbbw:bb<w3.heap.size:=by have:=C3.out.b.size;omega
 clear b3 hca hla hcr hzr hlr
 have hca:=C3.out.a.cell
 have hla:=C3.out.a.lt
 obtain ⟨hcr,hzr,hlr⟩:=C3.out.rr
 go_wp2_with fail
 refine (Nz x ⟨⟨px,pxc,pp,ppc,pc,pcc,pi,pic,some ⟨bb,bo,none⟩,pbc⟩,pa,pac,pk,pkc,some ⟨b,o,none⟩,pwc⟩ HT.out c k HC.out _ (H.out.below C3.out.b (Nat.le_refl _)).wh).mono ?_
 rintro e w4 ⟨rfl,b4⟩
 rw [HW.out]
 have C4:=Lib.hid (C3.out.call b4)
 clear b4 hca hla hcr hzr hlr
 have hca:=C4.out.a.cell
 have hla:=C4.out.a.lt
 obtain ⟨hcr,hzr,hlr⟩:=C4.out.rr
 go_wp2_with fail
 refine (Ei8 x ⟨⟨px,pxc,pp,ppc,pc,pcc,pi,pic,some ⟨bb,bo,none⟩,pbc⟩,pa,pac,pk,pkc,some ⟨b,o,none⟩,pwc⟩ k c _ (H.out.below C4.out.b (Nat.le_refl _)) (Ci HX.out) hk).mono ?_
 rintro e w5 ⟨⟨qd,qa,qac,qk,qkc,qw,qwc⟩,rfl,ho,b5⟩
 have hqd:=ho.1
 simp only at hqd
 subst hqd
 obtain ⟨g,hqw,hg0,hg1,-⟩:=ho.putPlace (k:=k) (by show k<(x.wher.set k _).length;simpa using hk)
 simp only at hqw
 subst hqw
 have C5:=Lib.hid (C4.out.call b5)
 have HO5:=Lib.hid (ho.less C4.out.size)
 clear b5 ho hca hla hcr hzr hlr hg0 hg1 hz c0 c1 c2 d0 d1 d2 hbw hbbw hrun hv
 have D6:=Lib.hid (Blk.newn w5 29 (wC x ⟨⟨px,pxc,pp,ppc,pc,pcc,pi,pic,some ⟨bb,bo,none⟩,pbc⟩,qa,qac,qk,qkc,some ⟨g,0,none⟩,qwc⟩) (n:=w5.heap.size) rfl)
 have C6:=Lib.hid (C5.out.alloc (.cells (wC x ⟨⟨px,pxc,pp,ppc,pc,pcc,pi,pic,some ⟨bb,bo,none⟩,pbc⟩,qa,qac,qk,qkc,some ⟨g,0,none⟩,qwc⟩) 29))
 have HO6:=Lib.hid (HO5.out.alloc (.cells (wC x ⟨⟨px,pxc,pp,ppc,pc,pcc,pi,pic,some ⟨bb,bo,none⟩,pbc⟩,qa,qac,qk,qkc,some ⟨g,0,none⟩,qwc⟩) 29))
 clear C0 C1 C2 C3 C4 HO5
 go_wp2_with fail
 generalize w5.alloc (.cells (wC x ⟨⟨px,pxc,pp,ppc,pc,pcc,pi,pic,some ⟨bb,bo,none⟩,pbc⟩,qa,qac,qk,qkc,some ⟨g,0,none⟩,qwc⟩) 29)=W0 at *
 have hlx:x.wher.length≤40:=by have:=(Aj HX.out).2.2.2.1;omega
 go_loopw [11] (fun n wr=>∃m:Nat,m≤x.wher.length∧n=.int .i64 m∧(∀l,l<m→depN x.wher k c l≤4)∧Below W0.heap.size W0 wr) (fun n _=>x.wher.length-(intOf n).toNat)
 case atStart=>exact ⟨0,by omega,rfl,fun l hl=>by omega,Below.refl _ _⟩
 case round =>
  obtain ⟨m,hm,rfl,hall,hB⟩:=hrel
  have HA:=Lib.hid hall
  have HBB:=Lib.hid hB
  have C7:=Lib.hid (C6.out.call hB)
  have D7:=Lib.hid (D6.out.call hB)
  have HO7:=Lib.hid (HO6.out.call hB)
  clear hall hB
  have hcd:=D7.out.cell
  have hld:=D7.out.lt
  by_cases hml:m<x.wher.length
  ·have HY:=Lib.hid (HO7.out.new.world' (x:=putW x k (box c)) H.out.d C7.out.b)
   have hml2:m<(putW x k (box c)).wher.length:=by show m<(x.wher.set k _).length;simpa using hml
   obtain ⟨g2,o2,ea,hg2,e0,e1⟩:=Au.cells HY.out.wh hml2
   simp only [Option.some.injEq,Addr.mk.injEq,and_true] at ea
   obtain ⟨rfl,rfl⟩:=ea
   have HV:=Lib.hid (HBI.out _ (List.getElem_mem hml2))
   have HP:=Lib.hid (HDP.out m hml)
   have HL:=Lib.hid (HDL.out m hml)
   rw [show (putW x k (box c)).wher[m]=plOf (x.wher.set k (box c)) m from (Bo hml2).symm] at e0 e1
   have HV2:=Lib.hid (show (plOf (x.wher.set k (box c)) m).kind=2→0≤(plOf (x.wher.set k (box c)) m).id∧(plOf (x.wher.set k (box c)) m).id<(putW x k (box c)).wher.length by have h:=HV.out;rw [show (putW x k (box c)).wher[m]=plOf (x.wher.set k (box c)) m from (Bo hml2).symm] at h;exact h)
   clear HV hml2
   generalize plOf (x.wher.set k (box c)) m=v at *
   obtain ⟨vk,vi⟩:=v
   simp only [Nat.zero_add] at e0 e1
   obtain ⟨de,hde⟩:∃de,de=depN x.wher k c m:=⟨_,rfl⟩
   have HDE:=Lib.hid hde
   rw [←hde] at HP HL
   clear hde
   have HYD:=Lib.hid (HY.out.call (Af (Below.refl _ _)))
   have CD:=Lib.hid C7.out.drew
   by_cases hd4:4<de
   ·have hd5:(4:Int)<(de:Int):=by omega
    go_wp2_with fail
    refine tkS (S:=(fun w'=>(∀j,w'.cell? ⟨w5.heap.size,j,none⟩=((wC x ⟨⟨px,pxc,pp,ppc,pc,pcc,pi,pic,some ⟨bb,bo,none⟩,pbc⟩,qa,qac,qk,qkc,some ⟨g,0,none⟩,qwc⟩)[j]?:Option Value))∧w'.cell? ⟨g,m*2,none⟩=some (.int .i64 vk)∧w'.cell? ⟨g,m*2+1,none⟩=some (.int .i64 vi))) (by (exact ⟨hcd,e0,e1⟩)) (fun hHeld=>?_)
    refine tkl [0,1,2,3,4,5] ?_
    iterate 6
     refine tW ?_
     try go_frame
    refine rdy1 6 (fun K hK=>?_)
    go_simp
    refine (Ci7 (Db x k (box c)) ⟨⟨px,pxc,pp,ppc,pc,pcc,pi,pic,some ⟨bb,bo,none⟩,pbc⟩,qa,qac,qk,qkc,some ⟨g,0,none⟩,qwc⟩ ⟨vk,vi⟩ _ HYD.out.wh HBI.out HV2.out).mono ?_;rintro e w8 ⟨rfl,hb8⟩;rw [show Ir (putW x k (box c)).wher ⟨vk,vi⟩=de from HP.out]
    try go_wp2_with fail
    refine hK.out _ _ (by (with_reducible exact ⟨(D7.out.drew.call hb8).cell,Ad hHeld.2.1 hb8,Ad hHeld.2.2 hb8⟩)) (fun hHeld=>?_)
    clear hK K
    try go_frame
    have C8:=Lib.hid (CD.out.call hb8)
    have HB8:=Lib.hid (Aa (Af HBB.out) HBB.out.size hb8)
    refine tkl [7] (tW ?_)
    try go_frame
    refine tkD ?_
    have hca:=C8.out.a.cell
    have hla:=C8.out.a.lt
    obtain ⟨hcr,hzr,hlr⟩:=C8.out.rr
    go_wp2_with fail
    have HQ:=Lib.hid (show boxW x i k c=(x,8) by rw [HEQ.out,if_pos (HDI.out.1 ⟨m,hml,by rw [←HDE.out];exact hd4⟩)])
    rw [HQ.out]
    refine bodyPost_ret (v:=.tuple #[.agg (wC x ⟨⟨px,pxc,pp,ppc,pc,pcc,pi,pic,some ⟨bb,bo,none⟩,pbc⟩,pa,pac,pk,pkc,some ⟨b,o,none⟩,pwc⟩),.int .i64 8]) (by simp [results,results25,go_sem,hcr]) rfl ⟨⟨⟨px,pxc,pp,ppc,pc,pcc,pi,pic,some ⟨bb,bo,none⟩,pbc⟩,pa,pac,pk,pkc,some ⟨b,o,none⟩,pwc⟩,rfl,.inl ⟨by simp,rfl,rfl⟩,?_⟩
    iterate 11 refine bs_1 ?_
    exact C8.out.b
   ·have hd5:¬(4:Int)<(de:Int):=by omega
    go_wp2_with fail
    refine tkS (S:=(fun w'=>(∀j,w'.cell? ⟨w5.heap.size,j,none⟩=((wC x ⟨⟨px,pxc,pp,ppc,pc,pcc,pi,pic,some ⟨bb,bo,none⟩,pbc⟩,qa,qac,qk,qkc,some ⟨g,0,none⟩,qwc⟩)[j]?:Option Value))∧w'.cell? ⟨g,m*2,none⟩=some (.int .i64 vk)∧w'.cell? ⟨g,m*2+1,none⟩=some (.int .i64 vi))) (by (exact ⟨hcd,e0,e1⟩)) (fun hHeld=>?_)
    refine tkl [0,1,2,3,4,5] ?_
    iterate 6
     refine tW ?_
     try go_frame
    refine rdy1 6 (fun K hK=>?_)
    go_simp
    refine (Ci7 (Db x k (box c)) ⟨⟨px,pxc,pp,ppc,pc,pcc,pi,pic,some ⟨bb,bo,none⟩,pbc⟩,qa,qac,qk,qkc,some ⟨g,0,none⟩,qwc⟩ ⟨vk,vi⟩ _ HYD.out.wh HBI.out HV2.out).mono ?_;rintro e w8 ⟨rfl,hb8⟩;rw [show Ir (putW x k (box c)).wher ⟨vk,vi⟩=de from HP.out]
    try go_wp2_with fail
    refine hK.out _ _ (by (with_reducible exact ⟨(D7.out.drew.call hb8).cell,Ad hHeld.2.1 hb8,Ad hHeld.2.2 hb8⟩)) (fun hHeld=>?_)
    clear hK K
    try go_frame
    have C8:=Lib.hid (CD.out.call hb8)
    have HB8:=Lib.hid (Aa (Af HBB.out) HBB.out.size hb8)
    refine tkl [7] (tW ?_)
    try go_frame
    refine tkD ?_
    go_wp2_with fail
    go_roundw
    case rel =>
     refine ⟨m+1,by omega,by go_num,fun l hl=>?_,HB8.out⟩
     by_cases e:l=m
     ·subst e;rw [←HDE.out];omega
     ·exact HA.out l (by omega)
    case measure=>simp [intOf];omega
  ·have hnd:¬4<dep x.wher c+1+hgt x.wher k:=fun h=>by
    obtain ⟨n,hn,h4⟩:=HDI.out.2 h
    have:=HA.out n (by omega)
    omega
   have HE2:=Lib.hid (HEQ.out.trans (if_neg hnd))
   clear hnd
   have hca:=C7.out.a.cell
   have hla:=C7.out.a.lt
   obtain ⟨hcr,hzr,hlr⟩:=C7.out.rr
   go_wp2_with fail
   refine (Eh6 x ⟨⟨px,pxc,pp,ppc,pc,pcc,pi,pic,some ⟨bb,bo,none⟩,pbc⟩,pa,pac,pk,pkc,some ⟨b,o,none⟩,pwc⟩ c _ HX.out (H.out.below C7.out.b (Nat.le_refl _))).mono ?_
   rintro e w9 ⟨rfl,b9⟩
   have C9:=Lib.hid (C7.out.call b9)
   have D9:=Lib.hid (D7.out.call b9)
   have HO9:=Lib.hid (HO7.out.call b9)
   clear b9 hca hla hcr hzr hlr hcd hld
   generalize roomI x (box c)=r at *
   have hca:=C9.out.a.cell
   have hla:=C9.out.a.lt
   obtain ⟨hcr,hzr,hlr⟩:=C9.out.rr
   have hcd:=D9.out.cell
   have hld:=D9.out.lt
   by_cases hr:r=0
   ·have HQ:=Lib.hid (HE2.out.trans (if_pos hr))
    subst hr
    go_wp2_with fail
    rw [HQ.out]
    refine bodyPost_ret (v:=.tuple #[.agg (wC x ⟨⟨px,pxc,pp,ppc,pc,pcc,pi,pic,some ⟨bb,bo,none⟩,pbc⟩,pa,pac,pk,pkc,some ⟨b,o,none⟩,pwc⟩),.int .i64 9]) (by simp [results,results25,go_sem,hcr]) rfl ⟨⟨⟨px,pxc,pp,ppc,pc,pcc,pi,pic,some ⟨bb,bo,none⟩,pbc⟩,pa,pac,pk,pkc,some ⟨b,o,none⟩,pwc⟩,rfl,.inl ⟨by simp,rfl,rfl⟩,?_⟩
    iterate 11 refine bs_1 ?_
    exact C9.out.b
   ·have HQ:=Lib.hid (HE2.out.trans (if_neg hr))
    have hr2:(r==0)=false:=by simpa using hr
    clear hr
    go_wp2_with fail
    rw [HQ.out]
    refine bodyPost_ret (v:=.tuple #[.agg (wC x ⟨⟨px,pxc,pp,ppc,pc,pcc,pi,pic,some ⟨bb,bo,none⟩,pbc⟩,qa,qac,qk,qkc,some ⟨g,0,none⟩,qwc⟩),.int .i64 0]) (by simp [results,results25,go_sem,hcr]) rfl ⟨⟨⟨px,pxc,pp,ppc,pc,pcc,pi,pic,some ⟨bb,bo,none⟩,pbc⟩,qa,qac,qk,qkc,some ⟨g,0,none⟩,qwc⟩,rfl,.inr ⟨rfl,rfl,?_⟩,?_⟩
    ·refine Cc.less (n:=w.heap.size+2) ?_ (by omega)
     iterate 11 refine Cc.set (b:=w.heap.size+1) ?_ (by omega) _ _
     exact HO9.out
    ·iterate 11 refine bs_1 ?_
     exact C9.out.b
end
end
section
theorem Ct3 (x:Wd) (p:Wp) (i:Nat) (k c:Int) (w:World) (h1:inB k x.wher.length=false):Calls prog 26 #[.agg (wC x p),.int .i64 (i:Int),.int .i64 k,.int .i64 c] w fun e w'=>e=.returned (.tuple #[.agg (wC x p),.int .i64 3])∧Below w.heap.size w w':=by
 have C0:=Lib.hid (Two.start 29 29 w (wC x p) zC)
 have H1:=Lib.hid h1
 clear h1
 have hWC:=@wC.eq_1
 have hZC:=@zC.eq_1
 go_enter func26,ntmps26
 go_wp2_with fail
 refine (Ke x p k _).mono ?_
 rintro e w1 ⟨rfl,b1⟩
 rw [H1.out]
 have C1:=Lib.hid (C0.out.call b1)
 clear b1
 have hca:=C1.out.a.cell
 have hla:=C1.out.a.lt
 obtain ⟨hcr,hzr,hlr⟩:=C1.out.rr
 go_wp2_with fail
 refine bodyPost_ret (v:=.tuple #[.agg (wC x p),.int .i64 3]) (by simp [results,results26,go_sem,hcr]) rfl ⟨rfl,?_⟩
 iterate 11 refine bs_1 ?_
 exact C1.out.b
theorem Ct2 (x:Wd) (p:Wp) (i:Nat) (k c:Int) (w:World) (h1:inB k x.wher.length=true) (h2:inB c x.wher.length=false):Calls prog 26 #[.agg (wC x p),.int .i64 (i:Int),.int .i64 k,.int .i64 c] w fun e w'=>e=.returned (.tuple #[.agg (wC x p),.int .i64 3])∧Below w.heap.size w w':=by
 have C0:=Lib.hid (Two.start 29 29 w (wC x p) zC)
 have H1:=Lib.hid h1
 have H2:=Lib.hid h2
 clear h1 h2
 have hWC:=@wC.eq_1
 have hZC:=@zC.eq_1
 go_enter func26,ntmps26
 go_wp2_with fail
 refine (Ke x p k _).mono ?_
 rintro e w1 ⟨rfl,b1⟩
 rw [H1.out]
 have C1:=Lib.hid (C0.out.call b1)
 clear b1
 have hca:=C1.out.a.cell
 have hla:=C1.out.a.lt
 obtain ⟨hcr,hzr,hlr⟩:=C1.out.rr
 go_wp2_with fail
 refine (Ke x p c _).mono ?_
 rintro e w2 ⟨rfl,b2⟩
 rw [H2.out]
 have C2:=Lib.hid (C1.out.call b2)
 clear b2 hca hla hcr hzr hlr
 have hca:=C2.out.a.cell
 have hla:=C2.out.a.lt
 obtain ⟨hcr,hzr,hlr⟩:=C2.out.rr
 go_wp2_with fail
 refine bodyPost_ret (v:=.tuple #[.agg (wC x p),.int .i64 3]) (by simp [results,results26,go_sem,hcr]) rfl ⟨rfl,?_⟩
 iterate 11 refine bs_1 ?_
 exact C2.out.b
section
variable (x:Wd) (px pp pc pi pa pk:Option Addr) (pxc ppc pcc pic bb bo pbc pac pkc b o pwc:Nat) (i k c:Nat) (w:World) (hx:Ai x=true) (h:Ab w ⟨⟨px,pxc,pp,ppc,pc,pcc,pi,pic,some ⟨bb,bo,none⟩,pbc⟩,pa,pac,pk,pkc,some ⟨b,o,none⟩,pwc⟩ x) (hi:i<x.at_.length) (hk:k<x.wher.length) (hc:c<x.wher.length) (hbb:bb<w.heap.size) (hb:b<w.heap.size)
 (c0:w.cell? ⟨b,o+k*2,none⟩=some (.int .i64 (plOf x.wher k).kind)) (c1:w.cell? ⟨b,o+k*2+1,none⟩=some (.int .i64 (plOf x.wher k).id)) (c2:w.cell? ⟨bb,bo+c,none⟩=some (.bool (x.d.boxes.getD c false)))
include hx h hi hk hc hbb hb c0 c1 c2
theorem Ea5 (hn:De x i c=false):Calls prog 26 #[.agg (wC x ⟨⟨px,pxc,pp,ppc,pc,pcc,pi,pic,some ⟨bb,bo,none⟩,pbc⟩,pa,pac,pk,pkc,some ⟨b,o,none⟩,pwc⟩),.int .i64 (i:Int),.int .i64 (k:Int),.int .i64 (c:Int)] w fun e w'=>e=.returned (.tuple #[.agg (wC x ⟨⟨px,pxc,pp,ppc,pc,pcc,pi,pic,some ⟨bb,bo,none⟩,pbc⟩,pa,pac,pk,pkc,some ⟨b,o,none⟩,pwc⟩),.int .i64 5])∧Below w.heap.size w w':=by
 have HN:=Lib.hid hn
 clear hn
 have C0:=Lib.hid (Two.start 29 29 w (wC x ⟨⟨px,pxc,pp,ppc,pc,pcc,pi,pic,some ⟨bb,bo,none⟩,pbc⟩,pa,pac,pk,pkc,some ⟨b,o,none⟩,pwc⟩) zC)
 have H:=Lib.hid h
 have HX:=Lib.hid hx
 have HT:=Lib.hid (Bv hx)
 have HBL:=Lib.hid (show (c:Int)<(x.d.boxes.length:Int) by have:=Jb hx;omega)
 have hlen:=h.wh.len
 have hlenb:=h.d.bo.len
 have hcb:c<x.d.boxes.length:=by have:=HBL.out;omega
 have HI:=Lib.hid (show inB (k:Int) x.wher.length=true by simp [inB,hk])
 have HJ:=Lib.hid (show inB (c:Int) x.wher.length=true by simp [inB,hc])
 have HB:=Lib.hid hi
 have HC:=Lib.hid hc
 clear h hx hi hc
 generalize plOf x.wher k=z at *
 generalize hgb:x.d.boxes.getD c false=bv at *
 clear hgb
 obtain ⟨zk,zi⟩:=z
 simp only at c0 c1
 have hWC:=@wC.eq_1
 have hZC:=@zC.eq_1
 go_enter func26,ntmps26
 go_wp2_with fail
 refine (Ke x ⟨⟨px,pxc,pp,ppc,pc,pcc,pi,pic,some ⟨bb,bo,none⟩,pbc⟩,pa,pac,pk,pkc,some ⟨b,o,none⟩,pwc⟩ k _).mono ?_
 rintro e w1 ⟨rfl,b1⟩
 rw [HI.out]
 have C1:=Lib.hid (C0.out.call b1)
 clear b1
 have hca:=C1.out.a.cell
 have hla:=C1.out.a.lt
 obtain ⟨hcr,hzr,hlr⟩:=C1.out.rr
 go_wp2_with fail
 refine (Ke x ⟨⟨px,pxc,pp,ppc,pc,pcc,pi,pic,some ⟨bb,bo,none⟩,pbc⟩,pa,pac,pk,pkc,some ⟨b,o,none⟩,pwc⟩ c _).mono ?_
 rintro e w2 ⟨rfl,b2⟩
 rw [HJ.out]
 have C2:=Lib.hid (C1.out.call b2)
 clear b2 hca hla hcr hzr hlr
 have hca:=C2.out.a.cell
 have hla:=C2.out.a.lt
 obtain ⟨hcr,hzr,hlr⟩:=C2.out.rr
 have d0:=Ad c0 C2.out.b
 have d1:=Ad c1 C2.out.b
 have d2:=Ad c2 C2.out.b
 have hbw:b<w2.heap.size:=by have:=C2.out.b.size;omega
 have hbbw:bb<w2.heap.size:=by have:=C2.out.b.size;omega
 go_wp2_with fail
 refine (Oe x ⟨⟨px,pxc,pp,ppc,pc,pcc,pi,pic,some ⟨bb,bo,none⟩,pbc⟩,pa,pac,pk,pkc,some ⟨b,o,none⟩,pwc⟩ i c _ HX.out (H.out.below C2.out.b (Nat.le_refl _)) HB.out HC.out).mono ?_
 rintro e w3 ⟨rfl,b3⟩
 rw [HN.out]
 have C3:=Lib.hid (C2.out.call b3)
 have d0:=Ad c0 C3.out.b
 have d1:=Ad c1 C3.out.b
 have d2:=Ad c2 C3.out.b
 have hbw:b<w3.heap.size:=by have:=C3.out.b.size;omega
 have hbbw:bb<w3.heap.size:=by have:=C3.out.b.size;omega
 clear b3 hca hla hcr hzr hlr
 have hca:=C3.out.a.cell
 have hla:=C3.out.a.lt
 obtain ⟨hcr,hzr,hlr⟩:=C3.out.rr
 go_wp2_with fail
 refine bodyPost_ret (v:=.tuple #[.agg (wC x ⟨⟨px,pxc,pp,ppc,pc,pcc,pi,pic,some ⟨bb,bo,none⟩,pbc⟩,pa,pac,pk,pkc,some ⟨b,o,none⟩,pwc⟩),.int .i64 5]) (by simp [results,results26,go_sem,hcr]) rfl ⟨rfl,?_⟩
 iterate 11 refine bs_1 ?_
 exact C3.out.b
theorem Ct4 (hn:De x i c=true) (hv:x.d.boxes.getD c false=false):Calls prog 26 #[.agg (wC x ⟨⟨px,pxc,pp,ppc,pc,pcc,pi,pic,some ⟨bb,bo,none⟩,pbc⟩,pa,pac,pk,pkc,some ⟨b,o,none⟩,pwc⟩),.int .i64 (i:Int),.int .i64 (k:Int),.int .i64 (c:Int)] w fun e w'=>e=.returned (.tuple #[.agg (wC x ⟨⟨px,pxc,pp,ppc,pc,pcc,pi,pic,some ⟨bb,bo,none⟩,pbc⟩,pa,pac,pk,pkc,some ⟨b,o,none⟩,pwc⟩),.int .i64 6])∧Below w.heap.size w w':=by
 have HN:=Lib.hid hn
 clear hn
 have C0:=Lib.hid (Two.start 29 29 w (wC x ⟨⟨px,pxc,pp,ppc,pc,pcc,pi,pic,some ⟨bb,bo,none⟩,pbc⟩,pa,pac,pk,pkc,some ⟨b,o,none⟩,pwc⟩) zC)
 have H:=Lib.hid h
 have HX:=Lib.hid hx
 have HT:=Lib.hid (Bv hx)
 have HBL:=Lib.hid (show (c:Int)<(x.d.boxes.length:Int) by have:=Jb hx;omega)
 have hlen:=h.wh.len
 have hlenb:=h.d.bo.len
 have hcb:c<x.d.boxes.length:=by have:=HBL.out;omega
 have HI:=Lib.hid (show inB (k:Int) x.wher.length=true by simp [inB,hk])
 have HJ:=Lib.hid (show inB (c:Int) x.wher.length=true by simp [inB,hc])
 have HB:=Lib.hid hi
 have HC:=Lib.hid hc
 clear h hx hi hc
 generalize plOf x.wher k=z at *
 generalize hgb:x.d.boxes.getD c false=bv at *
 clear hgb
 obtain ⟨zk,zi⟩:=z
 simp only at c0 c1
 have hWC:=@wC.eq_1
 have hZC:=@zC.eq_1
 go_enter func26,ntmps26
 go_wp2_with fail
 refine (Ke x ⟨⟨px,pxc,pp,ppc,pc,pcc,pi,pic,some ⟨bb,bo,none⟩,pbc⟩,pa,pac,pk,pkc,some ⟨b,o,none⟩,pwc⟩ k _).mono ?_
 rintro e w1 ⟨rfl,b1⟩
 rw [HI.out]
 have C1:=Lib.hid (C0.out.call b1)
 clear b1
 have hca:=C1.out.a.cell
 have hla:=C1.out.a.lt
 obtain ⟨hcr,hzr,hlr⟩:=C1.out.rr
 go_wp2_with fail
 refine (Ke x ⟨⟨px,pxc,pp,ppc,pc,pcc,pi,pic,some ⟨bb,bo,none⟩,pbc⟩,pa,pac,pk,pkc,some ⟨b,o,none⟩,pwc⟩ c _).mono ?_
 rintro e w2 ⟨rfl,b2⟩
 rw [HJ.out]
 have C2:=Lib.hid (C1.out.call b2)
 clear b2 hca hla hcr hzr hlr
 have hca:=C2.out.a.cell
 have hla:=C2.out.a.lt
 obtain ⟨hcr,hzr,hlr⟩:=C2.out.rr
 have d0:=Ad c0 C2.out.b
 have d1:=Ad c1 C2.out.b
 have d2:=Ad c2 C2.out.b
 have hbw:b<w2.heap.size:=by have:=C2.out.b.size;omega
 have hbbw:bb<w2.heap.size:=by have:=C2.out.b.size;omega
 go_wp2_with fail
 refine (Oe x ⟨⟨px,pxc,pp,ppc,pc,pcc,pi,pic,some ⟨bb,bo,none⟩,pbc⟩,pa,pac,pk,pkc,some ⟨b,o,none⟩,pwc⟩ i c _ HX.out (H.out.below C2.out.b (Nat.le_refl _)) HB.out HC.out).mono ?_
 rintro e w3 ⟨rfl,b3⟩
 rw [HN.out]
 have C3:=Lib.hid (C2.out.call b3)
 have d0:=Ad c0 C3.out.b
 have d1:=Ad c1 C3.out.b
 have d2:=Ad c2 C3.out.b
 have hbw:b<w3.heap.size:=by have:=C3.out.b.size;omega
 have hbbw:bb<w3.heap.size:=by have:=C3.out.b.size;omega
 clear b3 hca hla hcr hzr hlr
 have hca:=C3.out.a.cell
 have hla:=C3.out.a.lt
 obtain ⟨hcr,hzr,hlr⟩:=C3.out.rr
 go_wp2_with fail
 refine bodyPost_ret (v:=.tuple #[.agg (wC x ⟨⟨px,pxc,pp,ppc,pc,pcc,pi,pic,some ⟨bb,bo,none⟩,pbc⟩,pa,pac,pk,pkc,some ⟨b,o,none⟩,pwc⟩),.int .i64 6]) (by simp [results,results26,go_sem,hcr]) rfl ⟨rfl,?_⟩
 iterate 11 refine bs_1 ?_
 exact C3.out.b
theorem Dj5 (hn:De x i c=true) (hv:x.d.boxes.getD c false=true) (hz:¬plOf x.wher k=⟨2,(c:Int)⟩):Calls prog 26 #[.agg (wC x ⟨⟨px,pxc,pp,ppc,pc,pcc,pi,pic,some ⟨bb,bo,none⟩,pbc⟩,pa,pac,pk,pkc,some ⟨b,o,none⟩,pwc⟩),.int .i64 (i:Int),.int .i64 (k:Int),.int .i64 (c:Int)] w fun e w'=>e=.returned (.tuple #[.agg (wC x ⟨⟨px,pxc,pp,ppc,pc,pcc,pi,pic,some ⟨bb,bo,none⟩,pbc⟩,pa,pac,pk,pkc,some ⟨b,o,none⟩,pwc⟩),.int .i64 5])∧Below w.heap.size w w':=by
 have HN:=Lib.hid hn
 clear hn
 have C0:=Lib.hid (Two.start 29 29 w (wC x ⟨⟨px,pxc,pp,ppc,pc,pcc,pi,pic,some ⟨bb,bo,none⟩,pbc⟩,pa,pac,pk,pkc,some ⟨b,o,none⟩,pwc⟩) zC)
 have H:=Lib.hid h
 have HX:=Lib.hid hx
 have HT:=Lib.hid (Bv hx)
 have HBL:=Lib.hid (show (c:Int)<(x.d.boxes.length:Int) by have:=Jb hx;omega)
 have hlen:=h.wh.len
 have hlenb:=h.d.bo.len
 have hcb:c<x.d.boxes.length:=by have:=HBL.out;omega
 have HI:=Lib.hid (show inB (k:Int) x.wher.length=true by simp [inB,hk])
 have HJ:=Lib.hid (show inB (c:Int) x.wher.length=true by simp [inB,hc])
 have HB:=Lib.hid hi
 have HC:=Lib.hid hc
 clear h hx hi hc
 generalize plOf x.wher k=z at *
 generalize hgb:x.d.boxes.getD c false=bv at *
 clear hgb
 obtain ⟨zk,zi⟩:=z
 simp only at c0 c1
 have hrun:=Kj zk zi 2 (c:Int)
 simp only [hz,decide_false,Bool.not_false] at hrun
 have hWC:=@wC.eq_1
 have hZC:=@zC.eq_1
 go_enter func26,ntmps26
 go_wp2_with fail
 refine (Ke x ⟨⟨px,pxc,pp,ppc,pc,pcc,pi,pic,some ⟨bb,bo,none⟩,pbc⟩,pa,pac,pk,pkc,some ⟨b,o,none⟩,pwc⟩ k _).mono ?_
 rintro e w1 ⟨rfl,b1⟩
 rw [HI.out]
 have C1:=Lib.hid (C0.out.call b1)
 clear b1
 have hca:=C1.out.a.cell
 have hla:=C1.out.a.lt
 obtain ⟨hcr,hzr,hlr⟩:=C1.out.rr
 go_wp2_with fail
 refine (Ke x ⟨⟨px,pxc,pp,ppc,pc,pcc,pi,pic,some ⟨bb,bo,none⟩,pbc⟩,pa,pac,pk,pkc,some ⟨b,o,none⟩,pwc⟩ c _).mono ?_
 rintro e w2 ⟨rfl,b2⟩
 rw [HJ.out]
 have C2:=Lib.hid (C1.out.call b2)
 clear b2 hca hla hcr hzr hlr
 have hca:=C2.out.a.cell
 have hla:=C2.out.a.lt
 obtain ⟨hcr,hzr,hlr⟩:=C2.out.rr
 have d0:=Ad c0 C2.out.b
 have d1:=Ad c1 C2.out.b
 have d2:=Ad c2 C2.out.b
 have hbw:b<w2.heap.size:=by have:=C2.out.b.size;omega
 have hbbw:bb<w2.heap.size:=by have:=C2.out.b.size;omega
 go_wp2_with fail
 refine (Oe x ⟨⟨px,pxc,pp,ppc,pc,pcc,pi,pic,some ⟨bb,bo,none⟩,pbc⟩,pa,pac,pk,pkc,some ⟨b,o,none⟩,pwc⟩ i c _ HX.out (H.out.below C2.out.b (Nat.le_refl _)) HB.out HC.out).mono ?_
 rintro e w3 ⟨rfl,b3⟩
 rw [HN.out]
 have C3:=Lib.hid (C2.out.call b3)
 have d0:=Ad c0 C3.out.b
 have d1:=Ad c1 C3.out.b
 have d2:=Ad c2 C3.out.b
 have hbw:b<w3.heap.size:=by have:=C3.out.b.size;omega
 have hbbw:bb<w3.heap.size:=by have:=C3.out.b.size;omega
 clear b3 hca hla hcr hzr hlr
 have hca:=C3.out.a.cell
 have hla:=C3.out.a.lt
 obtain ⟨hcr,hzr,hlr⟩:=C3.out.rr
 go_wp2_with fail
 refine bodyPost_ret (v:=.tuple #[.agg (wC x ⟨⟨px,pxc,pp,ppc,pc,pcc,pi,pic,some ⟨bb,bo,none⟩,pbc⟩,pa,pac,pk,pkc,some ⟨b,o,none⟩,pwc⟩),.int .i64 5]) (by simp [results,results26,go_sem,hcr]) rfl ⟨rfl,?_⟩
 iterate 11 refine bs_1 ?_
 exact C3.out.b
theorem Dj4 (hn:De x i c=true) (hv:x.d.boxes.getD c false=true) (hz:plOf x.wher k=⟨2,(c:Int)⟩) (hr:roomI x ⟨1,(i:Int)⟩=0):Calls prog 26 #[.agg (wC x ⟨⟨px,pxc,pp,ppc,pc,pcc,pi,pic,some ⟨bb,bo,none⟩,pbc⟩,pa,pac,pk,pkc,some ⟨b,o,none⟩,pwc⟩),.int .i64 (i:Int),.int .i64 (k:Int),.int .i64 (c:Int)] w fun e w'=>e=.returned (.tuple #[.agg (wC x ⟨⟨px,pxc,pp,ppc,pc,pcc,pi,pic,some ⟨bb,bo,none⟩,pbc⟩,pa,pac,pk,pkc,some ⟨b,o,none⟩,pwc⟩),.int .i64 9])∧Below w.heap.size w w':=by
 have HN:=Lib.hid hn
 clear hn
 have HR:=Lib.hid hr
 clear hr
 have C0:=Lib.hid (Two.start 29 29 w (wC x ⟨⟨px,pxc,pp,ppc,pc,pcc,pi,pic,some ⟨bb,bo,none⟩,pbc⟩,pa,pac,pk,pkc,some ⟨b,o,none⟩,pwc⟩) zC)
 have H:=Lib.hid h
 have HX:=Lib.hid hx
 have HT:=Lib.hid (Bv hx)
 have HBL:=Lib.hid (show (c:Int)<(x.d.boxes.length:Int) by have:=Jb hx;omega)
 have hlen:=h.wh.len
 have hlenb:=h.d.bo.len
 have hcb:c<x.d.boxes.length:=by have:=HBL.out;omega
 have HI:=Lib.hid (show inB (k:Int) x.wher.length=true by simp [inB,hk])
 have HJ:=Lib.hid (show inB (c:Int) x.wher.length=true by simp [inB,hc])
 have HB:=Lib.hid hi
 have HC:=Lib.hid hc
 clear h hx hi hc
 generalize plOf x.wher k=z at *
 generalize hgb:x.d.boxes.getD c false=bv at *
 clear hgb
 obtain ⟨zk,zi⟩:=z
 simp only at c0 c1
 have hrun:=Kj zk zi 2 (c:Int)
 simp only [hz,decide_true,Bool.not_true] at hrun
 have hWC:=@wC.eq_1
 have hZC:=@zC.eq_1
 go_enter func26,ntmps26
 go_wp2_with fail
 refine (Ke x ⟨⟨px,pxc,pp,ppc,pc,pcc,pi,pic,some ⟨bb,bo,none⟩,pbc⟩,pa,pac,pk,pkc,some ⟨b,o,none⟩,pwc⟩ k _).mono ?_
 rintro e w1 ⟨rfl,b1⟩
 rw [HI.out]
 have C1:=Lib.hid (C0.out.call b1)
 clear b1
 have hca:=C1.out.a.cell
 have hla:=C1.out.a.lt
 obtain ⟨hcr,hzr,hlr⟩:=C1.out.rr
 go_wp2_with fail
 refine (Ke x ⟨⟨px,pxc,pp,ppc,pc,pcc,pi,pic,some ⟨bb,bo,none⟩,pbc⟩,pa,pac,pk,pkc,some ⟨b,o,none⟩,pwc⟩ c _).mono ?_
 rintro e w2 ⟨rfl,b2⟩
 rw [HJ.out]
 have C2:=Lib.hid (C1.out.call b2)
 clear b2 hca hla hcr hzr hlr
 have hca:=C2.out.a.cell
 have hla:=C2.out.a.lt
 obtain ⟨hcr,hzr,hlr⟩:=C2.out.rr
 have d0:=Ad c0 C2.out.b
 have d1:=Ad c1 C2.out.b
 have d2:=Ad c2 C2.out.b
 have hbw:b<w2.heap.size:=by have:=C2.out.b.size;omega
 have hbbw:bb<w2.heap.size:=by have:=C2.out.b.size;omega
 go_wp2_with fail
 refine (Oe x ⟨⟨px,pxc,pp,ppc,pc,pcc,pi,pic,some ⟨bb,bo,none⟩,pbc⟩,pa,pac,pk,pkc,some ⟨b,o,none⟩,pwc⟩ i c _ HX.out (H.out.below C2.out.b (Nat.le_refl _)) HB.out HC.out).mono ?_
 rintro e w3 ⟨rfl,b3⟩
 rw [HN.out]
 have C3:=Lib.hid (C2.out.call b3)
 have d0:=Ad c0 C3.out.b
 have d1:=Ad c1 C3.out.b
 have d2:=Ad c2 C3.out.b
 have hbw:b<w3.heap.size:=by have:=C3.out.b.size;omega
 have hbbw:bb<w3.heap.size:=by have:=C3.out.b.size;omega
 clear b3 hca hla hcr hzr hlr
 have hca:=C3.out.a.cell
 have hla:=C3.out.a.lt
 obtain ⟨hcr,hzr,hlr⟩:=C3.out.rr
 go_wp2_with fail
 refine (Ab6 x ⟨⟨px,pxc,pp,ppc,pc,pcc,pi,pic,some ⟨bb,bo,none⟩,pbc⟩,pa,pac,pk,pkc,some ⟨b,o,none⟩,pwc⟩ i _ HX.out (H.out.below C3.out.b (Nat.le_refl _))).mono ?_
 rintro e w4 ⟨rfl,b4⟩
 rw [HR.out]
 have C4:=Lib.hid (C3.out.call b4)
 clear b4 hca hla hcr hzr hlr
 have hca:=C4.out.a.cell
 have hla:=C4.out.a.lt
 obtain ⟨hcr,hzr,hlr⟩:=C4.out.rr
 go_wp2_with fail
 refine bodyPost_ret (v:=.tuple #[.agg (wC x ⟨⟨px,pxc,pp,ppc,pc,pcc,pi,pic,some ⟨bb,bo,none⟩,pbc⟩,pa,pac,pk,pkc,some ⟨b,o,none⟩,pwc⟩),.int .i64 9]) (by simp [results,results26,go_sem,hcr]) rfl ⟨rfl,?_⟩
 iterate 11 refine bs_1 ?_
 exact C4.out.b
theorem Ev8 (hn:De x i c=true) (hv:x.d.boxes.getD c false=true) (hz:plOf x.wher k=⟨2,(c:Int)⟩) (r:Int) (hr:roomI x ⟨1,(i:Int)⟩=r) (hr1:(r==0)=false):Calls prog 26 #[.agg (wC x ⟨⟨px,pxc,pp,ppc,pc,pcc,pi,pic,some ⟨bb,bo,none⟩,pbc⟩,pa,pac,pk,pkc,some ⟨b,o,none⟩,pwc⟩),.int .i64 (i:Int),.int .i64 (k:Int),.int .i64 (c:Int)] w fun e w'=>∃q:Wp,e=.returned (.tuple #[.agg (wC x q),.int .i64 0])∧Cc w.heap.size w' ⟨px,pxc,pp,ppc,pc,pcc,pi,pic,some ⟨bb,bo,none⟩,pbc⟩ q (putW x k ⟨1,(i:Int)⟩)∧Below w.heap.size w w':=by
 have HN:=Lib.hid hn
 clear hn
 have HR:=Lib.hid hr
 clear hr
 have C0:=Lib.hid (Two.start 29 29 w (wC x ⟨⟨px,pxc,pp,ppc,pc,pcc,pi,pic,some ⟨bb,bo,none⟩,pbc⟩,pa,pac,pk,pkc,some ⟨b,o,none⟩,pwc⟩) zC)
 have H:=Lib.hid h
 have HX:=Lib.hid hx
 have HT:=Lib.hid (Bv hx)
 have HBL:=Lib.hid (show (c:Int)<(x.d.boxes.length:Int) by have:=Jb hx;omega)
 have hlen:=h.wh.len
 have hlenb:=h.d.bo.len
 have hcb:c<x.d.boxes.length:=by have:=HBL.out;omega
 have HI:=Lib.hid (show inB (k:Int) x.wher.length=true by simp [inB,hk])
 have HJ:=Lib.hid (show inB (c:Int) x.wher.length=true by simp [inB,hc])
 have HB:=Lib.hid hi
 have HC:=Lib.hid hc
 clear h hx hi hc
 generalize plOf x.wher k=z at *
 generalize hgb:x.d.boxes.getD c false=bv at *
 clear hgb
 obtain ⟨zk,zi⟩:=z
 simp only at c0 c1
 have hrun:=Kj zk zi 2 (c:Int)
 simp only [hz,decide_true,Bool.not_true] at hrun
 have hWC:=@wC.eq_1
 have hZC:=@zC.eq_1
 go_enter func26,ntmps26
 go_wp2_with fail
 refine (Ke x ⟨⟨px,pxc,pp,ppc,pc,pcc,pi,pic,some ⟨bb,bo,none⟩,pbc⟩,pa,pac,pk,pkc,some ⟨b,o,none⟩,pwc⟩ k _).mono ?_
 rintro e w1 ⟨rfl,b1⟩
 rw [HI.out]
 have C1:=Lib.hid (C0.out.call b1)
 clear b1
 have hca:=C1.out.a.cell
 have hla:=C1.out.a.lt
 obtain ⟨hcr,hzr,hlr⟩:=C1.out.rr
 go_wp2_with fail
 refine (Ke x ⟨⟨px,pxc,pp,ppc,pc,pcc,pi,pic,some ⟨bb,bo,none⟩,pbc⟩,pa,pac,pk,pkc,some ⟨b,o,none⟩,pwc⟩ c _).mono ?_
 rintro e w2 ⟨rfl,b2⟩
 rw [HJ.out]
 have C2:=Lib.hid (C1.out.call b2)
 clear b2 hca hla hcr hzr hlr
 have hca:=C2.out.a.cell
 have hla:=C2.out.a.lt
 obtain ⟨hcr,hzr,hlr⟩:=C2.out.rr
 have d0:=Ad c0 C2.out.b
 have d1:=Ad c1 C2.out.b
 have d2:=Ad c2 C2.out.b
 have hbw:b<w2.heap.size:=by have:=C2.out.b.size;omega
 have hbbw:bb<w2.heap.size:=by have:=C2.out.b.size;omega
 go_wp2_with fail
 refine (Oe x ⟨⟨px,pxc,pp,ppc,pc,pcc,pi,pic,some ⟨bb,bo,none⟩,pbc⟩,pa,pac,pk,pkc,some ⟨b,o,none⟩,pwc⟩ i c _ HX.out (H.out.below C2.out.b (Nat.le_refl _)) HB.out HC.out).mono ?_
 rintro e w3 ⟨rfl,b3⟩
 rw [HN.out]
 have C3:=Lib.hid (C2.out.call b3)
 have d0:=Ad c0 C3.out.b
 have d1:=Ad c1 C3.out.b
 have d2:=Ad c2 C3.out.b
 have hbw:b<w3.heap.size:=by have:=C3.out.b.size;omega
 have hbbw:bb<w3.heap.size:=by have:=C3.out.b.size;omega
 clear b3 hca hla hcr hzr hlr
 have hca:=C3.out.a.cell
 have hla:=C3.out.a.lt
 obtain ⟨hcr,hzr,hlr⟩:=C3.out.rr
 go_wp2_with fail
 refine (Ab6 x ⟨⟨px,pxc,pp,ppc,pc,pcc,pi,pic,some ⟨bb,bo,none⟩,pbc⟩,pa,pac,pk,pkc,some ⟨b,o,none⟩,pwc⟩ i _ HX.out (H.out.below C3.out.b (Nat.le_refl _))).mono ?_
 rintro e w4 ⟨rfl,b4⟩
 rw [HR.out]
 have C4:=Lib.hid (C3.out.call b4)
 clear b4 hca hla hcr hzr hlr
 have hca:=C4.out.a.cell
 have hla:=C4.out.a.lt
 obtain ⟨hcr,hzr,hlr⟩:=C4.out.rr
 go_wp2_with fail
 refine (Bf1 x ⟨⟨px,pxc,pp,ppc,pc,pcc,pi,pic,some ⟨bb,bo,none⟩,pbc⟩,pa,pac,pk,pkc,some ⟨b,o,none⟩,pwc⟩ k i _ (H.out.below C4.out.b (Nat.le_refl _)) (Ci HX.out) hk).mono ?_
 rintro e w5 ⟨⟨qd,qa,qac,qk,qkc,qw,qwc⟩,rfl,ho,b5⟩
 have C5:=Lib.hid (C4.out.call b5)
 have HO:=Lib.hid (ho.less C4.out.size)
 clear b5 ho hca hla hcr hzr hlr
 have hca:=C5.out.a.cell
 have hla:=C5.out.a.lt
 obtain ⟨hcr,hzr,hlr⟩:=C5.out.rr
 go_wp2_with fail
 refine bodyPost_ret (v:=.tuple #[.agg (wC x ⟨qd,qa,qac,qk,qkc,qw,qwc⟩),.int .i64 0]) (by simp [results,results26,go_sem,hcr]) rfl ⟨⟨qd,qa,qac,qk,qkc,qw,qwc⟩,rfl,?_,?_⟩
 ·refine Cc.less (n:=w.heap.size+2) ?_ (by omega)
  iterate 11 refine Cc.set (b:=w.heap.size+1) ?_ (by omega) _ _
  exact HO.out
 ·iterate 11 refine bs_1 ?_
  exact C5.out.b
end
theorem Bu6 (x:Wd) (p:Wp) (i:Nat) (item b:Int) (w:World) (hx:Ai x=true) (h:Ab w p x) (hi:i<x.at_.length):Calls prog 25 #[.agg (wC x p),.int .i64 (i:Int),.int .i64 item,.int .i64 b] w fun e w'=>∃q:Wp,e=.returned (.tuple #[.agg (wC x q),.int .i64 (boxW x i item b).2])∧Ae6 w.heap.size w' p q x (boxW x i item b)∧Below w.heap.size w w':=by
 rcases Qc x i item b with ⟨h1,e⟩|⟨k,c,rfl,rfl,hk,hc,hr⟩
 ·rw [e]
  cases h2:inB item x.wher.length
  ·exact (Dj7 x p i item b w h2).mono fun e' w' ⟨h2,h3⟩=>⟨_,h2,.inl ⟨by simp,rfl,rfl⟩,h3⟩
  ·exact (Dj6 x p i item b w h2 (h1.resolve_left (by rw [h2];simp))).mono fun e' w' ⟨h2,h3⟩=>⟨_,h2,.inl ⟨by simp,rfl,rfl⟩,h3⟩
 obtain ⟨b,o,ea,hb,c0,c1⟩:=Au.cells h.wh hk
 obtain ⟨bb,bo,eb,hbb,c2⟩:=Mr.cells h.d.bo (k:=c) (by have:=Jb hx;omega)
 rw [←Bo hk] at c0 c1
 rw [show x.d.boxes[c]'(by have:=Jb hx;omega)=x.d.boxes.getD c false by simp [List.getD,List.getElem?_eq_getElem (show c<x.d.boxes.length by have:=Jb hx;omega)]] at c2
 obtain ⟨⟨px,pxc,pp,ppc,pc,pcc,pi,pic,pb,pbc⟩,pa,pac,pk,pkc,pw,pwc⟩:=p
 simp only at ea eb
 subst ea eb
 rcases hr with ⟨h1,e⟩|⟨⟨h1,h2⟩,⟨h3,e⟩|⟨h3,⟨h4,e⟩|⟨h4,hr⟩⟩⟩
 ·rw [e]
  by_cases hz:plOf x.wher k=⟨1,(i:Int)⟩
  ·exact (Ew0 x px pp pc pi pa pk pxc ppc pcc pic bb bo pbc pac pkc b o pwc i k c w hx h hi hk hc hbb hb c0 c1 c2 hz (h1.resolve_left (fun h=>h hz))).mono fun e' w' ⟨h2,h3⟩=>⟨_,h2,.inl ⟨by simp,rfl,rfl⟩,h3⟩
  ·exact (Ea7 x px pp pc pi pa pk pxc ppc pcc pic bb bo pbc pac pkc b o pwc i k c w hx h hi hk hc hbb hb c0 c1 c2 hz).mono fun e' w' ⟨h2,h3⟩=>⟨_,h2,.inl ⟨by simp,rfl,rfl⟩,h3⟩
 ·rw [e];exact (Dj8 x px pp pc pi pa pk pxc ppc pcc pic bb bo pbc pac pkc b o pwc i k c w hx h hi hk hc hbb hb c0 c1 c2 h1 h2 h3).mono fun e' w' ⟨h2,h3⟩=>⟨_,h2,.inl ⟨by simp,rfl,rfl⟩,h3⟩
 ·rw [e];exact (Ea6 x px pp pc pi pa pk pxc ppc pcc pic bb bo pbc pac pkc b o pwc i k c w hx h hi hk hc hbb hb c0 c1 c2 h1 h2 h3 h4).mono fun e' w' ⟨h2,h3⟩=>⟨_,h2,.inl ⟨by simp,rfl,rfl⟩,h3⟩
 ·exact Fn2 x px pp pc pi pa pk pxc ppc pcc pic bb bo pbc pac pkc b o pwc i k c w hx h hi hk hc hbb hb c0 c1 c2 h1 h2 h3 h4
theorem Bk9 (x:Wd) (p:Wp) (i:Nat) (item b:Int) (w:World) (hx:Ai x=true) (h:Ab w p x) (hi:i<x.at_.length):Calls prog 26 #[.agg (wC x p),.int .i64 (i:Int),.int .i64 item,.int .i64 b] w fun e w'=>∃q:Wp,e=.returned (.tuple #[.agg (wC x q),.int .i64 (outW x i item b).2])∧Ae6 w.heap.size w' p q x (outW x i item b)∧Below w.heap.size w w':=by
 rcases Rc x i item b with ⟨h1,e⟩|⟨k,c,rfl,rfl,hk,hc,hr⟩
 ·rw [e]
  cases h2:inB item x.wher.length
  ·exact (Ct3 x p i item b w h2).mono fun e' w' ⟨h2,h3⟩=>⟨_,h2,.inl ⟨by simp,rfl,rfl⟩,h3⟩
  ·exact (Ct2 x p i item b w h2 (h1.resolve_left (by rw [h2];simp))).mono fun e' w' ⟨h2,h3⟩=>⟨_,h2,.inl ⟨by simp,rfl,rfl⟩,h3⟩
 obtain ⟨b,o,ea,hb,c0,c1⟩:=Au.cells h.wh hk
 obtain ⟨bb,bo,eb,hbb,c2⟩:=Mr.cells h.d.bo (k:=c) (by have:=Jb hx;omega)
 rw [←Bo hk] at c0 c1
 rw [show x.d.boxes[c]'(by have:=Jb hx;omega)=x.d.boxes.getD c false by simp [List.getD,List.getElem?_eq_getElem (show c<x.d.boxes.length by have:=Jb hx;omega)]] at c2
 obtain ⟨⟨px,pxc,pp,ppc,pc,pcc,pi,pic,pb,pbc⟩,pa,pac,pk,pkc,pw,pwc⟩:=p
 simp only at ea eb
 subst ea eb
 rcases hr with ⟨h1,e⟩|⟨h1,⟨h2,e⟩|⟨h2,⟨h3,e⟩|⟨h3,⟨h4,e⟩|⟨h4,e⟩⟩⟩⟩
 all_goals rw [e]
 ·exact (Ea5 x px pp pc pi pa pk pxc ppc pcc pic bb bo pbc pac pkc b o pwc i k c w hx h hi hk hc hbb hb c0 c1 c2 h1).mono fun e' w' ⟨h2,h3⟩=>⟨_,h2,.inl ⟨by simp,rfl,rfl⟩,h3⟩
 ·exact (Ct4 x px pp pc pi pa pk pxc ppc pcc pic bb bo pbc pac pkc b o pwc i k c w hx h hi hk hc hbb hb c0 c1 c2 h1 h2).mono fun e' w' ⟨h2,h3⟩=>⟨_,h2,.inl ⟨by simp,rfl,rfl⟩,h3⟩
 ·exact (Dj5 x px pp pc pi pa pk pxc ppc pcc pic bb bo pbc pac pkc b o pwc i k c w hx h hi hk hc hbb hb c0 c1 c2 h1 h2 h3).mono fun e' w' ⟨h2,h3⟩=>⟨_,h2,.inl ⟨by simp,rfl,rfl⟩,h3⟩
 ·exact (Dj4 x px pp pc pi pa pk pxc ppc pcc pic bb bo pbc pac pkc b o pwc i k c w hx h hi hk hc hbb hb c0 c1 c2 h1 h2 h3 h4).mono fun e' w' ⟨h2,h3⟩=>⟨_,h2,.inl ⟨by simp,rfl,rfl⟩,h3⟩
 ·exact (Ev8 x px pp pc pi pa pk pxc ppc pcc pic bb bo pbc pac pkc b o pwc i k c w hx h hi hk hc hbb hb c0 c1 c2 h1 h2 h3 _ rfl (by simpa using h4)).mono fun e' w' ⟨q,h5,h6,h7⟩=>⟨q,h5,.inr ⟨rfl,rfl,h6⟩,h7⟩
end
end Go.Proofs.Ytenpcndoilcjcaa
