/- The document's own Give. -/
import Derived.Test.YtenpcndoilcjcaaGGiftM
import Derived.Test.YtenpcndoilcjcaaCoinB
import Derived.Test.YtenpcndoilcjcaaHoldE
import Derived.Deep.Cut
namespace Go.Proofs.Ytenpcndoilcjcaa
open Go.ChangeShapes Go.WideShapes Go.ChangeAt Go.RowKit Go.Proofs.Try
open Lib (hid)
set_option linter.unusedVariables false
set_option maxHeartbeats 4000000
set_option maxRecDepth 100000
section
theorem gS7 {t s:TypeId} {w v:World} {cs:Array Value} {b b0 b1 ab a0 a1:Nat} {u0 u1 u2 u3:Value} (h:TwoE t s w v cs) (c0:w.cell? ⟨b,b0,none⟩=some u0) (c1:w.cell? ⟨b,b1,none⟩=some u1) (c2:w.cell? ⟨ab,a0,none⟩=some u2) (c3:w.cell? ⟨ab,a1,none⟩=some u3) :
 Below w.heap.size w v∧(∀i,v.cell? ⟨w.heap.size,i,none⟩=cs[i]?)∧v.cell? ⟨b,b0,none⟩=some u0∧v.cell? ⟨b,b1,none⟩=some u1∧v.cell? ⟨ab,a0,none⟩=some u2∧v.cell? ⟨ab,a1,none⟩=some u3:=by
 obtain ⟨z,h⟩:=h
 exact ⟨h.b,h.a.cell,Ad c0 h.b,Ad c1 h.b,Ad c2 h.b,Ad c3 h.b⟩
theorem Gn5 (x:Wd) (p:Wp) (i:Nat) (item q:Int) (w:World) (hn:inB item x.wher.length=false∨inB q x.at_.length=false):Calls prog 27 #[.agg (wC x p),.int .i64 (i:Int),.int .i64 item,.int .i64 q] w fun e w'=>e=.returned (.tuple #[.agg (wC x p),.int .i64 3])∧Below w.heap.size w w':=by
 have hB:=hid (((Below.refl w.heap.size w).alloc (Nat.le_refl _) (.cells (wC x p) 29)).alloc (by simp) (.cells (wC x p) 29))
 by_cases h0:item<0
 ·clear hn
  have hWC:=@wC.eq_1
  have hZC:=@zC.eq_1
  go_enter func27,ntmps27
  go_wp2_with fail
  refine bodyPost_ret (v:=.tuple #[.agg (wC x p),.int .i64 3]) (by simp [results,results27,go_sem]) rfl ⟨rfl,?_⟩
  exact hB.out
 by_cases h1:(x.wher.length:Int)≤item
 ·clear hn
  have hWC:=@wC.eq_1
  have hZC:=@zC.eq_1
  go_enter func27,ntmps27
  go_wp2_with fail
  refine bodyPost_ret (v:=.tuple #[.agg (wC x p),.int .i64 3]) (by simp [results,results27,go_sem]) rfl ⟨rfl,?_⟩
  exact hB.out
 by_cases h2:q<0
 ·clear hn
  have hWC:=@wC.eq_1
  have hZC:=@zC.eq_1
  go_enter func27,ntmps27
  go_wp2_with fail
  refine bodyPost_ret (v:=.tuple #[.agg (wC x p),.int .i64 3]) (by simp [results,results27,go_sem]) rfl ⟨rfl,?_⟩
  exact hB.out
 have h3:(x.at_.length:Int)≤q:=by
  rcases hn with hn|hn
  ·rw [Bool.eq_false_iff] at hn;exact absurd ((Bi _ _).2 (by omega)) hn
  ·rw [Bool.eq_false_iff] at hn
   apply Decidable.byContradiction;intro hc
   exact hn ((Bi _ _).2 (by omega))
 clear hn
 have hWC:=@wC.eq_1
 have hZC:=@zC.eq_1
 go_enter func27,ntmps27
 go_wp2_with fail
 refine bodyPost_ret (v:=.tuple #[.agg (wC x p),.int .i64 3]) (by simp [results,results27,go_sem]) rfl ⟨rfl,?_⟩
 exact hB.out
theorem Fe1 (x:Wd) (p:Wp) (i k:Nat) (w:World) (hk:k<x.wher.length) (hi:i<x.at_.length):Calls prog 27 #[.agg (wC x p),.int .i64 (i:Int),.int .i64 (k:Int),.int .i64 (i:Int)] w fun e w'=>e=.returned (.tuple #[.agg (wC x p),.int .i64 12])∧Below w.heap.size w w':=by
 have hB:=hid (((Below.refl w.heap.size w).alloc (Nat.le_refl _) (.cells (wC x p) 29)).alloc (by simp) (.cells (wC x p) 29))
 have h1:¬(x.wher.length:Int)≤(k:Int):=by omega
 have h2:¬(x.at_.length:Int)≤(i:Int):=by omega
 have hWC:=@wC.eq_1
 have hZC:=@zC.eq_1
 go_enter func27,ntmps27
 go_wp2_with fail
 refine bodyPost_ret (v:=.tuple #[.agg (wC x p),.int .i64 12]) (by simp [results,results27,go_sem]) rfl ⟨rfl,?_⟩
 exact hB.out
section
variable (x:Wd) (pd:Dp) (ab ao pac:Nat) (pk:Option Addr) (pkc b o pwc:Nat) (i k q:Nat) (w:World) (hx:Ai x=true) (h:Ab w ⟨pd,some ⟨ab,ao,none⟩,pac,pk,pkc,some ⟨b,o,none⟩,pwc⟩ x) (hi:i<x.at_.length) (hk:k<x.wher.length) (hq:q<x.at_.length) (hne:¬q=i)
 (c0:w.cell? ⟨b,o+k*2,none⟩=some (.int .i64 (plOf x.wher k).kind)) (c1:w.cell? ⟨b,o+k*2+1,none⟩=some (.int .i64 (plOf x.wher k).id)) (c2:w.cell? ⟨ab,ao+i,none⟩=some (.int .i64 (Ah x i:Int))) (c3:w.cell? ⟨ab,ao+q,none⟩=some (.int .i64 (Ah x q:Int)))
include hx h hi hk hq hne c0 c1 c2 c3
theorem Fe2 (hr:¬Ah x i=Ah x q):Calls prog 27 #[.agg (wC x ⟨pd,some ⟨ab,ao,none⟩,pac,pk,pkc,some ⟨b,o,none⟩,pwc⟩),.int .i64 (i:Int),.int .i64 (k:Int),.int .i64 (q:Int)] w fun e w'=>e=.returned (.tuple #[.agg (wC x ⟨pd,some ⟨ab,ao,none⟩,pac,pk,pkc,some ⟨b,o,none⟩,pwc⟩),.int .i64 5])∧Below w.heap.size w w':=by
 generalize plOf x.wher k=z at *
 obtain ⟨zk,zi⟩:=z
 have C0:=hid (Two.start 29 29 w (wC x ⟨pd,some ⟨ab,ao,none⟩,pac,pk,pkc,some ⟨b,o,none⟩,pwc⟩) zC)
 have H:=hid h
 have HX:=hid hx
 have hlen:=h.wh.len
 have hlen2:=h.at_.len
 have hlt:¬(x.wher.length:Int)≤(k:Int):=by omega
 have hlt2:(x.wher.length≤k)=False:=by simp;omega
 have qi:¬(x.at_.length:Int)≤(i:Int):=by omega
 have qi2:(x.at_.length≤i)=False:=by simp;omega
 have qq:¬(x.at_.length:Int)≤(q:Int):=by omega
 have qq2:(x.at_.length≤q)=False:=by simp;omega
 have hs:((i:Int)==(q:Int))=false:=by simp;omega
 simp only at c0 c1
 generalize Ah x i=r1 at *
 generalize Ah x q=r2 at *
 clear h hx
 have S0:=hid (gS7 (TwoE.mk C0.out.drew) c0 c1 c2 c3)
 clear c0 c1 c2 c3
 have hWC:=@wC.eq_1
 have hZC:=@zC.eq_1
 go_enter func27,ntmps27
 go_wp2_with fail
 have hr2:((r1:Int) != (r2:Int))=true:=by simp;omega
 refine tkS (S:=(fun w'=>Below w.heap.size w w'∧(∀i,w'.cell? ⟨w.heap.size,i,none⟩=((wC x ⟨pd,some ⟨ab,ao,none⟩,pac,pk,pkc,some ⟨b,o,none⟩,pwc⟩)[i]?:Option Value))∧w'.cell? ⟨b,o+k*2,none⟩=some (.int .i64 zk)∧w'.cell? ⟨b,o+k*2+1,none⟩=some (.int .i64 zi)∧w'.cell? ⟨ab,ao+i,none⟩=some (.int .i64 (r1:Int))∧w'.cell? ⟨ab,ao+q,none⟩=some (.int .i64 (r2:Int)))) (by (first|(with_reducible exact S0.out))) (fun hHeld=>?_)
 refine tkl [0,1,2,3,4,5,6,7,8,9,10,11] ?_
 iterate 12
  refine tW ?_
  try go_frame
 refine tkl [12,13,14,15,16,17,18,19] ?_
 iterate 8
  refine tN ?_
  try go_frame
 refine tkl [20] (tW ?_)
 try go_frame
 refine tkD ?_
 clear hHeld
 have C1:=hid C0.out.drew
 generalize ((w.alloc (.cells (wC x ⟨pd,some ⟨ab,ao,none⟩,pac,pk,pkc,some ⟨b,o,none⟩,pwc⟩) 29)).alloc (.cells zC 29)).drew=W2 at *
 have hca:=C1.out.a.cell
 have hla:=C1.out.a.lt
 obtain ⟨hcr,hzr,hlr⟩:=C1.out.r.all
 go_wp2_with fail
 refine bodyPost_ret (v:=.tuple #[.agg (wC x ⟨pd,some ⟨ab,ao,none⟩,pac,pk,pkc,some ⟨b,o,none⟩,pwc⟩),.int .i64 5]) (by simp [results,results27,go_sem,hcr]) rfl ⟨rfl,?_⟩
 iterate 11 refine bs_1 ?_
 exact C1.out.b
theorem Fe4 (hr:Ah x i=Ah x q) (hz:¬plOf x.wher k=⟨1,(i:Int)⟩):Calls prog 27 #[.agg (wC x ⟨pd,some ⟨ab,ao,none⟩,pac,pk,pkc,some ⟨b,o,none⟩,pwc⟩),.int .i64 (i:Int),.int .i64 (k:Int),.int .i64 (q:Int)] w fun e w'=>e=.returned (.tuple #[.agg (wC x ⟨pd,some ⟨ab,ao,none⟩,pac,pk,pkc,some ⟨b,o,none⟩,pwc⟩),.int .i64 5])∧Below w.heap.size w w':=by
 generalize plOf x.wher k=z at *
 obtain ⟨zk,zi⟩:=z
 have C0:=hid (Two.start 29 29 w (wC x ⟨pd,some ⟨ab,ao,none⟩,pac,pk,pkc,some ⟨b,o,none⟩,pwc⟩) zC)
 have H:=hid h
 have HX:=hid hx
 have hlen:=h.wh.len
 have hlen2:=h.at_.len
 have hlt:¬(x.wher.length:Int)≤(k:Int):=by omega
 have hlt2:(x.wher.length≤k)=False:=by simp;omega
 have qi:¬(x.at_.length:Int)≤(i:Int):=by omega
 have qi2:(x.at_.length≤i)=False:=by simp;omega
 have qq:¬(x.at_.length:Int)≤(q:Int):=by omega
 have qq2:(x.at_.length≤q)=False:=by simp;omega
 have hs:((i:Int)==(q:Int))=false:=by simp;omega
 simp only at c0 c1
 generalize Ah x i=r1 at *
 generalize Ah x q=r2 at *
 clear h hx
 have S0:=hid (gS7 (TwoE.mk C0.out.drew) c0 c1 c2 c3)
 clear c0 c1 c2 c3
 have hWC:=@wC.eq_1
 have hZC:=@zC.eq_1
 go_enter func27,ntmps27
 go_wp2_with fail
 have hrun:=Kj zk zi 1 (i:Int)
 simp only [hz,decide_false,Bool.not_false] at hrun
 clear hz
 have hr2:((r1:Int) != (r2:Int))=false:=by rw [hr];simp
 clear hr
 refine tkS (S:=(fun w'=>Below w.heap.size w w'∧(∀i,w'.cell? ⟨w.heap.size,i,none⟩=((wC x ⟨pd,some ⟨ab,ao,none⟩,pac,pk,pkc,some ⟨b,o,none⟩,pwc⟩)[i]?:Option Value))∧w'.cell? ⟨b,o+k*2,none⟩=some (.int .i64 zk)∧w'.cell? ⟨b,o+k*2+1,none⟩=some (.int .i64 zi)∧w'.cell? ⟨ab,ao+i,none⟩=some (.int .i64 (r1:Int))∧w'.cell? ⟨ab,ao+q,none⟩=some (.int .i64 (r2:Int)))) (by (first|(with_reducible exact S0.out))) (fun hHeld=>?_)
 refine tkl [0,1,2,3,4,5,6,7,8,9,10,11,12,13,14,15,16,17,18,19,20] ?_
 iterate 21
  refine tW ?_
  try go_frame
 refine tkD ?_
 clear hHeld
 have C1:=hid C0.out.drew
 generalize ((w.alloc (.cells (wC x ⟨pd,some ⟨ab,ao,none⟩,pac,pk,pkc,some ⟨b,o,none⟩,pwc⟩) 29)).alloc (.cells zC 29)).drew=W2 at *
 have hca:=C1.out.a.cell
 have hla:=C1.out.a.lt
 obtain ⟨hcr,hzr,hlr⟩:=C1.out.r.all
 go_wp2_with fail
 refine bodyPost_ret (v:=.tuple #[.agg (wC x ⟨pd,some ⟨ab,ao,none⟩,pac,pk,pkc,some ⟨b,o,none⟩,pwc⟩),.int .i64 5]) (by simp [results,results27,go_sem,hcr]) rfl ⟨rfl,?_⟩
 iterate 11 refine bs_1 ?_
 exact C1.out.b
theorem Fe3 (hr:Ah x i=Ah x q) (hz:plOf x.wher k=⟨1,(i:Int)⟩) (h9:roomI x ⟨1,(q:Int)⟩=0):Calls prog 27 #[.agg (wC x ⟨pd,some ⟨ab,ao,none⟩,pac,pk,pkc,some ⟨b,o,none⟩,pwc⟩),.int .i64 (i:Int),.int .i64 (k:Int),.int .i64 (q:Int)] w fun e w'=>e=.returned (.tuple #[.agg (wC x ⟨pd,some ⟨ab,ao,none⟩,pac,pk,pkc,some ⟨b,o,none⟩,pwc⟩),.int .i64 9])∧Below w.heap.size w w':=by
 have HR:=hid (fun W (g:Ab W ⟨pd,some ⟨ab,ao,none⟩,pac,pk,pkc,some ⟨b,o,none⟩,pwc⟩ x)=>Ab6 x ⟨pd,some ⟨ab,ao,none⟩,pac,pk,pkc,some ⟨b,o,none⟩,pwc⟩ q W hx g)
 generalize roomI x ⟨1,(q:Int)⟩=r at *
 generalize plOf x.wher k=z at *
 obtain ⟨zk,zi⟩:=z
 have C0:=hid (Two.start 29 29 w (wC x ⟨pd,some ⟨ab,ao,none⟩,pac,pk,pkc,some ⟨b,o,none⟩,pwc⟩) zC)
 have H:=hid h
 have HX:=hid hx
 have hlen:=h.wh.len
 have hlen2:=h.at_.len
 have hlt:¬(x.wher.length:Int)≤(k:Int):=by omega
 have hlt2:(x.wher.length≤k)=False:=by simp;omega
 have qi:¬(x.at_.length:Int)≤(i:Int):=by omega
 have qi2:(x.at_.length≤i)=False:=by simp;omega
 have qq:¬(x.at_.length:Int)≤(q:Int):=by omega
 have qq2:(x.at_.length≤q)=False:=by simp;omega
 have hs:((i:Int)==(q:Int))=false:=by simp;omega
 simp only at c0 c1
 generalize Ah x i=r1 at *
 generalize Ah x q=r2 at *
 clear h hx
 have S0:=hid (gS7 (TwoE.mk C0.out.drew) c0 c1 c2 c3)
 clear c0 c1 c2 c3
 have hWC:=@wC.eq_1
 have hZC:=@zC.eq_1
 go_enter func27,ntmps27
 go_wp2_with fail
 have hrun:=Kj zk zi 1 (i:Int)
 simp only [hz,decide_true,Bool.not_true] at hrun
 clear hz
 have hr2:((r1:Int) != (r2:Int))=false:=by rw [hr];simp
 clear hr
 refine tkS (S:=(fun w'=>Below w.heap.size w w'∧(∀i,w'.cell? ⟨w.heap.size,i,none⟩=((wC x ⟨pd,some ⟨ab,ao,none⟩,pac,pk,pkc,some ⟨b,o,none⟩,pwc⟩)[i]?:Option Value))∧w'.cell? ⟨b,o+k*2,none⟩=some (.int .i64 zk)∧w'.cell? ⟨b,o+k*2+1,none⟩=some (.int .i64 zi)∧w'.cell? ⟨ab,ao+i,none⟩=some (.int .i64 (r1:Int))∧w'.cell? ⟨ab,ao+q,none⟩=some (.int .i64 (r2:Int)))) (by (first|(with_reducible exact S0.out))) (fun hHeld=>?_)
 refine tkl [0,1,2,3,4,5,6,7,8,9,10,11,12,13,14,15,16,17,18,19,20] ?_
 iterate 21
  refine tW ?_
  try go_frame
 refine tkD ?_
 clear hHeld
 have C1:=hid C0.out.drew
 generalize ((w.alloc (.cells (wC x ⟨pd,some ⟨ab,ao,none⟩,pac,pk,pkc,some ⟨b,o,none⟩,pwc⟩) 29)).alloc (.cells zC 29)).drew=W2 at *
 have hca:=C1.out.a.cell
 have hla:=C1.out.a.lt
 obtain ⟨hcr,hzr,hlr⟩:=C1.out.r.all
 go_wp2_with fail
 refine (HR.out _ (H.out.below C1.out.b (Nat.le_refl _))).mono ?_
 rintro e w2 ⟨rfl,b2⟩
 have C3:=hid (C1.out.call b2)
 clear b2 hca hla hcr hzr hlr
 have hca:=C3.out.a.cell
 have hla:=C3.out.a.lt
 obtain ⟨hcr,hzr,hlr⟩:=C3.out.r.all
 go_wp2_with fail
 refine bodyPost_ret (v:=.tuple #[.agg (wC x ⟨pd,some ⟨ab,ao,none⟩,pac,pk,pkc,some ⟨b,o,none⟩,pwc⟩),.int .i64 9]) (by simp [results,results27,go_sem,hcr]) rfl ⟨rfl,?_⟩
 iterate 11 refine bs_1 ?_
 exact C3.out.b
theorem Gn6 (hr:Ah x i=Ah x q) (hz:plOf x.wher k=⟨1,(i:Int)⟩) (h9:(roomI x ⟨1,(q:Int)⟩==0)=false):Calls prog 27 #[.agg (wC x ⟨pd,some ⟨ab,ao,none⟩,pac,pk,pkc,some ⟨b,o,none⟩,pwc⟩),.int .i64 (i:Int),.int .i64 (k:Int),.int .i64 (q:Int)] w fun e w'=>∃p':Wp,e=.returned (.tuple #[.agg (wC x p'),.int .i64 0])∧Cc w.heap.size w' pd p' (putW x k ⟨1,(q:Int)⟩)∧Below w.heap.size w w':=by
 have HK:=hid hk
 have HR:=hid (fun W (g:Ab W ⟨pd,some ⟨ab,ao,none⟩,pac,pk,pkc,some ⟨b,o,none⟩,pwc⟩ x)=>Ab6 x ⟨pd,some ⟨ab,ao,none⟩,pac,pk,pkc,some ⟨b,o,none⟩,pwc⟩ q W hx g)
 generalize roomI x ⟨1,(q:Int)⟩=r at *
 generalize plOf x.wher k=z at *
 obtain ⟨zk,zi⟩:=z
 have C0:=hid (Two.start 29 29 w (wC x ⟨pd,some ⟨ab,ao,none⟩,pac,pk,pkc,some ⟨b,o,none⟩,pwc⟩) zC)
 have H:=hid h
 have HX:=hid hx
 have hlen:=h.wh.len
 have hlen2:=h.at_.len
 have hlt:¬(x.wher.length:Int)≤(k:Int):=by omega
 have hlt2:(x.wher.length≤k)=False:=by simp;omega
 have qi:¬(x.at_.length:Int)≤(i:Int):=by omega
 have qi2:(x.at_.length≤i)=False:=by simp;omega
 have qq:¬(x.at_.length:Int)≤(q:Int):=by omega
 have qq2:(x.at_.length≤q)=False:=by simp;omega
 have hs:((i:Int)==(q:Int))=false:=by simp;omega
 simp only at c0 c1
 generalize Ah x i=r1 at *
 generalize Ah x q=r2 at *
 clear h hx
 have S0:=hid (gS7 (TwoE.mk C0.out.drew) c0 c1 c2 c3)
 clear c0 c1 c2 c3
 have hWC:=@wC.eq_1
 have hZC:=@zC.eq_1
 go_enter func27,ntmps27
 go_wp2_with fail
 have hrun:=Kj zk zi 1 (i:Int)
 simp only [hz,decide_true,Bool.not_true] at hrun
 clear hz
 have hr2:((r1:Int) != (r2:Int))=false:=by rw [hr];simp
 clear hr
 refine tkS (S:=(fun w'=>Below w.heap.size w w'∧(∀i,w'.cell? ⟨w.heap.size,i,none⟩=((wC x ⟨pd,some ⟨ab,ao,none⟩,pac,pk,pkc,some ⟨b,o,none⟩,pwc⟩)[i]?:Option Value))∧w'.cell? ⟨b,o+k*2,none⟩=some (.int .i64 zk)∧w'.cell? ⟨b,o+k*2+1,none⟩=some (.int .i64 zi)∧w'.cell? ⟨ab,ao+i,none⟩=some (.int .i64 (r1:Int))∧w'.cell? ⟨ab,ao+q,none⟩=some (.int .i64 (r2:Int)))) (by (first|(with_reducible exact S0.out))) (fun hHeld=>?_)
 refine tkl [0,1,2,3,4,5,6,7,8,9,10,11,12,13,14,15,16,17,18,19,20] ?_
 iterate 21
  refine tW ?_
  try go_frame
 refine tkD ?_
 clear hHeld
 have C1:=hid C0.out.drew
 generalize ((w.alloc (.cells (wC x ⟨pd,some ⟨ab,ao,none⟩,pac,pk,pkc,some ⟨b,o,none⟩,pwc⟩) 29)).alloc (.cells zC 29)).drew=W2 at *
 have hca:=C1.out.a.cell
 have hla:=C1.out.a.lt
 obtain ⟨hcr,hzr,hlr⟩:=C1.out.r.all
 go_wp2_with fail
 refine (HR.out _ (H.out.below C1.out.b (Nat.le_refl _))).mono ?_
 rintro e w2 ⟨rfl,b2⟩
 have C3:=hid (C1.out.call b2)
 clear b2 hca hla hcr hzr hlr
 have hca:=C3.out.a.cell
 have hla:=C3.out.a.lt
 obtain ⟨hcr,hzr,hlr⟩:=C3.out.r.all
 go_wp2_with fail
 refine (Bf1 x ⟨pd,some ⟨ab,ao,none⟩,pac,pk,pkc,some ⟨b,o,none⟩,pwc⟩ k q _ (H.out.below C3.out.b (Nat.le_refl _)) (Ci HX.out) HK.out).mono ?_
 rintro e w4 ⟨⟨qd,qa,qac,qk,qkc,qw,qwc⟩,rfl,ho,b4⟩
 have C4:=hid (C3.out.call b4)
 have HO:=hid (ho.less C3.out.size)
 clear b4 ho hca hla hcr hzr hlr
 obtain ⟨hcr,hzr,hlr⟩:=C4.out.r.all
 go_wp2_with fail
 refine bodyPost_ret (v:=.tuple #[.agg (wC x ⟨qd,qa,qac,qk,qkc,qw,qwc⟩),.int .i64 0]) (by simp [results,results27,go_sem,hcr]) rfl ⟨⟨qd,qa,qac,qk,qkc,qw,qwc⟩,rfl,?_,?_⟩
 ·refine Cc.less (n:=w.heap.size+2) ?_ (by omega)
  iterate 11 refine Cc.set (b:=w.heap.size+1) ?_ (by omega) _ _
  exact HO.out
 ·iterate 11 refine bs_1 ?_
  exact C4.out.b
end
theorem Av4 (x:Wd) (p:Wp) (i:Nat) (item q:Int) (w:World) (hx:Ai x=true) (h:Ab w p x) (hi:i<x.at_.length):Calls prog 27 #[.agg (wC x p),.int .i64 (i:Int),.int .i64 item,.int .i64 q] w fun e w'=>∃p':Wp,e=.returned (.tuple #[.agg (wC x p'),.int .i64 (Jg x i item q).2])∧Ae6 w.heap.size w' p p' x (Jg x i item q)∧Below w.heap.size w w':=by
 rcases Zy x i item q with ⟨h1,e⟩|⟨k,c,rfl,rfl,hk,hc,hr⟩
 ·rw [e]
  exact (Gn5 x p i item q w h1).mono fun e' w' ⟨h2,h3⟩=>⟨_,h2,.inl ⟨by simp,rfl,rfl⟩,h3⟩
 rcases hr with ⟨h1,e⟩|⟨hne,hr⟩
 ·subst h1
  rw [e]
  exact (Fe1 x p _ k w hk hi).mono fun e' w' ⟨h2,h3⟩=>⟨_,h2,.inl ⟨by simp,rfl,rfl⟩,h3⟩
 obtain ⟨b,o,ea,hb,c0,c1⟩:=Au.cells h.wh hk
 rw [←Bo hk] at c0 c1
 obtain ⟨ab,ao,eb,hab,hat⟩:=h.at_.at_ hi
 have c2:=hat i hi
 have c3:=hat c hc
 rw [(Bn hx hi).1] at c2
 rw [(Bn hx hc).1] at c3
 obtain ⟨pd,pa,pac,pk,pkc,pw,pwc⟩:=p
 simp only at ea eb
 subst ea eb
 rcases hr with ⟨h1,e⟩|⟨⟨h1,h2⟩,⟨h3,e⟩|⟨h3,e⟩⟩
 all_goals rw [e]
 ·by_cases h4:Ah x i=Ah x c
  ·exact (Fe4 x pd ab ao pac pk pkc b o pwc i k c w hx h hi hk hc hne c0 c1 c2 c3 h4 (h1.resolve_left (fun h=>h h4))).mono fun e' w' ⟨h2,h3⟩=>⟨_,h2,.inl ⟨by simp,rfl,rfl⟩,h3⟩
  ·exact (Fe2 x pd ab ao pac pk pkc b o pwc i k c w hx h hi hk hc hne c0 c1 c2 c3 h4).mono fun e' w' ⟨h2,h3⟩=>⟨_,h2,.inl ⟨by simp,rfl,rfl⟩,h3⟩
 ·exact (Fe3 x pd ab ao pac pk pkc b o pwc i k c w hx h hi hk hc hne c0 c1 c2 c3 h1 h2 h3).mono fun e' w' ⟨h2,h3⟩=>⟨_,h2,.inl ⟨by simp,rfl,rfl⟩,h3⟩
 ·exact (Gn6 x pd ab ao pac pk pkc b o pwc i k c w hx h hi hk hc hne c0 c1 c2 c3 h1 h2 (by simpa using h3)).mono fun e' w' ⟨q,h4,h5,h6⟩=>⟨q,h4,.inr ⟨rfl,rfl,h5⟩,h6⟩
end
section
open Go.RowKit Go
theorem Cc7 {W:World} {base k:Nat} {v:Value} {ys:List Value} {a:Option Addr} {cap:Nat} {xs:List Int} (hown:W.ownsRow base 3 1 v k ys) (hu:Ae W a xs) (hl:k+xs.length≤1000000) (hb:base≤W.heap.size) :
 ∃v' W',(Builtin.append_ #[23,23] 23 #[v,.slice a xs.length cap]).run prog W=.ok v' W'∧W'.ownsRow base 3 1 v' (k+xs.length) (ys++xs.map (Value.int .i64))∧W.grownBy W' v.ownBlock:=by
 obtain ⟨i0,hi0,hz0,hz1,hz2⟩:=info_parts Fj
 obtain ⟨hm,h⟩:=hu
 by_cases hx:xs=[]
 ·subst hx
  have hsrc:Src prog i0.size 23 (.slice a 0 cap) 0 [] W:=by
   cases a with
   | none=>exact Src.ofNil (w:=W) underlying23 cap
   | some p=>exact Src.ofSlice W underlying23 p 0 cap [] (by simp) (by simp) (by simp)
  have hform:∃b c,v=.slice b k c∧k≤c:=by
   rcases hown.2 with ⟨rfl,rfl⟩|⟨g,c,cur,rfl,_,_,hc,_⟩
   ·exact ⟨none,0,rfl,Nat.le_refl _⟩
   ·exact ⟨_,c,rfl,hc⟩
  obtain ⟨b,c,rfl,hc⟩:=hform
  exact ⟨_,W,run_append_nothing W 23 23 23 3 i0 underlying23 hi0 b k c hc _ hsrc,by simpa using hown,⟨rfl,rfl,rfl,Nat.le_refl _,fun _ _ _=>rfl⟩⟩
 ·rcases h with h|⟨b,off,rfl,hb2,hc⟩
  ·exact absurd h hx
  ·obtain ⟨v',W',hr,h1,h2,-⟩:=run_append_own (P:=prog) W base 23 23 3 i0 (.int .i64 0) 1 8 underlying23 hi0 hz0 hz1 hz2 rfl (by decide) v k ys hown ⟨b,off,none⟩ xs.length cap (xs.map (Value.int .i64)) (by simp)
    (fun j u hj=>by
      rw [List.getElem?_map] at hj
      cases hq:xs[j]? with
      | none=>rw [hq] at hj;simp at hj
      | some x =>
        rw [hq] at hj;simp at hj;subst hj
        obtain ⟨hj2,rfl⟩:=List.getElem?_eq_some_iff.1 hq
        have:=hc j hj2
        by_cases h0:j=0<;>simp [Addr.add,h0] at this ⊢<;>exact this)
    (fun u hu=>by simp at hu;obtain ⟨x,_,rfl⟩:=hu;rfl) (by unfold maxLen;omega) (by omega) hb
   exact ⟨v',W',hr,h1,h2⟩
theorem Eq1 (w:World):(w.alloc (.cells #[] 3)).ownsRow w.heap.size 3 1 (.slice (some ⟨w.heap.size,0,none⟩) 0 0) 0 [] :=
 ⟨rfl,.inr ⟨w.heap.size,0,#[],rfl,Nat.le_refl _,by show (w.heap.push _)[w.heap.size]?=some _;simp,Nat.le_refl _,by unfold maxLen;omega,rfl,rfl⟩⟩
theorem Fi9 {w:World} {base:Nat} {v:Value} {k:Nat} {ys:List Value} (h:w.ownsRow base 3 1 v k ys) {g:Nat} (hg:g<base):v.ownBlock≠some g:=by
 rcases h.2 with ⟨rfl,h0⟩|⟨q,c,cur,rfl,hq,_⟩
 ·simp [Value.ownBlock]
 ·simp only [Value.ownBlock,ne_eq,Option.some.injEq];omega
theorem Bw9 {W:World} {n:Nat} (hn:W.heap.size=n) {a b:Option Addr} {ca cb:Nat} {xs ys:List Int} (hu:Ae W a xs) (hv:Ae W b ys) (hx:xs.length≤1000) (hy:ys.length≤1000) :
 ∃v1 W1 g c W2,(Builtin.append_ #[23,23] 23 #[.slice (some ⟨n,0,none⟩) 0 0,.slice a xs.length ca]).run prog (W.alloc (.cells #[] 3))=.ok v1 W1 ∧
  (Builtin.append_ #[23,23] 23 #[v1,.slice b ys.length cb]).run prog W1=.ok (.slice g (xs++ys).length c) W2 ∧
  Below W.heap.size W W1∧Below W.heap.size W W2∧Ae W2 g (xs++ys)∧(∀r,g=some r→W.heap.size≤r.block):=by
 subst hn
 have b0:Below W.heap.size W (W.alloc (.cells #[] 3)):=b_a _
 obtain ⟨v1,W1,r1,o1,g1⟩:=Cc7 (cap:=ca) (Eq1 W) (hu.alloc (.cells #[] 3)) (by omega) b0.size
 have b1:Below W.heap.size W W1:=b0.grown g1 b0.size (fun k hk=>by simp [Value.ownBlock] at hk;omega)
 rw [Nat.zero_add,List.nil_append] at o1
 obtain ⟨v2,W2,r2,o2,g2⟩:=Cc7 (cap:=cb) o1 (hv.below b1 (Nat.le_refl _)) (by omega) b1.size
 have b2:Below W.heap.size W W2:=b1.grown g2 b1.size (fun k hk=>by
  apply Decidable.byContradiction;intro hc
  exact Fi9 o1 (g:=k) (by omega) hk)
 have o3:Dt 1 3 inC W.heap.size W2 v2 (xs++ys):=by
  unfold Dt
  have e:(xs++ys).flatMap inC=xs.map (Value.int .i64)++ys.map (Value.int .i64):=by
   rw [List.flatMap_append]
   have f:∀l:List Int,l.flatMap inC=l.map (Value.int .i64):=fun l=>by
    induction l with
    | nil=>rfl
    | cons y r ih=>rw [List.flatMap_cons,ih];rfl
   rw [f,f]
  rw [e,List.length_append]
  exact o2
 obtain ⟨g,c,rfl,ho⟩:=o3.own Jl
 exact ⟨v1,W1,g,c,W2,r1,r2,b1,b2,Av.2 ho.row,fun r hr=>ho.from_ hr⟩
theorem Za {P:Program} {ops:Array Oper} {o:Oper} {a:Act} {w:World} {K:Act→World→Prop} {Q:Exit→Act→World→Prop} {E:Prop}
 (hg:o.guard=none) (s x:Operand) (t:TypeId) (hop:o.op=Op.call { callee:=Callee.builtin Builtin.append,args:=#[s,x],argTypes:=#[t,t] })
 (v u v':Value) (w':World) (hs:a.eval s=v) (hx:a.eval x=u) (hrun:(Builtin.append_ #[t,t] o.type #[v,u]).run P w=.ok v' w')
 (hK:K (a.put o.dst v') w'):if Region.wanted o (yielded ops a.tmps)=true then Oper.wp P o a w K Q else E:=by
 rw [if_pos (by simp [Region.wanted,hg])]
 unfold Oper.wp
 simp [execOp,hop,resolve,invoke,builtin,hs,hx,hrun,Result.andThen]
 exact hK
def By6 (x:Wd) (i q:Nat) (gs ws:List Nat) (pay fee:Int):Wd × Int :=
 if q=i then (x,12) else if ¬Ah x i=Ah x q then (x,5) else if ¬(gs++ws).Nodup then (x,13) else if (hasB x i gs&&hasB x q ws)=false then (x,5)
 else if roomI (trN x i q gs ws) ⟨1,(i:Int)⟩<0∨roomI (trN x i q gs ws) ⟨1,(q:Int)⟩<0 then (x,9)
 else if ¬Cg (Al x i) (Al x q) pay fee=0 then (x,Cg (Al x i) (Al x q) pay fee) else (trW x i q gs ws (Al x i-pay+fee) (Al x q-fee+pay),0)
theorem Dy8 (x:Wd) (i q:Nat) (gs ws:List Nat) (pay fee:Int) (hq:q<x.at_.length) (hg:∀k∈gs,k<x.wher.length) (hw:∀k∈ws,k<x.wher.length) :
 Ca x i q (gs.map fun (k:Nat)=>(k:Int)) (ws.map fun (k:Nat)=>(k:Int)) pay fee=By6 x i q gs ws pay fee:=by
 have h3:¬(inB (q:Int) x.at_.length=false∨((gs.map fun (k:Nat)=>(k:Int))++ws.map fun (k:Nat)=>(k:Int)).all (fun k=>inB k x.wher.length)=false):=by
  rw [←List.map_append]
  simp only [not_or,Bool.not_eq_false,List.all_map,List.all_eq_true,Function.comp_apply,Bi]
  refine ⟨by omega,fun n hn=>?_⟩
  rcases List.mem_append.1 hn with hn|hn
  ·have:=hg n hn;omega
  ·have:=hw n hn;omega
 have inj:∀a b:List Nat,(a.map fun (k:Nat)=>(k:Int))=(b.map fun (k:Nat)=>(k:Int))→a=b:=fun a b h=>by
  have:=congrArg (List.map Int.toNat) h
  rwa [Bm3,Bm3] at this
 rcases Xt x i q (gs.map fun (k:Nat)=>(k:Int)) (ws.map fun (k:Nat)=>(k:Int)) pay fee with ⟨h1,e⟩|⟨k,gs',ws',e1,e2,e3,hk,-,-,hr⟩
 ·exact absurd h1 h3
 obtain rfl:q=k:=by omega
 obtain rfl:=inj _ _ e2
 obtain rfl:=inj _ _ e3
 unfold By6
 rcases hr with ⟨h,e⟩|⟨h,⟨h4,e⟩|⟨h4,⟨h5,e⟩|⟨h5,⟨h6,e⟩|⟨h6,⟨h7,e⟩|⟨h7,⟨h8,e⟩|⟨h8,e⟩⟩⟩⟩⟩⟩
 ·rw [e,if_pos h]
 ·rw [e,if_neg h,if_pos h4]
 ·rw [e,if_neg h,if_neg (fun c=>c h4),if_pos h5]
 ·rw [e,if_neg h,if_neg (fun c=>c h4),if_neg (fun c=>c h5),if_pos h6]
 ·rw [e,if_neg h,if_neg (fun c=>c h4),if_neg (fun c=>c h5),if_neg (by rw [h6];decide),if_pos h7]
 ·rw [e,if_neg h,if_neg (fun c=>c h4),if_neg (fun c=>c h5),if_neg (by rw [h6];decide),if_neg h7,if_pos h8]
 ·rw [e,if_neg h,if_neg (fun c=>c h4),if_neg (fun c=>c h5),if_neg (by rw [h6];decide),if_neg h7,if_neg (fun c=>c h8)]
theorem As2 {x z:Wd} (hs:Am x z) (hd:z.d=x.d) (p:Wp) (i:Nat) (w:World) (hx:Ai x=true) (h:Au w p.wh z.wher):Calls prog 50 #[.agg (wC x p),.agg #[.int .i64 1,.int .i64 (i:Int)]] w fun e w'=>e=.returned (.int .i64 (roomI z ⟨1,(i:Int)⟩))∧Below w.heap.size w w':=by
 have h:=Ld z p 1 i (by decide) (by rw [hd];exact Yh hx (by decide)) w h (by rw [hs.w];have:=(Aj hx).2.2.2.1;omega)
 rw [hs.val] at h
 exact h
end
section
theorem Tz {v:Value} {a b:Int} (h:b=a):Ending.returned (.tuple #[v,.int .i64 a])=.returned (.tuple #[v,.int .i64 b]):=by rw [h]
theorem By1 {t u s:TypeId} {w v:World} {cs ds z:Array Value} (h:Tri t u s w v cs ds z):Below w.heap.size w v∧(∀j,v.cell? ⟨w.heap.size,j,none⟩=(cs[j]?:Option Value))∧(∀j,v.cell? ⟨w.heap.size+1,j,none⟩=(ds[j]?:Option Value)):=⟨h.b,h.a.cell,h.m.cell⟩
theorem Tri.drew2 {t u s:TypeId} {w v:World} {cs ds z:Array Value} (h:Tri t u s w v cs ds z):Tri t u s w v.drew cs ds z:=h.call (Af (Below.refl _ _))
theorem Bt5 (x:Wd) (i q:Nat) (gs ws:List Nat):Am x (trN x i q gs ws):=⟨rfl,rfl,rfl,rfl,rfl,rfl,rfl,rfl,rfl,rfl,by simp [trN,Pm]⟩
theorem Cc.pls {n:Nat} {W:World} {p:Dp} {q:Wp} {x:Wd} (h:Cc n W p q x):Au W q.wh x.wher:=by
 obtain ⟨_,m1,m2,_,_,_,_,_,_,hw⟩:=h
 exact hw.row
theorem Tri.gfar {t u s:TypeId} {w v:World} {cs ds z:Array Value} (h:Tri t u s w v cs ds z) {g:Nat} (hg:w.heap.size+3≤g) (i:Nat) (y:Value):Tri t u s w (v.setCell ⟨g,i,none⟩ y) cs ds z :=
 ⟨h.a.far (by show w.heap.size≠g;omega) y,h.m.far (by show w.heap.size+1≠g;omega) y,h.r.far (by show w.heap.size+2≠g;omega) y,h.b.setCell (by show w.heap.size≤g;omega) y⟩
theorem An8 {x:Wd} (hx:Ai x=true) {i:Nat} (hi:i<x.at_.length):∃h:i<x.coins.length,x.coins[i]=Al x i∧0≤Al x i∧Al x i≤1073741824:=by
 have h:i<x.coins.length:=by rw [(Aj hx).2.2.1];exact hi
 have e:x.coins[i]=Al x i:=by simp [Al,List.getD,List.getElem?_eq_getElem h]
 refine ⟨h,e,?_⟩
 rw [←e]
 exact (Fb hx).2.1 _ (List.getElem_mem h)
def Hm7 (a b:Nat) (A B:Array Value) (W:World):Prop:=(∀j,W.cell? ⟨a,j,none⟩=(A[j]?:Option Value))∧(∀j,W.cell? ⟨b,j,none⟩=(B[j]?:Option Value))
theorem Cn5 (x:Wd) (pd:Dp) (ab ao pac kb ko pkc:Nat) (pw:Option Addr) (pwc:Nat) (i:Nat) (kd di it bx who pay fee:Int) (gl wl:List Int) (ga wa:Option Addr) (gc wc:Nat) (w:World) (hx:Ai x=true) (h:Ab w ⟨pd,some ⟨ab,ao,none⟩,pac,some ⟨kb,ko,none⟩,pkc,pw,pwc⟩ x) (hi:i<x.at_.length) (hg:Ae w ga gl) (hw:Ae w wa wl) (hgl:gl.length≤16) (hwl:wl.length≤16)
 (hat:∀j (hj:j<x.at_.length),w.cell? ⟨ab,ao+j,none⟩=some (.int .i64 (Ah x j:Int))) (hco:∀j (hj:j<x.at_.length),w.cell? ⟨kb,ko+j,none⟩=some (.int .i64 (Al x j))) (R:Wd × Int) (hR:R=Ca x i who gl wl pay fee) :
 Calls prog 28 #[.agg (wC x ⟨pd,some ⟨ab,ao,none⟩,pac,some ⟨kb,ko,none⟩,pkc,pw,pwc⟩),.int .i64 (i:Int),.agg #[.int .i64 kd,.int .i64 di,.int .i64 it,.int .i64 bx,.int .i64 who,.slice ga gl.length gc,.int .i64 pay,.slice wa wl.length wc,.int .i64 fee]] w fun e w'=>∃p':Wp,e=.returned (.tuple #[.agg (wC x p'),.int .i64 R.2])∧Ae6 w.heap.size w' ⟨pd,some ⟨ab,ao,none⟩,pac,some ⟨kb,ko,none⟩,pkc,pw,pwc⟩ p' x R∧Below w.heap.size w w':=by
 have C0:=hid (Tri.start 29 31 29 w (wC x ⟨pd,some ⟨ab,ao,none⟩,pac,some ⟨kb,ko,none⟩,pkc,pw,pwc⟩) #[.int .i64 kd,.int .i64 di,.int .i64 it,.int .i64 bx,.int .i64 who,.slice ga gl.length gc,.int .i64 pay,.slice wa wl.length wc,.int .i64 fee] zC)
 have H:=hid h
 have HX:=hid hx
 have HG:=hid hg
 have HW:=hid hw
 have HGL:=hid hgl
 have HWL:=hid hwl
 have HAT:=hid hat
 have HCO:=hid hco
 have HR:=hid hR
 have HI:=hid hi
 clear h hx hg hw hgl hwl hat hco hR hi
 have hWC:=@wC.eq_1
 have hZC:=@zC.eq_1
 go_enter func28,ntmps28
 go_wp2_with fail
 generalize hw0:(((w.alloc (.cells (wC x ⟨pd,some ⟨ab,ao,none⟩,pac,some ⟨kb,ko,none⟩,pkc,pw,pwc⟩) 29)).alloc (.cells #[.int .i64 kd,.int .i64 di,.int .i64 it,.int .i64 bx,.int .i64 who,.slice ga gl.length gc,.int .i64 pay,.slice wa wl.length wc,.int .i64 fee] 31)).alloc (.cells zC 29))=W0 at *
 clear hw0
 have C0:=hid C0.out.drew2
 obtain ⟨v1,W1,g,lc,W2,hr1,hr2,hb1,hb2,hli,hgm⟩:=Bw9 (W:=W0.drew) (ca:=gc) (cb:=wc) rfl (HG.out.below C0.out.b (Nat.le_refl _)) (HW.out.below C0.out.b (Nat.le_refl _)) (by have:=HGL.out;omega) (by have:=HWL.out;omega)
 generalize hM:(gl++wl).length=M at *
 have HM:=hid hM
 have hM32:M≤32:=by rw [←hM,List.length_append];have:=HGL.out;have:=HWL.out;omega
 clear hM
 have HR1:=hid hr1
 have HR2:=hid hr2
 have CA:=hid (C0.out.call ((Below.refl W0.drew.heap.size W0.drew).alloc (Nat.le_refl _) (.cells #[] 3)))
 have C1:=hid (C0.out.call hb1)
 have C2:=hid (C0.out.call hb2)
 have HLI:=hid hli
 have hw3:=C0.out.size
 have HGM:=hid (fun (r:Addr) (hr:g=some r)=>(show w.heap.size+3≤r.block from Nat.le_trans C0.out.size (hgm r hr)))
 clear hr1 hr2 hb1 hb2 hli hgm hw3
 refine tkS (S:=(fun w'=>Below w.heap.size w w'∧(∀j,w'.cell? ⟨w.heap.size,j,none⟩=((wC x ⟨pd,some ⟨ab,ao,none⟩,pac,some ⟨kb,ko,none⟩,pkc,pw,pwc⟩)[j]?:Option Value))∧(∀j,w'.cell? ⟨w.heap.size+1,j,none⟩=(#[.int .i64 kd,.int .i64 di,.int .i64 it,.int .i64 bx,.int .i64 who,.slice ga gl.length gc,.int .i64 pay,.slice wa wl.length wc,.int .i64 fee][j]?:Option Value)))) (by (first|(with_reducible exact By1 C0.out))) (fun hHeld=>?_)
 refine tkl [1,2,4,5] ?_
 iterate 4
  refine tW ?_
  try go_frame
 refine rdy1 0 (fun K hK=>?_)
 go_simp
 try go_wp2_with fail
 refine hK.out _ _ (by (first|(with_reducible exact By1 CA.out))) (fun hHeld=>?_)
 clear hK K
 try go_frame
 refine rdy1 3 (fun K hK=>?_)
 refine Za rfl (.tmp 22) (.tmp 24) 23 rfl _ _ v1 W1 rfl rfl HR1.out ?_
 refine hK.out _ _ (by (first|(with_reducible exact By1 C1.out))) (fun hHeld=>?_)
 clear hK K
 try go_frame
 refine rdy1 6 (fun K hK=>?_)
 refine Za rfl (.tmp 25) (.tmp 27) 23 rfl _ _ _ W2 rfl rfl HR2.out ?_
 refine hK.out _ _ (by (first|(with_reducible exact By1 C2.out))) (fun hHeld=>?_)
 clear hK K
 try go_frame
 refine tkl [7] (tW ?_)
 try go_frame
 refine tkD ?_
 clear hHeld HR1 HR2 CA C1 C0
 have hca:=C2.out.a.cell
 have hla:=C2.out.a.lt
 by_cases hq0:inB who x.at_.length=false
 ·by_cases hq1:who<0
  ·
   have HRv:=hid (show R=(x,3) by rw [HR.out];unfold Ca;rw [if_pos hq0])
   clear hca hla
   have hca:=C2.out.a.cell
   have hla:=C2.out.a.lt
   obtain ⟨hcr,hzr,hlr⟩:=C2.out.rr
   go_wp2_with fail
   refine bodyPost_ret (v:=.tuple #[.agg (wC x ⟨pd,some ⟨ab,ao,none⟩,pac,some ⟨kb,ko,none⟩,pkc,pw,pwc⟩),.int .i64 3]) (by simp [results,results28,go_sem,hcr]) rfl ⟨⟨pd,some ⟨ab,ao,none⟩,pac,some ⟨kb,ko,none⟩,pkc,pw,pwc⟩,Tz (by rw [HRv.out]),.inl (by rw [HRv.out];exact ⟨by simp,rfl,rfl⟩),?_⟩
   iterate 11 refine bs_2 ?_
   exact C2.out.b
  ·have hq2:(x.at_.length:Int)≤who:=by
    rw [Bool.eq_false_iff] at hq0
    apply Decidable.byContradiction;intro hc
    exact hq0 ((Bi _ _).2 (by omega))
   have HRv:=hid (show R=(x,3) by rw [HR.out];unfold Ca;rw [if_pos hq0])
   clear hca hla
   have hca:=C2.out.a.cell
   have hla:=C2.out.a.lt
   obtain ⟨hcr,hzr,hlr⟩:=C2.out.rr
   go_wp2_with fail
   refine bodyPost_ret (v:=.tuple #[.agg (wC x ⟨pd,some ⟨ab,ao,none⟩,pac,some ⟨kb,ko,none⟩,pkc,pw,pwc⟩),.int .i64 3]) (by simp [results,results28,go_sem,hcr]) rfl ⟨⟨pd,some ⟨ab,ao,none⟩,pac,some ⟨kb,ko,none⟩,pkc,pw,pwc⟩,Tz (by rw [HRv.out]),.inl (by rw [HRv.out];exact ⟨by simp,rfl,rfl⟩),?_⟩
   iterate 11 refine bs_2 ?_
   exact C2.out.b
 obtain ⟨q,rfl,hql⟩:∃q:Nat,who=(q:Int)∧q<x.at_.length:=⟨who.toNat,by rw [Bool.not_eq_false,Bi] at hq0;omega,by rw [Bool.not_eq_false,Bi] at hq0;omega⟩
 have HQ0:=hid hq0
 have HQ:=hid hql
 have hq1:¬(q:Int)<0:=by omega
 have hq2:¬(x.at_.length:Int)≤(q:Int):=by omega
 have hq3:(x.at_.length≤q)=False:=by simp;omega
 clear hq0
 go_wp2_with fail
 clear hca hla hq1 hq2 hq3
 go_loopw [10] (fun v wr=>∃j:Nat,j≤M∧v=.int .i64 j∧((gl++wl).take j).all (fun k=>inB k x.wher.length)=true∧Below W2.heap.size W2 wr) (fun v _=>M-(intOf v).toNat)
 case atStart=>exact ⟨0,Nat.zero_le _,rfl,rfl,Below.refl _ _⟩
 case round =>
  obtain ⟨j,hj,rfl,htk,hB⟩:=hrel
  have HT:=hid htk
  have HB:=hid hB
  have C3:=hid (C2.out.call hB)
  clear htk
  by_cases hlt:j<M
  ·have hlt2:j<(gl++wl).length:=by rw [HM.out];exact hlt
   have HF:=hid (Ch (fun k=>inB k x.wher.length) hlt2 HT.out)
   have HN:=hid (Ht (fun k=>inB k x.wher.length) hlt2)
   obtain ⟨b0,o0,rfl,hb0,hc0⟩:=HLI.out.at_ hlt2
   have cI:=Ad (hc0 j hlt2) hB
   generalize (gl++wl)[j]=y at *
   have hc1:=C3.out.a.cell
   have hl1:=C3.out.a.lt
   clear hc0 hB hlt2
   by_cases hy0:y<0
   ·
    go_wp2_with fail
    refine tkS (S:=(fun w'=>(∀i,w'.cell? ⟨w.heap.size,i,none⟩=((wC x ⟨pd,some ⟨ab,ao,none⟩,pac,some ⟨kb,ko,none⟩,pkc,pw,pwc⟩)[i]?:Option Value))∧w'.cell? ⟨b0,o0+j,none⟩=some (.int .i64 y))) (by (first|(exact ⟨hc1,cI⟩))) (fun hHeld=>?_)
    refine tkl [0,1,2,3,4,5] ?_
    iterate 6
     refine tW ?_
     try go_frame
    refine tkl [6,7,8,9,10,11,12,13] ?_
    iterate 8
     refine tN ?_
     try go_frame
    refine tkl [14] (tW ?_)
    try go_frame
    refine tkD ?_
    clear hHeld hc1 hl1 cI
    have C4:=hid C3.out.drew2
    generalize wr.drew=W5 at *
    have HRv:=hid (show R=(x,3) by rw [HR.out];unfold Ca;rw [if_neg HQ0.out,if_pos (HN.out (by rw [Bool.eq_false_iff];intro hh;rw [Bi] at hh;omega))])
    have hca:=C4.out.a.cell
    have hla:=C4.out.a.lt
    obtain ⟨hcr,hzr,hlr⟩:=C4.out.rr
    go_wp2_with fail
    refine bodyPost_ret (v:=.tuple #[.agg (wC x ⟨pd,some ⟨ab,ao,none⟩,pac,some ⟨kb,ko,none⟩,pkc,pw,pwc⟩),.int .i64 3]) (by simp [results,results28,go_sem,hcr]) rfl ⟨⟨pd,some ⟨ab,ao,none⟩,pac,some ⟨kb,ko,none⟩,pkc,pw,pwc⟩,Tz (by rw [HRv.out]),.inl (by rw [HRv.out];exact ⟨by simp,rfl,rfl⟩),?_⟩
    iterate 11 refine bs_2 ?_
    exact C4.out.b
   ·by_cases hy1:(x.wher.length:Int)≤y
    ·
     go_wp2_with fail
     have hy3:¬y<0:=by omega
     have hy2:(x.wher.length:Int)≤y:=by omega
     refine tkS (S:=(fun w'=>(∀i,w'.cell? ⟨w.heap.size,i,none⟩=((wC x ⟨pd,some ⟨ab,ao,none⟩,pac,some ⟨kb,ko,none⟩,pkc,pw,pwc⟩)[i]?:Option Value))∧w'.cell? ⟨b0,o0+j,none⟩=some (.int .i64 y))) (by (first|(exact ⟨hc1,cI⟩))) (fun hHeld=>?_)
     refine tkl [0,1,2,3,4,5,6,7,8,9,10,11,12,13,14] ?_
     iterate 15
      refine tW ?_
      try go_frame
     refine tkD ?_
     clear hHeld hc1 hl1 cI
     have C4:=hid C3.out.drew2
     generalize wr.drew=W5 at *
     have HRv:=hid (show R=(x,3) by rw [HR.out];unfold Ca;rw [if_neg HQ0.out,if_pos (HN.out (by rw [Bool.eq_false_iff];intro hh;rw [Bi] at hh;omega))])
     have hca:=C4.out.a.cell
     have hla:=C4.out.a.lt
     obtain ⟨hcr,hzr,hlr⟩:=C4.out.rr
     go_wp2_with fail
     refine bodyPost_ret (v:=.tuple #[.agg (wC x ⟨pd,some ⟨ab,ao,none⟩,pac,some ⟨kb,ko,none⟩,pkc,pw,pwc⟩),.int .i64 3]) (by simp [results,results28,go_sem,hcr]) rfl ⟨⟨pd,some ⟨ab,ao,none⟩,pac,some ⟨kb,ko,none⟩,pkc,pw,pwc⟩,Tz (by rw [HRv.out]),.inl (by rw [HRv.out];exact ⟨by simp,rfl,rfl⟩),?_⟩
     iterate 11 refine bs_2 ?_
     exact C4.out.b
    ·
     go_wp2_with fail
     have hy2:¬(x.wher.length:Int)≤y:=by omega
     have hy3:¬y<0:=by omega
     refine tkS (S:=(fun w'=>(∀i,w'.cell? ⟨w.heap.size,i,none⟩=((wC x ⟨pd,some ⟨ab,ao,none⟩,pac,some ⟨kb,ko,none⟩,pkc,pw,pwc⟩)[i]?:Option Value))∧w'.cell? ⟨b0,o0+j,none⟩=some (.int .i64 y))) (by (first|(exact ⟨hc1,cI⟩))) (fun hHeld=>?_)
     refine tkl [0,1,2,3,4,5,6,7,8,9,10,11,12,13,14] ?_
     iterate 15
      refine tW ?_
      try go_frame
     refine tkD ?_
     clear hHeld hc1 hl1 cI
     have HB2:=hid (Af HB.out)
     have HY:=hid (show inB y x.wher.length=true from (Bi _ _).2 (by omega))
     generalize wr.drew=W5 at *
     go_wp2_with fail
     go_roundw
     case rel=>exact ⟨j+1,by omega,by go_num,HF.out HY.out,HB2.out⟩
     case measure=>simp [intOf];omega
  ·have hje:M=j:=by omega
   subst hje
   have HALL:=hid (show (gl++wl).all (fun k=>inB k x.wher.length)=true by have:=HT.out;rw [←HM.out] at this;exact Ff _ this)
   clear HT hB
   skip
   obtain ⟨gs,hgs,hgi⟩:=Zl (l:=gl) (n:=x.wher.length) (by have:=HALL.out;rw [List.all_append,Bool.and_eq_true] at this;exact this.1)
   obtain ⟨ws,hws,hwi⟩:=Zl (l:=wl) (n:=x.wher.length) (by have:=HALL.out;rw [List.all_append,Bool.and_eq_true] at this;exact this.2)
   have HGS:=hid hgs
   have HRN:=hid (show R=By6 x i q gs ws pay fee by rw [HR.out,hgs,hws];exact Dy8 x i q gs ws pay fee HQ.out hgi hwi)
   obtain ⟨L,hL⟩:∃L,L=gs++ws:=⟨_,rfl⟩
   have HL:=hid hL
   have HLN:=hid (show gl++wl=L.map (fun (k:Nat)=>(k:Int)) by rw [hgs,hws,hL,List.map_append])
   have HLL:=hid (show L.length=M by rw [←HM.out,HLN.out,List.length_map])
   have HLT:=hid (fun (k:Nat) (hk:k∈L)=>(show k<x.wher.length by rw [hL] at hk;rcases List.mem_append.1 hk with hk|hk;exact hgi k hk;exact hwi k hk))
   have HLX:=hid (show Ae W2 g (L.map (fun (k:Nat)=>(k:Int))) by rw [←HLN.out];exact HLI.out)
   clear hgs hws hgi hwi hL HLI HALL HR HQ0
   obtain ⟨wp,hwp⟩:∃q,q=wr:=⟨_,rfl⟩
   subst hwp
   have hca:=C3.out.a.cell
   have hla:=C3.out.a.lt
   have hcm:∀i,World.cell? _ ⟨w.heap.size+1,i,none⟩=_:=C3.out.m.cell
   have hlm:=C3.out.m.lt
   by_cases hs:q=i
   ·have hs2:((i:Int)==(q:Int))=true:=by simp [hs]
    have HRv:=hid (show R=(x,12) by rw [HRN.out];unfold By6;rw [if_pos hs])
    clear hca hla hcm hlm
    have hca:=C3.out.a.cell
    have hla:=C3.out.a.lt
    obtain ⟨hcr,hzr,hlr⟩:=C3.out.rr
    go_wp2_with fail
    refine bodyPost_ret (v:=.tuple #[.agg (wC x ⟨pd,some ⟨ab,ao,none⟩,pac,some ⟨kb,ko,none⟩,pkc,pw,pwc⟩),.int .i64 12]) (by simp [results,results28,go_sem,hcr]) rfl ⟨⟨pd,some ⟨ab,ao,none⟩,pac,some ⟨kb,ko,none⟩,pkc,pw,pwc⟩,Tz (by rw [HRv.out]),.inl (by rw [HRv.out];exact ⟨by simp,rfl,rfl⟩),?_⟩
    iterate 11 refine bs_2 ?_
    exact C3.out.b
   have hs2:((i:Int)==(q:Int))=false:=by simp;omega
   have HR1:=hid (show R=if ¬Ah x i=Ah x q then (x,5) else if ¬(gs++ws).Nodup then (x,13) else if (hasB x i gs&&hasB x q ws)=false then (x,5)
    else if roomI (trN x i q gs ws) ⟨1,(i:Int)⟩<0∨roomI (trN x i q gs ws) ⟨1,(q:Int)⟩<0 then (x,9)
    else if ¬Cg (Al x i) (Al x q) pay fee=0 then (x,Cg (Al x i) (Al x q) pay fee) else (trW x i q gs ws (Al x i-pay+fee) (Al x q-fee+pay),0) by rw [HRN.out];unfold By6;rw [if_neg hs])
   have c1:=Ad (HAT.out i HI.out) C3.out.b
   have c2:=Ad (HAT.out q HQ.out) C3.out.b
   generalize Ah x i=r1 at *
   generalize Ah x q=r2 at *
   have hi1:=HI.out
   have hq1:=HQ.out
   have qi:¬(x.at_.length:Int)≤(i:Int):=by omega
   have qi2:(x.at_.length≤i)=False:=by simp;omega
   have qq:¬(x.at_.length:Int)≤(q:Int):=by omega
   have qq2:(x.at_.length≤q)=False:=by simp;omega
   clear hs HRN
   go_wp2_with fail
   refine tkS (S:=(fun w'=>(∀i,w'.cell? ⟨w.heap.size,i,none⟩=((wC x ⟨pd,some ⟨ab,ao,none⟩,pac,some ⟨kb,ko,none⟩,pkc,pw,pwc⟩)[i]?:Option Value))∧w'.cell? ⟨ab,ao+i,none⟩=some (.int .i64 (r1:Int))∧w'.cell? ⟨ab,ao+q,none⟩=some (.int .i64 (r2:Int)))) (by (first|(exact ⟨hca,c1,c2⟩))) (fun hHeld=>?_)
   refine tkl [0,1,2,3,4,5,6,7,8,9,10] ?_
   iterate 11
    refine tW ?_
    try go_frame
   refine tkD ?_
   clear hHeld hca hla hcm hlm c1 c2
   have C4:=hid C3.out.drew2
   have HB4:=hid (Af HB.out)
   clear C3 HB
   generalize wp.drew=W4 at *
   by_cases hr:r1=r2
   case neg =>
    have hr2:((r1:Int) != (r2:Int))=true:=by simp;omega
    have HRv:=hid (show R=(x,5) by rw [HR1.out,if_pos hr])
    have hca:=C4.out.a.cell
    have hla:=C4.out.a.lt
    obtain ⟨hcr,hzr,hlr⟩:=C4.out.rr
    go_wp2_with fail
    refine bodyPost_ret (v:=.tuple #[.agg (wC x ⟨pd,some ⟨ab,ao,none⟩,pac,some ⟨kb,ko,none⟩,pkc,pw,pwc⟩),.int .i64 5]) (by simp [results,results28,go_sem,hcr]) rfl ⟨⟨pd,some ⟨ab,ao,none⟩,pac,some ⟨kb,ko,none⟩,pkc,pw,pwc⟩,Tz (by rw [HRv.out]),.inl (by rw [HRv.out];exact ⟨by simp,rfl,rfl⟩),?_⟩
    iterate 11 refine bs_2 ?_
    exact C4.out.b
   case pos =>
   have hr2:((r1:Int) != (r2:Int))=false:=by rw [hr];simp
   rw [hr2]
   have HR2:=hid (show R=if ¬(gs++ws).Nodup then (x,13) else if (hasB x i gs&&hasB x q ws)=false then (x,5)
    else if roomI (trN x i q gs ws) ⟨1,(i:Int)⟩<0∨roomI (trN x i q gs ws) ⟨1,(q:Int)⟩<0 then (x,9)
    else if ¬Cg (Al x i) (Al x q) pay fee=0 then (x,Cg (Al x i) (Al x q) pay fee) else (trW x i q gs ws (Al x i-pay+fee) (Al x q-fee+pay),0) by rw [HR1.out,if_neg (fun h=>h hr)])
   clear hr HR1
   have hca:=C4.out.a.cell
   have hla:=C4.out.a.lt
   go_wp2_with fail
   clear hca hla hr2 qi qi2 qq qq2
   go_loopw [11,12] (fun v _ wr=>∃j:Nat,j≤M∧v=.int .i64 j∧(L.take j).Nodup∧Below W2.heap.size W2 wr) (fun v _ _=>M-(intOf v).toNat)
   case atStart=>exact ⟨0,Nat.zero_le _,rfl,by simp,HB4.out⟩
   case round =>
    obtain ⟨j,hj,rfl,hnd,hB⟩:=hrel
    have HND:=hid hnd
    have HB:=hid hB
    clear hnd hB C4 HB4
    by_cases hlt:j<M
    ·have hj2:j<L.length:=by rw [HLL.out];exact hlt
     have HJ2:=hid hj2
     obtain ⟨wq,hwq⟩:∃q,q=wr:=⟨_,rfl⟩
     subst hwq
     go_wp2_with fail
     go_loopw [12] (fun v wr=>∃k:Nat,k≤j∧v=.int .i64 k∧(∀m (hm:m<L.length),m<k→¬L[j]=L[m])∧Below W2.heap.size W2 wr) (fun v _=>j-(intOf v).toNat)
     case atStart=>exact ⟨0,Nat.zero_le _,rfl,fun m hm h=>by omega,HB.out⟩
     case round =>
      obtain ⟨k,hk,rfl,hall,hB⟩:=hrel
      have HA:=hid hall
      have HB2:=hid hB
      clear hall
      by_cases hkj:k<j
      ·have hk2:k<L.length:=by omega
       obtain ⟨b0,o0,rfl,hb0,hc0⟩:=HLX.out.at_ (show j<(L.map (fun (k:Nat)=>(k:Int))).length by simpa using hj2)
       have cJ:=hc0 j (by simpa using hj2)
       have cK:=hc0 k (by simpa using hk2)
       simp only [List.getElem_map] at cJ cK
       have cJ:=Ad cJ hB
       have cK:=Ad cK hB
       have HK2:=hid hk2
       have HNN:=hid (fun (e:L[j]=L[k])=>Ds8 hj2 hkj e)
       have HAK:=hid (fun (e:¬L[j]=L[k])=>(show ∀m (hm:m<L.length),m<k+1→¬L[j]=L[m] from fun m hm h1=>by
        by_cases hmk:m=k
        ·subst hmk;exact e
        ·exact HA.out m hm (by omega)))
       have qj:¬(M:Int)≤(j:Int):=by omega
       have qj2:(M≤j)=False:=by simp;omega
       have qk:¬(M:Int)≤(k:Int):=by omega
       have qk2:(M≤k)=False:=by simp;omega
       clear hc0 hb0 hB HA
       generalize hyj:L[j]=y at *
       generalize hyk:L[k]=y2 at *
       clear hk2
       by_cases hy:y=y2
       ·have hy2:((y:Int)==(y2:Int))=true:=by simp [hy]
        go_wp2_with fail
        refine tkS (S:=(fun w'=>w'.cell? ⟨b0,o0+j,none⟩=some (.int .i64 (y:Int))∧w'.cell? ⟨b0,o0+k,none⟩=some (.int .i64 (y2:Int)))) (by (first|(exact ⟨cJ,cK⟩))) (fun hHeld=>?_)
        refine tkl [0,1,2,3,4,5,6,7,8] ?_
        iterate 9
         refine tW ?_
         try go_frame
        refine tkD ?_
        clear hHeld cJ cK
        have C5:=hid (C2.out.call (Af HB2.out))
        generalize wr.drew=W5 at *
        have HRv:=hid (show R=(x,13) by rw [HR2.out,←HL.out,if_pos (HNN.out hy)])
        have hca:=C5.out.a.cell
        have hla:=C5.out.a.lt
        obtain ⟨hcr,hzr,hlr⟩:=C5.out.rr
        go_wp2_with fail
        refine bodyPost_ret (v:=.tuple #[.agg (wC x ⟨pd,some ⟨ab,ao,none⟩,pac,some ⟨kb,ko,none⟩,pkc,pw,pwc⟩),.int .i64 13]) (by simp [results,results28,go_sem,hcr]) rfl ⟨⟨pd,some ⟨ab,ao,none⟩,pac,some ⟨kb,ko,none⟩,pkc,pw,pwc⟩,Tz (by rw [HRv.out]),.inl (by rw [HRv.out];exact ⟨by simp,rfl,rfl⟩),?_⟩
        iterate 11 refine bs_2 ?_
        exact C5.out.b
       ·have hy2:((y:Int)==(y2:Int))=false:=by simp;omega
        go_wp2_with fail
        refine tkS (S:=(fun w'=>w'.cell? ⟨b0,o0+j,none⟩=some (.int .i64 (y:Int))∧w'.cell? ⟨b0,o0+k,none⟩=some (.int .i64 (y2:Int)))) (by (first|(exact ⟨cJ,cK⟩))) (fun hHeld=>?_)
        refine tkl [0,1,2,3,4,5,6,7,8] ?_
        iterate 9
         refine tW ?_
         try go_frame
        refine tkD ?_
        clear hHeld cJ cK
        have HB3:=hid (Af HB2.out)
        generalize wr.drew=W5 at *
        go_wp2_with fail
        go_roundw
        case rel=>exact ⟨k+1,by omega,by go_num,HAK.out hy,HB3.out⟩
        case measure=>simp [intOf];omega
      ·have hkj:k=j:=by omega
       subst hkj
       have HN2:=hid (show (L.take (k+1)).Nodup from (Bh2 HJ2.out).2 ⟨HND.out,fun m hm h=>HA.out m hm h⟩)
       clear hB
       go_wp2_with fail
       go_roundw
       case rel=>exact ⟨k+1,by omega,by go_num,HN2.out,HB2.out⟩
       case measure=>simp [intOf];omega
    ·have hje:M=j:=by omega
     subst hje
     have HNOD:=hid (show (gs++ws).Nodup by have:=HND.out;rw [←HLL.out,List.take_length,HL.out] at this;exact this)
     have HR5:=hid (show R=if (hasB x i gs&&hasB x q ws)=false then (x,5)
      else if roomI (trN x i q gs ws) ⟨1,(i:Int)⟩<0∨roomI (trN x i q gs ws) ⟨1,(q:Int)⟩<0 then (x,9)
      else if ¬Cg (Al x i) (Al x q) pay fee=0 then (x,Cg (Al x i) (Al x q) pay fee) else (trW x i q gs ws (Al x i-pay+fee) (Al x q-fee+pay),0) by rw [HR2.out,if_neg (fun h=>h HNOD.out)])
     have C5:=hid (C2.out.call HB.out)
     clear HND HR2 HNOD
     have hca:=C5.out.a.cell
     have hla:=C5.out.a.lt
     have hwr:=HB.out.size
     go_wp2_with fail
     refine (Iq x ⟨pd,some ⟨ab,ao,none⟩,pac,some ⟨kb,ko,none⟩,pkc,pw,pwc⟩ _ (H.out.below C5.out.b (Nat.le_refl _)) (Ci HX.out)).mono ?_
     rintro e w1 ⟨⟨qd,qa,qac,qk,qkc,qw,qwc⟩,rfl,-,b1,ho⟩
     obtain rfl:pd=qd:=ho.1.symm
     have HB1:=hid (HB.out.trans (b1.mono hwr))
     have HO:=hid (Cc.alloc (ho.less hwr) (.cells (wC x ⟨pd,qa,qac,qk,qkc,qw,qwc⟩) 29))
     have HQM:=hid (fun (r:Addr) (hr:qw=some r)=>(show r.block<w1.heap.size from by obtain ⟨_,m1,m2,_,_,_,_,_,_,hw⟩:=ho;exact OwnR.in_ hw hr))
     have HQK:=hid (fun (r:Addr) (hr:qk=some r)=>(show r.block<w1.heap.size from by obtain ⟨_,m1,m2,_,_,_,_,hk,_,hw⟩:=ho;exact OwnR.in_ hk hr))
     have DN:=hid (Blk.newn w1 29 (wC x ⟨pd,qa,qac,qk,qkc,qw,qwc⟩) (n:=w1.heap.size) rfl)
     have HBN:=hid (HB1.out.alloc HB1.out.size (.cells (wC x ⟨pd,qa,qac,qk,qkc,qw,qwc⟩) 29))
     have hN2:=HB1.out.size
     clear ho b1 hca hla
     generalize hN:w1.heap.size=N at *
     go_wp2_with fail
     generalize w1.alloc (.cells (wC x ⟨pd,qa,qac,qk,qkc,qw,qwc⟩) 29)=W6 at *
     clear hwr C5 HB HB1
     go_loopw [14,15,16] (fun v _ _ wr=>∃j:Nat,j≤M∧v=.int .i64 j∧hasN x i q gs ws j=true∧Below W2.heap.size W2 wr∧Blk wr N 29 (wC x ⟨pd,qa,qac,qk,qkc,qw,qwc⟩)∧Cc W2.heap.size wr pd ⟨pd,qa,qac,qk,qkc,qw,qwc⟩ ⟨x.d,x.at_,x.coins,Tm x.wher i q gs ws j⟩∧(∀r,qw=some r→r.block<N)) (fun v _ _ _=>M-(intOf v).toNat)
     case atStart=>exact ⟨0,Nat.zero_le _,rfl,Du1 _ _ _ _ _,HBN.out,DN.out,by rw [Cy1];exact HO.out,HQM.out⟩
     case round =>
      obtain ⟨j,hj,rfl,hhn,hB7,hD7,hO7,hqm⟩:=hrel
      have HHJ:=hid hhn
      have HB7:=hid hB7
      have D7:=hid hD7
      have O7:=hid hO7
      have C7:=hid (C2.out.call hB7)
      have hc1:=C7.out.a.cell
      have hl1:=C7.out.a.lt
      have hcm:∀i,World.cell? _ ⟨w.heap.size+1,i,none⟩=_:=C7.out.m.cell
      have hlm:=C7.out.m.lt
      have hn:=hD7.cell
      have hnl:=hD7.lt
      clear hhn hD7 HBN DN HO
      by_cases hlt:j<M
      ·have hj2:j<L.length:=by rw [HLL.out];exact hlt
       obtain ⟨k,hk⟩:∃k,k=L[j]:=⟨_,rfl⟩
       have HKX:=hid (HLT.out L[j] (List.getElem_mem hj2))
       obtain ⟨b0,o0,rfl,hb0,hc0⟩:=HLX.out.at_ (show j<(L.map (fun (k:Nat)=>(k:Int))).length by simpa using hj2)
       have cI:=hc0 j (by simpa using hj2)
       simp only [List.getElem_map] at cI
       have cI:=Ad cI hB7
       rw [←hk] at cI HKX
       obtain ⟨b,o,ew,hyb,d0,d1⟩:=Au.cells H.out.wh HKX.out
       simp only at ew
       rw [←Bo HKX.out] at d0 d1
       have d0:=Ad d0 C7.out.b
       have d1:=Ad d1 C7.out.b
       obtain ⟨gw,hqw,hg1,hg2,-,-,-⟩:=hO7.putPlace (k:=k) (by rw [Ba0];exact HKX.out)
       simp only at hqw
       subst hqw ew
       have hgm:gw<N:=hqm _ rfl
       have n1:gw≠N:=by omega
       have n3:gw≠b0:=by omega
       have n4:W2.heap.size≤gw:=hg1
       have hkx:k<x.wher.length:=HKX.out
       have hk1:¬(x.wher.length:Int)≤(k:Int):=by omega
       have hk2:(x.wher.length≤k)=False:=by simp;omega
       have qj:¬(M:Int)≤(j:Int):=by omega
       have qj2:(M≤j)=False:=by simp;omega
       have hbg:=Es4 (gs:=gs) (ws:=ws) (m:=j) (by rw [←HL.out];exact hj2)
       have hkL:k=(gs++ws)[j]'(by rw [←HL.out];exact hj2):=by rw [hk];simp only [HL.out]
       clear hO7 hc0 hqm hb0 hyb hg1 hg2 hk hB7
       rcases hbg with ⟨hjg,hj3,hkk⟩|⟨hjg,hj3,hkk⟩
       ·rw [hkk] at hkL
        replace hkk:=hkL
        clear hkL
        have hA:¬(gl.length:Int)≤(j:Int):=by have:=HGS.out;have h2:=congrArg List.length this;rw [List.length_map] at h2;omega
        have HH:=hid (show hasN x i q gs ws (j+1)=(hasN x i q gs ws j&&decide (plOf x.wher k=⟨1,(i:Int)⟩)) by rw [hkk];exact Du3 hjg)
        have HS:=hid (show Tm x.wher i q gs ws (j+1)=(Tm x.wher i q gs ws j).set k ⟨1,(q:Int)⟩ by rw [hkk];exact Cy3 hjg)
        clear hkk
        generalize plOf x.wher k=z at *
        obtain ⟨zk,zi⟩:=z
        simp only at d0 d1
        have hrun:=Kj zk zi 1 (i:Int)
        by_cases hz:(⟨zk,zi⟩:Pl)=⟨1,(i:Int)⟩
        case neg =>
         have HZ:=hid hz
         simp only [hz,decide_false,Bool.not_false] at hrun
         clear hz
         go_wp2_with fail
         refine tkS (S:=(fun w'=>(∀i,w'.cell? ⟨w.heap.size,i,none⟩=((wC x ⟨pd,some ⟨ab,ao,none⟩,pac,some ⟨kb,ko,none⟩,pkc,some ⟨b,o,none⟩,pwc⟩)[i]?:Option Value))∧w'.cell? ⟨b0,o0+j,none⟩=some (.int .i64 (k:Int))∧w'.cell? ⟨b,o+k*2,none⟩=some (.int .i64 zk)∧w'.cell? ⟨b,o+k*2+1,none⟩=some (.int .i64 zi))) (by (first|(exact ⟨hc1,cI,d0,d1⟩))) (fun hHeld=>?_)
         refine tkl [0,1,2,3,4,5,6,7,8,9,10] ?_
         iterate 11
          refine tW ?_
          try go_frame
         refine tkD ?_
         clear hHeld hc1 hl1 hcm hlm hn hnl cI d0 d1
         have C8:=hid C7.out.drew2
         generalize wr.drew=W8 at *
         have HRv:=hid (show R=(x,5) by rw [HR5.out,if_pos (Bool.and_eq_false_iff.2 (Br9 (m:=j+1) (by rw [HH.out,decide_eq_false HZ.out,Bool.and_false])))])
         have hca:=C8.out.a.cell
         have hla:=C8.out.a.lt
         obtain ⟨hcr,hzr,hlr⟩:=C8.out.rr
         go_wp2_with fail
         refine bodyPost_ret (v:=.tuple #[.agg (wC x ⟨pd,some ⟨ab,ao,none⟩,pac,some ⟨kb,ko,none⟩,pkc,some ⟨b,o,none⟩,pwc⟩),.int .i64 5]) (by simp [results,results28,go_sem,hcr]) rfl ⟨⟨pd,some ⟨ab,ao,none⟩,pac,some ⟨kb,ko,none⟩,pkc,some ⟨b,o,none⟩,pwc⟩,Tz (by rw [HRv.out]),.inl (by rw [HRv.out];exact ⟨by simp,rfl,rfl⟩),?_⟩
         iterate 11 refine bs_2 ?_
         exact C8.out.b
        case pos =>
         have HZ:=hid hz
         simp only [hz,decide_true,Bool.not_true] at hrun
         clear hz
         go_wp2_with fail
         refine tkS (S:=(fun w'=>(∀i,w'.cell? ⟨w.heap.size,i,none⟩=((wC x ⟨pd,some ⟨ab,ao,none⟩,pac,some ⟨kb,ko,none⟩,pkc,some ⟨b,o,none⟩,pwc⟩)[i]?:Option Value))∧w'.cell? ⟨b0,o0+j,none⟩=some (.int .i64 (k:Int))∧w'.cell? ⟨b,o+k*2,none⟩=some (.int .i64 zk)∧w'.cell? ⟨b,o+k*2+1,none⟩=some (.int .i64 zi))) (by (first|(exact ⟨hc1,cI,d0,d1⟩))) (fun hHeld=>?_)
         refine tkl [0,1,2,3,4,5,6,7,8,9,10] ?_
         iterate 11
          refine tW ?_
          try go_frame
         refine tkD ?_
         clear hHeld hc1 hl1 hcm hlm hn hnl d0 d1
         have HB8:=hid (Af HB7.out)
         have D8:=hid (show Blk wr.drew N _ _ from D7.out)
         have O8:=hid O7.out.drew
         have cI:=(show wr.drew.cell? _=_ from cI)
         clear HB7 D7 O7 C7
         generalize wr.drew=W8 at *
         go_wp2_with fail
         have hn:=D8.out.cell
         have hnl:=D8.out.lt
         obtain ⟨g',hqw,-,hg3,⟨cA,cB⟩,fA,hput⟩:=O8.out.putPlace (by rw [Ba0];exact HKX.out)
         simp only [Option.some.injEq,Addr.mk.injEq] at hqw
         obtain ⟨rfl,-⟩:=hqw
         have HP:=hid (hput ⟨1,(q:Int)⟩)
         have hkx:k<x.wher.length:=HKX.out
         have hk1:¬(x.wher.length:Int)≤(k:Int):=by omega
         have hk2:(x.wher.length≤k)=False:=by simp;omega
         clear hput
         refine tkS (S:=(fun w'=>(∀i,w'.cell? ⟨N,i,none⟩=((wC x ⟨pd,qa,qac,qk,qkc,some ⟨gw,0,none⟩,qwc⟩)[i]?:Option Value))∧w'.cell? ⟨b0,o0+j,none⟩=some (.int .i64 (k:Int)))) (by (exact ⟨hn,cI⟩)) (fun hHeld=>?_)
         refine tkl [0,1,2,3,4,5,6,7,8] ?_
         iterate 9
          refine tW ?_
          try go_frame
         refine rdy1 9 (fun K hK=>?_)
         go_simp
         try go_wp2_with fail
         refine hK.out _ _ (by (exact ⟨fun i=>far2 (hn i) n1,far2 cI n3⟩)) (fun hHeld=>?_)
         clear hK K
         try go_frame
         refine tkD ?_
         clear hHeld
         go_wp2_with fail
         go_roundw
         case rel=>exact ⟨j+1,by omega,by go_num,by rw [HH.out,HHJ.out,Bool.true_and];exact decide_eq_true HZ.out,Af ((HB8.out.setCell n4 _).setCell n4 _),((D8.out.far n1.symm _).far n1.symm _).drew,by rw [HS.out];exact HP.out.drew,fun r hr=>by cases hr;exact hgm⟩
         case measure=>simp [intOf];omega
       ·rw [hkk] at hkL
        replace hkk:=hkL
        clear hkL
        have hA:(gl.length:Int)≤(j:Int):=by have:=HGS.out;have h2:=congrArg List.length this;rw [List.length_map] at h2;omega
        have HH:=hid (show hasN x i q gs ws (j+1)=(hasN x i q gs ws j&&decide (plOf x.wher k=⟨1,(q:Int)⟩)) by rw [hkk];exact Du2 hjg hj3)
        have HS:=hid (show Tm x.wher i q gs ws (j+1)=(Tm x.wher i q gs ws j).set k ⟨1,(i:Int)⟩ by rw [hkk];exact Cy2 hjg hj3)
        clear hkk
        generalize plOf x.wher k=z at *
        obtain ⟨zk,zi⟩:=z
        simp only at d0 d1
        have hrun:=Kj zk zi 1 (q:Int)
        by_cases hz:(⟨zk,zi⟩:Pl)=⟨1,(q:Int)⟩
        case neg =>
         have HZ:=hid hz
         simp only [hz,decide_false,Bool.not_false] at hrun
         clear hz
         go_wp2_with fail
         refine tkS (S:=(fun w'=>(∀i,w'.cell? ⟨w.heap.size,i,none⟩=((wC x ⟨pd,some ⟨ab,ao,none⟩,pac,some ⟨kb,ko,none⟩,pkc,some ⟨b,o,none⟩,pwc⟩)[i]?:Option Value))∧w'.cell? ⟨b0,o0+j,none⟩=some (.int .i64 (k:Int))∧w'.cell? ⟨b,o+k*2,none⟩=some (.int .i64 zk)∧w'.cell? ⟨b,o+k*2+1,none⟩=some (.int .i64 zi))) (by (first|(exact ⟨hc1,cI,d0,d1⟩))) (fun hHeld=>?_)
         refine tkl [0,1,2,3,4,5,6,7,8,9,10] ?_
         iterate 11
          refine tW ?_
          try go_frame
         refine tkD ?_
         clear hHeld hc1 hl1 hcm hlm hn hnl cI d0 d1
         have C8:=hid C7.out.drew2
         generalize wr.drew=W8 at *
         have HRv:=hid (show R=(x,5) by rw [HR5.out,if_pos (Bool.and_eq_false_iff.2 (Br9 (m:=j+1) (by rw [HH.out,decide_eq_false HZ.out,Bool.and_false])))])
         have hca:=C8.out.a.cell
         have hla:=C8.out.a.lt
         obtain ⟨hcr,hzr,hlr⟩:=C8.out.rr
         go_wp2_with fail
         refine bodyPost_ret (v:=.tuple #[.agg (wC x ⟨pd,some ⟨ab,ao,none⟩,pac,some ⟨kb,ko,none⟩,pkc,some ⟨b,o,none⟩,pwc⟩),.int .i64 5]) (by simp [results,results28,go_sem,hcr]) rfl ⟨⟨pd,some ⟨ab,ao,none⟩,pac,some ⟨kb,ko,none⟩,pkc,some ⟨b,o,none⟩,pwc⟩,Tz (by rw [HRv.out]),.inl (by rw [HRv.out];exact ⟨by simp,rfl,rfl⟩),?_⟩
         iterate 11 refine bs_2 ?_
         exact C8.out.b
        case pos =>
         have HZ:=hid hz
         simp only [hz,decide_true,Bool.not_true] at hrun
         clear hz
         go_wp2_with fail
         refine tkS (S:=(fun w'=>(∀i,w'.cell? ⟨w.heap.size,i,none⟩=((wC x ⟨pd,some ⟨ab,ao,none⟩,pac,some ⟨kb,ko,none⟩,pkc,some ⟨b,o,none⟩,pwc⟩)[i]?:Option Value))∧w'.cell? ⟨b0,o0+j,none⟩=some (.int .i64 (k:Int))∧w'.cell? ⟨b,o+k*2,none⟩=some (.int .i64 zk)∧w'.cell? ⟨b,o+k*2+1,none⟩=some (.int .i64 zi))) (by (first|(exact ⟨hc1,cI,d0,d1⟩))) (fun hHeld=>?_)
         refine tkl [0,1,2,3,4,5,6,7,8,9,10] ?_
         iterate 11
          refine tW ?_
          try go_frame
         refine tkD ?_
         clear hHeld hc1 hl1 hcm hlm hn hnl d0 d1
         have HB8:=hid (Af HB7.out)
         have D8:=hid (show Blk wr.drew N _ _ from D7.out)
         have O8:=hid O7.out.drew
         have cI:=(show wr.drew.cell? _=_ from cI)
         clear HB7 D7 O7 C7
         generalize wr.drew=W8 at *
         go_wp2_with fail
         have hn:=D8.out.cell
         have hnl:=D8.out.lt
         obtain ⟨g',hqw,-,hg3,⟨cA,cB⟩,fA,hput⟩:=O8.out.putPlace (by rw [Ba0];exact HKX.out)
         simp only [Option.some.injEq,Addr.mk.injEq] at hqw
         obtain ⟨rfl,-⟩:=hqw
         have HP:=hid (hput ⟨1,(i:Int)⟩)
         have hkx:k<x.wher.length:=HKX.out
         have hk1:¬(x.wher.length:Int)≤(k:Int):=by omega
         have hk2:(x.wher.length≤k)=False:=by simp;omega
         clear hput
         refine tkS (S:=(fun w'=>(∀i,w'.cell? ⟨N,i,none⟩=((wC x ⟨pd,qa,qac,qk,qkc,some ⟨gw,0,none⟩,qwc⟩)[i]?:Option Value))∧w'.cell? ⟨b0,o0+j,none⟩=some (.int .i64 (k:Int)))) (by (exact ⟨hn,cI⟩)) (fun hHeld=>?_)
         refine tkl [0,1,2,3,4,5,6,7,8] ?_
         iterate 9
          refine tW ?_
          try go_frame
         refine rdy1 9 (fun K hK=>?_)
         go_simp
         try go_wp2_with fail
         refine hK.out _ _ (by (exact ⟨fun i=>far2 (hn i) n1,far2 cI n3⟩)) (fun hHeld=>?_)
         clear hK K
         try go_frame
         refine tkD ?_
         clear hHeld
         go_wp2_with fail
         go_roundw
         case rel=>exact ⟨j+1,by omega,by go_num,by rw [HH.out,HHJ.out,Bool.true_and];exact decide_eq_true HZ.out,Af ((HB8.out.setCell n4 _).setCell n4 _),((D8.out.far n1.symm _).far n1.symm _).drew,by rw [HS.out];exact HP.out.drew,fun r hr=>by cases hr;exact hgm⟩
         case measure=>simp [intOf];omega
      ·have hje:M=j:=by omega
       subst hje
       have HHB:=hid (show (hasB x i gs&&hasB x q ws)=true by have:=HHJ.out;rw [←HLL.out,HL.out,Ep2] at this;exact this)
       have O8:=hid (show Cc W2.heap.size wr pd ⟨pd,qa,qac,qk,qkc,qw,qwc⟩ (trN x i q gs ws) from by
        have:=O7.out
        rw [←HLL.out,HL.out,Dp7] at this
        exact this)
       have HR6:=hid (show R=if roomI (trN x i q gs ws) ⟨1,(i:Int)⟩<0∨roomI (trN x i q gs ws) ⟨1,(q:Int)⟩<0 then (x,9)
        else if ¬Cg (Al x i) (Al x q) pay fee=0 then (x,Cg (Al x i) (Al x q) pay fee) else (trW x i q gs ws (Al x i-pay+fee) (Al x q-fee+pay),0) by rw [HR5.out,if_neg (by rw [HHB.out];decide)])
       have HT1:=hid (fun W (hh:Au W qw (trN x i q gs ws).wher)=>As2 (Bt5 x i q gs ws) rfl ⟨pd,qa,qac,qk,qkc,qw,qwc⟩ i W HX.out hh)
       have HT2:=hid (fun W (hh:Au W qw (trN x i q gs ws).wher)=>As2 (Bt5 x i q gs ws) rfl ⟨pd,qa,qac,qk,qkc,qw,qwc⟩ q W HX.out hh)
       generalize roomI (trN x i q gs ws) ⟨1,(i:Int)⟩=t1 at *
       generalize roomI (trN x i q gs ws) ⟨1,(q:Int)⟩=t2 at *
       clear O7 HHJ HR5 hB7 hO7 hqm
       go_wp2_with fail
       refine (HT1.out _ O8.out.pls).mono ?_
       rintro e w8 ⟨rfl,b8⟩
       have O9:=hid (O8.out.call b8)
       have D9:=hid (D7.out.call b8)
       have HB9:=hid (HB7.out.trans (b8.mono HB7.out.size))
       have C9:=hid (C7.out.call b8)
       clear b8 hc1 hl1 hcm hlm hn hnl O8 D7 HB7 C7
       by_cases ht1:t1<0
       ·have ht:True:=trivial
        have HRv:=hid (show R=(x,9) by rw [HR6.out,if_pos (.inl ht1)])
        have hca:=C9.out.a.cell
        have hla:=C9.out.a.lt
        obtain ⟨hcr,hzr,hlr⟩:=C9.out.rr
        go_wp2_with fail
        refine bodyPost_ret (v:=.tuple #[.agg (wC x ⟨pd,some ⟨ab,ao,none⟩,pac,some ⟨kb,ko,none⟩,pkc,pw,pwc⟩),.int .i64 9]) (by simp [results,results28,go_sem,hcr]) rfl ⟨⟨pd,some ⟨ab,ao,none⟩,pac,some ⟨kb,ko,none⟩,pkc,pw,pwc⟩,Tz (by rw [HRv.out]),.inl (by rw [HRv.out];exact ⟨by simp,rfl,rfl⟩),?_⟩
        iterate 11 refine bs_2 ?_
        exact C9.out.b
       have hn:=D9.out.cell
       have hnl:=D9.out.lt
       go_wp2_with fail
       refine (HT2.out _ O9.out.pls).mono ?_
       rintro e w9 ⟨rfl,b9⟩
       have OA:=hid (O9.out.call b9)
       have DA:=hid (D9.out.call b9)
       have HBA:=hid (HB9.out.trans (b9.mono HB9.out.size))
       have CA:=hid (C9.out.call b9)
       clear b9 hn hnl O9 D9 HB9 C9
       by_cases ht2:t2<0
       ·have ht:True:=trivial
        have HRv:=hid (show R=(x,9) by rw [HR6.out,if_pos (.inr ht2)])
        have hca:=CA.out.a.cell
        have hla:=CA.out.a.lt
        obtain ⟨hcr,hzr,hlr⟩:=CA.out.rr
        go_wp2_with fail
        refine bodyPost_ret (v:=.tuple #[.agg (wC x ⟨pd,some ⟨ab,ao,none⟩,pac,some ⟨kb,ko,none⟩,pkc,pw,pwc⟩),.int .i64 9]) (by simp [results,results28,go_sem,hcr]) rfl ⟨⟨pd,some ⟨ab,ao,none⟩,pac,some ⟨kb,ko,none⟩,pkc,pw,pwc⟩,Tz (by rw [HRv.out]),.inl (by rw [HRv.out];exact ⟨by simp,rfl,rfl⟩),?_⟩
        iterate 11 refine bs_2 ?_
        exact CA.out.b
       have HR7:=hid (show R=if ¬Cg (Al x i) (Al x q) pay fee=0 then (x,Cg (Al x i) (Al x q) pay fee) else (trW x i q gs ws (Al x i-pay+fee) (Al x q-fee+pay),0) by rw [HR6.out,if_neg (by omega)])
       have k1:=Ad (HCO.out i HI.out) CA.out.b
       have k2:=Ad (HCO.out q HQ.out) CA.out.b
       obtain ⟨li,-,a0,a1⟩:=An8 HX.out HI.out
       obtain ⟨lq,-,b0,b1⟩:=An8 HX.out HQ.out
       have A0:=hid a0
       have A1:=hid a1
       have B0:=hid b0
       have B1:=hid b1
       have qi:¬(x.coins.length:Int)≤(i:Int):=by omega
       have qi2:(x.coins.length≤i)=False:=by simp;omega
       have qq:¬(x.coins.length:Int)≤(q:Int):=by omega
       have qq2:(x.coins.length≤q)=False:=by simp;omega
       have LI:=hid li
       have LQ:=hid lq
       have HA:=hid (fun (h:Cg (Al x i) (Al x q) pay fee=0)=>(show Dx (Al x i) (Al x q) pay fee=Al x i-pay+fee by unfold Dx;rw [if_pos h]))
       have HB:=hid (fun (h:Cg (Al x i) (Al x q) pay fee=0)=>(show Dw (Al x i) (Al x q) pay fee=Al x q-fee+pay by unfold Dw;rw [if_pos h]))
       have HSW:=hid (fun W=>Bf2 (Al x i) (Al x q) pay fee W A0.out A1.out B0.out B1.out)
       clear a0 a1 b0 b1 li lq HR6 A0 A1 B0 B1
       generalize Al x i=cI at *
       generalize Al x q=cQ at *
       generalize Cg cI cQ pay fee=S at *
       generalize Dx cI cQ pay fee=sA at *
       generalize Dw cI cQ pay fee=sB at *
       have hc1:=CA.out.a.cell
       have hl1:=CA.out.a.lt
       have hcm:∀i,World.cell? _ ⟨w.heap.size+1,i,none⟩=_:=CA.out.m.cell
       have hlm:=CA.out.m.lt
       go_wp2_with fail
       refine tkS (S:=(fun w'=>(∀i,w'.cell? ⟨w.heap.size,i,none⟩=((wC x ⟨pd,some ⟨ab,ao,none⟩,pac,some ⟨kb,ko,none⟩,pkc,pw,pwc⟩)[i]?:Option Value))∧(∀j,w'.cell? ⟨w.heap.size+1,j,none⟩=(#[.int .i64 kd,.int .i64 di,.int .i64 it,.int .i64 bx,.int .i64 (q:Int),.slice ga gl.length gc,.int .i64 pay,.slice wa wl.length wc,.int .i64 fee][j]?:Option Value))∧w'.cell? ⟨kb,ko+i,none⟩=some (.int .i64 cI)∧w'.cell? ⟨kb,ko+q,none⟩=some (.int .i64 cQ))) (by (first|(exact ⟨hc1,hcm,k1,k2⟩))) (fun hHeld=>?_)
       clear hc1 hl1 hcm hlm k1 k2
       refine tkl [0,1,2,3,4,5,6,7,8,9,10,11,12,13] ?_
       iterate 14
        refine tW ?_
        try go_frame
       refine rdy1 14 (fun K hK=>?_)
       go_simp
       refine (HSW.out _).mono ?_;rintro e w' ⟨rfl,rfl⟩
       try go_wp2_with fail
       refine hK.out _ _ (by (first|(with_reducible exact hHeld))) (fun hHeld=>?_)
       clear hK K
       try go_frame
       refine tkl [15,16,17,18,19,20,21] ?_
       iterate 7
        refine tW ?_
        try go_frame
       refine tkD ?_
       clear hHeld
       have CB:=hid CA.out.drew2
       have OB:=hid OA.out.drew
       have DB:=hid (show Blk w9.drew N _ _ from DA.out)
       have HBB:=hid (Af HBA.out)
       clear CA OA DA HBA
       generalize w9.drew=WB at *
       by_cases hne:S=0
       case neg =>
        have hne2:(S != 0)=true:=by simpa using hne
        have HRv:=hid (show R=(x,S) by rw [HR7.out,if_pos hne])
        have hca:=CB.out.a.cell
        have hla:=CB.out.a.lt
        obtain ⟨hcr,hzr,hlr⟩:=CB.out.rr
        go_wp2_with fail
        refine bodyPost_ret (v:=.tuple #[.agg (wC x ⟨pd,some ⟨ab,ao,none⟩,pac,some ⟨kb,ko,none⟩,pkc,pw,pwc⟩),.int .i64 S]) (by simp [results,results28,go_sem,hcr]) rfl ⟨⟨pd,some ⟨ab,ao,none⟩,pac,some ⟨kb,ko,none⟩,pkc,pw,pwc⟩,Tz (by rw [HRv.out]),.inl (by rw [HRv.out];exact ⟨by simpa using hne2,rfl,rfl⟩),?_⟩
        iterate 11 refine bs_2 ?_
        exact CB.out.b
       case pos =>
       subst hne
       have HRv:=hid (show R=(trW x i q gs ws (cI-pay+fee) (cQ-fee+pay),0) by rw [HR7.out,if_neg (by simp)])
       rw [HA.out rfl,HB.out rfl]
       generalize cI-pay+fee=a at *
       generalize cQ-fee+pay=b at *
       clear HA HB HR7 HSW qi qi2 qq qq2
       obtain ⟨gk,eg,hg3,hg5,cz,fz,hput⟩:=OB.out.putCo (k:=i) LI.out
       simp only at eg
       subst eg
       have hgN:gk<N:=HQK.out _ rfl
       obtain ⟨g',eg,-,-,cz2,fz2,hput2⟩:=(hput a).putCo (k:=q) (by show q<(x.coins.set i a).length;simpa using LQ.out)
       simp only [Option.some.injEq,Addr.mk.injEq] at eg
       obtain ⟨rfl,-⟩:=eg
       have OE:=hid (show Cc W2.heap.size _ pd ⟨pd,qa,qac,some ⟨gk,0,none⟩,qkc,qw,qwc⟩ (trW x i q gs ws a b) from hput2 b)
       have n1:N≠gk:=by omega
       have n2:gk≠N:=by omega
       have hw3:=C2.out.size
       have n3:w.heap.size+1+1≠gk:=by omega
       have n4:gk≠w.heap.size+1+1:=by omega
       have n5:w.heap.size≤gk:=by omega
       have CE:=hid ((CB.out.gfar (g:=gk) (by omega) i (.int .i64 a)).gfar (g:=gk) (by omega) q (.int .i64 b))
       have DE:=hid ((DB.out.far n1 (.int .i64 a) (p:=⟨gk,i,none⟩)).far n1 (.int .i64 b) (p:=⟨gk,q,none⟩))
       have hi2:¬(x.coins.length:Int)≤(i:Int):=by have:=LI.out;omega
       have hi3:(x.coins.length≤i)=False:=by have:=LI.out;simp;omega
       have hq2:¬(x.coins.length:Int)≤(q:Int):=by have:=LQ.out;omega
       have hq3:(x.coins.length≤q)=False:=by have:=LQ.out;simp;omega
       have cz:=cz
       have fz':=fz i
       have fz2':=fz2 q
       have hn:=DB.out.cell
       have hnl:=DB.out.lt
       clear hput hput2 fz fz2
       go_upto_region 40 with fail
       have DD:=hid (DB.out.far n1 (.int .i64 a) (p:=⟨gk,i,none⟩))
       have BE:=hid ((HBB.out.setCell (p:=⟨gk,i,none⟩) hg3 (.int .i64 a)).setCell (p:=⟨gk,q,none⟩) hg3 (.int .i64 b))
       clear cz fz' hn hnl DB CB OB HBB hi2 hi3
       generalize WB.setCell ⟨gk,i,none⟩ (.int .i64 a)=WD at *
       have hn:=DD.out.cell
       have hnl:=DD.out.lt
       have hgl:gk<WD.heap.size:=by have:=DD.out.lt;omega
       go_upto_region 41 with fail
       clear cz2 fz2' hn hnl DD hq2 hq3 hgl
       generalize WD.setCell ⟨gk,q,none⟩ (.int .i64 b)=WE at *
       have hn:=DE.out.cell
       have hnl:=DE.out.lt
       obtain ⟨hcr,hzr,hlr⟩:=CE.out.rr
       go_wp2_with fail
       refine bodyPost_ret (v:=.tuple #[.agg (wC x ⟨pd,qa,qac,some ⟨gk,0,none⟩,qkc,qw,qwc⟩),.int .i64 0]) (by simp [results,results28,go_sem,hcr]) rfl ⟨⟨pd,qa,qac,some ⟨gk,0,none⟩,qkc,qw,qwc⟩,Tz (by rw [HRv.out]),.inr (by rw [HRv.out];refine ⟨rfl,rfl,?_⟩;show Cc w.heap.size _ pd _ _;refine Cc.less (n:=W2.heap.size) ?_ (by have:=C2.out.size;omega);(iterate 11 refine Cc.set (b:=w.heap.size+2) ?_ (by have:=C2.out.size;omega) _ _);exact OE.out),?_⟩
       iterate 11 refine bs_2 ?_
       exact CE.out.b
theorem Ax4 (x:Wd) (p:Wp) (i:Nat) (kd di it bx who pay fee:Int) (gl wl:List Int) (ga wa:Option Addr) (gc wc:Nat) (w:World) (hx:Ai x=true) (h:Ab w p x) (hi:i<x.at_.length) (hg:Ae w ga gl) (hw:Ae w wa wl) (hgl:gl.length≤16) (hwl:wl.length≤16) :
 Calls prog 28 #[.agg (wC x p),.int .i64 (i:Int),.agg #[.int .i64 kd,.int .i64 di,.int .i64 it,.int .i64 bx,.int .i64 who,.slice ga gl.length gc,.int .i64 pay,.slice wa wl.length wc,.int .i64 fee]] w fun e w'=>∃p':Wp,e=.returned (.tuple #[.agg (wC x p'),.int .i64 (Ca x i who gl wl pay fee).2])∧Ae6 w.heap.size w' p p' x (Ca x i who gl wl pay fee)∧Below w.heap.size w w':=by
 obtain ⟨li,ei,-,-⟩:=An8 hx hi
 obtain ⟨kb,ko,ea,hkb,hc⟩:=h.co.at_ li
 obtain ⟨ab,ao,eb,hab,hat⟩:=h.at_.at_ hi
 obtain ⟨pd,pa,pac,pk,pkc,pw,pwc⟩:=p
 simp only at ea eb
 subst ea eb
 exact Cn5 x pd ab ao pac kb ko pkc pw pwc i kd di it bx who pay fee gl wl ga wa gc wc w hx h hi hg hw hgl hwl (fun j hj=>by
  have:=hat j hj
  rwa [(Bn hx hj).1] at this) (fun j hj=>by
  obtain ⟨lj,ej,-,-⟩:=An8 hx hj
  have:=hc j lj
  rwa [ej] at this) _ rfl
end
end Go.Proofs.Ytenpcndoilcjcaa
