/- sess: copyCmd, between, New, Close, withOwnLists, Anew. -/
import Derived.Test.YtaeclpjofclbeaaDoorGSess
import Derived.Test.YtaeclpjofclbeaaDoorSessBlk
import Derived.Test.YtaeclpjofclbeaaDoorSessClone
import Derived.Deep.DeepCutAuto
namespace Go.Proofs.YtaeclpjofclbeaaDoor
open Go.ChangeShapes Go.WideShapes Go.ChangeAt Go.RowKit Go.Proofs.Tryd
open Lib (hid)
set_option linter.unusedVariables false
set_option maxRecDepth 100000
open Go.RowKit Go
theorem copycmd_any (c:Cm) (ga wa:Option Addr) (gc wc:Nat) (w:World) (h1:Ae w ga c.gives) (h2:Ae w wa c.wants) (l1:c.gives.length≤1000000) (l2:c.wants.length≤1000000) :
 Calls prog 17 #[.agg (cC c ga gc wa wc)] w fun e w'=>∃(gb:Option Addr) (gd:Nat) (wb:Option Addr) (wd:Nat),e=.returned (.agg (cC c gb gd wb wd))∧OwnR 1 3 inC w.heap.size w' gb c.gives∧OwnR 1 3 inC w.heap.size w' wb c.wants∧Below w.heap.size w w':=by
 have H1:=hid h1
 have H2:=hid h2
 clear h1 h2
 have C0:=hid (Two.start 25 25 w (cC c ga gc wa wc) #[.int .i64 0,.int .i64 0,.int .i64 0,.int .i64 0,.int .i64 0,.slice none 0 0,.int .i64 0,.slice none 0 0,.int .i64 0])
 have hCC:=@cC.eq_1
 go_enter func17,ntmps17
 go_wp2_with fail
 generalize (w.alloc (.cells (cC c ga gc wa wc) 25)).alloc (.cells #[.int .i64 0,.int .i64 0,.int .i64 0,.int .i64 0,.int .i64 0,.slice none 0 0,.int .i64 0,.slice none 0 0,.int .i64 0] 25)=v0 at *
 refine (Gv _ _ _ v0 (Av.1 (H1.below C0.b lr0)) l1).mono ?_
 rintro e w1 ⟨g0,c0,rfl,o0,b0⟩
 have O0:=hid (o0.less C0.size)
 have D0:=hid (C0.call b0)
 have C1:=hid (show Two 25 25 w (w1.setCell ⟨w.heap.size,5,none⟩ (.slice g0 c.gives.length c0)) (cC c g0 c0 wa wc) #[.int .i64 0,.int .i64 0,.int .i64 0,.int .i64 0,.int .i64 0,.slice none 0 0,.int .i64 0,.slice none 0 0,.int .i64 0] from D0.set 5 _)
 have O0:=hid (O0.set (q:=w.heap.size) (by omega) 5 (.slice g0 c.gives.length c0))
 have hc:=D0.a.cell
 have hz:=D0.a.frozen
 clear o0 b0 C0 D0
 go_wp2_with fail
 clear hc hz
 generalize w1.setCell ⟨w.heap.size,5,none⟩ (.slice g0 c.gives.length c0)=v1 at *
 refine (Gv _ _ _ v1 (Av.1 (H2.below C1.b lr0)) l2).mono ?_
 rintro e w2 ⟨g1,c1,rfl,o1,b1⟩
 have O1:=hid (o1.less C1.size)
 have O0:=hid (O0.call b1)
 have D1:=hid (C1.call b1)
 have C2:=hid (show Two 25 25 w (w2.setCell ⟨w.heap.size,7,none⟩ (.slice g1 c.wants.length c1)) (cC c g0 c0 g1 c1) #[.int .i64 0,.int .i64 0,.int .i64 0,.int .i64 0,.int .i64 0,.slice none 0 0,.int .i64 0,.slice none 0 0,.int .i64 0] from D1.set 7 _)
 have O0:=hid (O0.set (q:=w.heap.size) (by omega) 7 (.slice g1 c.wants.length c1))
 have O1:=hid (O1.set (q:=w.heap.size) (by omega) 7 (.slice g1 c.wants.length c1))
 have hc:=D1.a.cell
 have hz:=D1.a.frozen
 clear o1 b1 C1 D1
 go_upto_region 3 with fail
 clear hc hz
 generalize w2.setCell ⟨w.heap.size,7,none⟩ (.slice g1 c.wants.length c1)=v2 at *
 have O0:=hid (O0.sets (q:=w.heap.size+1) (by omega) (cmL c g0 c0 g1 c1) 0)
 have O1:=hid (O1.sets (q:=w.heap.size+1) (by omega) (cmL c g0 c0 g1 c1) 0)
 go_upto_region 99 with first
  | refine wpList_load_mid rfl 25 (.tmp 1) rfl w.heap.size 0 rfl (cmL c g0 c0 g1 c1) _ (blk_range (L:=cmL c g0 c0 g1 c1) C2.a) underlying25 rfl cmd_size ?_
  | refine wpList_store_mid rfl 25 (.tmp 2) (.tmp 11) rfl (w.heap.size+1) 0 (cmL c g0 c0 g1 c1).toArray rfl rfl (blk_there C2.r (by simp [cmL])) cmd_size (cmL_cells c g0 c0 g1 c1) ?_
 try simp only [Exit.inBlock,Exit.then]
 refine bodyPost_ret (v:=.agg (cmL c g0 c0 g1 c1).toArray) ?_ rfl ?_
 ·exact res_at (b:=w.heap.size+1) (L:=cmL c g0 c0 g1 c1) rfl rfl (blk_range (blk_stored C2.r rfl)) underlying25 rfl cmd_size
 ·exact ⟨g0,c0,g1,c1,rfl,O0.less (by omega),O1.less (by omega),below_sets (by omega) _ _ C2.b⟩
def phR (ls:List ByteArray) (n:Int):Int:=if 0≤n∧n<ls.length then 0 else 12
set_option maxHeartbeats 1000000 in
theorem between_any (p n0:Int) (ls:List ByteArray) (la:Option Addr) (lc:Nat) (w:World) :
 Calls prog 28 #[.int .i64 p,.slice la ls.length lc,.int .i64 n0] w fun e w'=>e=.returned (.agg (slC (s0 p ls la lc n0 (phR ls n0))).toArray)∧Below w.heap.size w w':=by
 have hCC:=@cC.eq_1
 go_enter func28,ntmps28
 go_upto_region 1 with fail
 refine gen_at (fun V=>Blk V w.heap.size 34 #[.int .i64 0,.slice none 0 0,.int .i64 0,.int .i64 0,.int .i64 0,.int .i64 0,.int .i64 0,.int .i64 0,.int .i64 0,.int .i64 0,.slice none 0 0,.int .i64 0,.slice none 0 0,.int .i64 0,.slice none 0 0,.int .i64 0,.slice none 0 0,.int .i64 0,.int .i64 0,.int .i64 0,.slice none 0 0,.slice none 0 0,.int .i64 0,.bool false,.int .i64 0,.int .i64 0,.int .i64 0,.slice none 0 0,.slice none 0 0,.int .i64 0]∧Below w.heap.size w V) ⟨Blk.new w _ _,b_a _⟩ (fun V hV=>?_)
 have HA:=hid hV.1
 have HB:=hid hV.2
 clear hV
 go_upto_region 2 with refine wpList_store_mid rfl 34 (.tmp 7) (.tmp 11) rfl V.heap.size 0 (slC (s0 p ls la lc n0 0)).toArray rfl rfl (there_new V #[.int .i64 0,.slice none 0 0,.int .i64 0,.int .i64 0,.int .i64 0,.int .i64 0,.int .i64 0,.int .i64 0,.int .i64 0,.int .i64 0,.slice none 0 0,.int .i64 0,.slice none 0 0,.int .i64 0,.slice none 0 0,.int .i64 0,.slice none 0 0,.int .i64 0,.int .i64 0,.int .i64 0,.slice none 0 0,.slice none 0 0,.int .i64 0,.bool false,.int .i64 0,.int .i64 0,.int .i64 0,.slice none 0 0,.slice none 0 0,.int .i64 0] _) sess_size (slC_cells _) ?_
 obtain ⟨n,hn⟩:∃n,w.heap.size=n:=⟨_,rfl⟩
 obtain ⟨m,hm⟩:∃m,V.heap.size=m:=⟨_,rfl⟩
 have hnm:n<m:=by rw [←hn,←hm];exact HA.lt
 rw [hn,hm]
 refine gen_at (fun V=>SB w V n m #[.int .i64 0,.slice none 0 0,.int .i64 0,.int .i64 0,.int .i64 0,.int .i64 0,.int .i64 0,.int .i64 0,.int .i64 0,.int .i64 0,.slice none 0 0,.int .i64 0,.slice none 0 0,.int .i64 0,.slice none 0 0,.int .i64 0,.slice none 0 0,.int .i64 0,.int .i64 0,.int .i64 0,.slice none 0 0,.slice none 0 0,.int .i64 0,.bool false,.int .i64 0,.int .i64 0,.int .i64 0,.slice none 0 0,.slice none 0 0,.int .i64 0] (s0 p ls la lc n0 0)) ⟨blk_far (by omega) _ _ ((hn ▸ HA.out).alloc _),blk_stored (Blk.newn _ _ _ hm) rfl,below_sets (by omega) _ _ (HB.alloc HB.size _),by omega,by omega,by omega⟩ (fun V1 hV=>?_)
 have C:=hid hV
 clear hV HA HB
 go_upto_region 99 with refine wpList_load_mid rfl 34 (.tmp 7) rfl m 0 rfl (slC (s0 p ls la lc n0 0)) _ C.range underlying34 rfl sess_size ?_
 refine (hasnext_any (s0 p ls la lc n0 0) V1).mono ?_
 rintro e w1 ⟨rfl,b1⟩
 have C:=hid (C.call b1)
 clear b1
 by_cases hh:0≤n0∧n0<ls.length
 ·have e1:(decide (0≤(s0 p ls la lc n0 0).next)&&decide ((s0 p ls la lc n0 0).next<(s0 p ls la lc n0 0).ls.length))=true:=by show (decide (0≤n0)&&decide (n0<ls.length))=true;simpa using hh
  have HH:=hid hh
  rw [e1]
  clear hh
  clear e1
  go_upto_region 99 with first
   | refine wpList_load_mid rfl 34 (.tmp 7) rfl m 0 rfl (slC (s0 p ls la lc n0 0)) _ C.range underlying34 rfl sess_size ?_
   | refine wpList_store_mid rfl 34 (.tmp 6) (.tmp 16) rfl n 0 (slC (s0 p ls la lc n0 0)).toArray rfl rfl (C.there rfl) sess_size (slC_cells _) ?_
  try simp only [Exit.inBlock,Exit.then]
  refine bodyPost_ret (v:=.agg (slC (s0 p ls la lc n0 0)).toArray) ?_ rfl ?_
  ·exact res_sess (b:=n) rfl rfl (blk_range (C.fin rfl).1)
  ·exact ⟨by rw [show phR ls n0=0 from if_pos HH.out],(C.fin rfl).2⟩
 ·have e1:(decide (0≤(s0 p ls la lc n0 0).next)&&decide ((s0 p ls la lc n0 0).next<(s0 p ls la lc n0 0).ls.length))=false:=by show (decide (0≤n0)&&decide (n0<ls.length))=false;simpa using hh
  have HH:=hid hh
  rw [e1]
  clear e1 hh
  have hc3:=C.cell 3 (.int .i64 0) rfl
  have hz3:=C.sb.frozen 3
  have hlm:=C.sb.lt
  go_upto_region 4 with fail
  clear hc3 hz3 hlm
  refine gen_at (fun V=>SB w V n m #[.int .i64 0,.slice none 0 0,.int .i64 0,.int .i64 0,.int .i64 0,.int .i64 0,.int .i64 0,.int .i64 0,.int .i64 0,.int .i64 0,.slice none 0 0,.int .i64 0,.slice none 0 0,.int .i64 0,.slice none 0 0,.int .i64 0,.slice none 0 0,.int .i64 0,.int .i64 0,.int .i64 0,.slice none 0 0,.slice none 0 0,.int .i64 0,.bool false,.int .i64 0,.int .i64 0,.int .i64 0,.slice none 0 0,.slice none 0 0,.int .i64 0] (s0 p ls la lc n0 12)) (C.set 3 _ rfl) (fun V2 hV=>?_)
  have C:=hid hV
  clear hV
  go_upto_region 99 with first
   | refine wpList_load_mid rfl 34 (.tmp 7) rfl m 0 rfl (slC (s0 p ls la lc n0 12)) _ C.range underlying34 rfl sess_size ?_
   | refine wpList_store_mid rfl 34 (.tmp 6) (.tmp 16) rfl n 0 (slC (s0 p ls la lc n0 12)).toArray rfl rfl (C.there rfl) sess_size (slC_cells _) ?_
  try simp only [Exit.inBlock,Exit.then]
  refine bodyPost_ret (v:=.agg (slC (s0 p ls la lc n0 12)).toArray) ?_ rfl ?_
  ·exact res_sess (b:=n) rfl rfl (blk_range (C.fin rfl).1)
  ·exact ⟨by rw [show phR ls n0=12 from if_neg HH.out],(C.fin rfl).2⟩
end Go.Proofs.YtaeclpjofclbeaaDoor
