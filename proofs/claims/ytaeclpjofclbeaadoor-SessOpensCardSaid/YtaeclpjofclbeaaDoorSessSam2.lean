/- sess: Same: sessions of unlike phases are not the same. -/
import Derived.Test.YtaeclpjofclbeaaDoorSessSame
namespace Go.Proofs.YtaeclpjofclbeaaDoor
open Go.ChangeShapes Go.WideShapes Go.ChangeAt Go.RowKit
open Lib (hid)
set_option linter.unusedVariables false
open Go.RowKit Go
theorem run_snums_go (a1 a2 a3 a4 a5 a6 a7 a8 a9 b1 b2 b3 b4 b5 b6 b7 b8 b9:Int) (a0 b0:Bool) (h:¬a3=b3) (w:World):(binOp .eql 50 (.agg #[.int .i64 a1,.int .i64 a2,.int .i64 a3,.int .i64 a4,.int .i64 a5,.int .i64 a6,.int .i64 a7,.int .i64 a8,.int .i64 a9,.bool a0]) (.agg #[.int .i64 b1,.int .i64 b2,.int .i64 b3,.int .i64 b4,.int .i64 b5,.int .i64 b6,.int .i64 b7,.int .i64 b8,.int .i64 b9,.bool b0])).run Tryd.prog w=.ok (.bool false) w:=by
 by_cases e1:a1=b1
 ·by_cases e2:a2=b2
  ·subst e1 e2;rw [run_eql_struct];go_simp
  ·rw [run_eql_struct];go_simp
 ·rw [run_eql_struct];go_simp
set_option maxRecDepth 100000 in
set_option maxHeartbeats 2000000 in
theorem ssame_no (a b:Sl) (w:World) (h:¬a.phase=b.phase):Calls Tryd.prog 8 #[.agg (slC a).toArray,.agg (slC b).toArray] w fun e w'=>e=.returned (.bool false)∧Below w.heap.size w w':=by
 have hrn:∀w,(binOp .eql 50 (.agg #[.int .i64 a.player,.int .i64 a.next,.int .i64 a.phase,.int .i64 a.step,.int .i64 a.has,.int .i64 a.tries,.int .i64 a.ver,.int .i64 a.room,.int .i64 a.purse,.bool a.stale]) (.agg #[.int .i64 b.player,.int .i64 b.next,.int .i64 b.phase,.int .i64 b.step,.int .i64 b.has,.int .i64 b.tries,.int .i64 b.ver,.int .i64 b.room,.int .i64 b.purse,.bool b.stale])).run Tryd.prog w=.ok (.bool false) w:=fun w=>run_snums_go _ _ _ _ _ _ _ _ _ _ _ _ _ _ _ _ _ _ _ _ h w
 clear h
 have C0:=hid (Two.start 34 34 w #[.int .i64 a.player,.slice a.la a.ls.length a.lc,.int .i64 a.next,.int .i64 a.phase,.int .i64 a.step,.int .i64 a.c.kind,.int .i64 a.c.dir,.int .i64 a.c.item,.int .i64 a.c.box,.int .i64 a.c.who,.slice a.ga a.c.gives.length a.gc,.int .i64 a.c.pay,.slice a.wa a.c.wants.length a.wc,.int .i64 a.c.fee,.slice a.fa a.foot.length a.fc,.int .i64 a.has,.slice a.pa a.plan.length a.pc,.int .i64 a.r.err,.int .i64 a.r.kind,.int .i64 a.r.room,.slice a.rpa a.r.players.length a.rpc,.slice a.ria a.r.items.length a.ric,.int .i64 a.r.coins,.bool a.stale,.int .i64 a.tries,.int .i64 a.ver,.int .i64 a.room,.slice a.ca a.copies.length a.cc,.slice a.ha a.heads.length a.hc,.int .i64 a.purse] #[.int .i64 b.player,.slice b.la b.ls.length b.lc,.int .i64 b.next,.int .i64 b.phase,.int .i64 b.step,.int .i64 b.c.kind,.int .i64 b.c.dir,.int .i64 b.c.item,.int .i64 b.c.box,.int .i64 b.c.who,.slice b.ga b.c.gives.length b.gc,.int .i64 b.c.pay,.slice b.wa b.c.wants.length b.wc,.int .i64 b.c.fee,.slice b.fa b.foot.length b.fc,.int .i64 b.has,.slice b.pa b.plan.length b.pc,.int .i64 b.r.err,.int .i64 b.r.kind,.int .i64 b.r.room,.slice b.rpa b.r.players.length b.rpc,.slice b.ria b.r.items.length b.ric,.int .i64 b.r.coins,.bool b.stale,.int .i64 b.tries,.int .i64 b.ver,.int .i64 b.room,.slice b.ca b.copies.length b.cc,.slice b.ha b.heads.length b.hc,.int .i64 b.purse])
 change Calls _ _ #[.agg #[.int .i64 a.player,.slice a.la a.ls.length a.lc,.int .i64 a.next,.int .i64 a.phase,.int .i64 a.step,.int .i64 a.c.kind,.int .i64 a.c.dir,.int .i64 a.c.item,.int .i64 a.c.box,.int .i64 a.c.who,.slice a.ga a.c.gives.length a.gc,.int .i64 a.c.pay,.slice a.wa a.c.wants.length a.wc,.int .i64 a.c.fee,.slice a.fa a.foot.length a.fc,.int .i64 a.has,.slice a.pa a.plan.length a.pc,.int .i64 a.r.err,.int .i64 a.r.kind,.int .i64 a.r.room,.slice a.rpa a.r.players.length a.rpc,.slice a.ria a.r.items.length a.ric,.int .i64 a.r.coins,.bool a.stale,.int .i64 a.tries,.int .i64 a.ver,.int .i64 a.room,.slice a.ca a.copies.length a.cc,.slice a.ha a.heads.length a.hc,.int .i64 a.purse],.agg #[.int .i64 b.player,.slice b.la b.ls.length b.lc,.int .i64 b.next,.int .i64 b.phase,.int .i64 b.step,.int .i64 b.c.kind,.int .i64 b.c.dir,.int .i64 b.c.item,.int .i64 b.c.box,.int .i64 b.c.who,.slice b.ga b.c.gives.length b.gc,.int .i64 b.c.pay,.slice b.wa b.c.wants.length b.wc,.int .i64 b.c.fee,.slice b.fa b.foot.length b.fc,.int .i64 b.has,.slice b.pa b.plan.length b.pc,.int .i64 b.r.err,.int .i64 b.r.kind,.int .i64 b.r.room,.slice b.rpa b.r.players.length b.rpc,.slice b.ria b.r.items.length b.ric,.int .i64 b.r.coins,.bool b.stale,.int .i64 b.tries,.int .i64 b.ver,.int .i64 b.room,.slice b.ca b.copies.length b.cc,.slice b.ha b.heads.length b.hc,.int .i64 b.purse]] _ _
 go_enter Tryd.func8,Tryd.ntmps8
 go_upto_region 1 with fail
 generalize (w.alloc (.cells #[.int .i64 a.player,.slice a.la a.ls.length a.lc,.int .i64 a.next,.int .i64 a.phase,.int .i64 a.step,.int .i64 a.c.kind,.int .i64 a.c.dir,.int .i64 a.c.item,.int .i64 a.c.box,.int .i64 a.c.who,.slice a.ga a.c.gives.length a.gc,.int .i64 a.c.pay,.slice a.wa a.c.wants.length a.wc,.int .i64 a.c.fee,.slice a.fa a.foot.length a.fc,.int .i64 a.has,.slice a.pa a.plan.length a.pc,.int .i64 a.r.err,.int .i64 a.r.kind,.int .i64 a.r.room,.slice a.rpa a.r.players.length a.rpc,.slice a.ria a.r.items.length a.ric,.int .i64 a.r.coins,.bool a.stale,.int .i64 a.tries,.int .i64 a.ver,.int .i64 a.room,.slice a.ca a.copies.length a.cc,.slice a.ha a.heads.length a.hc,.int .i64 a.purse] 34)).alloc (.cells #[.int .i64 b.player,.slice b.la b.ls.length b.lc,.int .i64 b.next,.int .i64 b.phase,.int .i64 b.step,.int .i64 b.c.kind,.int .i64 b.c.dir,.int .i64 b.c.item,.int .i64 b.c.box,.int .i64 b.c.who,.slice b.ga b.c.gives.length b.gc,.int .i64 b.c.pay,.slice b.wa b.c.wants.length b.wc,.int .i64 b.c.fee,.slice b.fa b.foot.length b.fc,.int .i64 b.has,.slice b.pa b.plan.length b.pc,.int .i64 b.r.err,.int .i64 b.r.kind,.int .i64 b.r.room,.slice b.rpa b.r.players.length b.rpc,.slice b.ria b.r.items.length b.ric,.int .i64 b.r.coins,.bool b.stale,.int .i64 b.tries,.int .i64 b.ver,.int .i64 b.room,.slice b.ca b.copies.length b.cc,.slice b.ha b.heads.length b.hc,.int .i64 b.purse] 34)=v0 at *
 have C:=hid C0.drew
 clear C0
 refine tkS (S:=(fun w'=>(∀i,w'.cell? ⟨w.heap.size,i,none⟩=(#[.int .i64 a.player,.slice a.la a.ls.length a.lc,.int .i64 a.next,.int .i64 a.phase,.int .i64 a.step,.int .i64 a.c.kind,.int .i64 a.c.dir,.int .i64 a.c.item,.int .i64 a.c.box,.int .i64 a.c.who,.slice a.ga a.c.gives.length a.gc,.int .i64 a.c.pay,.slice a.wa a.c.wants.length a.wc,.int .i64 a.c.fee,.slice a.fa a.foot.length a.fc,.int .i64 a.has,.slice a.pa a.plan.length a.pc,.int .i64 a.r.err,.int .i64 a.r.kind,.int .i64 a.r.room,.slice a.rpa a.r.players.length a.rpc,.slice a.ria a.r.items.length a.ric,.int .i64 a.r.coins,.bool a.stale,.int .i64 a.tries,.int .i64 a.ver,.int .i64 a.room,.slice a.ca a.copies.length a.cc,.slice a.ha a.heads.length a.hc,.int .i64 a.purse][i]?:Option Value))∧(∀i,w'.cell? ⟨w.heap.size+1,i,none⟩=(#[.int .i64 b.player,.slice b.la b.ls.length b.lc,.int .i64 b.next,.int .i64 b.phase,.int .i64 b.step,.int .i64 b.c.kind,.int .i64 b.c.dir,.int .i64 b.c.item,.int .i64 b.c.box,.int .i64 b.c.who,.slice b.ga b.c.gives.length b.gc,.int .i64 b.c.pay,.slice b.wa b.c.wants.length b.wc,.int .i64 b.c.fee,.slice b.fa b.foot.length b.fc,.int .i64 b.has,.slice b.pa b.plan.length b.pc,.int .i64 b.r.err,.int .i64 b.r.kind,.int .i64 b.r.room,.slice b.rpa b.r.players.length b.rpc,.slice b.ria b.r.items.length b.ric,.int .i64 b.r.coins,.bool b.stale,.int .i64 b.tries,.int .i64 b.ver,.int .i64 b.room,.slice b.ca b.copies.length b.cc,.slice b.ha b.heads.length b.hc,.int .i64 b.purse][i]?:Option Value)))) (by (exact ⟨C.a.cell,C.r.cell⟩)) (fun hHeld=>?_)
 refine tkl [0,2] ?_
 refine tW ?_ (hy:=by exact fun ww hSw=>exec_load rfl (load_sess (range_of (s:=a) hSw.1)))
 try go_frame
 refine tW ?_ (hy:=by exact fun ww hSw=>exec_load rfl (load_sess (range_of (s:=b) hSw.2)))
 try go_frame
 refine rdy1 1 (fun K hK=>?_)
 go_simp
 refine (snums_any a _).mono ?_;rintro e w9 ⟨rfl,hb⟩;have C9:=hid (C.call hb);clear hb C;have C:=C9;clear C9
 try go_wp2_with fail
 refine hK.out _ _ (by (exact ⟨C.a.cell,C.r.cell⟩)) (fun hHeld=>?_)
 clear hK K
 try go_frame
 refine rdy1 3 (fun K hK=>?_)
 go_simp
 refine (snums_any b _).mono ?_;rintro e w9 ⟨rfl,hb⟩;have C9:=hid (C.call hb);clear hb C;have C:=C9;clear C9
 try go_wp2_with fail
 refine hK.out _ _ (by (exact ⟨C.a.cell,C.r.cell⟩)) (fun hHeld=>?_)
 clear hK K
 try go_frame
 refine tkl [4,5] ?_
 iterate 2
  refine tW ?_
  try go_frame
 refine tkl [6,7,8,9,10] ?_
 iterate 5
  refine tN ?_
  try go_frame
 refine tkl [11,12] ?_
 iterate 2
  refine tW ?_
  try go_frame
 refine tkl [13,14,15,16,17] ?_
 iterate 5
  refine tN ?_
  try go_frame
 refine tkl [18,19] ?_
 iterate 2
  refine tW ?_
  try go_frame
 refine tkl [20,21,22,23,24] ?_
 iterate 5
  refine tN ?_
  try go_frame
 refine tkl [25,26] ?_
 iterate 2
  refine tW ?_
  try go_frame
 refine tkl [27,28,29,30,31] ?_
 iterate 5
  refine tN ?_
  try go_frame
 refine tkl [32,33] ?_
 iterate 2
  refine tW ?_
  try go_frame
 refine tkl [34,35,36,37,38] ?_
 iterate 5
  refine tN ?_
  try go_frame
 refine tkl [39,40] ?_
 iterate 2
  refine tW ?_
  try go_frame
 refine tkl [41,42,43,44,45] ?_
 iterate 5
  refine tN ?_
  try go_frame
 refine tkl [46,47] ?_
 iterate 2
  refine tW ?_
  try go_frame
 refine tkl [48,49,50,51,52] ?_
 iterate 5
  refine tN ?_
  try go_frame
 refine tkl [53,54] ?_
 iterate 2
  refine tW ?_
  try go_frame
 refine tkD ?_
 go_wp2_with fail
 go_ret
 exact ⟨Ag rfl,C.b⟩
end Go.Proofs.YtaeclpjofclbeaaDoor
