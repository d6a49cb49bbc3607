/- sess: New, Close, withOwnLists, Anew: what they answer, and where it lies. -/
import Derived.Test.YtaeclpjofclbeaaDoorSessGo
namespace Go.Proofs.YtaeclpjofclbeaaDoor
open Go.ChangeShapes Go.WideShapes Go.ChangeAt Go.RowKit Go.Proofs.Tryd
open Lib (hid)
set_option linter.unusedVariables false
set_option maxHeartbeats 2000000
set_option maxRecDepth 100000
open Go.RowKit Go
theorem snew_any (x:Sc) (w:World):Calls prog 12 #[.agg (scC x).toArray] w fun e w'=>e=.returned (.agg (slC (s0 x.player x.ls x.la x.lc 0 (phR x.ls 0))).toArray)∧Below w.heap.size w w':=by
 change Calls _ _ #[.agg #[.int .i64 x.player,.slice x.la x.ls.length x.lc]] _ _
 have C0:=hid (Two.start 42 34 w #[.int .i64 x.player,.slice x.la x.ls.length x.lc] #[.int .i64 0,.slice none 0 0,.int .i64 0,.int .i64 0,.int .i64 0,.int .i64 0,.int .i64 0,.int .i64 0,.int .i64 0,.int .i64 0,.slice none 0 0,.int .i64 0,.slice none 0 0,.int .i64 0,.slice none 0 0,.int .i64 0,.slice none 0 0,.int .i64 0,.int .i64 0,.int .i64 0,.slice none 0 0,.slice none 0 0,.int .i64 0,.bool false,.int .i64 0,.int .i64 0,.int .i64 0,.slice none 0 0,.slice none 0 0,.int .i64 0])
 go_enter func12,ntmps12
 go_wp2_with fail
 generalize (w.alloc (.cells #[.int .i64 x.player,.slice x.la x.ls.length x.lc] 42)).alloc (.cells #[.int .i64 0,.slice none 0 0,.int .i64 0,.int .i64 0,.int .i64 0,.int .i64 0,.int .i64 0,.int .i64 0,.int .i64 0,.int .i64 0,.slice none 0 0,.int .i64 0,.slice none 0 0,.int .i64 0,.slice none 0 0,.int .i64 0,.slice none 0 0,.int .i64 0,.int .i64 0,.int .i64 0,.slice none 0 0,.slice none 0 0,.int .i64 0,.bool false,.int .i64 0,.int .i64 0,.int .i64 0,.slice none 0 0,.slice none 0 0,.int .i64 0] 34)=v0 at *
 refine (between_any x.player 0 x.ls x.la x.lc v0).mono ?_
 rintro e w1 ⟨rfl,b1⟩
 have BB:=hid (bl C0.b b1)
 have ZA:=hid (C0.call b1).r
 clear b1 C0
 go_upto_region 99 with refine wpList_store_mid rfl 34 (.tmp 2) (.tmp 7) rfl (w.heap.size+1) 0 (slC (s0 x.player x.ls x.la x.lc 0 (phR x.ls 0))).toArray rfl rfl (blk_there ZA.out (Nat.le_refl 30)) sess_size (slC_cells _) ?_
 try simp only [Exit.inBlock,Exit.then]
 refine bodyPost_ret (v:=.agg (slC (s0 x.player x.ls x.la x.lc 0 (phR x.ls 0))).toArray) ?_ rfl ?_
 ·exact res_sess (b:=w.heap.size+1) rfl rfl (blk_range (blk_stored ZA.out rfl))
 ·exact ⟨rfl,below_sets (by omega) _ _ BB.out⟩
theorem sclose_any (s:Sl) (w:World) (h0:-1≤s.next) (h1:s.next<9223372036854775807):Calls prog 13 #[.agg (slC s).toArray] w fun e w'=>e=.returned (.agg (slC (s0 s.player s.ls s.la s.lc (s.next+1) (phR s.ls (s.next+1)))).toArray)∧Below w.heap.size w w':=by
 have hwr:IntKind.i64.wrap (s.next+1)=s.next+1:=IntWalk.i64_in _ (by omega)
 have C0:=hid (Two.start 34 34 w #[.int .i64 s.player,.slice s.la s.ls.length s.lc,.int .i64 s.next,.int .i64 s.phase,.int .i64 s.step,.int .i64 s.c.kind,.int .i64 s.c.dir,.int .i64 s.c.item,.int .i64 s.c.box,.int .i64 s.c.who,.slice s.ga s.c.gives.length s.gc,.int .i64 s.c.pay,.slice s.wa s.c.wants.length s.wc,.int .i64 s.c.fee,.slice s.fa s.foot.length s.fc,.int .i64 s.has,.slice s.pa s.plan.length s.pc,.int .i64 s.r.err,.int .i64 s.r.kind,.int .i64 s.r.room,.slice s.rpa s.r.players.length s.rpc,.slice s.ria s.r.items.length s.ric,.int .i64 s.r.coins,.bool s.stale,.int .i64 s.tries,.int .i64 s.ver,.int .i64 s.room,.slice s.ca s.copies.length s.cc,.slice s.ha s.heads.length s.hc,.int .i64 s.purse] #[.int .i64 0,.slice none 0 0,.int .i64 0,.int .i64 0,.int .i64 0,.int .i64 0,.int .i64 0,.int .i64 0,.int .i64 0,.int .i64 0,.slice none 0 0,.int .i64 0,.slice none 0 0,.int .i64 0,.slice none 0 0,.int .i64 0,.slice none 0 0,.int .i64 0,.int .i64 0,.int .i64 0,.slice none 0 0,.slice none 0 0,.int .i64 0,.bool false,.int .i64 0,.int .i64 0,.int .i64 0,.slice none 0 0,.slice none 0 0,.int .i64 0])
 rw [slC_eta]
 go_enter func13,ntmps13
 go_wp2_with fail
 generalize (w.alloc (.cells #[.int .i64 s.player,.slice s.la s.ls.length s.lc,.int .i64 s.next,.int .i64 s.phase,.int .i64 s.step,.int .i64 s.c.kind,.int .i64 s.c.dir,.int .i64 s.c.item,.int .i64 s.c.box,.int .i64 s.c.who,.slice s.ga s.c.gives.length s.gc,.int .i64 s.c.pay,.slice s.wa s.c.wants.length s.wc,.int .i64 s.c.fee,.slice s.fa s.foot.length s.fc,.int .i64 s.has,.slice s.pa s.plan.length s.pc,.int .i64 s.r.err,.int .i64 s.r.kind,.int .i64 s.r.room,.slice s.rpa s.r.players.length s.rpc,.slice s.ria s.r.items.length s.ric,.int .i64 s.r.coins,.bool s.stale,.int .i64 s.tries,.int .i64 s.ver,.int .i64 s.room,.slice s.ca s.copies.length s.cc,.slice s.ha s.heads.length s.hc,.int .i64 s.purse] 34)).alloc (.cells #[.int .i64 0,.slice none 0 0,.int .i64 0,.int .i64 0,.int .i64 0,.int .i64 0,.int .i64 0,.int .i64 0,.int .i64 0,.int .i64 0,.slice none 0 0,.int .i64 0,.slice none 0 0,.int .i64 0,.slice none 0 0,.int .i64 0,.slice none 0 0,.int .i64 0,.int .i64 0,.int .i64 0,.slice none 0 0,.slice none 0 0,.int .i64 0,.bool false,.int .i64 0,.int .i64 0,.int .i64 0,.slice none 0 0,.slice none 0 0,.int .i64 0] 34)=v0 at *
 refine (between_any s.player (s.next+1) s.ls s.la s.lc v0).mono ?_
 rintro e w1 ⟨rfl,b1⟩
 have BB:=hid (bl C0.b b1)
 have ZA:=hid (C0.call b1).r
 clear b1 C0
 go_upto_region 99 with refine wpList_store_mid rfl 34 (.tmp 2) (.tmp 10) rfl (w.heap.size+1) 0 (slC (s0 s.player s.ls s.la s.lc (s.next+1) (phR s.ls (s.next+1)))).toArray rfl rfl (blk_there ZA.out (Nat.le_refl 30)) sess_size (slC_cells _) ?_
 try simp only [Exit.inBlock,Exit.then]
 refine bodyPost_ret (v:=.agg (slC (s0 s.player s.ls s.la s.lc (s.next+1) (phR s.ls (s.next+1)))).toArray) ?_ rfl ?_
 ·exact res_sess (b:=w.heap.size+1) rfl rfl (blk_range (blk_stored ZA.out rfl))
 ·exact ⟨rfl,below_sets (by omega) _ _ BB.out⟩
def AnewQ (s:Sl) (w:World) (e:Ending) (w':World):Prop:=∃(gb:Option Addr) (gd:Nat) (wb:Option Addr) (wd:Nat),e=.returned (.agg (slC (⟨s.player,s.ls,s.la,s.lc,s.next,1,0,s.c,gb,gd,wb,wd,[],none,0,0,[],none,0,⟨0,0,0,[],[],0⟩,none,0,none,0,false,s.tries,0,0,[],none,0,[],none,0,0⟩:Sl)).toArray)∧OwnR 1 3 inC w.heap.size w' gb s.c.gives∧OwnR 1 3 inC w.heap.size w' wb s.c.wants∧Below w.heap.size w w'
theorem sanew_any (s:Sl) (w:World) (h1:Ae w s.ga s.c.gives) (h2:Ae w s.wa s.c.wants) (l1:s.c.gives.length≤1000000) (l2:s.c.wants.length≤1000000) :
 Calls prog 7 #[.agg (slC s).toArray] w (AnewQ s w):=by
 have H1:=hid h1
 have H2:=hid h2
 have L1:=hid l1
 have L2:=hid l2
 clear h1 h2 l1 l2
 have C0:=hid (Two.start 34 34 w #[.int .i64 s.player,.slice s.la s.ls.length s.lc,.int .i64 s.next,.int .i64 s.phase,.int .i64 s.step,.int .i64 s.c.kind,.int .i64 s.c.dir,.int .i64 s.c.item,.int .i64 s.c.box,.int .i64 s.c.who,.slice s.ga s.c.gives.length s.gc,.int .i64 s.c.pay,.slice s.wa s.c.wants.length s.wc,.int .i64 s.c.fee,.slice s.fa s.foot.length s.fc,.int .i64 s.has,.slice s.pa s.plan.length s.pc,.int .i64 s.r.err,.int .i64 s.r.kind,.int .i64 s.r.room,.slice s.rpa s.r.players.length s.rpc,.slice s.ria s.r.items.length s.ric,.int .i64 s.r.coins,.bool s.stale,.int .i64 s.tries,.int .i64 s.ver,.int .i64 s.room,.slice s.ca s.copies.length s.cc,.slice s.ha s.heads.length s.hc,.int .i64 s.purse] #[.int .i64 0,.slice none 0 0,.int .i64 0,.int .i64 0,.int .i64 0,.int .i64 0,.int .i64 0,.int .i64 0,.int .i64 0,.int .i64 0,.slice none 0 0,.int .i64 0,.slice none 0 0,.int .i64 0,.slice none 0 0,.int .i64 0,.slice none 0 0,.int .i64 0,.int .i64 0,.int .i64 0,.slice none 0 0,.slice none 0 0,.int .i64 0,.bool false,.int .i64 0,.int .i64 0,.int .i64 0,.slice none 0 0,.slice none 0 0,.int .i64 0])
 rw [slC_eta]
 go_enter func7,ntmps7
 go_upto_region 1 with fail
 generalize (w.alloc (.cells #[.int .i64 s.player,.slice s.la s.ls.length s.lc,.int .i64 s.next,.int .i64 s.phase,.int .i64 s.step,.int .i64 s.c.kind,.int .i64 s.c.dir,.int .i64 s.c.item,.int .i64 s.c.box,.int .i64 s.c.who,.slice s.ga s.c.gives.length s.gc,.int .i64 s.c.pay,.slice s.wa s.c.wants.length s.wc,.int .i64 s.c.fee,.slice s.fa s.foot.length s.fc,.int .i64 s.has,.slice s.pa s.plan.length s.pc,.int .i64 s.r.err,.int .i64 s.r.kind,.int .i64 s.r.room,.slice s.rpa s.r.players.length s.rpc,.slice s.ria s.r.items.length s.ric,.int .i64 s.r.coins,.bool s.stale,.int .i64 s.tries,.int .i64 s.ver,.int .i64 s.room,.slice s.ca s.copies.length s.cc,.slice s.ha s.heads.length s.hc,.int .i64 s.purse] 34)).alloc (.cells #[.int .i64 0,.slice none 0 0,.int .i64 0,.int .i64 0,.int .i64 0,.int .i64 0,.int .i64 0,.int .i64 0,.int .i64 0,.int .i64 0,.slice none 0 0,.int .i64 0,.slice none 0 0,.int .i64 0,.slice none 0 0,.int .i64 0,.slice none 0 0,.int .i64 0,.int .i64 0,.int .i64 0,.slice none 0 0,.slice none 0 0,.int .i64 0,.bool false,.int .i64 0,.int .i64 0,.int .i64 0,.slice none 0 0,.slice none 0 0,.int .i64 0] 34)=v0 at *
 have C1:=hid C0.drew
 clear C0
 refine tkS (S:=(fun w'=>∀i,w'.cell? ⟨w.heap.size,i,none⟩=(#[.int .i64 s.player,.slice s.la s.ls.length s.lc,.int .i64 s.next,.int .i64 s.phase,.int .i64 s.step,.int .i64 s.c.kind,.int .i64 s.c.dir,.int .i64 s.c.item,.int .i64 s.c.box,.int .i64 s.c.who,.slice s.ga s.c.gives.length s.gc,.int .i64 s.c.pay,.slice s.wa s.c.wants.length s.wc,.int .i64 s.c.fee,.slice s.fa s.foot.length s.fc,.int .i64 s.has,.slice s.pa s.plan.length s.pc,.int .i64 s.r.err,.int .i64 s.r.kind,.int .i64 s.r.room,.slice s.rpa s.r.players.length s.rpc,.slice s.ria s.r.items.length s.ric,.int .i64 s.r.coins,.bool s.stale,.int .i64 s.tries,.int .i64 s.ver,.int .i64 s.room,.slice s.ca s.copies.length s.cc,.slice s.ha s.heads.length s.hc,.int .i64 s.purse][i]?:Option Value))) (by (exact C1.a.cell)) (fun hHeld=>?_)
 refine tkl [0,1,2,3,4,5,6,7,9,10] ?_
 iterate 10
  refine tW ?_
  try go_frame
 refine rdy1 8 (fun K hK=>?_)
 go_simp
 refine (copycmd_any s.c s.ga s.wa s.gc s.wc _ (H1.below C1.b lr0) (H2.below C1.b lr0) L1.out L2.out).mono ?_;rintro e w2 ⟨gb,gd,wb,wd,rfl,o1,o2,b2⟩;have C2:=hid (C1.call b2);have O1:=hid (o1.less C1.size);have O2:=hid (o2.less C1.size);have hX2:=hid C2.a.cell;clear b2 o1 o2 C1
 try go_wp2_with fail
 refine hK.out _ _ (by (with_reducible exact hX2.out)) (fun hHeld=>?_)
 clear hK K
 try go_frame
 refine tkl [11] (tW ?_)
 try go_frame
 have hX3:=hid (C2.a.far (p:=⟨w.heap.size+1,0,none⟩) (by show w.heap.size≠w.heap.size+1;omega))
 refine rdy1 12 (fun K hK=>?_)
 refine wp_store_mid 34 (.tmp 2) (.tmp 14) rfl (w.heap.size+1) 0 (slC (⟨s.player,s.ls,s.la,s.lc,s.next,1,0,s.c,gb,gd,wb,wd,[],none,0,0,[],none,0,⟨0,0,0,[],[],0⟩,none,0,none,0,false,s.tries,0,0,[],none,0,[],none,0,0⟩:Sl)).toArray rfl rfl (blk_there C2.r (Nat.le_refl 30)) sess_size (slC_cells _) ?_
 refine hK.out _ _ (by (exact (blk_far (by omega) _ _ C2.a).cell)) (fun hHeld=>?_)
 clear hK K
 try go_frame
 clear hX3
 refine tkD ?_
 go_upto_region 99 with fail
 try simp only [Exit.inBlock,Exit.then]
 refine bodyPost_ret (v:=.agg (slC (⟨s.player,s.ls,s.la,s.lc,s.next,1,0,s.c,gb,gd,wb,wd,[],none,0,0,[],none,0,⟨0,0,0,[],[],0⟩,none,0,none,0,false,s.tries,0,0,[],none,0,[],none,0,0⟩:Sl)).toArray) ?_ rfl ?_
 ·exact res_sess (b:=w.heap.size+1) rfl rfl (blk_range (blk_stored C2.r rfl))
 ·exact ⟨gb,gd,wb,wd,rfl,(O1.sets (q:=w.heap.size+1) (by omega) _ _).less (by omega),(O2.sets (q:=w.heap.size+1) (by omega) _ _).less (by omega),below_sets (by omega) _ _ C2.b⟩
structure NewS (k:Nat) (W:World) (s:Sl):Prop where
 g:OwnR 1 3 inC k W s.ga s.c.gives
 w:OwnR 1 3 inC k W s.wa s.c.wants
 foot:OwnR 2 55 plC k W s.fa s.foot
 plan:OwnR 5 59 wrC k W s.pa s.plan
 rp:OwnR 1 3 inC k W s.rpa s.r.players
 ri:OwnR 3 72 senC k W s.ria s.r.items
 cp:OwnR 2 57 plC k W s.ca s.copies
 hd:OwnR 1 3 inC k W s.ha s.heads
theorem NewS.less {k m:Nat} {W:World} {s:Sl} (h:NewS k W s) (hm:m≤k):NewS m W s:=⟨h.g.less hm,h.w.less hm,h.foot.less hm,h.plan.less hm,h.rp.less hm,h.ri.less hm,h.cp.less hm,h.hd.less hm⟩
theorem NewS.call {k:Nat} {W V:World} {s:Sl} (h:NewS k W s) (hb:Below W.heap.size W V):NewS k V s:=⟨h.g.call hb,h.w.call hb,h.foot.call hb,h.plan.call hb,h.rp.call hb,h.ri.call hb,h.cp.call hb,h.hd.call hb⟩
theorem NewS.sets {k q:Nat} {W:World} {s:Sl} (h:NewS k W s) (hq:q<k) (o:Nat) (vs:List Value):NewS k (W.setCells q o vs) s:=⟨h.g.sets hq vs o,h.w.sets hq vs o,h.foot.sets hq vs o,h.plan.sets hq vs o,h.rp.sets hq vs o,h.ri.sets hq vs o,h.cp.sets hq vs o,h.hd.sets hq vs o⟩
theorem NewS.at_ {k:Nat} {W:World} {s:Sl} (h:NewS k W s) (hl:Ar 1 sbC W s.la s.ls):SessAt W s:=⟨hl,Av.2 h.g.row,Av.2 h.w.row,h.foot.row,h.plan.row,Av.2 h.rp.row,sen_row h.ri.row,h.cp.row,Av.2 h.hd.row⟩
def FewS (s:Sl):Prop:=s.c.gives.length≤1000000∧s.c.wants.length≤1000000∧s.foot.length≤1000000∧s.plan.length≤1000000∧s.r.players.length≤1000000∧s.r.items.length≤1000000∧s.copies.length≤1000000∧s.heads.length≤1000000
def SameS (s s':Sl):Prop:=s'.q=s.q∧s'.la=s.la∧s'.lc=s.lc
def OwnSQ (s:Sl) (w:World) (e:Ending) (w':World):Prop:=∃s':Sl,e=.returned (.agg (slC s').toArray)∧SameS s s'∧NewS w.heap.size w' s'∧Below w.heap.size w w'
theorem sownl_any (s:Sl) (w:World) (h:SessAt w s) (hf:FewS s):Calls prog 29 #[.agg (slC s).toArray] w (OwnSQ s w):=by
 have H:=hid h
 have HF:=hid hf
 clear h hf
 have C0:=hid (Two.start 34 34 w #[.int .i64 s.player,.slice s.la s.ls.length s.lc,.int .i64 s.next,.int .i64 s.phase,.int .i64 s.step,.int .i64 s.c.kind,.int .i64 s.c.dir,.int .i64 s.c.item,.int .i64 s.c.box,.int .i64 s.c.who,.slice s.ga s.c.gives.length s.gc,.int .i64 s.c.pay,.slice s.wa s.c.wants.length s.wc,.int .i64 s.c.fee,.slice s.fa s.foot.length s.fc,.int .i64 s.has,.slice s.pa s.plan.length s.pc,.int .i64 s.r.err,.int .i64 s.r.kind,.int .i64 s.r.room,.slice s.rpa s.r.players.length s.rpc,.slice s.ria s.r.items.length s.ric,.int .i64 s.r.coins,.bool s.stale,.int .i64 s.tries,.int .i64 s.ver,.int .i64 s.room,.slice s.ca s.copies.length s.cc,.slice s.ha s.heads.length s.hc,.int .i64 s.purse] #[.int .i64 0,.slice none 0 0,.int .i64 0,.int .i64 0,.int .i64 0,.int .i64 0,.int .i64 0,.int .i64 0,.int .i64 0,.int .i64 0,.slice none 0 0,.int .i64 0,.slice none 0 0,.int .i64 0,.slice none 0 0,.int .i64 0,.slice none 0 0,.int .i64 0,.int .i64 0,.int .i64 0,.slice none 0 0,.slice none 0 0,.int .i64 0,.bool false,.int .i64 0,.int .i64 0,.int .i64 0,.slice none 0 0,.slice none 0 0,.int .i64 0])
 have HP:=hid (slC_eta s)
 rw [slC_eta]
 go_enter func29,ntmps29
 go_upto_region 1 with fail
 obtain ⟨m,hm⟩:∃m,w.heap.size=m:=⟨_,rfl⟩
 obtain ⟨n,hn⟩:∃n,w.heap.size+1=n:=⟨_,rfl⟩
 rw [hn,hm]
 refine gen_at (fun V=>SB w V n m #[.int .i64 0,.slice none 0 0,.int .i64 0,.int .i64 0,.int .i64 0,.int .i64 0,.int .i64 0,.int .i64 0,.int .i64 0,.int .i64 0,.slice none 0 0,.int .i64 0,.slice none 0 0,.int .i64 0,.slice none 0 0,.int .i64 0,.slice none 0 0,.int .i64 0,.int .i64 0,.int .i64 0,.slice none 0 0,.slice none 0 0,.int .i64 0,.bool false,.int .i64 0,.int .i64 0,.int .i64 0,.slice none 0 0,.slice none 0 0,.int .i64 0] s) ⟨by rw [←hn];exact C0.r,by rw [←hm];exact C0.a,C0.b,by omega,by omega,by omega⟩ (fun v0 hV=>?_)
 have C:=hid hV
 clear hV C0
 have N:=hid (show m+2≤v0.heap.size by have:=C.za.lt;omega)
 have HMN:=hid (show w.heap.size=m∧n=m+1 from ⟨hm,by omega⟩)
 clear hm hn
 go_upto_region 99 with refine wpList_load_mid rfl 25 (.tmp 3) rfl m 5 rfl (cmL s.c s.ga s.gc s.wa s.wc) _ (C.part 5 _ (cmd_part s)) underlying25 rfl cmd_size ?_
 refine (copycmd_any s.c s.ga s.wa s.gc s.wc v0 (H.below C.b lr0).g (H.below C.b lr0).w HF.1 HF.2.1).mono ?_
 rintro e w1 ⟨g1,c1,h1,d1,rfl,o1,p1,b1⟩
 have O1:=hid (o1.less N.out)
 have P1:=hid (p1.less N.out)
 have C:=hid (C.call b1)
 have N:=hid (Nat.le_trans N.out b1.size)
 clear o1 p1 b1
 go_upto_region 2 with refine wpList_store_mid rfl 25 (.tmp 6) (.tmp 5) rfl m 5 (cmL s.c g1 c1 h1 d1).toArray rfl rfl (blk_there C.sb (by simp [cmL,slC])) cmd_size (cmL_cells s.c g1 c1 h1 d1) ?_
 refine gen_at (fun V=>SB w V n m #[.int .i64 0,.slice none 0 0,.int .i64 0,.int .i64 0,.int .i64 0,.int .i64 0,.int .i64 0,.int .i64 0,.int .i64 0,.int .i64 0,.slice none 0 0,.int .i64 0,.slice none 0 0,.int .i64 0,.slice none 0 0,.int .i64 0,.slice none 0 0,.int .i64 0,.int .i64 0,.int .i64 0,.slice none 0 0,.slice none 0 0,.int .i64 0,.bool false,.int .i64 0,.int .i64 0,.int .i64 0,.slice none 0 0,.slice none 0 0,.int .i64 0] (⟨s.player,s.ls,s.la,s.lc,s.next,s.phase,s.step,s.c,g1,c1,h1,d1,s.foot,s.fa,s.fc,s.has,s.plan,s.pa,s.pc,s.r,s.rpa,s.rpc,s.ria,s.ric,s.stale,s.tries,s.ver,s.room,s.copies,s.ca,s.cc,s.heads,s.ha,s.hc,s.purse⟩:Sl)∧m+2≤V.heap.size∧OwnR 1 3 inC (m+2) V h1 s.c.wants∧OwnR 1 3 inC (m+2) V g1 s.c.gives) ⟨C.sets 5 (cmL s.c g1 c1 h1 d1) (sets_cmd s s.c g1 c1 h1 d1),(by rw [size_sets];exact N.out),P1.sets (q:=m) (by omega) _ _,O1.sets (q:=m) (by omega) _ _⟩ (fun v1 hV=>?_)
 obtain ⟨hC,hN,hP1,hO1⟩:=hV
 have C:=hid hC
 have N:=hid hN
 have P1:=hid hP1
 have O1:=hid hO1
 clear hC hN hP1 hO1
 have hc:=C.cell 14 (.slice s.fa s.foot.length s.fc) rfl
 go_upto_region 99 with fail
 clear hc
 refine (clone_keys _ _ _ v1 (H.below C.b lr0).foot HF.2.2.1).mono ?_
 rintro e w2 ⟨g2,c2,rfl,o2,b2⟩
 have O2:=hid (o2.less N.out)
 have P1:=hid (P1.call b2)
 have O1:=hid (O1.call b2)
 have C:=hid (C.call b2)
 have N:=hid (Nat.le_trans N.out b2.size)
 clear o2 b2
 have hc:=C.cell 14 (.slice s.fa s.foot.length s.fc) rfl
 have hz:=C.sb.frozen 14
 have hl:=C.sb.lt
 go_upto_region 3 with fail
 clear hc hz hl
 refine gen_at (fun V=>SB w V n m #[.int .i64 0,.slice none 0 0,.int .i64 0,.int .i64 0,.int .i64 0,.int .i64 0,.int .i64 0,.int .i64 0,.int .i64 0,.int .i64 0,.slice none 0 0,.int .i64 0,.slice none 0 0,.int .i64 0,.slice none 0 0,.int .i64 0,.slice none 0 0,.int .i64 0,.int .i64 0,.int .i64 0,.slice none 0 0,.slice none 0 0,.int .i64 0,.bool false,.int .i64 0,.int .i64 0,.int .i64 0,.slice none 0 0,.slice none 0 0,.int .i64 0] (⟨s.player,s.ls,s.la,s.lc,s.next,s.phase,s.step,s.c,g1,c1,h1,d1,s.foot,g2,c2,s.has,s.plan,s.pa,s.pc,s.r,s.rpa,s.rpc,s.ria,s.ric,s.stale,s.tries,s.ver,s.room,s.copies,s.ca,s.cc,s.heads,s.ha,s.hc,s.purse⟩:Sl)∧m+2≤V.heap.size∧OwnR 1 3 inC (m+2) V h1 s.c.wants∧OwnR 1 3 inC (m+2) V g1 s.c.gives∧OwnR 2 55 plC (m+2) V g2 s.foot) ⟨(C.set 14 _ rfl),by simpa using N.out,P1.set (q:=m) (by omega) 14 _,O1.set (q:=m) (by omega) 14 _,O2.set (q:=m) (by omega) 14 _⟩ (fun v2 hV=>?_)
 obtain ⟨hC,hN,hP1,hO1,hO2⟩:=hV
 have C:=hid hC
 have N:=hid hN
 have P1:=hid hP1
 have O1:=hid hO1
 have O2:=hid hO2
 clear hC hN hP1 hO1 hO2
 have hc:=C.cell 16 (.slice s.pa s.plan.length s.pc) rfl
 go_upto_region 99 with fail
 clear hc
 refine (clone_wrs _ _ _ v2 (H.below C.b lr0).plan HF.2.2.2.1).mono ?_
 rintro e w3 ⟨g3,c3,rfl,o3,b3⟩
 have O3:=hid (o3.less N.out)
 have P1:=hid (P1.call b3)
 have O1:=hid (O1.call b3)
 have O2:=hid (O2.call b3)
 have C:=hid (C.call b3)
 have N:=hid (Nat.le_trans N.out b3.size)
 clear o3 b3
 have hc:=C.cell 16 (.slice s.pa s.plan.length s.pc) rfl
 have hz:=C.sb.frozen 16
 have hl:=C.sb.lt
 go_upto_region 4 with fail
 clear hc hz hl
 refine gen_at (fun V=>SB w V n m #[.int .i64 0,.slice none 0 0,.int .i64 0,.int .i64 0,.int .i64 0,.int .i64 0,.int .i64 0,.int .i64 0,.int .i64 0,.int .i64 0,.slice none 0 0,.int .i64 0,.slice none 0 0,.int .i64 0,.slice none 0 0,.int .i64 0,.slice none 0 0,.int .i64 0,.int .i64 0,.int .i64 0,.slice none 0 0,.slice none 0 0,.int .i64 0,.bool false,.int .i64 0,.int .i64 0,.int .i64 0,.slice none 0 0,.slice none 0 0,.int .i64 0] (⟨s.player,s.ls,s.la,s.lc,s.next,s.phase,s.step,s.c,g1,c1,h1,d1,s.foot,g2,c2,s.has,s.plan,g3,c3,s.r,s.rpa,s.rpc,s.ria,s.ric,s.stale,s.tries,s.ver,s.room,s.copies,s.ca,s.cc,s.heads,s.ha,s.hc,s.purse⟩:Sl)∧m+2≤V.heap.size∧OwnR 1 3 inC (m+2) V h1 s.c.wants∧OwnR 1 3 inC (m+2) V g1 s.c.gives∧OwnR 2 55 plC (m+2) V g2 s.foot∧OwnR 5 59 wrC (m+2) V g3 s.plan) ⟨(C.set 16 _ rfl),by simpa using N.out,P1.set (q:=m) (by omega) 16 _,O1.set (q:=m) (by omega) 16 _,O2.set (q:=m) (by omega) 16 _,O3.set (q:=m) (by omega) 16 _⟩ (fun v3 hV=>?_)
 obtain ⟨hC,hN,hP1,hO1,hO2,hO3⟩:=hV
 have C:=hid hC
 have N:=hid hN
 have P1:=hid hP1
 have O1:=hid hO1
 have O2:=hid hO2
 have O3:=hid hO3
 clear hC hN hP1 hO1 hO2 hO3
 have hc:=C.cell 20 (.slice s.rpa s.r.players.length s.rpc) rfl
 go_upto_region 99 with fail
 clear hc
 refine (Gv _ _ _ v3 (Av.1 (H.below C.b lr0).rp) HF.2.2.2.2.1).mono ?_
 rintro e w4 ⟨g4,c4,rfl,o4,b4⟩
 have O4:=hid (o4.less N.out)
 have P1:=hid (P1.call b4)
 have O1:=hid (O1.call b4)
 have O2:=hid (O2.call b4)
 have O3:=hid (O3.call b4)
 have C:=hid (C.call b4)
 have N:=hid (Nat.le_trans N.out b4.size)
 clear o4 b4
 have hc:=C.cell 20 (.slice s.rpa s.r.players.length s.rpc) rfl
 have hz:=C.sb.frozen 20
 have hl:=C.sb.lt
 go_upto_region 5 with fail
 clear hc hz hl
 refine gen_at (fun V=>SB w V n m #[.int .i64 0,.slice none 0 0,.int .i64 0,.int .i64 0,.int .i64 0,.int .i64 0,.int .i64 0,.int .i64 0,.int .i64 0,.int .i64 0,.slice none 0 0,.int .i64 0,.slice none 0 0,.int .i64 0,.slice none 0 0,.int .i64 0,.slice none 0 0,.int .i64 0,.int .i64 0,.int .i64 0,.slice none 0 0,.slice none 0 0,.int .i64 0,.bool false,.int .i64 0,.int .i64 0,.int .i64 0,.slice none 0 0,.slice none 0 0,.int .i64 0] (⟨s.player,s.ls,s.la,s.lc,s.next,s.phase,s.step,s.c,g1,c1,h1,d1,s.foot,g2,c2,s.has,s.plan,g3,c3,s.r,g4,c4,s.ria,s.ric,s.stale,s.tries,s.ver,s.room,s.copies,s.ca,s.cc,s.heads,s.ha,s.hc,s.purse⟩:Sl)∧m+2≤V.heap.size∧OwnR 1 3 inC (m+2) V h1 s.c.wants∧OwnR 1 3 inC (m+2) V g1 s.c.gives∧OwnR 2 55 plC (m+2) V g2 s.foot∧OwnR 5 59 wrC (m+2) V g3 s.plan∧OwnR 1 3 inC (m+2) V g4 s.r.players) ⟨(C.set 20 _ rfl),by simpa using N.out,P1.set (q:=m) (by omega) 20 _,O1.set (q:=m) (by omega) 20 _,O2.set (q:=m) (by omega) 20 _,O3.set (q:=m) (by omega) 20 _,O4.set (q:=m) (by omega) 20 _⟩ (fun v4 hV=>?_)
 obtain ⟨hC,hN,hP1,hO1,hO2,hO3,hO4⟩:=hV
 have C:=hid hC
 have N:=hid hN
 have P1:=hid hP1
 have O1:=hid hO1
 have O2:=hid hO2
 have O3:=hid hO3
 have O4:=hid hO4
 clear hC hN hP1 hO1 hO2 hO3 hO4
 have hc:=C.cell 21 (.slice s.ria s.r.items.length s.ric) rfl
 go_upto_region 99 with fail
 clear hc
 refine (clone_sns _ _ _ v4 (sen_back (H.below C.b lr0).ri) HF.2.2.2.2.2.1).mono ?_
 rintro e w5 ⟨g5,c5,rfl,o5,b5⟩
 have O5:=hid (o5.less N.out)
 have P1:=hid (P1.call b5)
 have O1:=hid (O1.call b5)
 have O2:=hid (O2.call b5)
 have O3:=hid (O3.call b5)
 have O4:=hid (O4.call b5)
 have C:=hid (C.call b5)
 have N:=hid (Nat.le_trans N.out b5.size)
 clear o5 b5
 have hc:=C.cell 21 (.slice s.ria s.r.items.length s.ric) rfl
 have hz:=C.sb.frozen 21
 have hl:=C.sb.lt
 go_upto_region 6 with fail
 clear hc hz hl
 refine gen_at (fun V=>SB w V n m #[.int .i64 0,.slice none 0 0,.int .i64 0,.int .i64 0,.int .i64 0,.int .i64 0,.int .i64 0,.int .i64 0,.int .i64 0,.int .i64 0,.slice none 0 0,.int .i64 0,.slice none 0 0,.int .i64 0,.slice none 0 0,.int .i64 0,.slice none 0 0,.int .i64 0,.int .i64 0,.int .i64 0,.slice none 0 0,.slice none 0 0,.int .i64 0,.bool false,.int .i64 0,.int .i64 0,.int .i64 0,.slice none 0 0,.slice none 0 0,.int .i64 0] (⟨s.player,s.ls,s.la,s.lc,s.next,s.phase,s.step,s.c,g1,c1,h1,d1,s.foot,g2,c2,s.has,s.plan,g3,c3,s.r,g4,c4,g5,c5,s.stale,s.tries,s.ver,s.room,s.copies,s.ca,s.cc,s.heads,s.ha,s.hc,s.purse⟩:Sl)∧m+2≤V.heap.size∧OwnR 1 3 inC (m+2) V h1 s.c.wants∧OwnR 1 3 inC (m+2) V g1 s.c.gives∧OwnR 2 55 plC (m+2) V g2 s.foot∧OwnR 5 59 wrC (m+2) V g3 s.plan∧OwnR 1 3 inC (m+2) V g4 s.r.players∧OwnR 3 72 senC (m+2) V g5 s.r.items) ⟨(C.set 21 _ rfl),by simpa using N.out,P1.set (q:=m) (by omega) 21 _,O1.set (q:=m) (by omega) 21 _,O2.set (q:=m) (by omega) 21 _,O3.set (q:=m) (by omega) 21 _,O4.set (q:=m) (by omega) 21 _,O5.set (q:=m) (by omega) 21 _⟩ (fun v5 hV=>?_)
 obtain ⟨hC,hN,hP1,hO1,hO2,hO3,hO4,hO5⟩:=hV
 have C:=hid hC
 have N:=hid hN
 have P1:=hid hP1
 have O1:=hid hO1
 have O2:=hid hO2
 have O3:=hid hO3
 have O4:=hid hO4
 have O5:=hid hO5
 clear hC hN hP1 hO1 hO2 hO3 hO4 hO5
 have hc:=C.cell 27 (.slice s.ca s.copies.length s.cc) rfl
 go_upto_region 99 with fail
 clear hc
 refine (Ze _ _ _ v5 (H.below C.b lr0).cp HF.2.2.2.2.2.2.1).mono ?_
 rintro e w6 ⟨g6,c6,rfl,o6,b6⟩
 have O6:=hid (o6.less N.out)
 have P1:=hid (P1.call b6)
 have O1:=hid (O1.call b6)
 have O2:=hid (O2.call b6)
 have O3:=hid (O3.call b6)
 have O4:=hid (O4.call b6)
 have O5:=hid (O5.call b6)
 have C:=hid (C.call b6)
 have N:=hid (Nat.le_trans N.out b6.size)
 clear o6 b6
 have hc:=C.cell 27 (.slice s.ca s.copies.length s.cc) rfl
 have hz:=C.sb.frozen 27
 have hl:=C.sb.lt
 go_upto_region 7 with fail
 clear hc hz hl
 refine gen_at (fun V=>SB w V n m #[.int .i64 0,.slice none 0 0,.int .i64 0,.int .i64 0,.int .i64 0,.int .i64 0,.int .i64 0,.int .i64 0,.int .i64 0,.int .i64 0,.slice none 0 0,.int .i64 0,.slice none 0 0,.int .i64 0,.slice none 0 0,.int .i64 0,.slice none 0 0,.int .i64 0,.int .i64 0,.int .i64 0,.slice none 0 0,.slice none 0 0,.int .i64 0,.bool false,.int .i64 0,.int .i64 0,.int .i64 0,.slice none 0 0,.slice none 0 0,.int .i64 0] (⟨s.player,s.ls,s.la,s.lc,s.next,s.phase,s.step,s.c,g1,c1,h1,d1,s.foot,g2,c2,s.has,s.plan,g3,c3,s.r,g4,c4,g5,c5,s.stale,s.tries,s.ver,s.room,s.copies,g6,c6,s.heads,s.ha,s.hc,s.purse⟩:Sl)∧m+2≤V.heap.size∧OwnR 1 3 inC (m+2) V h1 s.c.wants∧OwnR 1 3 inC (m+2) V g1 s.c.gives∧OwnR 2 55 plC (m+2) V g2 s.foot∧OwnR 5 59 wrC (m+2) V g3 s.plan∧OwnR 1 3 inC (m+2) V g4 s.r.players∧OwnR 3 72 senC (m+2) V g5 s.r.items∧OwnR 2 57 plC (m+2) V g6 s.copies) ⟨(C.set 27 _ rfl),by simpa using N.out,P1.set (q:=m) (by omega) 27 _,O1.set (q:=m) (by omega) 27 _,O2.set (q:=m) (by omega) 27 _,O3.set (q:=m) (by omega) 27 _,O4.set (q:=m) (by omega) 27 _,O5.set (q:=m) (by omega) 27 _,O6.set (q:=m) (by omega) 27 _⟩ (fun v6 hV=>?_)
 obtain ⟨hC,hN,hP1,hO1,hO2,hO3,hO4,hO5,hO6⟩:=hV
 have C:=hid hC
 have N:=hid hN
 have P1:=hid hP1
 have O1:=hid hO1
 have O2:=hid hO2
 have O3:=hid hO3
 have O4:=hid hO4
 have O5:=hid hO5
 have O6:=hid hO6
 clear hC hN hP1 hO1 hO2 hO3 hO4 hO5 hO6
 have hc:=C.cell 28 (.slice s.ha s.heads.length s.hc) rfl
 go_upto_region 99 with fail
 clear hc
 refine (Gv _ _ _ v6 (Av.1 (H.below C.b lr0).hd) HF.2.2.2.2.2.2.2).mono ?_
 rintro e w7 ⟨g7,c7,rfl,o7,b7⟩
 have O7:=hid (o7.less N.out)
 have P1:=hid (P1.call b7)
 have O1:=hid (O1.call b7)
 have O2:=hid (O2.call b7)
 have O3:=hid (O3.call b7)
 have O4:=hid (O4.call b7)
 have O5:=hid (O5.call b7)
 have O6:=hid (O6.call b7)
 have C:=hid (C.call b7)
 have N:=hid (Nat.le_trans N.out b7.size)
 clear o7 b7
 have hc:=C.cell 28 (.slice s.ha s.heads.length s.hc) rfl
 have hz:=C.sb.frozen 28
 have hl:=C.sb.lt
 go_upto_region 8 with fail
 clear hc hz hl
 refine gen_at (fun V=>SB w V n m #[.int .i64 0,.slice none 0 0,.int .i64 0,.int .i64 0,.int .i64 0,.int .i64 0,.int .i64 0,.int .i64 0,.int .i64 0,.int .i64 0,.slice none 0 0,.int .i64 0,.slice none 0 0,.int .i64 0,.slice none 0 0,.int .i64 0,.slice none 0 0,.int .i64 0,.int .i64 0,.int .i64 0,.slice none 0 0,.slice none 0 0,.int .i64 0,.bool false,.int .i64 0,.int .i64 0,.int .i64 0,.slice none 0 0,.slice none 0 0,.int .i64 0] (⟨s.player,s.ls,s.la,s.lc,s.next,s.phase,s.step,s.c,g1,c1,h1,d1,s.foot,g2,c2,s.has,s.plan,g3,c3,s.r,g4,c4,g5,c5,s.stale,s.tries,s.ver,s.room,s.copies,g6,c6,s.heads,g7,c7,s.purse⟩:Sl)∧m+2≤V.heap.size∧OwnR 1 3 inC (m+2) V h1 s.c.wants∧OwnR 1 3 inC (m+2) V g1 s.c.gives∧OwnR 2 55 plC (m+2) V g2 s.foot∧OwnR 5 59 wrC (m+2) V g3 s.plan∧OwnR 1 3 inC (m+2) V g4 s.r.players∧OwnR 3 72 senC (m+2) V g5 s.r.items∧OwnR 2 57 plC (m+2) V g6 s.copies∧OwnR 1 3 inC (m+2) V g7 s.heads) ⟨(C.set 28 _ rfl),by simpa using N.out,P1.set (q:=m) (by omega) 28 _,O1.set (q:=m) (by omega) 28 _,O2.set (q:=m) (by omega) 28 _,O3.set (q:=m) (by omega) 28 _,O4.set (q:=m) (by omega) 28 _,O5.set (q:=m) (by omega) 28 _,O6.set (q:=m) (by omega) 28 _,O7.set (q:=m) (by omega) 28 _⟩ (fun v7 hV=>?_)
 obtain ⟨hC,hN,hP1,hO1,hO2,hO3,hO4,hO5,hO6,hO7⟩:=hV
 have C:=hid hC
 have N:=hid hN
 have P1:=hid hP1
 have O1:=hid hO1
 have O2:=hid hO2
 have O3:=hid hO3
 have O4:=hid hO4
 have O5:=hid hO5
 have O6:=hid hO6
 have O7:=hid hO7
 clear hC hN hP1 hO1 hO2 hO3 hO4 hO5 hO6 hO7
 go_upto_region 99 with first
  | refine wpList_load_mid rfl 34 (.tmp 1) rfl m 0 rfl (slC (⟨s.player,s.ls,s.la,s.lc,s.next,s.phase,s.step,s.c,g1,c1,h1,d1,s.foot,g2,c2,s.has,s.plan,g3,c3,s.r,g4,c4,g5,c5,s.stale,s.tries,s.ver,s.room,s.copies,g6,c6,s.heads,g7,c7,s.purse⟩:Sl)) _ C.range underlying34 rfl sess_size ?_
  | refine wpList_store_mid rfl 34 (.tmp 2) (.tmp 35) rfl n 0 (slC (⟨s.player,s.ls,s.la,s.lc,s.next,s.phase,s.step,s.c,g1,c1,h1,d1,s.foot,g2,c2,s.has,s.plan,g3,c3,s.r,g4,c4,g5,c5,s.stale,s.tries,s.ver,s.room,s.copies,g6,c6,s.heads,g7,c7,s.purse⟩:Sl)).toArray rfl rfl (C.there rfl) sess_size (slC_cells _) ?_
 try simp only [Exit.inBlock,Exit.then]
 refine bodyPost_ret (v:=.agg (slC (⟨s.player,s.ls,s.la,s.lc,s.next,s.phase,s.step,s.c,g1,c1,h1,d1,s.foot,g2,c2,s.has,s.plan,g3,c3,s.r,g4,c4,g5,c5,s.stale,s.tries,s.ver,s.room,s.copies,g6,c6,s.heads,g7,c7,s.purse⟩:Sl)).toArray) ?_ rfl ?_
 ·exact res_sess (b:=n) rfl rfl (blk_range (C.fin rfl).1)
 ·have hh:=HMN.out
  have hN:NewS (m+2) v7 (⟨s.player,s.ls,s.la,s.lc,s.next,s.phase,s.step,s.c,g1,c1,h1,d1,s.foot,g2,c2,s.has,s.plan,g3,c3,s.r,g4,c4,g5,c5,s.stale,s.tries,s.ver,s.room,s.copies,g6,c6,s.heads,g7,c7,s.purse⟩:Sl):=⟨O1.out,P1.out,O2.out,O3.out,O4.out,O5.out,O6.out,O7.out⟩
  exact ⟨(⟨s.player,s.ls,s.la,s.lc,s.next,s.phase,s.step,s.c,g1,c1,h1,d1,s.foot,g2,c2,s.has,s.plan,g3,c3,s.r,g4,c4,g5,c5,s.stale,s.tries,s.ver,s.room,s.copies,g6,c6,s.heads,g7,c7,s.purse⟩:Sl),rfl,⟨rfl,rfl,rfl⟩,(hN.sets (by omega) 0 _).less (by omega),(C.fin rfl).2⟩
end Go.Proofs.YtaeclpjofclbeaaDoor
