/- SessAnew: of whatever session of short lists: what begins anew has its command, its line, and how often it looked, and nothing else; anew twice is as once: the statement answers true. No condition but that the program's and the library's tables lie as their text lays them (tied). -/
import Derived.Test.YtaeclpjofclbeaaDoorLineLaw
import Derived.Test.YtaeclpjofclbeaaDoorSessAw
import Derived.Test.YtaeclpjofclbeaaDoorSessWl
namespace Go.Proofs.YtaeclpjofclbeaaDoor
open Go.ChangeShapes Go.WideShapes Go.ChangeAt Go.RowKit Go.Proofs.Tryd
open Lib (hid)
set_option linter.unusedVariables false
set_option maxRecDepth 100000
open Go.RowKit Go
set_option maxHeartbeats 1000000 in
theorem walk_sessAnew (s:Sl) (w:World) (wf:s.Wf) (h:SessAt w s) (hz:∀b∈s.ls,b.size≤140737488351232) (k1:KTab w) (k2:WTab w) (k3:Tab w):Calls prog 3 #[.agg (slC s).toArray] w fun e w'=>e=.returned (.bool true)∧Below w.heap.size w w':=by
 have HT:=hid (show Tabs w from ⟨k1,k2,k3⟩)
 have H:=hid h
 have HZ:=hid hz
 clear k1 k2 k3 h hz wf
 have C0:=hid (Blk.new w 34 #[.int .i64 s.player,.slice s.la s.ls.length s.lc,.int .i64 s.next,.int .i64 s.phase,.int .i64 s.step,.int .i64 s.c.kind,.int .i64 s.c.dir,.int .i64 s.c.item,.int .i64 s.c.box,.int .i64 s.c.who,.slice s.ga s.c.gives.length s.gc,.int .i64 s.c.pay,.slice s.wa s.c.wants.length s.wc,.int .i64 s.c.fee,.slice s.fa s.foot.length s.fc,.int .i64 s.has,.slice s.pa s.plan.length s.pc,.int .i64 s.r.err,.int .i64 s.r.kind,.int .i64 s.r.room,.slice s.rpa s.r.players.length s.rpc,.slice s.ria s.r.items.length s.ric,.int .i64 s.r.coins,.bool s.stale,.int .i64 s.tries,.int .i64 s.ver,.int .i64 s.room,.slice s.ca s.copies.length s.cc,.slice s.ha s.heads.length s.hc,.int .i64 s.purse])
 have B0:=hid (b_a (w:=w) (.cells #[.int .i64 s.player,.slice s.la s.ls.length s.lc,.int .i64 s.next,.int .i64 s.phase,.int .i64 s.step,.int .i64 s.c.kind,.int .i64 s.c.dir,.int .i64 s.c.item,.int .i64 s.c.box,.int .i64 s.c.who,.slice s.ga s.c.gives.length s.gc,.int .i64 s.c.pay,.slice s.wa s.c.wants.length s.wc,.int .i64 s.c.fee,.slice s.fa s.foot.length s.fc,.int .i64 s.has,.slice s.pa s.plan.length s.pc,.int .i64 s.r.err,.int .i64 s.r.kind,.int .i64 s.r.room,.slice s.rpa s.r.players.length s.rpc,.slice s.ria s.r.items.length s.ric,.int .i64 s.r.coins,.bool s.stale,.int .i64 s.tries,.int .i64 s.ver,.int .i64 s.room,.slice s.ca s.copies.length s.cc,.slice s.ha s.heads.length s.hc,.int .i64 s.purse] 34))
 rw [slC_eta]
 go_enter func3,ntmps3
 go_upto_region 1 with fail
 obtain ⟨m,hm⟩:∃m,w.heap.size=m:=⟨_,rfl⟩
 rw [hm]
 have HM:=hid hm
 refine gen_at (fun U=>Blk U m 34 (slC s).toArray∧Below w.heap.size w U) ⟨hm ▸ C0.out,B0.out⟩ (fun V0 hV=>?_)
 have C:=hid hV.1
 have B:=hid hV.2
 clear hV C0 B0 hm
 go_wp2_with fail
 refine (awake19_any _ (HT.below B.out lr0)).mono ?_
 rintro e V1 ⟨rfl,b1⟩
 have C1:=hid (C.call b1)
 have B1:=hid (bl B.out b1)
 clear b1 C B
 go_upto_region 99 with refine wpList_load_w (by rfl) 34 (.tmp 1) rfl m 0 rfl (slC s) _ (blk_range C1.out) underlying34 rfl sess_size ?_
 refine (sfew_any s V1 (H.below B1.out lr0) HZ.out).mono ?_
 rintro e V2 ⟨rfl,b2⟩
 have C2:=hid (C1.call b2)
 have B2:=hid (bl B1.out b2)
 clear b2 C1 B1
 obtain ⟨fb,hfb⟩:∃b,sfewB s=b:=⟨_,rfl⟩
 rw [hfb]
 have HF:=hid hfb
 clear hfb
 cases fb
 ·go_wp2_with fail
  refine (awake19_any _ (HT.below B2.out lr0)).mono ?_
  rintro e V9 ⟨rfl,b9⟩
  have B9:=hid (bl B2.out b9)
  clear b9
  go_wp2_with fail
  go_ret
  exact ⟨rfl,B9.out⟩
 ·have hc2:World.cell? V2 ⟨m,2,none⟩=some (.int .i64 s.next):=C2.cell 2
  by_cases hn:s.next<0
  ·go_wp2_with fail
   refine (awake19_any _ (HT.below B2.out lr0)).mono ?_
   rintro e V9 ⟨rfl,b9⟩
   have B9:=hid (bl B2.out b9)
   clear b9
   go_wp2_with fail
   go_ret
   exact ⟨rfl,B9.out⟩
  ·go_upto_region 99 with refine wpList_load_w (by rfl) 34 (.tmp 1) rfl m 0 rfl (slC s) _ (blk_range C2.out) underlying34 rfl sess_size ?_
   clear hc2 hn
   have HFS:=hid (few_lens19 HF.out)
   refine (sanew_any s V2 (H.below B2.out lr0).g (H.below B2.out lr0).w HFS.1 HFS.2).mono ?_
   rintro e V3 ⟨gb,gd,wb,wd,rfl,o1,o2,b3⟩
   obtain ⟨a,ha⟩:∃a:Sl,(⟨s.player,s.ls,s.la,s.lc,s.next,1,0,s.c,gb,gd,wb,wd,[],none,0,0,[],none,0,⟨0,0,0,[],[],0⟩,none,0,none,0,false,s.tries,0,0,[],none,0,[],none,0,0⟩:Sl)=a:=⟨_,rfl⟩
   have HA:=hid ha
   try simp only [ha]
   have C3:=hid (C2.call b3)
   have B3:=hid (bl B2.out b3)
   have N9:=hid (new_sess V3 a)
   have A3:=hid (show SessAt V3 a from ha ▸ (⟨(H.below B3.out lr0).ls,Av.2 o1.row,Av.2 o2.row,Ar.nil _ _,Ar.nil _ _,Ae.nil _ _,Bd.nil _ _,Ar.nil _ _,Ae.nil _ _⟩:SessAt V3 (⟨s.player,s.ls,s.la,s.lc,s.next,1,0,s.c,gb,gd,wb,wd,[],none,0,0,[],none,0,⟨0,0,0,[],[],0⟩,none,0,none,0,false,s.tries,0,0,[],none,0,[],none,0,0⟩:Sl)))
   clear o1 o2 b3 C2 B2 ha
   go_upto_region 4 with (refine wl_op (.store 34 (.tmp 3) (.tmp 18)) (by with_reducible rfl) ?_;refine wpList_store_mid rfl 34 (.tmp 3) (.tmp 18) rfl V3.heap.size 0 (slC a).toArray rfl rfl (there_new V3 #[.int .i64 0,.slice none 0 0,.int .i64 0,.int .i64 0,.int .i64 0,.int .i64 0,.int .i64 0,.int .i64 0,.int .i64 0,.int .i64 0,.slice none 0 0,.int .i64 0,.slice none 0 0,.int .i64 0,.slice none 0 0,.int .i64 0,.slice none 0 0,.int .i64 0,.int .i64 0,.int .i64 0,.slice none 0 0,.slice none 0 0,.int .i64 0,.bool false,.int .i64 0,.int .i64 0,.int .i64 0,.slice none 0 0,.slice none 0 0,.int .i64 0] _) sess_size (slC_cells _) ?_)
   obtain ⟨k,hk⟩:∃k,V3.heap.size=k:=⟨_,rfl⟩
   refine gen_at (fun U=>Blk U k 34 (slC a).toArray∧Blk U m 34 (slC s).toArray∧SessAt U a∧Below w.heap.size w U) ⟨Eq.subst (motive:=fun k=>Blk _ k 34 (slC a).toArray) hk N9.1,C3.call N9.2,A3.call N9.2,bl B3.out N9.2⟩ (fun V4 hV=>?_)
   rw [hk]
   have EC:=hid (show (slC a).toArray=#[.int .i64 s.player,.slice s.la s.ls.length s.lc,.int .i64 s.next,.int .i64 1,.int .i64 0,.int .i64 s.c.kind,.int .i64 s.c.dir,.int .i64 s.c.item,.int .i64 s.c.box,.int .i64 s.c.who,.slice gb s.c.gives.length gd,.int .i64 s.c.pay,.slice wb s.c.wants.length wd,.int .i64 s.c.fee,.slice none 0 0,.int .i64 0,.slice none 0 0,.int .i64 0,.int .i64 0,.int .i64 0,.slice none 0 0,.slice none 0 0,.int .i64 0,.bool false,.int .i64 s.tries,.int .i64 0,.int .i64 0,.slice none 0 0,.slice none 0 0,.int .i64 0] by rw [←HA.out];rfl)
   have KK:=hid (show Blk V4.drew k 34 #[.int .i64 s.player,.slice s.la s.ls.length s.lc,.int .i64 s.next,.int .i64 1,.int .i64 0,.int .i64 s.c.kind,.int .i64 s.c.dir,.int .i64 s.c.item,.int .i64 s.c.box,.int .i64 s.c.who,.slice gb s.c.gives.length gd,.int .i64 s.c.pay,.slice wb s.c.wants.length wd,.int .i64 s.c.fee,.slice none 0 0,.int .i64 0,.slice none 0 0,.int .i64 0,.int .i64 0,.int .i64 0,.slice none 0 0,.slice none 0 0,.int .i64 0,.bool false,.int .i64 s.tries,.int .i64 0,.int .i64 0,.slice none 0 0,.slice none 0 0,.int .i64 0] from EC.out ▸ hV.1.call (drewb V4))
   have C:=hid (show Blk V4.drew m 34 #[.int .i64 s.player,.slice s.la s.ls.length s.lc,.int .i64 s.next,.int .i64 s.phase,.int .i64 s.step,.int .i64 s.c.kind,.int .i64 s.c.dir,.int .i64 s.c.item,.int .i64 s.c.box,.int .i64 s.c.who,.slice s.ga s.c.gives.length s.gc,.int .i64 s.c.pay,.slice s.wa s.c.wants.length s.wc,.int .i64 s.c.fee,.slice s.fa s.foot.length s.fc,.int .i64 s.has,.slice s.pa s.plan.length s.pc,.int .i64 s.r.err,.int .i64 s.r.kind,.int .i64 s.r.room,.slice s.rpa s.r.players.length s.rpc,.slice s.ria s.r.items.length s.ric,.int .i64 s.r.coins,.bool s.stale,.int .i64 s.tries,.int .i64 s.ver,.int .i64 s.room,.slice s.ca s.copies.length s.cc,.slice s.ha s.heads.length s.hc,.int .i64 s.purse] from hV.2.1.call (drewb V4))
   have A:=hid (hV.2.2.1.call (drewb V4))
   have B:=hid (bl hV.2.2.2 (drewb V4))
   clear hV C3 A3 B3 N9 hk
   have HAL:=hid (show a.c.gives.length≤1000000∧a.c.wants.length≤1000000 by rw [←HA.out];exact HFS.out)
   refine tkS (S:=(fun w'=>(∀i,w'.cell? ⟨k,i,none⟩=(#[.int .i64 s.player,.slice s.la s.ls.length s.lc,.int .i64 s.next,.int .i64 1,.int .i64 0,.int .i64 s.c.kind,.int .i64 s.c.dir,.int .i64 s.c.item,.int .i64 s.c.box,.int .i64 s.c.who,.slice gb s.c.gives.length gd,.int .i64 s.c.pay,.slice wb s.c.wants.length wd,.int .i64 s.c.fee,.slice none 0 0,.int .i64 0,.slice none 0 0,.int .i64 0,.int .i64 0,.int .i64 0,.slice none 0 0,.slice none 0 0,.int .i64 0,.bool false,.int .i64 s.tries,.int .i64 0,.int .i64 0,.slice none 0 0,.slice none 0 0,.int .i64 0][i]?:Option Value))∧(∀i,w'.cell? ⟨m,i,none⟩=(#[.int .i64 s.player,.slice s.la s.ls.length s.lc,.int .i64 s.next,.int .i64 s.phase,.int .i64 s.step,.int .i64 s.c.kind,.int .i64 s.c.dir,.int .i64 s.c.item,.int .i64 s.c.box,.int .i64 s.c.who,.slice s.ga s.c.gives.length s.gc,.int .i64 s.c.pay,.slice s.wa s.c.wants.length s.wc,.int .i64 s.c.fee,.slice s.fa s.foot.length s.fc,.int .i64 s.has,.slice s.pa s.plan.length s.pc,.int .i64 s.r.err,.int .i64 s.r.kind,.int .i64 s.r.room,.slice s.rpa s.r.players.length s.rpc,.slice s.ria s.r.items.length s.ric,.int .i64 s.r.coins,.bool s.stale,.int .i64 s.tries,.int .i64 s.ver,.int .i64 s.room,.slice s.ca s.copies.length s.cc,.slice s.ha s.heads.length s.hc,.int .i64 s.purse][i]?:Option Value)))) (by (exact ⟨KK.cell,C.cell⟩)) (fun hHeld=>?_)
   generalize V4.drew=V5 at *
   refine tkl [0,2] ?_
   refine tW ?_ (hy:=by exact fun ww hSw=>exec_load rfl (load_sess (range_of (s:=a) (fun i=>by rw [EC.out];exact hSw.1 i))))
   try go_frame
   refine tW ?_ (hy:=by exact fun ww hSw=>exec_load rfl (load_sess (range_of (s:=a) (fun i=>by rw [EC.out];exact hSw.1 i))))
   try go_frame
   refine rdy1 1 (fun K hK=>?_)
   go_simp
   refine (sanew_any a V5 A.g A.w HAL.1 HAL.2).mono ?_;rintro e V6 ⟨gb2,gd2,wb2,wd2,rfl,o1,o2,b5⟩;obtain ⟨d,hd⟩:∃d:Sl,(⟨a.player,a.ls,a.la,a.lc,a.next,1,0,a.c,gb2,gd2,wb2,wd2,[],none,0,0,[],none,0,⟨0,0,0,[],[],0⟩,none,0,none,0,false,a.tries,0,0,[],none,0,[],none,0,0⟩:Sl)=d:=⟨_,rfl⟩;(try simp only [hd]);have K6:=hid (KK.call b5);have C6:=hid (C.call b5);have A6:=hid (A.call b5);have B6:=hid (bl B.out b5);have D6:=hid (show SessAt V6 d from hd ▸ (⟨A6.ls,Av.2 o1.row,Av.2 o2.row,Ar.nil _ _,Ar.nil _ _,Ae.nil _ _,Bd.nil _ _,Ar.nil _ _,Ae.nil _ _⟩:SessAt V6 (⟨a.player,a.ls,a.la,a.lc,a.next,1,0,a.c,gb2,gd2,wb2,wd2,[],none,0,0,[],none,0,⟨0,0,0,[],[],0⟩,none,0,none,0,false,a.tries,0,0,[],none,0,[],none,0,0⟩:Sl)));have HQ:=hid (show d.q=a.q by rw [←hd,←HA.out];rfl);clear o1 o2 b5 KK C A B hd HAL
   try go_wp2_with fail
   refine hK.out _ _ (by (exact ⟨K6.cell,C6.cell⟩)) (fun hHeld=>?_)
   clear hK K
   try go_frame
   refine rdy1 3 (fun K hK=>?_)
   go_simp
   refine (ssame_yes d a V6 HQ.out D6.out A6.out).mono ?_;rintro e V7 ⟨rfl,b6⟩;have K7:=hid (K6.call b6);have C7:=hid (C6.call b6);have A7:=hid (A6.call b6);have B7:=hid (bl B6.out b6);clear b6 K6 C6 A6 B6 D6
   try go_wp2_with fail
   refine hK.out _ _ (by (exact ⟨K7.cell,C7.cell⟩)) (fun hHeld=>?_)
   clear hK K
   try go_frame
   have HG:=hid (show Ae V7 gb s.c.gives by have h:=A7.g;rw [←HA.out] at h;exact h)
   have HW2:=hid (show Ae V7 wb s.c.wants by have h:=A7.w;rw [←HA.out] at h;exact h)
   refine tkl [4,5,6,7,8,9,10,11,12,13] ?_
   iterate 10
    refine tW ?_
    try go_frame
   refine rdy1 14 (fun K hK=>?_)
   go_simp
   refine (Cj s.c s.c gb wb s.ga s.wa gd wd s.gc s.wc V7 HG.out HW2.out (H.below B7.out lr0).g (H.below B7.out lr0).w).mono ?_;rintro e V8 ⟨rfl,b7⟩;rw [show Gg s.c s.c=true by simp [Gg,Qe]];have K8:=hid (K7.call b7);have C8:=hid (C7.call b7);have B8:=hid (bl B7.out b7);clear b7 K7 C7 A7 B7 HG HW2
   try go_wp2_with fail
   refine hK.out _ _ (by (exact ⟨K8.cell,C8.cell⟩)) (fun hHeld=>?_)
   clear hK K
   try go_frame
   refine tkl [15,16,17,18,19,20,21,22,23,24,25] ?_
   iterate 11
    refine tW ?_
    try go_frame
   refine tkl [26,27,28,29,30,31,32,33,34,35,36] ?_
   iterate 11
    refine tW ?_
    try go_frame
   refine tkl [37,38,39,40,41,42,43,44,45,46,47] ?_
   iterate 11
    refine tW ?_
    try go_frame
   refine tkl [48,49,50,51,52,53,54,55,56,57,58] ?_
   iterate 11
    refine tW ?_
    try go_frame
   refine tkl [59,60,61,62,63,64,65,66,67,68,69] ?_
   iterate 11
    refine tW ?_
    try go_frame
   refine tkl [70,71,72,73,74,75,76,77,78,79] ?_
   iterate 10
    refine tW ?_
    try go_frame
   refine rdy1 80 (fun K hK=>?_)
   go_simp
   refine (Cs ⟨0,0,0,[],[],0⟩ ⟨0,0,0,[],[],0⟩ none none none none 0 0 0 0 V8 (Ae.nil _ _) (Bd.nil _ _) (Ae.nil _ _) (Bd.nil _ _)).mono ?_;rintro e V9 ⟨rfl,b8⟩;rw [show Gl ⟨0,0,0,[],[],0⟩ ⟨0,0,0,[],[],0⟩=true from (Kn _ _).2 rfl];have K9:=hid (K8.call b8);have C9:=hid (C8.call b8);have B9:=hid (bl B8.out b8);clear b8 K8 C8 B8
   try go_wp2_with fail
   refine hK.out _ _ (by (exact ⟨K9.cell,C9.cell⟩)) (fun hHeld=>?_)
   clear hK K
   try go_frame
   refine tkl [81,82] ?_
   iterate 2
    refine tW ?_
    try go_frame
   refine tkD ?_
   go_wp2_with fail
   go_ret
   exact ⟨rfl,B9.out⟩
theorem lifted_sessAnew (os:Os) (started:os.Started) (H:Type) (enc:TypeId × Value→H) :
 ReturnsInHanded {} Tryd.checked os 3 .any (fun w args=>(Rows.sessAnewSpec.pre enc prog Tryd.f3 [] false w args∧laidMetH prog Rows.sessAnewRow.laid w)∧sizedMet enc prog Tryd.f3 (OpenSpec.ofChange Rows.sessAnewSpec) false w args) (Rows.sessAnewSpec.post enc prog Tryd.f3 false true false false):=by
 refine returnsInHanded_of_change_and (C:=Tryd.checked) (X:=fun w _=>laidMetH prog Rows.sessAnewRow.laid w) (fun _ _ _ hh h=>h.of_heap hh) (by kernel_rfl) started (by kernel_rfl) func3
  (ChangeSpec.witness_shaped (enc:=enc) (C:=Tryd.checked) (os:=os) (X:=fun w _=>laidMetH prog Rows.sessAnewRow.laid w) false (World.laidAll prog os Rows.sessAnewRow.laid) #[.agg #[.int .i64 0,.slice none 0 0,.int .i64 0,.int .i64 0,.int .i64 0,.int .i64 0,.int .i64 0,.int .i64 0,.int .i64 0,.int .i64 0,.slice none 0 0,.int .i64 0,.slice none 0 0,.int .i64 0,.slice none 0 0,.int .i64 0,.slice none 0 0,.int .i64 0,.int .i64 0,.int .i64 0,.slice none 0 0,.slice none 0 0,.int .i64 0,.bool false,.int .i64 0,.int .i64 0,.int .i64 0,.slice none 0 0,.slice none 0 0,.int .i64 0]] 8 (World.laidAll_os _ _ _)
    (World.shaped_of_ZipB (by kernel_rfl) (by kernel_rfl)) (by kernel_rfl) (by kernel_rfl) (by kernel_rfl)
    (by rw [MakeChecks.laidMetH_plain _ _ _ (by kernel_rfl)];exact laidMet_laidAll _ (by kernel_rfl) (by kernel_rfl))) ?_
 intro W base args ds gs before hval0 hW hcnd hsized hL _
 have hval:∀(j:Nat) t v,Tryd.f3.params[j]?=some t→args[j]?=some v→Value.okWide prog W .any base t v:=hval0
 have hW':=hW
 obtain ⟨p,q,hA0,hV,rfl,hfz,hnd⟩:=hW
 have hA:DataW.TrodAll enc prog W 0 (fun _=>true) true Tryd.f3.params.toList args.toList ds p:=hA0
 rw [Tryd.params3] at hA hval
 obtain ⟨v0,vs0,d0,ds0,p0,q0,hargs,rfl,rfl,h0,r0⟩:=trodAll_cons hA
 obtain ⟨rfl,rfl,rfl⟩:=trodAll_nil r0
 obtain rfl:args=#[v0]:=by cases args;simp_all
 obtain ⟨rfl,rfl⟩:=trodVars_none hV
 obtain ⟨s0,rfl,m0,wf0,z0⟩:=read_sess (hval 0 34 v0 rfl rfl) h0
 have hz0:∀n∈d0.weights prog 34,n≤140737488351232:=fun n hn=>by
  have:=List.all_eq_true.1 hsized n (weights_each (j:=0) (t:=34) (by rw [Tryd.params3];rfl) rfl n hn)
  exact (of_decide_eq_true this:n≤reachBytes)
 clear hA0 hval0
 simp only [List.append_nil] at hW'
 rw [MakeChecks.laidMetH_plain _ _ _ (by kernel_rfl)] at hL
 have fKTab:=Wv W (hL.tail.tail.tail.tail)
 have fWTab:=Au3 W (hL.tail.tail.tail.tail.tail)
 have fTab:=Vz W (hL.tail.tail)
 refine (walk_sessAnew s0 W wf0 m0 (z0 _ hz0) fKTab fWTab fTab).mono fun e W' ⟨he,hg⟩=>?_
 subst he
 exact ⟨_,rfl,Iy (by kernel_rfl) rfl (by rw [Tryd.params3];decide +kernel) rfl rfl underlying4 hW' hg⟩
theorem row_sessAnew:Rows.SessAnewSaid :=
 OpenClaim.holds_of_wide 3 Tryd.f3 rfl rfl rfl rfl rfl rfl rfl ⟨rfl,rfl,rfl,rfl,rfl⟩ rfl rfl rfl rfl rfl (by kernel_rfl) func3 (by kernel_rfl)
  (of_decide_eq_true (by kernel_rfl)) (by unfold Func.isWrapper;first|(rw [if_pos (by decide +kernel)];kernel_rfl)|(rw [if_neg (by decide +kernel)];exact ⟨rfl,rfl⟩))
  (fun os started H enc _=>lifted_sessAnew os started H enc)
theorem proved_sessAnew:Rows.SessAnewCardSaid :=
 Claim7.holds_tied_plain_at .later [] Rows.sessAnewCard.laidKinds true Rows.sessAnewCard.stood.harness false row_sessAnew (fun _ h=>by cases h) (by kernel_rfl) (fun _ h=>by cases h) sessAnew_row_tie rfl ⟨rfl,rfl⟩ (by kernel_rfl) rfl
  (fun f fn hf hfn=>by
    obtain rfl : f = 3 := Option.some.inj ((show prog.funcNamed "innkeep/innkeeplaw19.SessAnew" = some 3 by kernel_rfl).symm.trans hf) |>.symm
    obtain rfl:fn=Tryd.f3:=(Option.some.inj (func3.symm.trans hfn)).symm
    exact ⟨by kernel_rfl,fun j t ht=>by
     rw [Tryd.params3] at ht
     have hm:t∈[34]:=by simpa using Array.mem_of_getElem? ht
     have hall:([34].all fun u=>!prog.wantsStandIn u)=true:=by kernel_rfl
     exact (show prog.wantsStandIn t=false by simpa using List.all_eq_true.1 hall t hm)⟩)
  (by kernel_rfl)
#print axioms proved_sessAnew
end Go.Proofs.YtaeclpjofclbeaaDoor
