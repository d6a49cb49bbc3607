/- SessOpens: of whatever script of short lists, at whatever of its lines: what begins goes one of three ways, by its line; nothing but the command, the phase and the answer changes: the statement answers true. No condition but that the program's and the library's tables lie as their text lays them (tied). -/
import Derived.Test.YtaeclpjofclbeaaDoorLineLaw
import Derived.Test.YtaeclpjofclbeaaDoorSessAw
import Derived.Test.YtaeclpjofclbeaaDoorSessWl
namespace Go.Proofs.YtaeclpjofclbeaaDoor
open Go.ChangeShapes Go.WideShapes Go.ChangeAt Go.RowKit Go.Proofs.Tryd
open Lib (hid)
set_option linter.unusedVariables false
set_option maxRecDepth 100000
open Go.RowKit Go
theorem phR_in {ls:List ByteArray} {i:Nat} (h:i<ls.length):phR ls (i:Int)=0:=if_pos ⟨by omega,by omega⟩
structure OpsI (w:World) (x:Sc) (m k i:Nat) (W:World):Prop where
 c:Blk W m 42 #[.int .i64 x.player,.slice x.la x.ls.length x.lc]
 s:Blk W k 34 (slC (s0 x.player x.ls x.la x.lc i 0)).toArray
 b:Below w.heap.size w W
theorem ways4 (L:ByteArray) (ph k:Int) (h:((lineG L).2=0∧ph=(if 9≤(lineG L).1.kind then 9 else 1)∧k=(lineG L).1.kind)∨(¬(lineG L).2=0∧ph=8∧k=(lineG L).1.kind)) :
 ((k==9)=true∧(k==10)=false∧(k==0)=false∧(k != 0)=true∧ph=9)∨((k==9)=false∧(k==10)=true∧(k==0)=false∧(k != 0)=true∧ph=9)∨((k==9)=false∧(k==10)=false∧(k==0)=true∧(k != 0)=false∧ph=8)∨((k==9)=false∧(k==10)=false∧(k==0)=false∧(k != 0)=true∧ph=1):=by
 rcases h with ⟨h1,h2,h3⟩|⟨h1,h2,h3⟩
 ·have h4:=lineG_yes L h1
  rw [←h3] at h4 h2
  by_cases h9:k=9
  ·subst h9;exact .inl ⟨rfl,rfl,rfl,rfl,h2⟩
  ·by_cases h10:k=10
   ·subst h10;exact .inr (.inl ⟨rfl,rfl,rfl,rfl,h2⟩)
   ·refine .inr (.inr (.inr ⟨by simpa using h9,by simpa using h10,by simp;omega,by simp;omega,?_⟩))
    rw [h2,if_neg (by omega)]
 ·have h4:=lineG_no L h1
  have h5:k=0:=by rw [h3,h4];rfl
  subst h5
  exact .inr (.inr (.inl ⟨rfl,rfl,rfl,rfl,h2⟩))
set_option maxHeartbeats 1000000 in
theorem sessOpens_go (x:Sc) (dn:Nat) (w:World) (hdn:dn≤255) (h:ScAt w x) (hz:∀b∈x.ls,b.size≤140737488351232) (ht:Tabs w):Calls prog 4 #[.agg (scC x).toArray,.int .u8 (dn:Int)] w fun e w'=>e=.returned (.bool true)∧Below w.heap.size w w':=by
 have HT:=hid ht
 have H:=hid h
 have HZ:=hid hz
 have hlx:=h.1
 unfold maxLen at hlx
 clear ht h hz
 have C0:=hid (Blk.new w 42 #[.int .i64 x.player,.slice x.la x.ls.length x.lc])
 have B0:=hid (b_a (w:=w) (.cells #[.int .i64 x.player,.slice x.la x.ls.length x.lc] 42))
 change Calls _ _ #[.agg #[.int .i64 x.player,.slice x.la x.ls.length x.lc],.int .u8 dn] _ _
 go_enter func4,ntmps4
 go_upto_region 1 with fail
 obtain ⟨m,hm⟩:∃m,w.heap.size=m:=⟨_,rfl⟩
 rw [hm]
 refine gen_at (fun U=>Blk U m 42 #[.int .i64 x.player,.slice x.la x.ls.length x.lc]∧Below w.heap.size w U) ⟨Eq.subst (motive:=fun k=>Blk _ k _ _) hm C0.out,B0.out⟩ (fun V0 hV=>?_)
 have C:=hid hV.1
 have B:=hid hV.2
 have HM:=hid hm
 clear hV C0 B0 hm
 go_wp2_with fail
 refine (awake19_any _ (HT.below B.out lr0)).mono ?_
 rintro e V1 ⟨rfl,b1⟩
 have C1:=hid (C.call b1)
 have B1:=hid (bl B.out b1)
 clear b1 C B
 have hcm:=C1.cell
 go_wp2_with fail
 clear hcm
 refine (few19_any x V1 (H.below B1.out lr0) HZ.out).mono ?_
 rintro e V2 ⟨rfl,b2⟩
 have C2:=hid (C1.call b2)
 have B2:=hid (bl B1.out b2)
 clear b2 C1 B1
 obtain ⟨fb,hfb⟩:∃b,(decide (x.ls.length≤40)&&decide (linesN x.ls 100≤20000))=b:=⟨_,rfl⟩
 rw [hfb]
 have HF:=hid hfb
 clear hfb
 have hcm:=C2.cell
 cases fb
 ·go_wp2_with fail
  refine (awake19_any _ (HT.below B2.out lr0)).mono ?_
  rintro e V9 ⟨rfl,b9⟩
  have B9:=hid (bl B2.out b9)
  clear b9
  go_wp2_with fail
  go_ret
  exact ⟨rfl,B9.out⟩
 ·by_cases hz:x.ls.length=0
  ·have hz2:((x.ls.length:Int)==0)=true:=by rw [beq_iff_eq];omega
   go_wp2_with fail
   refine (awake19_any _ (HT.below B2.out lr0)).mono ?_
   rintro e V9 ⟨rfl,b9⟩
   have B9:=hid (bl B2.out b9)
   clear b9
   go_wp2_with fail
   go_ret
   exact ⟨rfl,B9.out⟩
  ·have hz2:((x.ls.length:Int)==0)=false:=by rw [beq_eq_false_iff_ne];omega
   have HN:=hid (show x.ls.length≤40∧∀b∈x.ls,b.size≤20000 by have h:=HF.out;simp at h;exact ⟨h.1,fun b hb=>line_few h.1 h.2 hb⟩)
   clear HF HZ
   obtain ⟨j,hj⟩:∃j,dn%x.ls.length=j:=⟨_,rfl⟩
   have hjl:j<x.ls.length:=by rw [←hj];exact Nat.mod_lt _ (by omega)
   have w1:IntKind.i64.wrap (dn:Int)=(dn:Int):=IntWalk.i64_in _ (by omega)
   have m1:(dn:Int).tmod (x.ls.length:Int)=(j:Int):=by rw [←hj];rfl
   have m2:(dn:Int)%(x.ls.length:Int)=(j:Int):=by rw [←hj];rfl
   clear hj hz
   go_wp2_with fail
   clear hcm
   refine (snew_any x V2).mono ?_
   rintro e V3 ⟨rfl,b3⟩
   rw [show phR x.ls 0=0 from phR_in (i:=0) (by omega)]
   have C3:=hid (C2.call b3)
   have B3:=hid (bl B2.out b3)
   clear b3 C2 B2
   have N9:=hid (new_sess V3 (s0 x.player x.ls x.la x.lc 0 0))
   go_upto_region 4 with (refine wl_op (.store 34 (.tmp 5) (.tmp 24)) (by with_reducible rfl) ?_;refine wpList_store_mid rfl 34 (.tmp 5) (.tmp 24) rfl V3.heap.size 0 (slC (s0 x.player x.ls x.la x.lc 0 0)).toArray rfl rfl (there_new V3 #[.int .i64 0,.slice none 0 0,.int .i64 0,.int .i64 0,.int .i64 0,.int .i64 0,.int .i64 0,.int .i64 0,.int .i64 0,.int .i64 0,.slice none 0 0,.int .i64 0,.slice none 0 0,.int .i64 0,.slice none 0 0,.int .i64 0,.slice none 0 0,.int .i64 0,.int .i64 0,.int .i64 0,.slice none 0 0,.slice none 0 0,.int .i64 0,.bool false,.int .i64 0,.int .i64 0,.int .i64 0,.slice none 0 0,.slice none 0 0,.int .i64 0] _) sess_size (slC_cells _) ?_)
   obtain ⟨k,hk⟩:∃k,V3.heap.size=k:=⟨_,rfl⟩
   refine gen_at (fun U=>OpsI w x m k 0 U) ⟨C3.call N9.2,Eq.subst (motive:=fun k=>Blk _ k 34 _) hk N9.1,bl B3.out N9.2⟩ (fun V4 hV=>?_)
   rw [hk]
   have E:=hid hV
   have HKM:=hid (show m<k by rw [←hk];exact C3.lt)
   have HWK:=hid (show w.heap.size≤k by rw [←hk];exact B3.size)
   clear hV N9 hk C3 B3
   go_wp2_with fail
   go_loopw [6] (fun iv wr=>∃i:Nat,i≤j∧iv=.int .i64 i∧OpsI w x m k i wr) (fun iv _=>j-(intOf iv).toNat)
   case atStart=>exact ⟨0,Nat.zero_le _,rfl,E.out⟩
   case round =>
    obtain ⟨i,hi,rfl,hE⟩:=hrel
    have E:=hid hE
    clear hE
    have hcm:=E.c.cell
    by_cases hlt:i<j
    ·have wi:IntKind.i64.wrap ((i:Int)+1)=(i:Int)+1:=IntWalk.i64_in _ (by omega)
     have KS:=hid E.s
     go_upto_region 99 with (refine wl_op (.load 34 (.tmp 5)) (by with_reducible rfl) ?_;refine wpList_load_w (by rfl) 34 (.tmp 5) rfl k 0 rfl (slC (s0 x.player x.ls x.la x.lc i 0)) _ (blk_range KS.out) underlying34 rfl sess_size ?_)
     clear hcm
     refine (sclose_any (s0 x.player x.ls x.la x.lc i 0) wr (by show (-1:Int)≤(i:Int);omega) (by show (i:Int)<_;omega)).mono ?_
     rintro e V5 ⟨he,b5⟩
     replace he:e=.returned (.agg (slC (s0 x.player x.ls x.la x.lc ((i+1:Nat):Int) 0)).toArray):=he.trans (by show Ending.returned (.agg (slC (s0 x.player x.ls x.la x.lc ((i:Int)+1) (phR x.ls ((i:Int)+1)))).toArray)=_;rw [show ((i:Int)+1)=((i+1:Nat):Int) by omega,phR_in (by omega)])
     subst he
     have K5:=hid (KS.call b5)
     have C5:=hid (E.c.call b5)
     have B5:=hid (bl E.b b5)
     clear b5 KS E
     go_upto_region 6 with (refine wl_op (.store 34 (.tmp 5) (.tmp 36)) (by with_reducible rfl) ?_;refine wpList_store_mid rfl 34 (.tmp 5) (.tmp 36) rfl k 0 (slC (s0 x.player x.ls x.la x.lc ((i+1:Nat):Int) 0)).toArray rfl rfl (blk_there K5.out (Nat.le_refl 30)) sess_size (slC_cells _) ?_)
     refine gen_at (fun U=>OpsI w x m k (i+1) U) ⟨blk_far (by have:=HKM.out;omega) _ _ C5.out,blk_stored K5.out rfl,below_sets HWK.out _ _ B5.out⟩ (fun U2 hV=>?_)
     have E2:=hid hV
     clear hV K5 C5 B5
     go_wp2_with fail
     go_roundw
     case rel=>exact ⟨i+1,by omega,by go_num,E2.out⟩
     case measure=>simp [intOf];omega
    ·have hij:i=j:=by omega
     subst hij
     clear hlt
     have KS:=hid E.s
     have CM:=hid E.c
     have BB:=hid E.b
     clear E
     go_upto_region 99 with (refine wl_op (.load 34 (.tmp 5)) (by with_reducible rfl) ?_;refine wpList_load_w (by rfl) 34 (.tmp 5) rfl k 0 rfl (slC (s0 x.player x.ls x.la x.lc i 0)) _ (blk_range KS.out) underlying34 rfl sess_size ?_)
     clear hcm
     refine (sopen_any (s0 x.player x.ls x.la x.lc i 0) wr (s0_at (H.below BB.out lr0)) (s0_few _ _ _ _ _ _) (HT.below BB.out lr0) i rfl hjl (by show (x.ls.getD i ByteArray.empty).size≤500000;have h:=HN.2 _ (List.getElem_mem hjl);rw [List.getD_eq_getElem?_getD,List.getElem?_eq_getElem hjl];show (x.ls[i]).size≤_;omega)).mono ?_
     rintro e V5 ⟨o,rfl,qo,lao,lco,-,b5⟩
     have K5:=hid (KS.call b5)
     have C5:=hid (CM.call b5)
     have B5:=hid (bl BB.out b5)
     have HQ:=hid qo
     have HLA:=hid (show o.la=x.la∧o.lc=x.lc from ⟨lao,lco⟩)
     clear qo lao lco b5 KS CM BB
     have N9:=hid (new_sess V5 o)
     go_upto_region 9 with (refine wl_op (.store 34 (.tmp 7) (.tmp 38)) (by with_reducible rfl) ?_;refine wpList_store_mid rfl 34 (.tmp 7) (.tmp 38) rfl V5.heap.size 0 (slC o).toArray rfl rfl (there_new V5 #[.int .i64 0,.slice none 0 0,.int .i64 0,.int .i64 0,.int .i64 0,.int .i64 0,.int .i64 0,.int .i64 0,.int .i64 0,.int .i64 0,.slice none 0 0,.int .i64 0,.slice none 0 0,.int .i64 0,.slice none 0 0,.int .i64 0,.slice none 0 0,.int .i64 0,.int .i64 0,.int .i64 0,.slice none 0 0,.slice none 0 0,.int .i64 0,.bool false,.int .i64 0,.int .i64 0,.int .i64 0,.slice none 0 0,.slice none 0 0,.int .i64 0] _) sess_size (slC_cells _) ?_)
     obtain ⟨ko,hko⟩:∃k,V5.heap.size=k:=⟨_,rfl⟩
     refine gen_at (fun U=>SB w U k ko (slC (s0 x.player x.ls x.la x.lc i 0)).toArray o∧Blk U m 42 #[.int .i64 x.player,.slice x.la x.ls.length x.lc]) ⟨⟨K5.call N9.2,Eq.subst (motive:=fun k=>Blk _ k 34 _) hko N9.1,bl B5.out N9.2,HWK.out,by rw [←hko];exact B5.size,by rw [←hko];exact Nat.ne_of_lt K5.lt⟩,C5.call N9.2⟩ (fun V6 hV=>?_)
     rw [hko]
     have D:=hid hV.1
     have CM:=hid hV.2
     have HMO:=hid (show m<ko by rw [←hko];exact C5.lt)
     clear hV N9 hko K5 C5 B5
     obtain ⟨L,hL⟩:∃L,x.ls.getD i ByteArray.empty=L:=⟨_,rfl⟩
     have HW4:=hid (ways4 L o.phase o.c.kind (if hv:(lineG L).2=0 then .inl ⟨hv,by rw [show o.phase=_ from congrArg Sq.phase HQ.out,openq_yes _ L hL hv],by rw [show o.c.kind=_ from congrArg (fun q=>q.c.kind) HQ.out,openq_yes _ L hL hv]⟩ else .inr ⟨hv,by rw [show o.phase=_ from congrArg Sq.phase HQ.out,openq_no _ L hL hv],by rw [show o.c.kind=_ from congrArg (fun q=>q.c.kind) HQ.out,openq_no _ L hL hv]⟩))
     clear hL
     have hp:=D.cell 3 (.int .i64 o.phase) rfl
     have hq:=D.cell 5 (.int .i64 o.c.kind) rfl
     rcases HW4.out with ⟨h9,h10,h0,hn0,hph⟩|⟨h9,h10,h0,hn0,hph⟩|⟨h9,h10,h0,hn0,hph⟩|⟨h9,h10,h0,hn0,hph⟩
     all_goals
      rw [hph] at hp
      clear hph HW4
      go_upto_region 12 with fail
      clear hp hq h9 h10 h0 hn0
      go_upto_region 13 with first|(refine wl_op (.load 25 (.tmp 78)) (by with_reducible rfl) ?_;refine wpList_load_w (by rfl) 25 (.tmp 78) rfl k 5 rfl (cmL c0 none 0 none 0) _ (blk_part D.out.za (cmd_part (s0 x.player x.ls x.la x.lc i 0))) underlying25 rfl cmd_size ?_)|(refine wl_op (.store 25 (.tmp 80) (.tmp 79)) (by with_reducible rfl) ?_;refine wpList_store_mid rfl 25 (.tmp 80) (.tmp 79) rfl ko 5 (cmL c0 none 0 none 0).toArray rfl rfl (blk_there D.out.sb (by simp [cmL,slC])) cmd_size (cmL_cells c0 none 0 none 0) ?_)
      refine gen_at (fun U=>SB w U k ko (slC (s0 x.player x.ls x.la x.lc i 0)).toArray (⟨o.player,o.ls,o.la,o.lc,o.next,o.phase,o.step,c0,none,0,none,0,o.foot,o.fa,o.fc,o.has,o.plan,o.pa,o.pc,o.r,o.rpa,o.rpc,o.ria,o.ric,o.stale,o.tries,o.ver,o.room,o.copies,o.ca,o.cc,o.heads,o.ha,o.hc,o.purse⟩:Sl)∧Blk U m 42 #[.int .i64 x.player,.slice x.la x.ls.length x.lc]) ⟨D.sets 5 (cmL c0 none 0 none 0) (sets_cmd o c0 none 0 none 0),blk_far (by have:=HMO.out;omega) _ _ CM.out⟩ (fun U1 hV=>?_)
      have D1:=hid hV.1
      have CM1:=hid hV.2
      clear hV D CM
      have hkp:World.cell? U1 ⟨k,3,none⟩=some (.int .i64 0):=D1.za.cell 3
      have hc3:=D1.cell 3 (.int .i64 o.phase) rfl
      have hz3:=D1.sb.frozen 3
      have hl3:=D1.sb.lt
      go_upto_region 14 with fail
      clear hkp hc3 hz3 hl3
      refine gen_at (fun U=>SB w U k ko (slC (s0 x.player x.ls x.la x.lc i 0)).toArray (⟨o.player,o.ls,o.la,o.lc,o.next,0,o.step,c0,none,0,none,0,o.foot,o.fa,o.fc,o.has,o.plan,o.pa,o.pc,o.r,o.rpa,o.rpc,o.ria,o.ric,o.stale,o.tries,o.ver,o.room,o.copies,o.ca,o.cc,o.heads,o.ha,o.hc,o.purse⟩:Sl)∧Blk U m 42 #[.int .i64 x.player,.slice x.la x.ls.length x.lc]) ⟨D1.set 3 _ rfl,CM1.far (p:=⟨ko,3,none⟩) (by show m≠ko;have:=HMO.out;omega) _⟩ (fun U2 hV=>?_)
      have D2:=hid hV.1
      have CM2:=hid hV.2
      clear hV D1 CM1
      have hk17:World.cell? U2 ⟨k,17,none⟩=some (.int .i64 0):=D2.za.cell 17
      have hk18:World.cell? U2 ⟨k,18,none⟩=some (.int .i64 0):=D2.za.cell 18
      have hk19:World.cell? U2 ⟨k,19,none⟩=some (.int .i64 0):=D2.za.cell 19
      have hk20:World.cell? U2 ⟨k,20,none⟩=some (.slice none 0 0):=D2.za.cell 20
      have hk21:World.cell? U2 ⟨k,21,none⟩=some (.slice none 0 0):=D2.za.cell 21
      have hk22:World.cell? U2 ⟨k,22,none⟩=some (.int .i64 0):=D2.za.cell 22
      have hc17:=D2.cell 17 (.int .i64 o.r.err) rfl
      have hc18:=D2.cell 18 (.int .i64 o.r.kind) rfl
      have hc19:=D2.cell 19 (.int .i64 o.r.room) rfl
      have hc20:=D2.cell 20 (.slice o.rpa o.r.players.length o.rpc) rfl
      have hc21:=D2.cell 21 (.slice o.ria o.r.items.length o.ric) rfl
      have hc22:=D2.cell 22 (.int .i64 o.r.coins) rfl
      have hz3:=D2.sb.frozen
      have hl3:=D2.sb.lt
      go_upto_region 15 with fail
      clear hk17 hk18 hk19 hk20 hk21 hk22 hc17 hc18 hc19 hc20 hc21 hc22 hz3 hl3
      have hmk:m≠ko:=by have:=HMO.out;omega
      refine gen_at (fun U=>SB w U k ko (slC (s0 x.player x.ls x.la x.lc i 0)).toArray (⟨o.player,o.ls,o.la,o.lc,o.next,0,o.step,c0,none,0,none,0,o.foot,o.fa,o.fc,o.has,o.plan,o.pa,o.pc,⟨0,0,0,[],[],0⟩,none,0,none,0,o.stale,o.tries,o.ver,o.room,o.copies,o.ca,o.cc,o.heads,o.ha,o.hc,o.purse⟩:Sl)∧Blk U m 42 #[.int .i64 x.player,.slice x.la x.ls.length x.lc]) ⟨((((((D2.set (s':=(⟨o.player,o.ls,o.la,o.lc,o.next,0,o.step,c0,none,0,none,0,o.foot,o.fa,o.fc,o.has,o.plan,o.pa,o.pc,⟨0,o.r.kind,o.r.room,o.r.players,o.r.items,o.r.coins⟩,o.rpa,o.rpc,o.ria,o.ric,o.stale,o.tries,o.ver,o.room,o.copies,o.ca,o.cc,o.heads,o.ha,o.hc,o.purse⟩:Sl)) 17 _ rfl).set (s':=(⟨o.player,o.ls,o.la,o.lc,o.next,0,o.step,c0,none,0,none,0,o.foot,o.fa,o.fc,o.has,o.plan,o.pa,o.pc,⟨0,0,o.r.room,o.r.players,o.r.items,o.r.coins⟩,o.rpa,o.rpc,o.ria,o.ric,o.stale,o.tries,o.ver,o.room,o.copies,o.ca,o.cc,o.heads,o.ha,o.hc,o.purse⟩:Sl)) 18 _ rfl).set (s':=(⟨o.player,o.ls,o.la,o.lc,o.next,0,o.step,c0,none,0,none,0,o.foot,o.fa,o.fc,o.has,o.plan,o.pa,o.pc,⟨0,0,0,o.r.players,o.r.items,o.r.coins⟩,o.rpa,o.rpc,o.ria,o.ric,o.stale,o.tries,o.ver,o.room,o.copies,o.ca,o.cc,o.heads,o.ha,o.hc,o.purse⟩:Sl)) 19 _ rfl).set (s':=(⟨o.player,o.ls,o.la,o.lc,o.next,0,o.step,c0,none,0,none,0,o.foot,o.fa,o.fc,o.has,o.plan,o.pa,o.pc,⟨0,0,0,[],o.r.items,o.r.coins⟩,none,0,o.ria,o.ric,o.stale,o.tries,o.ver,o.room,o.copies,o.ca,o.cc,o.heads,o.ha,o.hc,o.purse⟩:Sl)) 20 _ rfl).set (s':=(⟨o.player,o.ls,o.la,o.lc,o.next,0,o.step,c0,none,0,none,0,o.foot,o.fa,o.fc,o.has,o.plan,o.pa,o.pc,⟨0,0,0,[],[],o.r.coins⟩,none,0,none,0,o.stale,o.tries,o.ver,o.room,o.copies,o.ca,o.cc,o.heads,o.ha,o.hc,o.purse⟩:Sl)) 21 _ rfl).set (s':=(⟨o.player,o.ls,o.la,o.lc,o.next,0,o.step,c0,none,0,none,0,o.foot,o.fa,o.fc,o.has,o.plan,o.pa,o.pc,⟨0,0,0,[],[],0⟩,none,0,none,0,o.stale,o.tries,o.ver,o.room,o.copies,o.ca,o.cc,o.heads,o.ha,o.hc,o.purse⟩:Sl)) 22 _ rfl),((((((CM2.far (p:=⟨ko,17,none⟩) hmk _).far (p:=⟨ko,18,none⟩) hmk _).far (p:=⟨ko,19,none⟩) hmk _).far (p:=⟨ko,20,none⟩) hmk _).far (p:=⟨ko,21,none⟩) hmk _).far (p:=⟨ko,22,none⟩) hmk _)⟩ (fun U3 hV=>?_)
      have D3:=hid (hV.1.call (drewb U3))
      have CM3:=hid (hV.2.call (drewb U3))
      clear hV D2 CM2 hmk
      have HQ3:=hid (show (⟨o.player,o.ls,o.la,o.lc,o.next,0,o.step,c0,none,0,none,0,o.foot,o.fa,o.fc,o.has,o.plan,o.pa,o.pc,⟨0,0,0,[],[],0⟩,none,0,none,0,o.stale,o.tries,o.ver,o.room,o.copies,o.ca,o.cc,o.heads,o.ha,o.hc,o.purse⟩:Sl).q=(s0 x.player x.ls x.la x.lc i 0).q by show ({ o.q with c:=(s0 x.player x.ls x.la x.lc i 0).q.c,phase:=(s0 x.player x.ls x.la x.lc i 0).q.phase,r:=(s0 x.player x.ls x.la x.lc i 0).q.r }:Sq)=_;rw [HQ.out];exact open_only lineG _)
      have BB3:=hid D3.b
      have SA:=hid (show SessAt U3.drew (s0 x.player x.ls x.la x.lc i 0) from s0_at (H.below BB3.out lr0))
      have SO:=hid (show SessAt U3.drew (⟨o.player,o.ls,o.la,o.lc,o.next,0,o.step,c0,none,0,none,0,o.foot,o.fa,o.fc,o.has,o.plan,o.pa,o.pc,⟨0,0,0,[],[],0⟩,none,0,none,0,o.stale,o.tries,o.ver,o.room,o.copies,o.ca,o.cc,o.heads,o.ha,o.hc,o.purse⟩:Sl) from ⟨by show Ar 1 sbC _ o.la o.ls;rw [HLA.1,show o.ls=x.ls from congrArg Sq.ls HQ3.out];exact H.below BB3.out lr0,Ae.nil _ _,Ae.nil _ _,by show Au _ o.fa o.foot;rw [show o.foot=[] from congrArg Sq.foot HQ3.out];exact Ar.nil _ _,by show WrsAt _ o.pa o.plan;rw [show o.plan=[] from congrArg Sq.plan HQ3.out];exact Ar.nil _ _,Ae.nil _ _,Bd.nil _ _,by show Au _ o.ca o.copies;rw [show o.copies=[] from congrArg Sq.copies HQ3.out];exact Ar.nil _ _,by show Ae _ o.ha o.heads;rw [show o.heads=[] from congrArg Sq.heads HQ3.out];exact Ae.nil _ _⟩)
      have hne:¬x.ls=[]:=by intro h;rw [h] at hjl;simp at hjl
      refine tkS (S:=(fun w'=>(∀j,w'.cell? ⟨k,j,none⟩=(#[.int .i64 x.player,.slice x.la x.ls.length x.lc,.int .i64 i,.int .i64 0,.int .i64 0,.int .i64 0,.int .i64 0,.int .i64 0,.int .i64 0,.int .i64 0,.slice none 0 0,.int .i64 0,.slice none 0 0,.int .i64 0,.slice none 0 0,.int .i64 0,.slice none 0 0,.int .i64 0,.int .i64 0,.int .i64 0,.slice none 0 0,.slice none 0 0,.int .i64 0,.bool false,.int .i64 0,.int .i64 0,.int .i64 0,.slice none 0 0,.slice none 0 0,.int .i64 0][j]?:Option Value))∧(∀j,w'.cell? ⟨ko,j,none⟩=(#[.int .i64 o.player,.slice o.la o.ls.length o.lc,.int .i64 o.next,.int .i64 0,.int .i64 o.step,.int .i64 0,.int .i64 0,.int .i64 0,.int .i64 0,.int .i64 0,.slice none 0 0,.int .i64 0,.slice none 0 0,.int .i64 0,.slice o.fa o.foot.length o.fc,.int .i64 o.has,.slice o.pa o.plan.length o.pc,.int .i64 0,.int .i64 0,.int .i64 0,.slice none 0 0,.slice none 0 0,.int .i64 0,.bool o.stale,.int .i64 o.tries,.int .i64 o.ver,.int .i64 o.room,.slice o.ca o.copies.length o.cc,.slice o.ha o.heads.length o.hc,.int .i64 o.purse][j]?:Option Value))∧(∀j,w'.cell? ⟨m,j,none⟩=(#[.int .i64 x.player,.slice x.la x.ls.length x.lc][j]?:Option Value)))) (by (exact ⟨D3.za.cell,D3.sb.cell,CM3.cell⟩)) (fun hHeld=>?_)
      generalize U3.drew=U4 at *
      refine tkl [0,1] ?_
      refine tW ?_ (hy:=by exact fun ww hSw=>exec_load rfl (load_sess (range_of (s:=(⟨o.player,o.ls,o.la,o.lc,o.next,0,o.step,c0,none,0,none,0,o.foot,o.fa,o.fc,o.has,o.plan,o.pa,o.pc,⟨0,0,0,[],[],0⟩,none,0,none,0,o.stale,o.tries,o.ver,o.room,o.copies,o.ca,o.cc,o.heads,o.ha,o.hc,o.purse⟩:Sl)) hSw.2.1)))
      try go_frame
      refine tW ?_ (hy:=by exact fun ww hSw=>exec_load rfl (load_sess (range_of (s:=(s0 x.player x.ls x.la x.lc i 0)) hSw.1)))
      try go_frame
      refine rdy1 2 (fun K hK=>?_)
      go_simp
      refine (ssame_yes (⟨o.player,o.ls,o.la,o.lc,o.next,0,o.step,c0,none,0,none,0,o.foot,o.fa,o.fc,o.has,o.plan,o.pa,o.pc,⟨0,0,0,[],[],0⟩,none,0,none,0,o.stale,o.tries,o.ver,o.room,o.copies,o.ca,o.cc,o.heads,o.ha,o.hc,o.purse⟩:Sl) (s0 x.player x.ls x.la x.lc i 0) U4 HQ3.out SO.out SA.out).mono ?_;rintro e U5 ⟨rfl,b5⟩;have D4:=hid (D3.call b5);have CM4:=hid (CM3.call b5);clear b5 D3 CM3 SO SA BB3
      try go_wp2_with fail
      refine hK.out _ _ (by (exact ⟨D4.za.cell,D4.sb.cell,CM4.cell⟩)) (fun hHeld=>?_)
      clear hK K
      try go_frame
      refine tkl [3,4,5,6,7,8,9,10,11,12] ?_
      iterate 10
       refine tW ?_
       try go_frame
      refine tkl [13,14] ?_
      iterate 2
       refine tW ?_
       try go_frame
      refine tkD ?_
      go_wp2_with fail
      go_ret
      exact ⟨Ag (by simp),D4.b⟩
theorem walk_sessOpens (x:Sc) (ot:Int) (w:World) (hot:(Lit.int .u8 ot).wf=true) (h:ScAt w x) (hz:∀b∈x.ls,b.size≤140737488351232) (k1:KTab w) (k2:WTab w) (k3:Tab w):Calls prog 4 #[.agg (scC x).toArray,.int .u8 ot] w fun e w'=>e=.returned (.bool true)∧Below w.heap.size w w':=by
 have h3:=Ed hot
 obtain ⟨n,rfl⟩:∃n:Nat,ot=n:=⟨ot.toNat,by omega⟩
 exact sessOpens_go x n w (by omega) h hz ⟨k1,k2,k3⟩
theorem lifted_sessOpens (os:Os) (started:os.Started) (H:Type) (enc:TypeId × Value→H) :
 ReturnsInHanded {} Tryd.checked os 4 .any (fun w args=>(Rows.sessOpensSpec.pre enc prog Tryd.f4 [] false w args∧laidMetH prog Rows.sessOpensRow.laid w)∧sizedMet enc prog Tryd.f4 (OpenSpec.ofChange Rows.sessOpensSpec) false w args) (Rows.sessOpensSpec.post enc prog Tryd.f4 false true false false):=by
 refine returnsInHanded_of_change_and (C:=Tryd.checked) (X:=fun w _=>laidMetH prog Rows.sessOpensRow.laid w) (fun _ _ _ hh h=>h.of_heap hh) (by kernel_rfl) started (by kernel_rfl) func4
  (ChangeSpec.witness_shaped (enc:=enc) (C:=Tryd.checked) (os:=os) (X:=fun w _=>laidMetH prog Rows.sessOpensRow.laid w) false (World.laidAll prog os Rows.sessOpensRow.laid) #[.agg #[.int .i64 0,.slice none 0 0],.int .u8 0] 8 (World.laidAll_os _ _ _)
    (World.shaped_of_ZipB (by kernel_rfl) (by kernel_rfl)) (by kernel_rfl) (by kernel_rfl) (by kernel_rfl)
    (by rw [MakeChecks.laidMetH_plain _ _ _ (by kernel_rfl)];exact laidMet_laidAll _ (by kernel_rfl) (by kernel_rfl))) ?_
 intro W base args ds gs before hval0 hW hcnd hsized hL _
 have hval:∀(j:Nat) t v,Tryd.f4.params[j]?=some t→args[j]?=some v→Value.okWide prog W .any base t v:=hval0
 have hW':=hW
 obtain ⟨p,q,hA0,hV,rfl,hfz,hnd⟩:=hW
 have hA:DataW.TrodAll enc prog W 0 (fun _=>true) true Tryd.f4.params.toList args.toList ds p:=hA0
 rw [Tryd.params4] at hA hval
 obtain ⟨v0,vs0,d0,ds0,p0,q0,hargs,rfl,rfl,h0,r0⟩:=trodAll_cons hA
 obtain ⟨v1,vs1,d1,ds1,p1,q1,rfl,rfl,rfl,h1,r1⟩:=trodAll_cons r0
 obtain ⟨rfl,rfl,rfl⟩:=trodAll_nil r1
 obtain rfl:args=#[v0,v1]:=by cases args;simp_all
 obtain ⟨rfl,rfl⟩:=trodVars_none hV
 obtain ⟨s0,rfl,m0,z0⟩:=read_script (hval 0 42 v0 rfl rfl) h0
 have hz0:∀n∈d0.weights prog 42,n≤140737488351232:=fun n hn=>by
  have:=List.all_eq_true.1 hsized n (weights_each (j:=0) (t:=42) (by rw [Tryd.params4];rfl) rfl n hn)
  exact (of_decide_eq_true this:n≤reachBytes)
 obtain ⟨a1,rfl,rfl,rfl,w1⟩:=open_int underlying5 (hval 1 5 v1 rfl rfl) h1
 clear hA0 hval0
 simp only [List.append_nil] at hW'
 rw [MakeChecks.laidMetH_plain _ _ _ (by kernel_rfl)] at hL
 have fKTab:=Wv W (hL.tail.tail.tail.tail)
 have fWTab:=Au3 W (hL.tail.tail.tail.tail.tail)
 have fTab:=Vz W (hL.tail.tail)
 refine (walk_sessOpens s0 a1 W w1 m0 (z0 _ hz0) fKTab fWTab fTab).mono fun e W' ⟨he,hg⟩=>?_
 subst he
 exact ⟨_,rfl,Iy (by kernel_rfl) rfl (by rw [Tryd.params4];decide +kernel) rfl rfl underlying4 hW' hg⟩
theorem row_sessOpens:Rows.SessOpensSaid :=
 OpenClaim.holds_of_wide 4 Tryd.f4 rfl rfl rfl rfl rfl rfl rfl ⟨rfl,rfl,rfl,rfl,rfl⟩ rfl rfl rfl rfl rfl (by kernel_rfl) func4 (by kernel_rfl)
  (of_decide_eq_true (by kernel_rfl)) (by unfold Func.isWrapper;first|(rw [if_pos (by decide +kernel)];kernel_rfl)|(rw [if_neg (by decide +kernel)];exact ⟨rfl,rfl⟩))
  (fun os started H enc _=>lifted_sessOpens os started H enc)
theorem proved_sessOpens:Rows.SessOpensCardSaid :=
 Claim7.holds_tied_plain_at .later [] Rows.sessOpensCard.laidKinds true Rows.sessOpensCard.stood.harness false row_sessOpens (fun _ h=>by cases h) (by kernel_rfl) (fun _ h=>by cases h) sessOpens_row_tie rfl ⟨rfl,rfl⟩ (by kernel_rfl) rfl
  (fun f fn hf hfn=>by
    obtain rfl : f = 4 := Option.some.inj ((show prog.funcNamed "innkeep/innkeeplaw19.SessOpens" = some 4 by kernel_rfl).symm.trans hf) |>.symm
    obtain rfl:fn=Tryd.f4:=(Option.some.inj (func4.symm.trans hfn)).symm
    exact ⟨by kernel_rfl,fun j t ht=>by
     rw [Tryd.params4] at ht
     have hm:t∈[42,5]:=by simpa using Array.mem_of_getElem? ht
     have hall:([42,5].all fun u=>!prog.wantsStandIn u)=true:=by kernel_rfl
     exact (show prog.wantsStandIn t=false by simpa using List.all_eq_true.1 hall t hm)⟩)
  (by kernel_rfl)
#print axioms proved_sessOpens
end Go.Proofs.YtaeclpjofclbeaaDoor
