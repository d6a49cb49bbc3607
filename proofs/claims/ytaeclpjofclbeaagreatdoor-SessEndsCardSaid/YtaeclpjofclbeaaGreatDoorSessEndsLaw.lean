/- SessEnds: of whatever script of short lists: opened and closed as often as there are lines, a session is done, and not ahead of that; each line was its command, or malformed, once; closed, it has nothing left of it: the statement answers true. No condition but that the program's and the library's tables lie as their text lays them (tied). -/
import Derived.Test.YtaeclpjofclbeaaGreatDoorLineLaw
import Derived.Test.YtaeclpjofclbeaaGreatDoorSessOpN
import Derived.Test.YtaeclpjofclbeaaGreatDoorSessAw
import Derived.Test.YtaeclpjofclbeaaGreatDoorSessWl
namespace Go.Proofs.YtaeclpjofclbeaaGreatDoor
open Go.ChangeShapes Go.WideShapes Go.ChangeAt Go.RowKit Go.Proofs.Tryz
open Lib (hid)
set_option linter.unusedVariables false
set_option maxRecDepth 100000
open Go.RowKit Go
theorem phR_in {ls:List ByteArray} {i:Nat} (h:i<ls.length):phR ls (i:Int)=0:=if_pos ⟨by omega,by omega⟩
theorem phR_out {ls:List ByteArray} {i:Nat} (h:¬i<ls.length):phR ls (i:Int)=12:=if_neg (by omega)
structure EndI (w:World) (x:Sc) (m k i:Nat) (W:World):Prop where
 c:Blk W m 24 #[.int .i64 x.player,.slice x.la x.ls.length x.lc]
 s:Blk W k 38 (slC (s0 x.player x.ls x.la x.lc i (phR x.ls i))).toArray
 b:Below w.heap.size w W
theorem EndI.call {w W V:World} {x:Sc} {m k i:Nat} (h:EndI w x m k i W) (hb:Below W.heap.size W V):EndI w x m k i V:=⟨h.c.call hb,h.s.call hb,bl h.b hb⟩
theorem s0_fewE (p n ph:Int) (ls:List ByteArray) (la:Option Addr) (lc:Nat):FewS (s0 p ls la lc n ph):=⟨Nat.zero_le _,Nat.zero_le _,Nat.zero_le _,Nat.zero_le _,Nat.zero_le _,Nat.zero_le _,Nat.zero_le _,Nat.zero_le _⟩
theorem open_ph (L:ByteArray) (h:(lineG L).2=0):((if 9≤(lineG L).1.kind then (9:Int) else 1)==8)=false:=by
 split<;>rfl
theorem lineG_two (L:ByteArray) (h:¬(lineG L).2=0):(lineG L).2=2:=by
 unfold lineG at h ⊢
 by_cases hb:La (Aq L.data.toList)=true
 ·rw [if_pos hb] at h;exact absurd rfl h
 ·show (if La (Aq L.data.toList) then (0:Int) else 2)=2
  rw [if_neg hb]
set_option maxHeartbeats 1000000 in
theorem walk_sessEnds (x:Sc) (w:World) (h:ScAt w x) (hz:∀b∈x.ls,b.size≤140737488351232) (k1:KTab w) (k2:WTab w) (k3:Tab w):Calls prog 3 #[.agg (scC x).toArray] w fun e w'=>e=.returned (.bool true)∧Below w.heap.size w w':=by
 have HT:=hid (show Tabs w from ⟨k1,k2,k3⟩)
 have H:=hid h
 have HZ:=hid hz
 clear k1 k2 k3 h hz
 have C0:=hid (Blk.new w 24 #[.int .i64 x.player,.slice x.la x.ls.length x.lc])
 have B0:=hid (b_a (w:=w) (.cells #[.int .i64 x.player,.slice x.la x.ls.length x.lc] 24))
 change Calls _ _ #[.agg #[.int .i64 x.player,.slice x.la x.ls.length x.lc]] _ _
 have hCC:=@cC.eq_1
 go_enter func3,ntmps3
 go_upto_region 1 with fail
 obtain ⟨m,hm⟩:∃m,w.heap.size=m:=⟨_,rfl⟩
 rw [hm]
 have HM:=hid hm
 refine gen_at (fun U=>Blk U m 24 #[.int .i64 x.player,.slice x.la x.ls.length x.lc]∧Below w.heap.size w U) ⟨Eq.subst (motive:=fun k=>Blk _ k _ _) hm C0.out,B0.out⟩ (fun V0 hV=>?_)
 have C:=hid hV.1
 have B:=hid hV.2
 clear hV C0 B0 hm
 go_wp2_with fail
 refine (awake19_any _ (HT.below B.out lr0)).mono ?_
 rintro e V1 ⟨rfl,b1⟩
 have C1:=hid (C.call b1)
 have B1:=hid (bl B.out b1)
 clear b1 C B
 have hcm:=C1.cell
 go_wp2_with fail
 clear hcm
 refine (few19_any x V1 (H.below B1.out lr0) HZ.out).mono ?_
 rintro e V2 ⟨rfl,b2⟩
 have C2:=hid (C1.call b2)
 have B2:=hid (bl B1.out b2)
 clear b2 C1 B1
 obtain ⟨fb,hfb⟩:∃b,(decide (x.ls.length≤40)&&decide (linesN x.ls 100≤20000))=b:=⟨_,rfl⟩
 rw [hfb]
 have HF:=hid hfb
 clear hfb
 cases fb
 ·go_wp2_with fail
  refine (awake19_any _ (HT.below B2.out lr0)).mono ?_
  rintro e V9 ⟨rfl,b9⟩
  have B9:=hid (bl B2.out b9)
  clear b9
  go_wp2_with fail
  go_ret
  exact ⟨rfl,B9.out⟩
 ·have HN:=hid (show x.ls.length≤40∧∀b∈x.ls,b.size≤20000 by have h:=HF.out;simp at h;exact ⟨h.1,fun b hb=>line_few h.1 h.2 hb⟩)
  clear HF HZ
  have hcm:=C2.cell
  go_wp2_with fail
  clear hcm
  refine (snew_any x V2).mono ?_
  rintro e V3 ⟨rfl,b3⟩
  have C3:=hid (C2.call b3)
  have B3:=hid (bl B2.out b3)
  clear b3 C2 B2
  have N9:=hid (new_sess V3 (s0 x.player x.ls x.la x.lc 0 (phR x.ls 0)))
  go_upto_region 4 with (refine wl_op (.store 38 (.tmp 3) (.tmp 16)) (by with_reducible rfl) ?_;refine wpList_store_mid rfl 38 (.tmp 3) (.tmp 16) rfl V3.heap.size 0 (slC (s0 x.player x.ls x.la x.lc 0 (phR x.ls 0))).toArray rfl rfl (there_new V3 #[.int .i64 0,.slice none 0 0,.int .i64 0,.int .i64 0,.int .i64 0,.int .i64 0,.int .i64 0,.int .i64 0,.int .i64 0,.int .i64 0,.slice none 0 0,.int .i64 0,.slice none 0 0,.int .i64 0,.slice none 0 0,.int .i64 0,.slice none 0 0,.int .i64 0,.int .i64 0,.int .i64 0,.slice none 0 0,.slice none 0 0,.int .i64 0,.bool false,.int .i64 0,.int .i64 0,.int .i64 0,.slice none 0 0,.slice none 0 0,.int .i64 0] _) sess_size (slC_cells _) ?_)
  obtain ⟨k,hk⟩:∃k,V3.heap.size=k:=⟨_,rfl⟩
  refine gen_at (fun U=>EndI w x m k 0 U) ⟨C3.call N9.2,Eq.subst (motive:=fun k=>Blk _ k 38 _) hk N9.1,bl B3.out N9.2⟩ (fun V4 hV=>?_)
  rw [hk]
  have E:=hid hV
  have HKM:=hid (show m<k by rw [←hk];exact C3.lt)
  have HWK:=hid (show w.heap.size≤k by rw [←hk];exact B3.size)
  clear hV N9 hk C3 B3
  have hln:=HN.1
  go_wp2_with fail
  go_loopw [4] (fun iv wr=>∃i:Nat,i≤x.ls.length∧iv=.int .i64 i∧EndI w x m k i wr) (fun iv _=>x.ls.length-(intOf iv).toNat)
  case atStart=>exact ⟨0,Nat.zero_le _,rfl,E.out⟩
  case round =>
   obtain ⟨i,hi,rfl,hE⟩:=hrel
   have E:=hid hE
   clear hE
   have hcm:=E.c.cell
   by_cases hlt:i<x.ls.length
   ·have EP:=hid (phR_in hlt)
    have hlt9:=hlt
    have KS:=hid (show Blk wr k 38 (slC (s0 x.player x.ls x.la x.lc i 0)).toArray by rw [←EP.out];exact E.s)
    have CM:=hid E.c
    have BB:=hid E.b
    clear E
    have hcs:∀j,World.cell? wr ⟨k,j,none⟩=(slC (s0 x.player x.ls x.la x.lc i 0)).toArray[j]?:=KS.cell
    have hs0:World.cell? wr ⟨k,0,none⟩=some (.int .i64 x.player):=hcs 0
    have hs2:World.cell? wr ⟨k,2,none⟩=some (.int .i64 i):=hcs 2
    have hs3:World.cell? wr ⟨k,3,none⟩=some (.int .i64 0):=hcs 3
    clear hcs
    go_upto_region 9 with fail
    clear hs0 hs2 hs3 hcm
    go_upto_region 99 with (refine wl_op (.load 38 (.tmp 3)) (by with_reducible rfl) ?_;refine wpList_load_w (by rfl) 38 (.tmp 3) rfl k 0 rfl (slC (s0 x.player x.ls x.la x.lc i 0)) _ (blk_range KS.out) underlying38 rfl sess_size ?_)
    refine (sopen_new (s0 x.player x.ls x.la x.lc i 0) wr (⟨H.below BB.out lr0,Ae.nil _ _,Ae.nil _ _,Ar.nil _ _,Ar.nil _ _,Ae.nil _ _,Bd.nil _ _,Ar.nil _ _,Ae.nil _ _⟩) (s0_fewE _ _ _ _ _ _) (HT.below BB.out lr0) i rfl hlt (by show (x.ls.getD i ByteArray.empty).size≤500000;have h:=HN.2 _ (List.getElem_mem hlt);rw [List.getD_eq_getElem?_getD,List.getElem?_eq_getElem hlt];show (x.ls[i]).size≤_;omega)).mono ?_
    rintro e V5 ⟨a,rfl,qa,laa,lca,ata,ua,va,b5⟩
    have K5:=hid (KS.call b5)
    have C5:=hid (CM.call b5)
    have B5:=hid (bl BB.out b5)
    have HQ:=hid qa
    have HLA:=hid (show a.la=x.la∧a.lc=x.lc from ⟨laa,lca⟩)
    have UA:=hid (show Dx7 a.ga a.c.gives k from ua.imp id fun h p e=>Nat.lt_trans KS.lt (h p e))
    have VA:=hid (show Dx7 a.wa a.c.wants k from va.imp id fun h p e=>Nat.lt_trans KS.lt (h p e))
    have GA:=hid ata.g
    have WA:=hid ata.w
    clear qa laa lca ata ua va b5 KS CM BB
    go_upto_region 10 with (refine wl_op (.store 38 (.tmp 3) (.tmp 41)) (by with_reducible rfl) ?_;refine wpList_store_mid rfl 38 (.tmp 3) (.tmp 41) rfl k 0 (slC a).toArray rfl rfl (blk_there K5.out (Nat.le_refl 30)) sess_size (slC_cells _) ?_)
    refine gen_at (fun U=>Blk U k 38 (slC a).toArray∧Blk U m 24 #[.int .i64 x.player,.slice x.la x.ls.length x.lc]∧Below w.heap.size w U∧Ae U a.ga a.c.gives∧Ae U a.wa a.c.wants) ⟨blk_stored K5.out rfl,blk_far (by have:=HKM.out;omega) _ _ C5.out,below_sets HWK.out _ _ B5.out,Ae.puts UA.out lr0 _ _ GA.out,Ae.puts VA.out lr0 _ _ WA.out⟩ (fun V6 hV=>?_)
    have K6:=hid hV.1
    have C6:=hid hV.2.1
    have B6:=hid hV.2.2.1
    have G6:=hid hV.2.2.2.1
    have W6:=hid hV.2.2.2.2
    clear hV K5 C5 B5 UA VA GA WA
    have hcm1:World.cell? V6 ⟨m,1,none⟩=some (.slice x.la x.ls.length x.lc):=C6.cell 1
    obtain ⟨lb,lo,hla,hlb,hlc⟩:=H.at_ hlt
    have hlx:=(B6.cell (p:=⟨lb,lo+i*1+0,none⟩) hlb).trans (hlc i hlt 0 (by decide))
    rw [hla] at hcm1
    clear hla
    rw [Nat.mul_one,Nat.add_zero] at hlx
    simp only [sbC,List.getElem?_cons_zero] at hlx
    have HSZ:=hid (show (x.ls[i]).size≤500000 by have h:=HN.2 _ (List.getElem_mem hlt);omega)
    have HGD:=hid (show x.ls.getD i ByteArray.empty=x.ls[i] by rw [List.getD_eq_getElem?_getD,List.getElem?_eq_getElem hlt];rfl)
    generalize x.ls[i]=L at hlx HSZ HGD
    go_upto_region 99 with fail
    clear hcm1 hlx hlc hlb
    refine (rlget_as L V6 HSZ.out).mono ?_
    rintro e V7 ⟨c,ga,gc,wa,wc,hc,rfl,i1,i2,b7⟩
    have K7:=hid (K6.call b7)
    have C7:=hid (C6.call b7)
    have B7:=hid (bl B6.out b7)
    have G7:=hid (G6.below b7 lr0)
    have W7:=hid (W6.below b7 lr0)
    have J1:=hid i1
    have J2:=hid i2
    have HC:=hid hc
    clear i1 i2 hc b7 K6 C6 B6 G6 W6
    go_upto_region 11 with fail
    obtain ⟨kc,hkc⟩:∃k,V7.heap.size=k:=⟨_,rfl⟩
    rw [hkc]
    refine gen_at (fun U=>Blk U kc 29 (cC c ga gc wa wc)∧Below V7.heap.size V7 U) ⟨Blk.newn _ _ _ hkc,b_a _⟩ (fun V8 hV=>?_)
    have D8:=hid hV.1
    have K8:=hid (K7.call hV.2)
    have C8:=hid (C7.call hV.2)
    have B8:=hid (bl B7.out hV.2)
    have G8:=hid (G7.below hV.2 lr0)
    have W8:=hid (W7.below hV.2 lr0)
    have L1:=hid (J1.below hV.2 lr0)
    have L2:=hid (J2.below hV.2 lr0)
    clear hV hkc K7 C7 B7 G7 W7 J1 J2
    have HAC:=hid (show a.c=c by rw [HC.out,←HGD.out];have h:=congrArg Sq.c HQ.out;rw [open_c] at h;exact h)
    have hkd:=D8.cell
    have hks:∀j,World.cell? V8 ⟨k,j,none⟩=(#[.int .i64 a.player,.slice a.la a.ls.length a.lc,.int .i64 a.next,.int .i64 a.phase,.int .i64 a.step,.int .i64 a.c.kind,.int .i64 a.c.dir,.int .i64 a.c.item,.int .i64 a.c.box,.int .i64 a.c.who,.slice a.ga a.c.gives.length a.gc,.int .i64 a.c.pay,.slice a.wa a.c.wants.length a.wc,.int .i64 a.c.fee,.slice a.fa a.foot.length a.fc,.int .i64 a.has,.slice a.pa a.plan.length a.pc,.int .i64 a.r.err,.int .i64 a.r.kind,.int .i64 a.r.room,.slice a.rpa a.r.players.length a.rpc,.slice a.ria a.r.items.length a.ric,.int .i64 a.r.coins,.bool a.stale,.int .i64 a.tries,.int .i64 a.ver,.int .i64 a.room,.slice a.ca a.copies.length a.cc,.slice a.ha a.heads.length a.hc,.int .i64 a.purse][j]?:Option Value):=K8.cell
    go_upto_region 99 with fail
    clear hkd hks
    refine (Cj a.c c a.ga a.wa ga wa a.gc a.wc gc wc V8 G8.out W8.out L1.out L2.out).mono ?_
    rintro e V9 ⟨rfl,b9⟩
    rw [show Gg a.c c=true by rw [HAC.out];simp [Gg,Qe]]
    have K9:=hid (K8.call b9)
    have C9:=hid (C8.call b9)
    have B9:=hid (bl B8.out b9)
    clear b9 K8 C8 B8 G8 W8 L1 L2 D8
    have hp9:World.cell? V9 ⟨k,3,none⟩=some (.int .i64 a.phase):=K9.cell 3
    have HAN:=hid (show a.next=i∧a.player=x.player∧a.ls=x.ls from ⟨(congrArg Sq.next HQ.out).trans (by unfold openQ;split<;>rfl),(congrArg Sq.player HQ.out).trans (by unfold openQ;split<;>rfl),(congrArg Sq.ls HQ.out).trans (by unfold openQ;split<;>rfl)⟩)
    by_cases hv:(lineG L).2=0
    ·rw [hv]
     have hq:(a.phase==8)=false:=by rw [show a.phase=_ from congrArg Sq.phase HQ.out,openq_yes _ L HGD.out hv];exact open_ph L hv
     clear hv
     go_upto_region 13 with fail
     clear hq hp9
     go_upto_region 99 with (refine wl_op (.load 38 (.tmp 3)) (by with_reducible rfl) ?_;refine wpList_load_w (by rfl) 38 (.tmp 3) rfl k 0 rfl (slC a) _ (blk_range K9.out) underlying38 rfl sess_size ?_)
     have hn9:=HAN.1
     refine (sclose_any a V9 (by omega) (by omega)).mono ?_
     rintro e U1 ⟨he,b1⟩
     have K1:=hid (K9.call b1)
     have C1:=hid (C9.call b1)
     have B1:=hid (bl B9.out b1)
     clear b1 hn9
     replace he:e=.returned (.agg (slC (s0 x.player x.ls x.la x.lc ((i+1:Nat):Int) (phR x.ls ((i+1:Nat):Int)))).toArray):=he.trans (by rw [HAN.2.1,HAN.2.2,HLA.1,HLA.2,HAN.1,Int.natCast_add];rfl)
     subst he
     go_upto_region 14 with (refine wl_op (.store 38 (.tmp 3) (.tmp 76)) (by with_reducible rfl) ?_;refine wpList_store_mid rfl 38 (.tmp 3) (.tmp 76) rfl k 0 (slC (s0 x.player x.ls x.la x.lc ((i+1:Nat):Int) (phR x.ls ((i+1:Nat):Int)))).toArray rfl rfl (blk_there K1.out (Nat.le_refl 30)) sess_size (slC_cells _) ?_)
     refine gen_at (fun U=>EndI w x m k (i+1) U) ⟨blk_far (by have:=HKM.out;omega) _ _ C1.out,blk_stored K1.out rfl,below_sets HWK.out _ _ B1.out⟩ (fun U2 hV=>?_)
     have E2:=hid hV
     clear hV K1 C1 B1 K9 C9 B9
     have hks:∀j,World.cell? U2 ⟨k,j,none⟩=(#[.int .i64 x.player,.slice x.la x.ls.length x.lc,.int .i64 ((i+1:Nat):Int),.int .i64 (phR x.ls ((i+1:Nat):Int)),.int .i64 0,.int .i64 0,.int .i64 0,.int .i64 0,.int .i64 0,.int .i64 0,.slice none 0 0,.int .i64 0,.slice none 0 0,.int .i64 0,.slice none 0 0,.int .i64 0,.slice none 0 0,.int .i64 0,.int .i64 0,.int .i64 0,.slice none 0 0,.slice none 0 0,.int .i64 0,.bool false,.int .i64 0,.int .i64 0,.int .i64 0,.slice none 0 0,.slice none 0 0,.int .i64 0][j]?:Option Value):=E2.s.cell
     go_upto_region 99 with fail
     clear hks
     refine (Cj ⟨0,0,0,0,0,[],0,[],0⟩ ⟨0,0,0,0,0,[],0,[],0⟩ none none none none 0 0 0 0 U2 (Ae.nil _ _) (Ae.nil _ _) (Ae.nil _ _) (Ae.nil _ _)).mono ?_
     rintro e U3 ⟨rfl,b3⟩
     rw [show Gg ⟨0,0,0,0,0,[],0,[],0⟩ ⟨0,0,0,0,0,[],0,[],0⟩=true by decide]
     have E3:=hid (E2.call b3)
     clear b3 E2
     have hks:∀j,World.cell? U3 ⟨k,j,none⟩=(#[.int .i64 x.player,.slice x.la x.ls.length x.lc,.int .i64 ((i+1:Nat):Int),.int .i64 (phR x.ls ((i+1:Nat):Int)),.int .i64 0,.int .i64 0,.int .i64 0,.int .i64 0,.int .i64 0,.int .i64 0,.slice none 0 0,.int .i64 0,.slice none 0 0,.int .i64 0,.slice none 0 0,.int .i64 0,.slice none 0 0,.int .i64 0,.int .i64 0,.int .i64 0,.slice none 0 0,.slice none 0 0,.int .i64 0,.bool false,.int .i64 0,.int .i64 0,.int .i64 0,.slice none 0 0,.slice none 0 0,.int .i64 0][j]?:Option Value):=E3.s.cell
     go_upto_region 99 with fail
     clear hks
     refine (Cs ⟨0,0,0,[],[],0⟩ ⟨0,0,0,[],[],0⟩ none none none none 0 0 0 0 U3 (Ae.nil _ _) (Bd.nil _ _) (Ae.nil _ _) (Bd.nil _ _)).mono ?_
     rintro e U4 ⟨rfl,b4⟩
     rw [show Gl ⟨0,0,0,[],[],0⟩ ⟨0,0,0,[],[],0⟩=true from (Kn _ _).2 rfl]
     have E4:=hid (E3.call b4)
     clear b4 E3
     have hks:∀j,World.cell? U4 ⟨k,j,none⟩=(#[.int .i64 x.player,.slice x.la x.ls.length x.lc,.int .i64 ((i+1:Nat):Int),.int .i64 (phR x.ls ((i+1:Nat):Int)),.int .i64 0,.int .i64 0,.int .i64 0,.int .i64 0,.int .i64 0,.int .i64 0,.slice none 0 0,.int .i64 0,.slice none 0 0,.int .i64 0,.slice none 0 0,.int .i64 0,.slice none 0 0,.int .i64 0,.int .i64 0,.int .i64 0,.slice none 0 0,.slice none 0 0,.int .i64 0,.bool false,.int .i64 0,.int .i64 0,.int .i64 0,.slice none 0 0,.slice none 0 0,.int .i64 0][j]?:Option Value):=E4.s.cell
     have wi:IntKind.i64.wrap ((i:Int)+1)=(i:Int)+1:=IntWalk.i64_in _ (by omega)
     go_wp2_with fail
     go_roundw
     case rel=>exact ⟨i+1,by omega,by go_num,E4.out⟩
     case measure=>simp [intOf];omega
    ·rw [lineG_two L hv]
     have HR:=hid (show a.r=⟨2,0,0,[],[],0⟩ by rw [show a.r=_ from congrArg Sq.r HQ.out,openq_no _ L HGD.out hv])
     have HPH:=hid (show a.phase=8 by rw [show a.phase=_ from congrArg Sq.phase HQ.out,openq_no _ L HGD.out hv])
     rw [HPH.out] at hp9
     clear hv
     have hr17:World.cell? V9 ⟨k,17,none⟩=some (.int .i64 2):=(K9.cell 17).trans (by show some (Value.int .i64 a.r.err)=_;rw [HR.out])
     have hr18:World.cell? V9 ⟨k,18,none⟩=some (.int .i64 0):=(K9.cell 18).trans (by show some (Value.int .i64 a.r.kind)=_;rw [HR.out])
     have hr19:World.cell? V9 ⟨k,19,none⟩=some (.int .i64 0):=(K9.cell 19).trans (by show some (Value.int .i64 a.r.room)=_;rw [HR.out])
     have hr20:World.cell? V9 ⟨k,20,none⟩=some (.slice a.rpa 0 a.rpc):=(K9.cell 20).trans (by show some (Value.slice a.rpa a.r.players.length a.rpc)=_;rw [HR.out];rfl)
     have hr21:World.cell? V9 ⟨k,21,none⟩=some (.slice a.ria 0 a.ric):=(K9.cell 21).trans (by show some (Value.slice a.ria a.r.items.length a.ric)=_;rw [HR.out];rfl)
     have hr22:World.cell? V9 ⟨k,22,none⟩=some (.int .i64 0):=(K9.cell 22).trans (by show some (Value.int .i64 a.r.coins)=_;rw [HR.out])
     go_upto_region 99 with fail
     clear hp9 hr17 hr18 hr19 hr20 hr21 hr22
     refine (Cs ⟨2,0,0,[],[],0⟩ ⟨2,0,0,[],[],0⟩ a.rpa a.ria none none a.rpc a.ric 0 0 V9 (Ae.nil _ _) (Bd.nil _ _) (Ae.nil _ _) (Bd.nil _ _)).mono ?_
     rintro e V10 ⟨rfl,b10⟩
     rw [show Gl ⟨2,0,0,[],[],0⟩ ⟨2,0,0,[],[],0⟩=true from (Kn _ _).2 rfl]
     have K10:=hid (K9.call b10)
     have C10:=hid (C9.call b10)
     have B10:=hid (bl B9.out b10)
     clear b10 K9 C9 B9
     go_upto_region 13 with fail
     go_upto_region 99 with (refine wl_op (.load 38 (.tmp 3)) (by with_reducible rfl) ?_;refine wpList_load_w (by rfl) 38 (.tmp 3) rfl k 0 rfl (slC a) _ (blk_range K10.out) underlying38 rfl sess_size ?_)
     have hn9:=HAN.1
     refine (sclose_any a V10 (by omega) (by omega)).mono ?_
     rintro e U1 ⟨he,b1⟩
     have K1:=hid (K10.call b1)
     have C1:=hid (C10.call b1)
     have B1:=hid (bl B10.out b1)
     clear b1 hn9
     replace he:e=.returned (.agg (slC (s0 x.player x.ls x.la x.lc ((i+1:Nat):Int) (phR x.ls ((i+1:Nat):Int)))).toArray):=he.trans (by rw [HAN.2.1,HAN.2.2,HLA.1,HLA.2,HAN.1,Int.natCast_add];rfl)
     subst he
     go_upto_region 14 with (refine wl_op (.store 38 (.tmp 3) (.tmp 76)) (by with_reducible rfl) ?_;refine wpList_store_mid rfl 38 (.tmp 3) (.tmp 76) rfl k 0 (slC (s0 x.player x.ls x.la x.lc ((i+1:Nat):Int) (phR x.ls ((i+1:Nat):Int)))).toArray rfl rfl (blk_there K1.out (Nat.le_refl 30)) sess_size (slC_cells _) ?_)
     refine gen_at (fun U=>EndI w x m k (i+1) U) ⟨blk_far (by have:=HKM.out;omega) _ _ C1.out,blk_stored K1.out rfl,below_sets HWK.out _ _ B1.out⟩ (fun U2 hV=>?_)
     have E2:=hid hV
     clear hV K1 C1 B1 K10 C10 B10
     have hks:∀j,World.cell? U2 ⟨k,j,none⟩=(#[.int .i64 x.player,.slice x.la x.ls.length x.lc,.int .i64 ((i+1:Nat):Int),.int .i64 (phR x.ls ((i+1:Nat):Int)),.int .i64 0,.int .i64 0,.int .i64 0,.int .i64 0,.int .i64 0,.int .i64 0,.slice none 0 0,.int .i64 0,.slice none 0 0,.int .i64 0,.slice none 0 0,.int .i64 0,.slice none 0 0,.int .i64 0,.int .i64 0,.int .i64 0,.slice none 0 0,.slice none 0 0,.int .i64 0,.bool false,.int .i64 0,.int .i64 0,.int .i64 0,.slice none 0 0,.slice none 0 0,.int .i64 0][j]?:Option Value):=E2.s.cell
     go_upto_region 99 with fail
     clear hks
     refine (Cj ⟨0,0,0,0,0,[],0,[],0⟩ ⟨0,0,0,0,0,[],0,[],0⟩ none none none none 0 0 0 0 U2 (Ae.nil _ _) (Ae.nil _ _) (Ae.nil _ _) (Ae.nil _ _)).mono ?_
     rintro e U3 ⟨rfl,b3⟩
     rw [show Gg ⟨0,0,0,0,0,[],0,[],0⟩ ⟨0,0,0,0,0,[],0,[],0⟩=true by decide]
     have E3:=hid (E2.call b3)
     clear b3 E2
     have hks:∀j,World.cell? U3 ⟨k,j,none⟩=(#[.int .i64 x.player,.slice x.la x.ls.length x.lc,.int .i64 ((i+1:Nat):Int),.int .i64 (phR x.ls ((i+1:Nat):Int)),.int .i64 0,.int .i64 0,.int .i64 0,.int .i64 0,.int .i64 0,.int .i64 0,.slice none 0 0,.int .i64 0,.slice none 0 0,.int .i64 0,.slice none 0 0,.int .i64 0,.slice none 0 0,.int .i64 0,.int .i64 0,.int .i64 0,.slice none 0 0,.slice none 0 0,.int .i64 0,.bool false,.int .i64 0,.int .i64 0,.int .i64 0,.slice none 0 0,.slice none 0 0,.int .i64 0][j]?:Option Value):=E3.s.cell
     go_upto_region 99 with fail
     clear hks
     refine (Cs ⟨0,0,0,[],[],0⟩ ⟨0,0,0,[],[],0⟩ none none none none 0 0 0 0 U3 (Ae.nil _ _) (Bd.nil _ _) (Ae.nil _ _) (Bd.nil _ _)).mono ?_
     rintro e U4 ⟨rfl,b4⟩
     rw [show Gl ⟨0,0,0,[],[],0⟩ ⟨0,0,0,[],[],0⟩=true from (Kn _ _).2 rfl]
     have E4:=hid (E3.call b4)
     clear b4 E3
     have hks:∀j,World.cell? U4 ⟨k,j,none⟩=(#[.int .i64 x.player,.slice x.la x.ls.length x.lc,.int .i64 ((i+1:Nat):Int),.int .i64 (phR x.ls ((i+1:Nat):Int)),.int .i64 0,.int .i64 0,.int .i64 0,.int .i64 0,.int .i64 0,.int .i64 0,.slice none 0 0,.int .i64 0,.slice none 0 0,.int .i64 0,.slice none 0 0,.int .i64 0,.slice none 0 0,.int .i64 0,.int .i64 0,.int .i64 0,.slice none 0 0,.slice none 0 0,.int .i64 0,.bool false,.int .i64 0,.int .i64 0,.int .i64 0,.slice none 0 0,.slice none 0 0,.int .i64 0][j]?:Option Value):=E4.s.cell
     have wi:IntKind.i64.wrap ((i:Int)+1)=(i:Int)+1:=IntWalk.i64_in _ (by omega)
     go_wp2_with fail
     go_roundw
     case rel=>exact ⟨i+1,by omega,by go_num,E4.out⟩
     case measure=>simp [intOf];omega
   ·have hie:i=x.ls.length:=by omega
    subst hie
    have EP:=hid (phR_out hlt)
    have KS:=hid (show Blk wr k 38 (slC (s0 x.player x.ls x.la x.lc x.ls.length 12)).toArray by rw [←EP.out];exact E.s)
    have BB:=hid E.b
    have hs2:World.cell? wr ⟨k,2,none⟩=some (.int .i64 x.ls.length):=KS.cell 2
    have hs3:World.cell? wr ⟨k,3,none⟩=some (.int .i64 12):=KS.cell 3
    clear E
    go_wp2_with fail
    go_ret
    exact ⟨Ag (by simp),BB.out⟩
theorem lifted_sessEnds (os:Os) (started:os.Started) (H:Type) (enc:TypeId × Value→H) :
 ReturnsInHanded {} Tryz.checked os 3 .any (fun w args=>(Rows.sessEndsSpec.pre enc prog Tryz.f3 [] false w args∧laidMetH prog Rows.sessEndsRow.laid w)∧sizedMet enc prog Tryz.f3 (OpenSpec.ofChange Rows.sessEndsSpec) false w args) (Rows.sessEndsSpec.post enc prog Tryz.f3 false true false false):=by
 refine returnsInHanded_of_change_and (C:=Tryz.checked) (X:=fun w _=>laidMetH prog Rows.sessEndsRow.laid w) (fun _ _ _ hh h=>h.of_heap hh) (by kernel_rfl) started (by kernel_rfl) func3
  (ChangeSpec.witness_shaped (enc:=enc) (C:=Tryz.checked) (os:=os) (X:=fun w _=>laidMetH prog Rows.sessEndsRow.laid w) false (World.laidAll prog os Rows.sessEndsRow.laid) #[.agg #[.int .i64 0,.slice none 0 0]] 8 (World.laidAll_os _ _ _)
    (World.shaped_of_ZipB (by kernel_rfl) (by kernel_rfl)) (by kernel_rfl) (by kernel_rfl) (by kernel_rfl)
    (by rw [MakeChecks.laidMetH_plain _ _ _ (by kernel_rfl)];exact laidMet_laidAll _ (by kernel_rfl) (by kernel_rfl))) ?_
 intro W base args ds gs before hval0 hW hcnd hsized hL _
 have hval:∀(j:Nat) t v,Tryz.f3.params[j]?=some t→args[j]?=some v→Value.okWide prog W .any base t v:=hval0
 have hW':=hW
 obtain ⟨p,q,hA0,hV,rfl,hfz,hnd⟩:=hW
 have hA:DataW.TrodAll enc prog W 0 (fun _=>true) true Tryz.f3.params.toList args.toList ds p:=hA0
 rw [Tryz.params3] at hA hval
 obtain ⟨v0,vs0,d0,ds0,p0,q0,hargs,rfl,rfl,h0,r0⟩:=trodAll_cons hA
 obtain ⟨rfl,rfl,rfl⟩:=trodAll_nil r0
 obtain rfl:args=#[v0]:=by cases args;simp_all
 obtain ⟨rfl,rfl⟩:=trodVars_none hV
 obtain ⟨s0,rfl,m0,z0⟩:=read_script (hval 0 24 v0 rfl rfl) h0
 have hz0:∀n∈d0.weights prog 24,n≤140737488351232:=fun n hn=>by
  have:=List.all_eq_true.1 hsized n (weights_each (j:=0) (t:=24) (by rw [Tryz.params3];rfl) rfl n hn)
  exact (of_decide_eq_true this:n≤reachBytes)
 clear hA0 hval0
 simp only [List.append_nil] at hW'
 rw [MakeChecks.laidMetH_plain _ _ _ (by kernel_rfl)] at hL
 have fKTab:=Wv W (hL.tail.tail.tail.tail)
 have fWTab:=Au3 W (hL.tail.tail.tail.tail.tail)
 have fTab:=Vz W (hL.tail.tail)
 refine (walk_sessEnds s0 W m0 (z0 _ hz0) fKTab fWTab fTab).mono fun e W' ⟨he,hg⟩=>?_
 subst he
 exact ⟨_,rfl,Iy (by kernel_rfl) rfl (by rw [Tryz.params3];decide +kernel) rfl rfl underlying4 hW' hg⟩
theorem row_sessEnds:Rows.SessEndsSaid :=
 OpenClaim.holds_of_wide 3 Tryz.f3 rfl rfl rfl rfl rfl rfl rfl ⟨rfl,rfl,rfl,rfl,rfl⟩ rfl rfl rfl rfl rfl (by kernel_rfl) func3 (by kernel_rfl)
  (of_decide_eq_true (by kernel_rfl)) (by unfold Func.isWrapper;first|(rw [if_pos (by decide +kernel)];kernel_rfl)|(rw [if_neg (by decide +kernel)];exact ⟨rfl,rfl⟩))
  (fun os started H enc _=>lifted_sessEnds os started H enc)
theorem proved_sessEnds:Rows.SessEndsCardSaid :=
 Claim7.holds_tied_plain_at .later [] Rows.sessEndsCard.laidKinds true Rows.sessEndsCard.stood.harness false row_sessEnds (fun _ h=>by cases h) (by kernel_rfl) (fun _ h=>by cases h) sessEnds_row_tie rfl ⟨rfl,rfl⟩ (by kernel_rfl) rfl
  (fun f fn hf hfn=>by
    obtain rfl : f = 3 := Option.some.inj ((show prog.funcNamed "innkeep/innkeeplaw19.SessEnds" = some 3 by kernel_rfl).symm.trans hf) |>.symm
    obtain rfl:fn=Tryz.f3:=(Option.some.inj (func3.symm.trans hfn)).symm
    exact ⟨by kernel_rfl,fun j t ht=>by
     rw [Tryz.params3] at ht
     have hm:t∈[24]:=by simpa using Array.mem_of_getElem? ht
     have hall:([24].all fun u=>!prog.wantsStandIn u)=true:=by kernel_rfl
     exact (show prog.wantsStandIn t=false by simpa using List.all_eq_true.1 hall t hm)⟩)
  (by kernel_rfl)
#print axioms proved_sessEnds
end Go.Proofs.YtaeclpjofclbeaaGreatDoor
