/- sess: Open: a line taken up, read, and what is to come of it. -/
import Derived.Test.YtaeclpjofclbeaaDoorLineNew
import Derived.Test.YtaeclpjofclbeaaDoorSessLine
import Derived.Test.YtaeclpjofclbeaaDoorSessOwn
namespace Go.Proofs.YtaeclpjofclbeaaDoor
open Go.ChangeShapes Go.WideShapes Go.ChangeAt Go.RowKit Go.Proofs.Tryd
open Lib (hid)
set_option linter.unusedVariables false
open Go.RowKit Go
theorem Ae.put {W:World} {a:Option Addr} {xs:List Int} (h:Ae W a xs) {B q:Nat} (ha:Dx7 a xs B) (hq:q≤B) (o:Nat) (v:Value):Ae (W.setCell ⟨q,o,none⟩ v) a xs:=by
 obtain ⟨hl,h⟩:=h
 refine ⟨hl,?_⟩
 rcases h with h|⟨b,off,rfl,hb,hc⟩
 ·exact .inl h
 ·rcases ha with ha|ha
  ·exact .inl ha
  ·have hb2:B<b:=ha _ rfl
   exact .inr ⟨b,off,rfl,by simpa using hb,fun i hi=>by rw [World.cell?_setCell_other _ _ _ _ (by intro h;have:=congrArg Addr.block h;simp at this;omega)];exact hc i hi⟩
theorem Ae.puts {a:Option Addr} {xs:List Int} {B q:Nat} (ha:Dx7 a xs B) (hq:q≤B):∀(vs:List Value) (o:Nat) {W:World},Ae W a xs→Ae (W.setCells q o vs) a xs
 | [],_,_,h=>h
 | v :: r,o,_,h=>Ae.puts ha hq r (o+1) (h.put ha hq o v)
theorem lget_new (b:ByteArray) (w:World) (hs:b.size≤500000) (ht:Tabs w):Calls prog 31 #[.string b] w fun e w'=>∃(c:Cm) (ga:Option Addr) (gc:Nat) (wa:Option Addr) (wc:Nat),c=(lineG b).1∧e=.returned (.tuple #[.agg (cC c ga gc wa wc),.int .i64 (lineG b).2])∧Ae w' ga c.gives∧Ae w' wa c.wants∧Dx7 ga c.gives (w.heap.size+1)∧Dx7 wa c.wants (w.heap.size+1)∧Below w.heap.size w w':=(get_new b w hs ht).mono fun _ _ h=>h
theorem drewb (V:World):Below V.heap.size V V.drew:=⟨rfl,rfl,rfl,Nat.le_refl _,fun _ _=>rfl⟩
def OpenQ (s:Sl) (w:World) (e:Ending) (w':World):Prop:=∃s':Sl,e=.returned (.agg (slC s').toArray)∧s'.q=openQ lineG s.q∧s'.la=s.la∧s'.lc=s.lc∧SessAt w' s'∧Below w.heap.size w w'
structure Op (w V:World) (n m:Nat) (z:Array Value) (s t:Sl) (c:Cm) (ga wa:Option Addr):Prop where
 b:SB w V n m z s
 sz:m+2≤V.heap.size
 ns:NewS (m+2) V t
 gi:Ae V ga c.gives
 wi:Ae V wa c.wants
section
variable {w V V':World} {n m:Nat} {z:Array Value} {s s' t:Sl} {c:Cm} {ga wa:Option Addr}
theorem Op.sets (h:Op w V n m z s t c ga wa) (g1:Dx7 ga c.gives (m+1)) (w1:Dx7 wa c.wants (m+1)) (o:Nat) (vs:List Value) (e:sets (slC s).toArray o vs=(slC s').toArray):Op w (V.setCells m o vs) n m z s' t c ga wa :=
 ⟨h.b.sets o vs e,by rw [size_sets];exact h.sz,h.ns.sets (by omega) o vs,Ae.puts g1 (by omega) vs o h.gi,Ae.puts w1 (by omega) vs o h.wi⟩
theorem Op.set (h:Op w V n m z s t c ga wa) (g1:Dx7 ga c.gives (m+1)) (w1:Dx7 wa c.wants (m+1)) (i:Nat) (v:Value) (e:(slC s).toArray.setIfInBounds i v=(slC s').toArray):Op w (V.setCell ⟨m,i,none⟩ v) n m z s' t c ga wa:=h.sets g1 w1 i [v] e
theorem Op.call (h:Op w V n m z s t c ga wa) (hb:Below V.heap.size V V'):Op w V' n m z s t c ga wa:=⟨h.b.call hb,Nat.le_trans h.sz hb.size,h.ns.call hb,h.gi.below hb lr0,h.wi.below hb lr0⟩
end
theorem openq_yes (q:Sq) (L:ByteArray) (h:q.ls.getD q.next.toNat ByteArray.empty=L) (hv:(lineG L).2=0):openQ lineG q={ q with c:=(lineG L).1,phase:=if 9≤(lineG L).1.kind then 9 else 1 }:=by
 subst h;unfold openQ;rw [if_neg (fun h=>h hv)]
theorem openq_no (q:Sq) (L:ByteArray) (h:q.ls.getD q.next.toNat ByteArray.empty=L) (hv:¬(lineG L).2=0):openQ lineG q={ q with c:=(lineG L).1,phase:=8,r:=⟨2,0,0,[],[],0⟩ }:=by
 subst h;unfold openQ;rw [if_pos hv]
theorem gen_ex {A:Type} {K:A→World→Prop} {a:A} {W:World} (F:World→Prop) (hF:F W) (h:∀V,F V→K a V):K a W:=h W hF
theorem first_open (b:ByteArray):(lineG b).2=0→(if (lineG b).1.kind=9∨(lineG b).1.kind=10 then (9:Int) else 1)=if 9≤(lineG b).1.kind then 9 else 1:=fun h=>by
 have:=lineG_yes b h
 by_cases h9:9≤(lineG b).1.kind
 ·rw [if_pos h9,if_pos (by omega)]
 ·rw [if_neg h9,if_neg (by omega)]
set_option maxRecDepth 100000 in
set_option maxHeartbeats 2000000 in
theorem sopen_any (s:Sl) (w:World) (h:SessAt w s) (hf:FewS s) (ht:Tabs w) (k:Nat) (hk:s.next=k) (hkl:k<s.ls.length) (hsz:(s.ls.getD k ByteArray.empty).size≤500000):Calls prog 14 #[.agg (slC s).toArray] w (OpenQ s w):=by
 have H:=hid h
 have HF:=hid hf
 have HT:=hid ht
 have HKL:=hid hkl
 have HK:=hid hk
 have HSZ:=hid hsz
 clear h hf ht hkl hk hsz
 have C0:=hid (Two.start 34 34 w #[.int .i64 s.player,.slice s.la s.ls.length s.lc,.int .i64 s.next,.int .i64 s.phase,.int .i64 s.step,.int .i64 s.c.kind,.int .i64 s.c.dir,.int .i64 s.c.item,.int .i64 s.c.box,.int .i64 s.c.who,.slice s.ga s.c.gives.length s.gc,.int .i64 s.c.pay,.slice s.wa s.c.wants.length s.wc,.int .i64 s.c.fee,.slice s.fa s.foot.length s.fc,.int .i64 s.has,.slice s.pa s.plan.length s.pc,.int .i64 s.r.err,.int .i64 s.r.kind,.int .i64 s.r.room,.slice s.rpa s.r.players.length s.rpc,.slice s.ria s.r.items.length s.ric,.int .i64 s.r.coins,.bool s.stale,.int .i64 s.tries,.int .i64 s.ver,.int .i64 s.room,.slice s.ca s.copies.length s.cc,.slice s.ha s.heads.length s.hc,.int .i64 s.purse] #[.int .i64 0,.slice none 0 0,.int .i64 0,.int .i64 0,.int .i64 0,.int .i64 0,.int .i64 0,.int .i64 0,.int .i64 0,.int .i64 0,.slice none 0 0,.int .i64 0,.slice none 0 0,.int .i64 0,.slice none 0 0,.int .i64 0,.slice none 0 0,.int .i64 0,.int .i64 0,.int .i64 0,.slice none 0 0,.slice none 0 0,.int .i64 0,.bool false,.int .i64 0,.int .i64 0,.int .i64 0,.slice none 0 0,.slice none 0 0,.int .i64 0])
 rw [slC_eta]
 have hCC:=@cC.eq_1
 go_enter func14,ntmps14
 go_upto_region 1 with fail
 obtain ⟨m,hm⟩:∃m,w.heap.size=m:=⟨_,rfl⟩
 obtain ⟨n,hn⟩:∃n,w.heap.size+1=n:=⟨_,rfl⟩
 rw [hn,hm]
 refine gen_at (fun V=>SB w V n m #[.int .i64 0,.slice none 0 0,.int .i64 0,.int .i64 0,.int .i64 0,.int .i64 0,.int .i64 0,.int .i64 0,.int .i64 0,.int .i64 0,.slice none 0 0,.int .i64 0,.slice none 0 0,.int .i64 0,.slice none 0 0,.int .i64 0,.slice none 0 0,.int .i64 0,.int .i64 0,.int .i64 0,.slice none 0 0,.slice none 0 0,.int .i64 0,.bool false,.int .i64 0,.int .i64 0,.int .i64 0,.slice none 0 0,.slice none 0 0,.int .i64 0] s) ⟨by rw [←hn];exact C0.r,by rw [←hm];exact C0.a,C0.b,by omega,by omega,by omega⟩ (fun v0 hV=>?_)
 have C:=hid hV
 clear hV C0
 have N:=hid (show m+2≤v0.heap.size by have:=C.za.lt;omega)
 have HMN:=hid (show w.heap.size=m∧n=m+1 from ⟨hm,by omega⟩)
 clear hm hn
 go_upto_region 99 with refine wpList_load_mid rfl 34 (.tmp 1) rfl m 0 rfl (slC s) _ C.range underlying34 rfl sess_size ?_
 refine (sownl_any s v0 (H.below C.b lr0) HF.out).mono ?_
 rintro e w1 ⟨s1,rfl,⟨hq,hla,hlc⟩,ns1,b1⟩
 have C1:=hid (C.call b1)
 have NS:=hid (ns1.less N.out)
 have N1:=hid (Nat.le_trans N.out b1.size)
 clear ns1 b1 C N
 have HE:=hid (show OpenQ s w=OpenQ s1 w by unfold OpenQ;rw [hq,hla,hlc])
 have HL1:=hid (show s1.ls=s.ls from congrArg Sq.ls hq)
 have HK1:=hid (show s1.next=k from (congrArg Sq.next hq).trans HK.out)
 have HLA:=hid (show Ar 1 sbC w s1.la s1.ls by rw [hla,HL1.out];exact H.ls)
 have HKL1:=hid (show k<s1.ls.length by rw [HL1.out];exact HKL.out)
 have HSZ1:=hid (show (s1.ls.getD k ByteArray.empty).size≤500000 by rw [HL1.out];exact HSZ.out)
 clear hq hla hlc H HF HK HKL HSZ HL1
 go_upto_region 2 with refine wpList_store_mid rfl 34 (.tmp 1) (.tmp 6) rfl m 0 (slC s1).toArray rfl rfl (blk_there C1.sb (Nat.le_refl 30)) sess_size (slC_cells _) ?_
 refine gen_at (fun V=>SB w V n m #[.int .i64 0,.slice none 0 0,.int .i64 0,.int .i64 0,.int .i64 0,.int .i64 0,.int .i64 0,.int .i64 0,.int .i64 0,.int .i64 0,.slice none 0 0,.int .i64 0,.slice none 0 0,.int .i64 0,.slice none 0 0,.int .i64 0,.slice none 0 0,.int .i64 0,.int .i64 0,.int .i64 0,.slice none 0 0,.slice none 0 0,.int .i64 0,.bool false,.int .i64 0,.int .i64 0,.int .i64 0,.slice none 0 0,.slice none 0 0,.int .i64 0] s1∧m+2≤V.heap.size∧NewS (m+2) V s1) ⟨⟨blk_far C1.ne _ _ C1.za,blk_stored C1.sb rfl,below_sets C1.hm _ _ C1.b,C1.hn,C1.hm,C1.ne⟩,by rw [size_sets];exact N1.out,NS.sets (by omega) _ _⟩ (fun v1 hV=>?_)
 have C:=hid hV.1
 have N:=hid hV.2.1
 have NS:=hid hV.2.2
 clear hV C1 N1
 go_upto_region 99 with refine wpList_load_mid rfl 34 (.tmp 1) rfl m 0 rfl (slC s1) _ C.range underlying34 rfl sess_size ?_
 refine (hasnext_any s1 v1).mono ?_
 rintro e w2 ⟨rfl,b2⟩
 have C2:=hid (C.call b2)
 have N2:=hid (Nat.le_trans N.out b2.size)
 have NS2:=hid (NS.call b2)
 clear b2 C N NS
 rw [show (decide (0≤s1.next)&&decide (s1.next<s1.ls.length))=true by rw [HK1.out];have:=HKL1.out;simp;omega]
 have hc1:=C2.cell 1 (.slice s1.la s1.ls.length s1.lc) rfl
 have hc2:=C2.cell 2 (.int .i64 k) (by rw [←HK1.out];rfl)
 obtain ⟨lb,lo,hla,hlb,hlc⟩:=HLA.at_ HKL1.out
 have hlx:=(C2.b.cell (p:=⟨lb,lo+k*1+0,none⟩) hlb).trans (hlc k HKL1.out 0 (by decide))
 rw [hla] at hc1
 rw [Nat.mul_one,Nat.add_zero] at hlx
 have HX:=hid (show s1.ls[k]'HKL1.out=s1.ls.getD s1.next.toNat ByteArray.empty by rw [HK1.out];have:=HKL1.out;simp [List.getD,this])
 have hlx2:w2.cell? ⟨lb,lo+k,none⟩=some (.string (s1.ls.getD s1.next.toNat ByteArray.empty)):=by rw [hlx,←HX.out];rfl
 have HSZ2:=hid (show (s1.ls.getD s1.next.toNat ByteArray.empty).size≤500000 by rw [HK1.out];exact HSZ1.out)
 obtain ⟨L,hL⟩:∃L,s1.ls.getD s1.next.toNat ByteArray.empty=L:=⟨_,rfl⟩
 rw [hL] at hlx2 HSZ2
 have HLL:=hid hL
 have hkl:=HKL1.out
 clear hlx hlc hla hlb HX hL
 go_upto_region 99 with fail
 clear hc1 hc2 hlx2 hkl
 refine (lget_new L w2 HSZ2.out (HT.below C2.b lr0)).mono ?_
 rintro e w3 ⟨c,ga,gc,wa,wc,hc,rfl,i1,i2,a1,a2,b3⟩
 have C3:=hid (C2.call b3)
 have N3:=hid (Nat.le_trans N2.out b3.size)
 have NS3:=hid (NS2.call b3)
 have G1:=hid (show Dx7 ga c.gives (m+1) from a1.imp id fun h p e=>by have:=h p e;have:=N2.out;omega)
 have G2:=hid (show Dx7 wa c.wants (m+1) from a2.imp id fun h p e=>by have:=h p e;have:=N2.out;omega)
 have I1:=hid i1
 have I2:=hid i2
 have HC:=hid hc
 clear i1 i2 a1 a2 b3 C2 N2 NS2 hc HSZ1 HSZ2
 go_upto_region 5 with fail
 obtain ⟨kb,hkb⟩:∃kb,w3.heap.size=kb:=⟨_,rfl⟩
 rw [hkb]
 refine gen_at (fun V=>Op w V n m #[.int .i64 0,.slice none 0 0,.int .i64 0,.int .i64 0,.int .i64 0,.int .i64 0,.int .i64 0,.int .i64 0,.int .i64 0,.int .i64 0,.slice none 0 0,.int .i64 0,.slice none 0 0,.int .i64 0,.slice none 0 0,.int .i64 0,.slice none 0 0,.int .i64 0,.int .i64 0,.int .i64 0,.slice none 0 0,.slice none 0 0,.int .i64 0,.bool false,.int .i64 0,.int .i64 0,.int .i64 0,.slice none 0 0,.slice none 0 0,.int .i64 0] s1 s1 c ga wa∧Blk V kb 25 (cC c ga gc wa wc)) ⟨(⟨C3.out,N3.out,NS3.out,I1.out,I2.out⟩:Op w w3 n m #[.int .i64 0,.slice none 0 0,.int .i64 0,.int .i64 0,.int .i64 0,.int .i64 0,.int .i64 0,.int .i64 0,.int .i64 0,.int .i64 0,.slice none 0 0,.int .i64 0,.slice none 0 0,.int .i64 0,.slice none 0 0,.int .i64 0,.slice none 0 0,.int .i64 0,.int .i64 0,.int .i64 0,.slice none 0 0,.slice none 0 0,.int .i64 0,.bool false,.int .i64 0,.int .i64 0,.int .i64 0,.slice none 0 0,.slice none 0 0,.int .i64 0] s1 s1 c ga wa).call (b_a _),Blk.newn _ _ _ hkb⟩ (fun V4 hV=>?_)
 have hkn:=N3.out
 have HKB:=hid (show kb≠m by omega)
 clear hkn hkb C3 N3 NS3 I1 I2
 have O:=hid (hV.1.call (drewb V4))
 have KB:=hid (hV.2.call (drewb V4))
 clear hV
 obtain ⟨ph,hph⟩:∃ph:Int,(if c.kind=9∨c.kind=10 then (9:Int) else 1)=ph:=⟨_,rfl⟩
 have HPH:=hid hph
 clear hph
 refine tkS (S:=(fun w'=>∀i,w'.cell? ⟨kb,i,none⟩=((cC c ga gc wa wc)[i]?:Option Value))) (by (exact KB.cell)) (fun hHeld=>?_)
 generalize V4.drew=V5 at *
 refine tkl [0,1,2,4] ?_
 iterate 4
  refine tW ?_
  try go_frame
 refine rdy1 3 (fun K hK=>?_)
 go_simp
 refine (firstphase_any c.kind _).mono ?_;rintro e w9 ⟨rfl,rfl⟩;rw [HPH.out]
 try go_wp2_with fail
 refine hK.out _ _ (by (exact KB.cell)) (fun hHeld=>?_)
 clear hK K
 try go_frame
 refine rdy1 5 (fun K hK=>?_)
 refine wp_store_mid 25 (.tmp 25) (.tmp 21) rfl m 5 (cmL c ga gc wa wc).toArray rfl rfl (blk_there O.b.sb (by simp [cmL,slC])) cmd_size (cmL_cells c ga gc wa wc) ?_
 refine hK.out _ _ (by (exact (blk_far HKB.out _ _ KB.out).cell)) (fun hHeld=>?_)
 clear hK K
 try go_frame
 have O:=hid (O.sets G1.out G2.out (s':=(⟨s1.player,s1.ls,s1.la,s1.lc,s1.next,s1.phase,s1.step,c,ga,gc,wa,wc,s1.foot,s1.fa,s1.fc,s1.has,s1.plan,s1.pa,s1.pc,s1.r,s1.rpa,s1.rpc,s1.ria,s1.ric,s1.stale,s1.tries,s1.ver,s1.room,s1.copies,s1.ca,s1.cc,s1.heads,s1.ha,s1.hc,s1.purse⟩:Sl)) 5 (cmL c ga gc wa wc) (sets_cmd s1 c ga gc wa wc))
 have KB:=hid (blk_far HKB.out (cmL c ga gc wa wc) 5 KB.out)
 refine tkl [6] (tW ?_)
 try go_frame
 have hc3:=O.b.cell 3 (.int .i64 s1.phase) rfl
 have hz3:=O.b.sb.frozen 3
 have hl3:=O.b.sb.lt
 refine rdy1 7 (fun K hK=>?_)
 go_simp
 try go_wp2_with fail
 refine hK.out _ _ (by (exact (KB.far (p:=⟨m,3,none⟩) HKB.out _).cell)) (fun hHeld=>?_)
 clear hK K
 try go_frame
 clear hc3 hz3 hl3
 refine tkD ?_
 refine gen_ex (fun V=>Op w V n m #[.int .i64 0,.slice none 0 0,.int .i64 0,.int .i64 0,.int .i64 0,.int .i64 0,.int .i64 0,.int .i64 0,.int .i64 0,.int .i64 0,.slice none 0 0,.int .i64 0,.slice none 0 0,.int .i64 0,.slice none 0 0,.int .i64 0,.slice none 0 0,.int .i64 0,.int .i64 0,.int .i64 0,.slice none 0 0,.slice none 0 0,.int .i64 0,.bool false,.int .i64 0,.int .i64 0,.int .i64 0,.slice none 0 0,.slice none 0 0,.int .i64 0] (⟨s1.player,s1.ls,s1.la,s1.lc,s1.next,ph,s1.step,c,ga,gc,wa,wc,s1.foot,s1.fa,s1.fc,s1.has,s1.plan,s1.pa,s1.pc,s1.r,s1.rpa,s1.rpc,s1.ria,s1.ric,s1.stale,s1.tries,s1.ver,s1.room,s1.copies,s1.ca,s1.cc,s1.heads,s1.ha,s1.hc,s1.purse⟩:Sl) s1 c ga wa) (O.set G1.out G2.out 3 _ rfl) (fun V6 hV=>?_)
 have O:=hid hV
 clear hV KB
 by_cases hv:(lineG L).2=0
 ·have hq:((lineG L).2 != 0)=false:=by simp [hv]
  have HV:=hid hv
  have QEQ:=hid (show (⟨s1.player,s1.ls,s1.la,s1.lc,s1.next,ph,s1.step,c,ga,gc,wa,wc,s1.foot,s1.fa,s1.fc,s1.has,s1.plan,s1.pa,s1.pc,s1.r,s1.rpa,s1.rpc,s1.ria,s1.ric,s1.stale,s1.tries,s1.ver,s1.room,s1.copies,s1.ca,s1.cc,s1.heads,s1.ha,s1.hc,s1.purse⟩:Sl).q=openQ lineG s1.q by rw [openq_yes s1.q L HLL.out HV.out,←first_open L HV.out,←HC.out,HPH.out];rfl)
  clear hv
  go_upto_region 99 with first
   | refine wpList_load_mid rfl 34 (.tmp 1) rfl m 0 rfl (slC (⟨s1.player,s1.ls,s1.la,s1.lc,s1.next,ph,s1.step,c,ga,gc,wa,wc,s1.foot,s1.fa,s1.fc,s1.has,s1.plan,s1.pa,s1.pc,s1.r,s1.rpa,s1.rpc,s1.ria,s1.ric,s1.stale,s1.tries,s1.ver,s1.room,s1.copies,s1.ca,s1.cc,s1.heads,s1.ha,s1.hc,s1.purse⟩:Sl)) _ O.b.range underlying34 rfl sess_size ?_
   | refine wpList_store_mid rfl 34 (.tmp 2) (.tmp 32) rfl n 0 (slC (⟨s1.player,s1.ls,s1.la,s1.lc,s1.next,ph,s1.step,c,ga,gc,wa,wc,s1.foot,s1.fa,s1.fc,s1.has,s1.plan,s1.pa,s1.pc,s1.r,s1.rpa,s1.rpc,s1.ria,s1.ric,s1.stale,s1.tries,s1.ver,s1.room,s1.copies,s1.ca,s1.cc,s1.heads,s1.ha,s1.hc,s1.purse⟩:Sl)).toArray rfl rfl (O.b.there rfl) sess_size (slC_cells _) ?_
  try simp only [Exit.inBlock,Exit.then]
  refine bodyPost_ret (v:=.agg (slC (⟨s1.player,s1.ls,s1.la,s1.lc,s1.next,ph,s1.step,c,ga,gc,wa,wc,s1.foot,s1.fa,s1.fc,s1.has,s1.plan,s1.pa,s1.pc,s1.r,s1.rpa,s1.rpc,s1.ria,s1.ric,s1.stale,s1.tries,s1.ver,s1.room,s1.copies,s1.ca,s1.cc,s1.heads,s1.ha,s1.hc,s1.purse⟩:Sl)).toArray) ?_ rfl ?_
  ·exact res_sess (b:=n) rfl rfl (blk_range (O.b.fin rfl).1)
  ·have hh:=HMN.out
   have hB:=(O.b.fin rfl).2
   have hN:=O.ns.sets (q:=n) (by omega) 0 (slC (⟨s1.player,s1.ls,s1.la,s1.lc,s1.next,ph,s1.step,c,ga,gc,wa,wc,s1.foot,s1.fa,s1.fc,s1.has,s1.plan,s1.pa,s1.pc,s1.r,s1.rpa,s1.rpc,s1.ria,s1.ric,s1.stale,s1.tries,s1.ver,s1.room,s1.copies,s1.ca,s1.cc,s1.heads,s1.ha,s1.hc,s1.purse⟩:Sl))
   show OpenQ s w _ _
   rw [HE.out]
   exact ⟨(⟨s1.player,s1.ls,s1.la,s1.lc,s1.next,ph,s1.step,c,ga,gc,wa,wc,s1.foot,s1.fa,s1.fc,s1.has,s1.plan,s1.pa,s1.pc,s1.r,s1.rpa,s1.rpc,s1.ria,s1.ric,s1.stale,s1.tries,s1.ver,s1.room,s1.copies,s1.ca,s1.cc,s1.heads,s1.ha,s1.hc,s1.purse⟩:Sl),rfl,QEQ.out,rfl,rfl,⟨HLA.below hB lr0,Ae.puts G1.out (by omega) _ _ O.gi,Ae.puts G2.out (by omega) _ _ O.wi,hN.foot.row,hN.plan.row,Av.2 hN.rp.row,sen_row hN.ri.row,hN.cp.row,Av.2 hN.hd.row⟩,hB⟩
 ·have hq:((lineG L).2 != 0)=true:=by simp [hv]
  have HV:=hid hv
  have QEQ:=hid (show (⟨s1.player,s1.ls,s1.la,s1.lc,s1.next,8,s1.step,c,ga,gc,wa,wc,s1.foot,s1.fa,s1.fc,s1.has,s1.plan,s1.pa,s1.pc,⟨2,0,0,[],[],0⟩,none,0,none,0,s1.stale,s1.tries,s1.ver,s1.room,s1.copies,s1.ca,s1.cc,s1.heads,s1.ha,s1.hc,s1.purse⟩:Sl).q=openQ lineG s1.q by rw [openq_no s1.q L HLL.out HV.out,←HC.out];rfl)
  clear hv
  have hc3:=O.b.cell 3 (.int .i64 ph) rfl
  have hc17:=O.b.cell 17 (.int .i64 s1.r.err) rfl
  have hc18:=O.b.cell 18 (.int .i64 s1.r.kind) rfl
  have hc19:=O.b.cell 19 (.int .i64 s1.r.room) rfl
  have hc20:=O.b.cell 20 (.slice s1.rpa s1.r.players.length s1.rpc) rfl
  have hc21:=O.b.cell 21 (.slice s1.ria s1.r.items.length s1.ric) rfl
  have hc22:=O.b.cell 22 (.int .i64 s1.r.coins) rfl
  have hz:=O.b.sb.frozen
  have hl:=O.b.sb.lt
  go_upto_region 8 with fail
  clear hc3 hc17 hc18 hc19 hc20 hc21 hc22 hz hl hq
  refine gen_at (fun V=>Op w V n m #[.int .i64 0,.slice none 0 0,.int .i64 0,.int .i64 0,.int .i64 0,.int .i64 0,.int .i64 0,.int .i64 0,.int .i64 0,.int .i64 0,.slice none 0 0,.int .i64 0,.slice none 0 0,.int .i64 0,.slice none 0 0,.int .i64 0,.slice none 0 0,.int .i64 0,.int .i64 0,.int .i64 0,.slice none 0 0,.slice none 0 0,.int .i64 0,.bool false,.int .i64 0,.int .i64 0,.int .i64 0,.slice none 0 0,.slice none 0 0,.int .i64 0] (⟨s1.player,s1.ls,s1.la,s1.lc,s1.next,8,s1.step,c,ga,gc,wa,wc,s1.foot,s1.fa,s1.fc,s1.has,s1.plan,s1.pa,s1.pc,⟨2,0,0,[],[],0⟩,none,0,none,0,s1.stale,s1.tries,s1.ver,s1.room,s1.copies,s1.ca,s1.cc,s1.heads,s1.ha,s1.hc,s1.purse⟩:Sl) s1 c ga wa) (((((((O.set G1.out G2.out (s':=(⟨s1.player,s1.ls,s1.la,s1.lc,s1.next,ph,s1.step,c,ga,gc,wa,wc,s1.foot,s1.fa,s1.fc,s1.has,s1.plan,s1.pa,s1.pc,⟨2,s1.r.kind,s1.r.room,s1.r.players,s1.r.items,s1.r.coins⟩,s1.rpa,s1.rpc,s1.ria,s1.ric,s1.stale,s1.tries,s1.ver,s1.room,s1.copies,s1.ca,s1.cc,s1.heads,s1.ha,s1.hc,s1.purse⟩:Sl)) 17 _ rfl).set G1.out G2.out (s':=(⟨s1.player,s1.ls,s1.la,s1.lc,s1.next,ph,s1.step,c,ga,gc,wa,wc,s1.foot,s1.fa,s1.fc,s1.has,s1.plan,s1.pa,s1.pc,⟨2,0,s1.r.room,s1.r.players,s1.r.items,s1.r.coins⟩,s1.rpa,s1.rpc,s1.ria,s1.ric,s1.stale,s1.tries,s1.ver,s1.room,s1.copies,s1.ca,s1.cc,s1.heads,s1.ha,s1.hc,s1.purse⟩:Sl)) 18 _ rfl).set G1.out G2.out (s':=(⟨s1.player,s1.ls,s1.la,s1.lc,s1.next,ph,s1.step,c,ga,gc,wa,wc,s1.foot,s1.fa,s1.fc,s1.has,s1.plan,s1.pa,s1.pc,⟨2,0,0,s1.r.players,s1.r.items,s1.r.coins⟩,s1.rpa,s1.rpc,s1.ria,s1.ric,s1.stale,s1.tries,s1.ver,s1.room,s1.copies,s1.ca,s1.cc,s1.heads,s1.ha,s1.hc,s1.purse⟩:Sl)) 19 _ rfl).set G1.out G2.out (s':=(⟨s1.player,s1.ls,s1.la,s1.lc,s1.next,ph,s1.step,c,ga,gc,wa,wc,s1.foot,s1.fa,s1.fc,s1.has,s1.plan,s1.pa,s1.pc,⟨2,0,0,[],s1.r.items,s1.r.coins⟩,none,0,s1.ria,s1.ric,s1.stale,s1.tries,s1.ver,s1.room,s1.copies,s1.ca,s1.cc,s1.heads,s1.ha,s1.hc,s1.purse⟩:Sl)) 20 _ rfl).set G1.out G2.out (s':=(⟨s1.player,s1.ls,s1.la,s1.lc,s1.next,ph,s1.step,c,ga,gc,wa,wc,s1.foot,s1.fa,s1.fc,s1.has,s1.plan,s1.pa,s1.pc,⟨2,0,0,[],[],s1.r.coins⟩,none,0,none,0,s1.stale,s1.tries,s1.ver,s1.room,s1.copies,s1.ca,s1.cc,s1.heads,s1.ha,s1.hc,s1.purse⟩:Sl)) 21 _ rfl).set G1.out G2.out (s':=(⟨s1.player,s1.ls,s1.la,s1.lc,s1.next,ph,s1.step,c,ga,gc,wa,wc,s1.foot,s1.fa,s1.fc,s1.has,s1.plan,s1.pa,s1.pc,⟨2,0,0,[],[],0⟩,none,0,none,0,s1.stale,s1.tries,s1.ver,s1.room,s1.copies,s1.ca,s1.cc,s1.heads,s1.ha,s1.hc,s1.purse⟩:Sl)) 22 _ rfl).set G1.out G2.out (s':=(⟨s1.player,s1.ls,s1.la,s1.lc,s1.next,8,s1.step,c,ga,gc,wa,wc,s1.foot,s1.fa,s1.fc,s1.has,s1.plan,s1.pa,s1.pc,⟨2,0,0,[],[],0⟩,none,0,none,0,s1.stale,s1.tries,s1.ver,s1.room,s1.copies,s1.ca,s1.cc,s1.heads,s1.ha,s1.hc,s1.purse⟩:Sl)) 3 _ rfl) (fun V7 hV=>?_)
  have O:=hid hV
  clear hV
  go_upto_region 99 with first
   | refine wpList_load_mid rfl 34 (.tmp 1) rfl m 0 rfl (slC (⟨s1.player,s1.ls,s1.la,s1.lc,s1.next,8,s1.step,c,ga,gc,wa,wc,s1.foot,s1.fa,s1.fc,s1.has,s1.plan,s1.pa,s1.pc,⟨2,0,0,[],[],0⟩,none,0,none,0,s1.stale,s1.tries,s1.ver,s1.room,s1.copies,s1.ca,s1.cc,s1.heads,s1.ha,s1.hc,s1.purse⟩:Sl)) _ O.b.range underlying34 rfl sess_size ?_
   | refine wpList_store_mid rfl 34 (.tmp 2) (.tmp 32) rfl n 0 (slC (⟨s1.player,s1.ls,s1.la,s1.lc,s1.next,8,s1.step,c,ga,gc,wa,wc,s1.foot,s1.fa,s1.fc,s1.has,s1.plan,s1.pa,s1.pc,⟨2,0,0,[],[],0⟩,none,0,none,0,s1.stale,s1.tries,s1.ver,s1.room,s1.copies,s1.ca,s1.cc,s1.heads,s1.ha,s1.hc,s1.purse⟩:Sl)).toArray rfl rfl (O.b.there rfl) sess_size (slC_cells _) ?_
  try simp only [Exit.inBlock,Exit.then]
  refine bodyPost_ret (v:=.agg (slC (⟨s1.player,s1.ls,s1.la,s1.lc,s1.next,8,s1.step,c,ga,gc,wa,wc,s1.foot,s1.fa,s1.fc,s1.has,s1.plan,s1.pa,s1.pc,⟨2,0,0,[],[],0⟩,none,0,none,0,s1.stale,s1.tries,s1.ver,s1.room,s1.copies,s1.ca,s1.cc,s1.heads,s1.ha,s1.hc,s1.purse⟩:Sl)).toArray) ?_ rfl ?_
  ·exact res_sess (b:=n) rfl rfl (blk_range (O.b.fin rfl).1)
  ·have hh:=HMN.out
   have hB:=(O.b.fin rfl).2
   have hN:=O.ns.sets (q:=n) (by omega) 0 (slC (⟨s1.player,s1.ls,s1.la,s1.lc,s1.next,8,s1.step,c,ga,gc,wa,wc,s1.foot,s1.fa,s1.fc,s1.has,s1.plan,s1.pa,s1.pc,⟨2,0,0,[],[],0⟩,none,0,none,0,s1.stale,s1.tries,s1.ver,s1.room,s1.copies,s1.ca,s1.cc,s1.heads,s1.ha,s1.hc,s1.purse⟩:Sl))
   show OpenQ s w _ _
   rw [HE.out]
   exact ⟨(⟨s1.player,s1.ls,s1.la,s1.lc,s1.next,8,s1.step,c,ga,gc,wa,wc,s1.foot,s1.fa,s1.fc,s1.has,s1.plan,s1.pa,s1.pc,⟨2,0,0,[],[],0⟩,none,0,none,0,s1.stale,s1.tries,s1.ver,s1.room,s1.copies,s1.ca,s1.cc,s1.heads,s1.ha,s1.hc,s1.purse⟩:Sl),rfl,QEQ.out,rfl,rfl,⟨HLA.below hB lr0,Ae.puts G1.out (by omega) _ _ O.gi,Ae.puts G2.out (by omega) _ _ O.wi,hN.foot.row,hN.plan.row,Ae.nil _ _,Bd.nil _ _,hN.cp.row,Av.2 hN.hd.row⟩,hB⟩
end Go.Proofs.YtaeclpjofclbeaaDoor
