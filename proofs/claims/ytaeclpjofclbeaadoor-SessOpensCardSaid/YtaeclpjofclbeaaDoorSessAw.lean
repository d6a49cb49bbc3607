/- What the document fixes of sessions: awake. -/
import Derived.Test.YtaeclpjofclbeaaDoorSessOpen
import Derived.Test.YtaeclpjofclbeaaDoorSessSam2
namespace Go.Proofs.YtaeclpjofclbeaaDoor
open Go.ChangeShapes Go.WideShapes Go.ChangeAt Go.RowKit Go.Proofs.Tryd
open Lib (hid)
set_option linter.unusedVariables false
set_option maxRecDepth 100000
open Go.RowKit Go
def bLook:ByteArray:=⟨#[108,111,111,107]⟩
def bGet5:ByteArray:=⟨#[103,101,116,32,53]⟩
def bX:ByteArray:=⟨#[120]⟩
def ls19:List ByteArray:=[bLook,bGet5,bX]
def Ho5:Cm:=⟨9,0,0,0,0,[],0,[],0⟩
def get5C:Cm:=⟨3,0,5,0,0,[],0,[],0⟩
theorem lineG_look:lineG bLook=(Ho5,0):=by
 have h:wordsOf Ho5=[[108,111,111,107]]:=by simp [wordsOf,Ho5,Be,Aw,kindNames]
 have hc:La [[108,111,111,107]]=true∧Ng [[108,111,111,107]]=Ho5:=by rw [←h];exact Im (by decide)
 have hw:Aq bLook.data.toList=[[108,111,111,107]]:=by decide
 unfold lineG
 rw [hw,hc.1,hc.2];rfl
theorem lineG_get5:lineG bGet5=(get5C,0):=by
 have d:∀n,n<10→Lib.decDigits n=[UInt8.ofNat (48+n)]:=fun n hn=>by rw [Lib.decDigits,dif_pos hn]
 have h:wordsOf get5C=[[103,101,116],[53]]:=by simp [wordsOf,get5C,Be,putP,getF,Kd.word,wd,d,Aw,kindNames]
 have hc:La [[103,101,116],[53]]=true∧Ng [[103,101,116],[53]]=get5C:=by rw [←h];exact Im (by decide)
 have hw:Aq bGet5.data.toList=[[103,101,116],[53]]:=by decide
 unfold lineG
 rw [hw,hc.1,hc.2];rfl
theorem lineG_x:lineG bX=(c0,2):=by
 have hc:La [[120]]=false:=by decide
 have hw:Aq bX.data.toList=[[120]]:=by decide
 unfold lineG
 rw [hw];unfold Ng;rw [hc];rfl
theorem open_at0 (la:Option Addr):openQ lineG (s0 1 ls19 la 3 0 0).q=⟨1,ls19,0,9,0,Ho5,[],0,[],r0,false,0,0,0,[],[],0⟩:=by
 rw [openq_yes _ bLook rfl (by rw [lineG_look]),lineG_look];rfl
theorem open_at1 (la:Option Addr):openQ lineG (s0 1 ls19 la 3 1 0).q=⟨1,ls19,1,1,0,get5C,[],0,[],r0,false,0,0,0,[],[],0⟩:=by
 rw [openq_yes _ bGet5 rfl (by rw [lineG_get5]),lineG_get5];rfl
theorem open_at2 (la:Option Addr):openQ lineG (s0 1 ls19 la 3 2 0).q=⟨1,ls19,2,8,0,c0,[],0,[],⟨2,0,0,[],[],0⟩,false,0,0,0,[],[],0⟩:=by
 rw [openq_no _ bX rfl (by rw [lineG_x];decide),lineG_x];rfl
theorem s0_at {W:World} {p n ph:Int} {ls:List ByteArray} {la:Option Addr} {lc:Nat} (h:Ar 1 sbC W la ls):SessAt W (s0 p ls la lc n ph):=⟨h,Ae.nil _ _,Ae.nil _ _,Ar.nil _ _,Ar.nil _ _,Ae.nil _ _,Bd.nil _ _,Ar.nil _ _,Ae.nil _ _⟩
theorem s0_few (p n ph:Int) (ls:List ByteArray) (la:Option Addr) (lc:Nat):FewS (s0 p ls la lc n ph):=⟨Nat.zero_le _,Nat.zero_le _,Nat.zero_le _,Nat.zero_le _,Nat.zero_le _,Nat.zero_le _,Nat.zero_le _,Nat.zero_le _⟩
theorem new_sess (V:World) (s:Sl):Blk ((V.alloc (.cells #[.int .i64 0,.slice none 0 0,.int .i64 0,.int .i64 0,.int .i64 0,.int .i64 0,.int .i64 0,.int .i64 0,.int .i64 0,.int .i64 0,.slice none 0 0,.int .i64 0,.slice none 0 0,.int .i64 0,.slice none 0 0,.int .i64 0,.slice none 0 0,.int .i64 0,.int .i64 0,.int .i64 0,.slice none 0 0,.slice none 0 0,.int .i64 0,.bool false,.int .i64 0,.int .i64 0,.int .i64 0,.slice none 0 0,.slice none 0 0,.int .i64 0] 34)).setCells V.heap.size 0 (slC s)) V.heap.size 34 (slC s).toArray∧Below V.heap.size V ((V.alloc (.cells #[.int .i64 0,.slice none 0 0,.int .i64 0,.int .i64 0,.int .i64 0,.int .i64 0,.int .i64 0,.int .i64 0,.int .i64 0,.int .i64 0,.slice none 0 0,.int .i64 0,.slice none 0 0,.int .i64 0,.slice none 0 0,.int .i64 0,.slice none 0 0,.int .i64 0,.int .i64 0,.int .i64 0,.slice none 0 0,.slice none 0 0,.int .i64 0,.bool false,.int .i64 0,.int .i64 0,.int .i64 0,.slice none 0 0,.slice none 0 0,.int .i64 0] 34)).setCells V.heap.size 0 (slC s)) :=
 ⟨blk_stored (Blk.new _ _ _) rfl,below_sets lr0 _ _ (b_a _)⟩
theorem ls19_at (w:World) (n:Nat) (h:w.heap.size=n):Ar 1 sbC (w.alloc (.cells #[.string bLook,.string bGet5,.string bX] 9)) (some ⟨n,0,none⟩) ls19:=by
 refine ⟨by simp [ls19,maxLen],.inr ⟨n,0,rfl,by simp;omega,fun i hi j hj=>?_⟩⟩
 obtain rfl:j=0:=by omega
 rw [show 0+i*1+0=i by omega,(Blk.newn w 9 #[.string bLook,.string bGet5,.string bX] h).cell]
 match i,hi with
 | 0,_=>rfl
 | 1,_=>rfl
 | 2,_=>rfl
theorem gen_ca {P:Program} {f:FuncId} {args:Array Value} {R:Ending→World→Prop} {W:World} (F:World→Prop) (hF:F W) (h:∀V,F V→Calls P f args V R):Calls P f args W R:=h W hF
theorem field_phase (W:World):(Instr.field 34 (.agg (slC (s0 0 [] none 0 0 12)).toArray) 3).run prog W=.ok (.int .i64 12) W:=by
 kernel_rfl
theorem gen_ls {P:Program} {ops:Array Oper} {l:List Oper} {Q:Exit→Act→World→Prop} {a:Act} {W:World} (F:World→Prop) (hF:F W) (h:∀V,F V→wpList P ops Q l a V):wpList P ops Q l a W:=h W hF
theorem wpList_load_w {P:Program} {ops:Array Oper} {rest:List Oper} {op:Oper} {a:Act} {w:World} {Q:Exit→Act→World→Prop} (hw:Region.wanted op (yielded ops a.tmps)=true) (ty:TypeId) (x:Operand) (ho:op.op=.load ty x)
 (b o:Nat) (hx:a.eval x=.pointer (some ⟨b,o,none⟩)) (cs:List Value) (d:TypeDesc) (hc:w.rangeAt b o cs) (hu:P.underlying ty=some d) (hd:d.isRow=true) (hi:(P.info? ty).map (·.size)=some cs.length)
 (h:wpList P ops Q rest (a.put op.dst (.agg cs.toArray)) w):wpList P ops Q (op :: rest) a w:=by
 unfold wpList
 rw [if_pos hw]
 exact .inl (wp_load_mid ty x ho b o hx cs d hc hu hd hi h)
set_option maxHeartbeats 1000000 in
theorem awake19_any (w:World) (ht:Tabs w):Calls prog 5 #[] w fun e w'=>e=.returned (.bool true)∧Below w.heap.size w w':=by
 have HT:=hid ht
 clear ht
 obtain ⟨n0,hn0⟩:∃n,w.heap.size=n:=⟨_,rfl⟩
 have R0:=hid (ls19_at w n0 hn0)
 have B0:=hid (b_a (w:=w) (.cells #[.string bLook,.string bGet5,.string bX] 9))
 go_enter func5,ntmps5
 go_wp2_with fail
 refine gen_ca (fun V=>Ar 1 sbC V (some ⟨n0,0,none⟩) ls19∧Below w.heap.size w V) ⟨R0.out,B0.out⟩ (fun V0 hV=>?_)
 have R:=hid hV.1
 have B:=hid hV.2
 clear hV R0 B0 hn0
 refine (snew_any ⟨1,ls19,(some ⟨n0,0,none⟩),3⟩ V0).mono ?_
 rintro e V1 ⟨he,b9⟩
 have R:=hid (R.below b9 lr0)
 have B:=hid (bl B.out b9)
 clear b9
 replace he:e=.returned (.agg (slC (s0 1 ls19 (some ⟨n0,0,none⟩) 3 0 0)).toArray):=he.trans rfl
 subst he
 go_upto_region 2 with refine wpList_store_mid rfl 34 (.tmp 1) (.tmp 10) rfl V1.heap.size 0 (slC (s0 1 ls19 (some ⟨n0,0,none⟩) 3 0 0)).toArray rfl rfl (there_new V1 #[.int .i64 0,.slice none 0 0,.int .i64 0,.int .i64 0,.int .i64 0,.int .i64 0,.int .i64 0,.int .i64 0,.int .i64 0,.int .i64 0,.slice none 0 0,.int .i64 0,.slice none 0 0,.int .i64 0,.slice none 0 0,.int .i64 0,.slice none 0 0,.int .i64 0,.int .i64 0,.int .i64 0,.slice none 0 0,.slice none 0 0,.int .i64 0,.bool false,.int .i64 0,.int .i64 0,.int .i64 0,.slice none 0 0,.slice none 0 0,.int .i64 0] _) sess_size (slC_cells _) ?_
 obtain ⟨kS,hkS⟩:∃k,V1.heap.size=k:=⟨_,rfl⟩
 have N9:=hid (new_sess V1 (s0 1 ls19 (some ⟨n0,0,none⟩) 3 0 0))
 have B9:=N9.2
 have P9:=Eq.subst (motive:=fun k=>Blk _ k 34 (slC (s0 1 ls19 (some ⟨n0,0,none⟩) 3 0 0)).toArray) hkS (N9.1)
 refine gen_at (fun U=>(Ar 1 sbC U (some ⟨n0,0,none⟩) ls19)∧(Below w.heap.size w U)∧Blk U kS 34 (slC (s0 1 ls19 (some ⟨n0,0,none⟩) 3 0 0)).toArray) ⟨R.below B9 lr0,bl B.out B9,P9⟩ (fun V2 hV=>?_)
 obtain ⟨hR,hB,hKS⟩:=hV
 have R:=hid hR
 have B:=hid hB
 have KS:=hid hKS
 rw [hkS]
 clear hR hB hKS P9 B9 N9 hkS
 go_upto_region 99 with refine wpList_load_w (by rfl) 34 (.tmp 1) rfl kS 0 rfl (slC (s0 1 ls19 (some ⟨n0,0,none⟩) 3 0 0)) _ (blk_range KS.out) underlying34 rfl sess_size ?_
 refine (sopen_any (s0 1 ls19 (some ⟨n0,0,none⟩) 3 0 0) V2 (s0_at R.out) (s0_few _ _ _ _ _ _) (HT.below B.out lr0) 0 rfl (show 0<ls19.length by decide) (show (ls19.getD 0 ByteArray.empty).size≤500000 by decide)).mono ?_
 rintro e V3 ⟨a,rfl,q9,la9,lc9,at9,b9⟩
 have R:=hid (R.below b9 lr0)
 have B:=hid (bl B.out b9)
 have KS:=hid (KS.call b9)
 clear b9
 have Qa:=hid (q9.trans (open_at0 _))
 have La:=hid (show a.la=(some ⟨n0,0,none⟩)∧a.lc=3 from ⟨la9,lc9⟩)
 have Aa:=hid at9
 clear q9 la9 lc9 at9
 go_upto_region 3 with refine wpList_store_mid rfl 34 (.tmp 2) (.tmp 12) rfl V3.heap.size 0 (slC a).toArray rfl rfl (there_new V3 #[.int .i64 0,.slice none 0 0,.int .i64 0,.int .i64 0,.int .i64 0,.int .i64 0,.int .i64 0,.int .i64 0,.int .i64 0,.int .i64 0,.slice none 0 0,.int .i64 0,.slice none 0 0,.int .i64 0,.slice none 0 0,.int .i64 0,.slice none 0 0,.int .i64 0,.int .i64 0,.int .i64 0,.slice none 0 0,.slice none 0 0,.int .i64 0,.bool false,.int .i64 0,.int .i64 0,.int .i64 0,.slice none 0 0,.slice none 0 0,.int .i64 0] _) sess_size (slC_cells _) ?_
 obtain ⟨kA,hkA⟩:∃k,V3.heap.size=k:=⟨_,rfl⟩
 have N9:=hid (new_sess V3 a)
 have B9:=N9.2
 have P9:=Eq.subst (motive:=fun k=>Blk _ k 34 (slC a).toArray) hkA (N9.1)
 refine gen_at (fun U=>(Ar 1 sbC U (some ⟨n0,0,none⟩) ls19)∧(Below w.heap.size w U)∧(Blk U kS 34 (slC (s0 1 ls19 (some ⟨n0,0,none⟩) 3 0 0)).toArray)∧(SessAt U a)∧Blk U kA 34 (slC a).toArray) ⟨R.below B9 lr0,bl B.out B9,KS.call B9,Aa.call B9,P9⟩ (fun V4 hV=>?_)
 obtain ⟨hR,hB,hKS,hAa,hKA⟩:=hV
 have R:=hid hR
 have B:=hid hB
 have KS:=hid hKS
 have Aa:=hid hAa
 have KA:=hid hKA
 rw [hkA]
 clear hR hB hKS hAa hKA P9 B9 N9 hkA
 go_upto_region 99 with refine wpList_load_w (by rfl) 34 (.tmp 2) rfl kA 0 rfl (slC a) _ (blk_range KA.out) underlying34 rfl sess_size ?_
 have hn9:a.next=0:=congrArg Sq.next Qa.out
 refine (sclose_any a V4 (by omega) (by omega)).mono ?_
 rintro e V5 ⟨he,b9⟩
 have R:=hid (R.below b9 lr0)
 have B:=hid (bl B.out b9)
 have KS:=hid (KS.call b9)
 have Aa:=hid (Aa.call b9)
 have KA:=hid (KA.call b9)
 clear b9
 replace he:e=.returned (.agg (slC (s0 1 ls19 (some ⟨n0,0,none⟩) 3 1 0)).toArray):=he.trans (by rw [show a.player=1 from congrArg Sq.player Qa.out,show a.ls=ls19 from congrArg Sq.ls Qa.out,La.1,La.2,hn9];rfl)
 subst he
 clear hn9
 go_upto_region 4 with refine wpList_store_mid rfl 34 (.tmp 3) (.tmp 14) rfl V5.heap.size 0 (slC (s0 1 ls19 (some ⟨n0,0,none⟩) 3 1 0)).toArray rfl rfl (there_new V5 #[.int .i64 0,.slice none 0 0,.int .i64 0,.int .i64 0,.int .i64 0,.int .i64 0,.int .i64 0,.int .i64 0,.int .i64 0,.int .i64 0,.slice none 0 0,.int .i64 0,.slice none 0 0,.int .i64 0,.slice none 0 0,.int .i64 0,.slice none 0 0,.int .i64 0,.int .i64 0,.int .i64 0,.slice none 0 0,.slice none 0 0,.int .i64 0,.bool false,.int .i64 0,.int .i64 0,.int .i64 0,.slice none 0 0,.slice none 0 0,.int .i64 0] _) sess_size (slC_cells _) ?_
 obtain ⟨kB,hkB⟩:∃k,V5.heap.size=k:=⟨_,rfl⟩
 have N9:=hid (new_sess V5 (s0 1 ls19 (some ⟨n0,0,none⟩) 3 1 0))
 have B9:=N9.2
 have P9:=Eq.subst (motive:=fun k=>Blk _ k 34 (slC (s0 1 ls19 (some ⟨n0,0,none⟩) 3 1 0)).toArray) hkB (N9.1)
 refine gen_at (fun U=>(Ar 1 sbC U (some ⟨n0,0,none⟩) ls19)∧(Below w.heap.size w U)∧(Blk U kS 34 (slC (s0 1 ls19 (some ⟨n0,0,none⟩) 3 0 0)).toArray)∧(SessAt U a)∧(Blk U kA 34 (slC a).toArray)∧Blk U kB 34 (slC (s0 1 ls19 (some ⟨n0,0,none⟩) 3 1 0)).toArray) ⟨R.below B9 lr0,bl B.out B9,KS.call B9,Aa.call B9,KA.call B9,P9⟩ (fun V6 hV=>?_)
 obtain ⟨hR,hB,hKS,hAa,hKA,hKB⟩:=hV
 have R:=hid hR
 have B:=hid hB
 have KS:=hid hKS
 have Aa:=hid hAa
 have KA:=hid hKA
 have KB:=hid hKB
 rw [hkB]
 clear hR hB hKS hAa hKA hKB P9 B9 N9 hkB
 go_upto_region 99 with refine wpList_load_w (by rfl) 34 (.tmp 3) rfl kB 0 rfl (slC (s0 1 ls19 (some ⟨n0,0,none⟩) 3 1 0)) _ (blk_range KB.out) underlying34 rfl sess_size ?_
 refine (sopen_any (s0 1 ls19 (some ⟨n0,0,none⟩) 3 1 0) V6 (s0_at R.out) (s0_few _ _ _ _ _ _) (HT.below B.out lr0) 1 rfl (show 1<ls19.length by decide) (show (ls19.getD 1 ByteArray.empty).size≤500000 by decide)).mono ?_
 rintro e V7 ⟨c,rfl,q9,la9,lc9,at9,b9⟩
 have R:=hid (R.below b9 lr0)
 have B:=hid (bl B.out b9)
 have KS:=hid (KS.call b9)
 have Aa:=hid (Aa.call b9)
 have KA:=hid (KA.call b9)
 have KB:=hid (KB.call b9)
 clear b9
 have Qc:=hid (q9.trans (open_at1 _))
 have Lc:=hid (show c.la=(some ⟨n0,0,none⟩)∧c.lc=3 from ⟨la9,lc9⟩)
 have Ac:=hid at9
 clear q9 la9 lc9 at9
 go_upto_region 5 with refine wpList_store_mid rfl 34 (.tmp 4) (.tmp 16) rfl V7.heap.size 0 (slC c).toArray rfl rfl (there_new V7 #[.int .i64 0,.slice none 0 0,.int .i64 0,.int .i64 0,.int .i64 0,.int .i64 0,.int .i64 0,.int .i64 0,.int .i64 0,.int .i64 0,.slice none 0 0,.int .i64 0,.slice none 0 0,.int .i64 0,.slice none 0 0,.int .i64 0,.slice none 0 0,.int .i64 0,.int .i64 0,.int .i64 0,.slice none 0 0,.slice none 0 0,.int .i64 0,.bool false,.int .i64 0,.int .i64 0,.int .i64 0,.slice none 0 0,.slice none 0 0,.int .i64 0] _) sess_size (slC_cells _) ?_
 obtain ⟨kC,hkC⟩:∃k,V7.heap.size=k:=⟨_,rfl⟩
 have N9:=hid (new_sess V7 c)
 refine gen_at (fun U=>Blk U kC 34 (slC c).toArray∧Below V7.heap.size V7 U) ⟨Eq.subst (motive:=fun k=>Blk _ k 34 (slC c).toArray) hkC N9.1,N9.2⟩ (fun V8 hV=>?_)
 rw [hkC]
 have KC0:=hid hV.1
 have BC0:=hid hV.2
 clear hV N9
 have hc23:World.cell? V8 ⟨kC,23,none⟩=some (.bool c.stale):=KC0.cell 23
 have hc24:World.cell? V8 ⟨kC,24,none⟩=some (.int .i64 c.tries):=KC0.cell 24
 have hz:=KC0.frozen
 have hl:=KC0.lt
 go_upto_region 7 with fail
 clear hc23 hc24 hz hl
 have B9:=(show Below V7.heap.size V7 ((V8.setCell ⟨kC,23,none⟩ (.bool true)).setCell ⟨kC,24,none⟩ (.int .i64 2)) from (BC0.setCell (by show V7.heap.size≤kC;omega) _).setCell (by show V7.heap.size≤kC;omega) _)
 refine gen_at (fun U=>(Ar 1 sbC U (some ⟨n0,0,none⟩) ls19)∧(Below w.heap.size w U)∧(Blk U kS 34 (slC (s0 1 ls19 (some ⟨n0,0,none⟩) 3 0 0)).toArray)∧(SessAt U a)∧(Blk U kA 34 (slC a).toArray)∧(Blk U kB 34 (slC (s0 1 ls19 (some ⟨n0,0,none⟩) 3 1 0)).toArray)∧(SessAt U c)∧Blk U kC 34 (slC (⟨c.player,c.ls,c.la,c.lc,c.next,c.phase,c.step,c.c,c.ga,c.gc,c.wa,c.wc,c.foot,c.fa,c.fc,c.has,c.plan,c.pa,c.pc,c.r,c.rpa,c.rpc,c.ria,c.ric,true,2,c.ver,c.room,c.copies,c.ca,c.cc,c.heads,c.ha,c.hc,c.purse⟩:Sl)).toArray) ⟨R.below B9 lr0,bl B.out B9,KS.call B9,Aa.call B9,KA.call B9,KB.call B9,Ac.call B9,(show Blk ((V8.setCell ⟨kC,23,none⟩ (.bool true)).setCell ⟨kC,24,none⟩ (.int .i64 2)) kC 34 (slC (⟨c.player,c.ls,c.la,c.lc,c.next,c.phase,c.step,c.c,c.ga,c.gc,c.wa,c.wc,c.foot,c.fa,c.fc,c.has,c.plan,c.pa,c.pc,c.r,c.rpa,c.rpc,c.ria,c.ric,true,2,c.ver,c.room,c.copies,c.ca,c.cc,c.heads,c.ha,c.hc,c.purse⟩:Sl)).toArray from (KC0.set_ 23 _).set_ 24 _)⟩ (fun V8b hV=>?_)
 obtain ⟨hR,hB,hKS,hAa,hKA,hKB,hAc,hKC⟩:=hV
 have R:=hid hR
 have B:=hid hB
 have KS:=hid hKS
 have Aa:=hid hAa
 have KA:=hid hKA
 have KB:=hid hKB
 have Ac:=hid hAc
 have KC:=hid hKC
 clear hR hB hKS hAa hKA hKB hAc hKC B9 KC0 BC0 hkC
 go_upto_region 99 with refine wpList_load_w (by rfl) 34 (.tmp 4) rfl kC 0 rfl (slC (⟨c.player,c.ls,c.la,c.lc,c.next,c.phase,c.step,c.c,c.ga,c.gc,c.wa,c.wc,c.foot,c.fa,c.fc,c.has,c.plan,c.pa,c.pc,c.r,c.rpa,c.rpc,c.ria,c.ric,true,2,c.ver,c.room,c.copies,c.ca,c.cc,c.heads,c.ha,c.hc,c.purse⟩:Sl)) _ (blk_range KC.out) underlying34 rfl sess_size ?_
 have hc9:c.c=get5C:=congrArg Sq.c Qc.out
 refine (sanew_any (⟨c.player,c.ls,c.la,c.lc,c.next,c.phase,c.step,c.c,c.ga,c.gc,c.wa,c.wc,c.foot,c.fa,c.fc,c.has,c.plan,c.pa,c.pc,c.r,c.rpa,c.rpc,c.ria,c.ric,true,2,c.ver,c.room,c.copies,c.ca,c.cc,c.heads,c.ha,c.hc,c.purse⟩:Sl) V8b Ac.g Ac.w (by show c.c.gives.length≤_;rw [hc9];exact Nat.zero_le _) (by show c.c.wants.length≤_;rw [hc9];exact Nat.zero_le _)).mono ?_
 rintro e V9 ⟨gb,gd,wb,wd,rfl,o1,o2,b9⟩
 have R:=hid (R.below b9 lr0)
 have B:=hid (bl B.out b9)
 have KS:=hid (KS.call b9)
 have Aa:=hid (Aa.call b9)
 have KA:=hid (KA.call b9)
 have KB:=hid (KB.call b9)
 have Ac:=hid (Ac.call b9)
 have KC:=hid (KC.call b9)
 clear b9
 obtain ⟨d,hd⟩:∃d:Sl,(⟨c.player,c.ls,c.la,c.lc,c.next,1,0,c.c,gb,gd,wb,wd,[],none,0,0,[],none,0,⟨0,0,0,[],[],0⟩,none,0,none,0,false,2,0,0,[],none,0,[],none,0,0⟩:Sl)=d:=⟨_,rfl⟩
 have Qd:=hid (show d.q=⟨1,ls19,1,1,0,get5C,[],0,[],r0,false,2,0,0,[],[],0⟩ by rw [←hd];show (⟨c.player,c.ls,c.next,1,0,c.c,[],0,[],r0,false,2,0,0,[],[],0⟩:Sq)=_;rw [hc9,show c.player=1 from congrArg Sq.player Qc.out,show c.ls=ls19 from congrArg Sq.ls Qc.out,show c.next=1 from congrArg Sq.next Qc.out])
 have Ld:=hid (show d.la=(some ⟨n0,0,none⟩)∧d.lc=3 by rw [←hd];exact Lc.out)
 try simp only [hd]
 clear hc9 o1 o2
 go_upto_region 8 with refine wpList_store_mid rfl 34 (.tmp 5) (.tmp 20) rfl V9.heap.size 0 (slC d).toArray rfl rfl (there_new V9 #[.int .i64 0,.slice none 0 0,.int .i64 0,.int .i64 0,.int .i64 0,.int .i64 0,.int .i64 0,.int .i64 0,.int .i64 0,.int .i64 0,.slice none 0 0,.int .i64 0,.slice none 0 0,.int .i64 0,.slice none 0 0,.int .i64 0,.slice none 0 0,.int .i64 0,.int .i64 0,.int .i64 0,.slice none 0 0,.slice none 0 0,.int .i64 0,.bool false,.int .i64 0,.int .i64 0,.int .i64 0,.slice none 0 0,.slice none 0 0,.int .i64 0] _) sess_size (slC_cells _) ?_
 obtain ⟨kD,hkD⟩:∃k,V9.heap.size=k:=⟨_,rfl⟩
 have N9:=hid (new_sess V9 d)
 have B9:=N9.2
 have P9:=Eq.subst (motive:=fun k=>Blk _ k 34 (slC d).toArray) hkD (N9.1)
 refine gen_at (fun U=>(Ar 1 sbC U (some ⟨n0,0,none⟩) ls19)∧(Below w.heap.size w U)∧(Blk U kS 34 (slC (s0 1 ls19 (some ⟨n0,0,none⟩) 3 0 0)).toArray)∧(SessAt U a)∧(Blk U kA 34 (slC a).toArray)∧(Blk U kB 34 (slC (s0 1 ls19 (some ⟨n0,0,none⟩) 3 1 0)).toArray)∧(SessAt U c)∧(Blk U kC 34 (slC (⟨c.player,c.ls,c.la,c.lc,c.next,c.phase,c.step,c.c,c.ga,c.gc,c.wa,c.wc,c.foot,c.fa,c.fc,c.has,c.plan,c.pa,c.pc,c.r,c.rpa,c.rpc,c.ria,c.ric,true,2,c.ver,c.room,c.copies,c.ca,c.cc,c.heads,c.ha,c.hc,c.purse⟩:Sl)).toArray)∧Blk U kD 34 (slC d).toArray) ⟨R.below B9 lr0,bl B.out B9,KS.call B9,Aa.call B9,KA.call B9,KB.call B9,Ac.call B9,KC.call B9,P9⟩ (fun V10 hV=>?_)
 obtain ⟨hR,hB,hKS,hAa,hKA,hKB,hAc,hKC,hKD⟩:=hV
 have R:=hid hR
 have B:=hid hB
 have KS:=hid hKS
 have Aa:=hid hAa
 have KA:=hid hKA
 have KB:=hid hKB
 have Ac:=hid hAc
 have KC:=hid hKC
 have KD:=hid hKD
 rw [hkD]
 clear hR hB hKS hAa hKA hKB hAc hKC hKD P9 B9 N9 hkD
 go_upto_region 99 with refine wpList_load_w (by rfl) 34 (.tmp 5) rfl kD 0 rfl (slC d) _ (blk_range KD.out) underlying34 rfl sess_size ?_
 have hn9:d.next=1:=congrArg Sq.next Qd.out
 refine (sclose_any d V10 (by omega) (by omega)).mono ?_
 rintro e V11 ⟨he,b9⟩
 have R:=hid (R.below b9 lr0)
 have B:=hid (bl B.out b9)
 have KS:=hid (KS.call b9)
 have Aa:=hid (Aa.call b9)
 have KA:=hid (KA.call b9)
 have KB:=hid (KB.call b9)
 have Ac:=hid (Ac.call b9)
 have KC:=hid (KC.call b9)
 have KD:=hid (KD.call b9)
 clear b9
 replace he:e=.returned (.agg (slC (s0 1 ls19 (some ⟨n0,0,none⟩) 3 2 0)).toArray):=he.trans (by rw [show d.player=1 from congrArg Sq.player Qd.out,show d.ls=ls19 from congrArg Sq.ls Qd.out,Ld.1,Ld.2,hn9];rfl)
 subst he
 clear hn9
 go_upto_region 99 with fail
 refine (sopen_any (s0 1 ls19 (some ⟨n0,0,none⟩) 3 2 0) V11 (s0_at R.out) (s0_few _ _ _ _ _ _) (HT.below B.out lr0) 2 rfl (show 2<ls19.length by decide) (show (ls19.getD 2 ByteArray.empty).size≤500000 by decide)).mono ?_
 rintro e V12 ⟨f,rfl,q9,la9,lc9,at9,b9⟩
 have R:=hid (R.below b9 lr0)
 have B:=hid (bl B.out b9)
 have KS:=hid (KS.call b9)
 have Aa:=hid (Aa.call b9)
 have KA:=hid (KA.call b9)
 have KB:=hid (KB.call b9)
 have Ac:=hid (Ac.call b9)
 have KC:=hid (KC.call b9)
 have KD:=hid (KD.call b9)
 clear b9
 have Qf:=hid (q9.trans (open_at2 _))
 have Lf:=hid (show f.la=(some ⟨n0,0,none⟩)∧f.lc=3 from ⟨la9,lc9⟩)
 have Af:=hid at9
 clear q9 la9 lc9 at9
 go_upto_region 9 with refine wpList_store_mid rfl 34 (.tmp 6) (.tmp 23) rfl V12.heap.size 0 (slC f).toArray rfl rfl (there_new V12 #[.int .i64 0,.slice none 0 0,.int .i64 0,.int .i64 0,.int .i64 0,.int .i64 0,.int .i64 0,.int .i64 0,.int .i64 0,.int .i64 0,.slice none 0 0,.int .i64 0,.slice none 0 0,.int .i64 0,.slice none 0 0,.int .i64 0,.slice none 0 0,.int .i64 0,.int .i64 0,.int .i64 0,.slice none 0 0,.slice none 0 0,.int .i64 0,.bool false,.int .i64 0,.int .i64 0,.int .i64 0,.slice none 0 0,.slice none 0 0,.int .i64 0] _) sess_size (slC_cells _) ?_
 obtain ⟨kE,hkE⟩:∃k,V12.heap.size=k:=⟨_,rfl⟩
 have N9:=hid (new_sess V12 f)
 have B9:=N9.2
 have P9:=Eq.subst (motive:=fun k=>Blk _ k 34 (slC f).toArray) hkE (N9.1)
 refine gen_at (fun U=>(Ar 1 sbC U (some ⟨n0,0,none⟩) ls19)∧(Below w.heap.size w U)∧(Blk U kS 34 (slC (s0 1 ls19 (some ⟨n0,0,none⟩) 3 0 0)).toArray)∧(SessAt U a)∧(Blk U kA 34 (slC a).toArray)∧(Blk U kB 34 (slC (s0 1 ls19 (some ⟨n0,0,none⟩) 3 1 0)).toArray)∧(SessAt U c)∧(Blk U kC 34 (slC (⟨c.player,c.ls,c.la,c.lc,c.next,c.phase,c.step,c.c,c.ga,c.gc,c.wa,c.wc,c.foot,c.fa,c.fc,c.has,c.plan,c.pa,c.pc,c.r,c.rpa,c.rpc,c.ria,c.ric,true,2,c.ver,c.room,c.copies,c.ca,c.cc,c.heads,c.ha,c.hc,c.purse⟩:Sl)).toArray)∧(Blk U kD 34 (slC d).toArray)∧(SessAt U f)∧Blk U kE 34 (slC f).toArray) ⟨R.below B9 lr0,bl B.out B9,KS.call B9,Aa.call B9,KA.call B9,KB.call B9,Ac.call B9,KC.call B9,KD.call B9,Af.call B9,P9⟩ (fun V13 hV=>?_)
 obtain ⟨hR,hB,hKS,hAa,hKA,hKB,hAc,hKC,hKD,hAf,hKE⟩:=hV
 have R:=hid hR
 have B:=hid hB
 have KS:=hid hKS
 have Aa:=hid hAa
 have KA:=hid hKA
 have KB:=hid hKB
 have Ac:=hid hAc
 have KC:=hid hKC
 have KD:=hid hKD
 have Af:=hid hAf
 have KE:=hid hKE
 rw [hkE]
 clear hR hB hKS hAa hKA hKB hAc hKC hKD hAf hKE P9 B9 N9 hkE
 go_upto_region 99 with refine wpList_load_w (by rfl) 34 (.tmp 6) rfl kE 0 rfl (slC f) _ (blk_range KE.out) underlying34 rfl sess_size ?_
 have hn9:f.next=2:=congrArg Sq.next Qf.out
 refine (sclose_any f V13 (by omega) (by omega)).mono ?_
 rintro e V14 ⟨he,b9⟩
 have R:=hid (R.below b9 lr0)
 have B:=hid (bl B.out b9)
 have KS:=hid (KS.call b9)
 have Aa:=hid (Aa.call b9)
 have KA:=hid (KA.call b9)
 have KB:=hid (KB.call b9)
 have Ac:=hid (Ac.call b9)
 have KC:=hid (KC.call b9)
 have KD:=hid (KD.call b9)
 have Af:=hid (Af.call b9)
 have KE:=hid (KE.call b9)
 clear b9
 replace he:e=.returned (.agg (slC (s0 1 ls19 (some ⟨n0,0,none⟩) 3 3 12)).toArray):=he.trans (by rw [show f.player=1 from congrArg Sq.player Qf.out,show f.ls=ls19 from congrArg Sq.ls Qf.out,Lf.1,Lf.2,hn9];rfl)
 subst he
 clear hn9
 have N9:=hid (new_sess V14 (s0 1 ls19 (some ⟨n0,0,none⟩) 3 3 12))
 have g0:=hid ((N9.2.cell (p:=⟨kS,0,none⟩) KS.lt).trans ((KS.cell 0).trans (show (slC (s0 1 ls19 (some ⟨n0,0,none⟩) 3 0 0)).toArray[0]?=some (.int .i64 1) from rfl)))
 have g1:=hid ((N9.2.cell (p:=⟨kS,3,none⟩) KS.lt).trans ((KS.cell 3).trans (show (slC (s0 1 ls19 (some ⟨n0,0,none⟩) 3 0 0)).toArray[3]?=some (.int .i64 0) from rfl)))
 have g2:=hid ((N9.2.cell (p:=⟨kA,3,none⟩) KA.lt).trans ((KA.cell 3).trans (show (slC a).toArray[3]?=some (.int .i64 9) from by show some (Value.int .i64 a.phase)=_;rw [show a.phase=9 from congrArg Sq.phase Qa.out])))
 have g3:=hid ((N9.2.cell (p:=⟨kB,2,none⟩) KB.lt).trans ((KB.cell 2).trans (show (slC (s0 1 ls19 (some ⟨n0,0,none⟩) 3 1 0)).toArray[2]?=some (.int .i64 1) from rfl)))
 have g4:=hid ((N9.2.cell (p:=⟨kB,3,none⟩) KB.lt).trans ((KB.cell 3).trans (show (slC (s0 1 ls19 (some ⟨n0,0,none⟩) 3 1 0)).toArray[3]?=some (.int .i64 0) from rfl)))
 have g5:=hid ((N9.2.cell (p:=⟨kC,3,none⟩) KC.lt).trans ((KC.cell 3).trans (show (slC (⟨c.player,c.ls,c.la,c.lc,c.next,c.phase,c.step,c.c,c.ga,c.gc,c.wa,c.wc,c.foot,c.fa,c.fc,c.has,c.plan,c.pa,c.pc,c.r,c.rpa,c.rpc,c.ria,c.ric,true,2,c.ver,c.room,c.copies,c.ca,c.cc,c.heads,c.ha,c.hc,c.purse⟩:Sl)).toArray[3]?=some (.int .i64 1) from by show some (Value.int .i64 c.phase)=_;rw [show c.phase=1 from congrArg Sq.phase Qc.out])))
 have g6:=hid ((N9.2.cell (p:=⟨kC,7,none⟩) KC.lt).trans ((KC.cell 7).trans (show (slC (⟨c.player,c.ls,c.la,c.lc,c.next,c.phase,c.step,c.c,c.ga,c.gc,c.wa,c.wc,c.foot,c.fa,c.fc,c.has,c.plan,c.pa,c.pc,c.r,c.rpa,c.rpc,c.ria,c.ric,true,2,c.ver,c.room,c.copies,c.ca,c.cc,c.heads,c.ha,c.hc,c.purse⟩:Sl)).toArray[7]?=some (.int .i64 5) from by show some (Value.int .i64 c.c.item)=_;rw [show c.c.item=5 from congrArg (fun q=>q.c.item) Qc.out])))
 have g7:=hid ((N9.2.cell (p:=⟨kD,23,none⟩) KD.lt).trans ((KD.cell 23).trans (show (slC d).toArray[23]?=some (.bool false) from by show some (Value.bool d.stale)=_;rw [show d.stale=false from congrArg Sq.stale Qd.out])))
 have g8:=hid ((N9.2.cell (p:=⟨kD,24,none⟩) KD.lt).trans ((KD.cell 24).trans (show (slC d).toArray[24]?=some (.int .i64 2) from by show some (Value.int .i64 d.tries)=_;rw [show d.tries=2 from congrArg Sq.tries Qd.out])))
 have g9:=hid ((N9.2.cell (p:=⟨kD,7,none⟩) KD.lt).trans ((KD.cell 7).trans (show (slC d).toArray[7]?=some (.int .i64 5) from by show some (Value.int .i64 d.c.item)=_;rw [show d.c.item=5 from congrArg (fun q=>q.c.item) Qd.out])))
 have g10:=hid ((N9.2.cell (p:=⟨kE,3,none⟩) KE.lt).trans ((KE.cell 3).trans (show (slC f).toArray[3]?=some (.int .i64 8) from by show some (Value.int .i64 f.phase)=_;rw [show f.phase=8 from congrArg Sq.phase Qf.out])))
 have g11:=hid ((N9.2.cell (p:=⟨kE,17,none⟩) KE.lt).trans ((KE.cell 17).trans (show (slC f).toArray[17]?=some (.int .i64 2) from by show some (Value.int .i64 f.r.err)=_;rw [show f.r.err=2 from congrArg (fun q=>q.r.err) Qf.out])))
 have gf3:=hid ((N9.1.cell 3).trans (show (slC (s0 1 ls19 (some ⟨n0,0,none⟩) 3 3 12)).toArray[3]?=some (.int .i64 12) from rfl))
 have gf2:=hid ((N9.1.cell 2).trans (show (slC (s0 1 ls19 (some ⟨n0,0,none⟩) 3 3 12)).toArray[2]?=some (.int .i64 3) from rfl))
 go_upto_region 99 with (refine wpList_store_mid rfl 34 (.tmp 7) (.tmp 25) rfl V14.heap.size 0 (slC (s0 1 ls19 (some ⟨n0,0,none⟩) 3 3 12)).toArray rfl rfl (there_new V14 #[.int .i64 0,.slice none 0 0,.int .i64 0,.int .i64 0,.int .i64 0,.int .i64 0,.int .i64 0,.int .i64 0,.int .i64 0,.int .i64 0,.slice none 0 0,.int .i64 0,.slice none 0 0,.int .i64 0,.slice none 0 0,.int .i64 0,.slice none 0 0,.int .i64 0,.int .i64 0,.int .i64 0,.slice none 0 0,.slice none 0 0,.int .i64 0,.bool false,.int .i64 0,.int .i64 0,.int .i64 0,.slice none 0 0,.slice none 0 0,.int .i64 0] _) sess_size (slC_cells _) ?_;refine gen_ls (fun U=>(World.cell? U ⟨kS,0,none⟩=some (.int .i64 1))∧(World.cell? U ⟨kS,3,none⟩=some (.int .i64 0))∧(World.cell? U ⟨kA,3,none⟩=some (.int .i64 9))∧(World.cell? U ⟨kB,2,none⟩=some (.int .i64 1))∧(World.cell? U ⟨kB,3,none⟩=some (.int .i64 0))∧(World.cell? U ⟨kC,3,none⟩=some (.int .i64 1))∧(World.cell? U ⟨kC,7,none⟩=some (.int .i64 5))∧(World.cell? U ⟨kD,23,none⟩=some (.bool false))∧(World.cell? U ⟨kD,24,none⟩=some (.int .i64 2))∧(World.cell? U ⟨kD,7,none⟩=some (.int .i64 5))∧(World.cell? U ⟨kE,3,none⟩=some (.int .i64 8))∧(World.cell? U ⟨kE,17,none⟩=some (.int .i64 2))∧(World.cell? U ⟨V14.heap.size,3,none⟩=some (.int .i64 12))∧(World.cell? U ⟨V14.heap.size,2,none⟩=some (.int .i64 3))∧(Blk U kS 34 (slC (s0 1 ls19 (some ⟨n0,0,none⟩) 3 0 0)).toArray)∧(Blk U kA 34 (slC a).toArray)∧(Ar 1 sbC U (some ⟨n0,0,none⟩) ls19)∧(Below w.heap.size w U)) ⟨g0.out,g1.out,g2.out,g3.out,g4.out,g5.out,g6.out,g7.out,g8.out,g9.out,g10.out,g11.out,gf3.out,gf2.out,KS.call N9.2,KA.call N9.2,R.below N9.2 lr0,bl B.out N9.2⟩ (fun V15 hV=>?_);obtain ⟨h0,h1,h2,h3,h4,h5,h6,h7,h8,h9,h10,h11,h12,h13,hKS,hKA,hR,hB⟩:=hV;have KS9:=hid hKS;have KA9:=hid hKA;have R9:=hid hR;have B9:=hid hB;clear hKS hKA hR hB)
 clear h0 h1 h2 h3 h4 h5 h6 h7 h8 h9 h10 h11 h12 h13
 refine (snew_any ⟨0,[],none,0⟩ V15).mono ?_
 rintro e V16 ⟨he,b16⟩
 replace he:e=.returned (.agg (slC (s0 0 [] none 0 0 12)).toArray):=he.trans rfl
 subst he
 have KSa:=hid (KS9.call b16)
 have KAa:=hid (KA9.call b16)
 have Ra:=hid (R9.below b16 lr0)
 have Ba:=hid (bl B9.out b16)
 clear b16
 have hfl:=field_phase
 go_upto_region 99 with first|refine wpList_load_w (by rfl) 34 (.tmp 1) rfl kS 0 rfl (slC (s0 1 ls19 (some ⟨n0,0,none⟩) 3 0 0)) _ (blk_range KSa.out) underlying34 rfl sess_size ?_
 refine (ssame_yes (s0 1 ls19 (some ⟨n0,0,none⟩) 3 0 0) (s0 1 ls19 (some ⟨n0,0,none⟩) 3 0 0) V16 rfl (s0_at Ra.out) (s0_at Ra.out)).mono ?_
 rintro e V17 ⟨rfl,b17⟩
 have KSb:=hid (KSa.call b17)
 have KAb:=hid (KAa.call b17)
 have Bb:=hid (bl Ba.out b17)
 clear b17
 go_upto_region 99 with first|refine wpList_load_w (by rfl) 34 (.tmp 1) rfl kS 0 rfl (slC (s0 1 ls19 (some ⟨n0,0,none⟩) 3 0 0)) _ (blk_range KSb.out) underlying34 rfl sess_size ?_|refine wpList_load_w (by rfl) 34 (.tmp 2) rfl kA 0 rfl (slC a) _ (blk_range KAb.out) underlying34 rfl sess_size ?_
 refine (ssame_no (s0 1 ls19 (some ⟨n0,0,none⟩) 3 0 0) a V17 (by show ¬(0:Int)=a.phase;rw [show a.phase=9 from congrArg Sq.phase Qa.out];decide)).mono ?_
 rintro e V18 ⟨rfl,b18⟩
 have Bc:=hid (bl Bb.out b18)
 clear b18
 go_upto_region 99 with fail
 go_ret
 exact ⟨rfl,Bc.out⟩
end Go.Proofs.YtaeclpjofclbeaaDoor
