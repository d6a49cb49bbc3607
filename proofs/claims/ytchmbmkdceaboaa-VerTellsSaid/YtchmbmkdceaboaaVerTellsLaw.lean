/- VerTells: a version that was read at two times is calm just if it was even, and did not go up between. -/
import Derived.Test.YtchmbmkdceaboaaVerAw
import Derived.Test.YtchmbmkdceaboaaVerBtw
namespace Go.Proofs.Ytchmbmkdceaboaa
open Go.ChangeShapes Go.WideShapes Go.ChangeAt Go.RowKit Go.Proofs.Try
open Lib (hid)
set_option linter.unusedVariables false
set_option maxRecDepth 100000
open Go.RowKit Go Go.Joins
theorem vodd_as {v:Int} {o:Bool} (h:0≤v) (ho:decide (v%2=1)=o) (W:World):Calls prog 13 #[.int .i64 v] W fun e w'=>e=.returned (.bool o)∧W=w':=by
 subst ho;exact vodd_any v W h
theorem vcalm_as {x y:Int} {c:Bool} (h:0≤y) (hc:calmB x y=c) (W:World):Calls prog 14 #[.int .i64 x,.int .i64 y] W fun e w'=>e=.returned (.bool c)∧W=w':=by
 subst hc;exact vcalm_any x y W h
theorem calm_no {x y:Int} {n:Nat} (h:y=x+n) (hn:¬n=0):calmB x y=false:=by simp [calmB];omega
theorem calm_yes {x y:Int} {n:Nat} (h:y=x+n) (hn:n=0):calmB x y=!decide (x%2=1):=by
 subst hn;simp [calmB] at h ⊢;subst h;simp
 by_cases h2:y%2=1<;>simp [h2];omega
theorem verTells_no (a:Option Addr) (cap:Nat) (l:List Int) (a2:Option Addr) (cap2:Nat) (ds:List Int) (pl fr tz:Int) (w:World) (h:LkAt w a cap l) (hwf:∀d∈ds,(Lit.int .u8 d).wf=true) (hml:ds.length≤maxLen) (h2:(ds=[]∨∃b off,a2=some ⟨b,off,none⟩∧b<w.heap.size∧∀i (hi:i<ds.length),w.cell? ⟨b,off+i,none⟩=some (.int .u8 ds[i]))) (hpl:0≤pl∧pl≤255) (hfr:0≤fr∧fr≤255) (hto:0≤tz∧tz≤255) (hm:mayV l=false):Calls prog 4 #[.slice a l.length cap,.slice a2 ds.length cap2,.int .u8 pl,.int .u8 fr,.int .u8 tz] w fun e w'=>e=.returned (.bool true)∧Below w.heap.size w w':=by
 have B_0:=hid (Below.refl w.heap.size w)
 have L_0:=hid h
 have HM:=hid hm
 have hlm:=h.1.len
 have hdm:ds.length≤9223372036854775807:=by unfold maxLen at hml;omega
 clear hm h h2 hwf hml hpl hfr hto
 go_enter func4,ntmps4
 go_wp2_with fail
 refine (awake17_any _).mono ?_
 rintro e u1 ⟨rfl,b1⟩
 have B_1:=hid (bl B_0.out b1)
 have L_1:=hid (L_0.out.call b1)
 clear b1 B_0 L_0
 go_wp2_with fail
 refine (refmay17_any _ _ _ _ L_1.out.1).mono ?_
 rintro e u2 ⟨rfl,b2⟩
 rw [HM.out]
 have B_2:=hid (bl B_1.out b2)
 have L_2:=hid (L_1.out.call b2)
 clear b2 B_1 L_1
 go_wp2_with fail
 refine (awake17_any _).mono ?_
 rintro e u3 ⟨rfl,b3⟩
 have B_3:=hid (bl B_2.out b3)
 have L_3:=hid (L_2.out.call b3)
 clear b3 B_2 L_2
 go_wp2_with fail
 go_ret
 exact ⟨rfl,B_3.out⟩
theorem verTells_nil (a:Option Addr) (cap:Nat) (l:List Int) (a2:Option Addr) (cap2:Nat) (ds:List Int) (pl fr tz:Int) (w:World) (h:LkAt w a cap l) (hwf:∀d∈ds,(Lit.int .u8 d).wf=true) (hml:ds.length≤maxLen) (h2:(ds=[]∨∃b off,a2=some ⟨b,off,none⟩∧b<w.heap.size∧∀i (hi:i<ds.length),w.cell? ⟨b,off+i,none⟩=some (.int .u8 ds[i]))) (hpl:0≤pl∧pl≤255) (hfr:0≤fr∧fr≤255) (hto:0≤tz∧tz≤255) (hm:mayV l=true) (hz:l.length=0):Calls prog 4 #[.slice a l.length cap,.slice a2 ds.length cap2,.int .u8 pl,.int .u8 fr,.int .u8 tz] w fun e w'=>e=.returned (.bool true)∧Below w.heap.size w w':=by
 have B_0:=hid (Below.refl w.heap.size w)
 have L_0:=hid h
 have HM:=hid hm
 have hlm:=h.1.len
 have hdm:ds.length≤9223372036854775807:=by unfold maxLen at hml;omega
 have q0:((l.length:Int)==0)=true:=by simp [hz]
 clear hz
 clear hm h h2 hwf hml hpl hfr hto
 go_enter func4,ntmps4
 go_wp2_with fail
 refine (awake17_any _).mono ?_
 rintro e u1 ⟨rfl,b1⟩
 have B_1:=hid (bl B_0.out b1)
 have L_1:=hid (L_0.out.call b1)
 clear b1 B_0 L_0
 go_wp2_with fail
 refine (refmay17_any _ _ _ _ L_1.out.1).mono ?_
 rintro e u2 ⟨rfl,b2⟩
 rw [HM.out]
 have B_2:=hid (bl B_1.out b2)
 have L_2:=hid (L_1.out.call b2)
 clear b2 B_1 L_1
 go_wp2_with fail
 refine (awake17_any _).mono ?_
 rintro e u3 ⟨rfl,b3⟩
 have B_3:=hid (bl B_2.out b3)
 have L_3:=hid (L_2.out.call b3)
 clear b3 B_2 L_2
 go_wp2_with fail
 go_ret
 exact ⟨rfl,B_3.out⟩
theorem verTells_long (a:Option Addr) (cap:Nat) (l:List Int) (a2:Option Addr) (cap2:Nat) (ds:List Int) (pl fr tz:Int) (w:World) (h:LkAt w a cap l) (hwf:∀d∈ds,(Lit.int .u8 d).wf=true) (hml:ds.length≤maxLen) (h2:(ds=[]∨∃b off,a2=some ⟨b,off,none⟩∧b<w.heap.size∧∀i (hi:i<ds.length),w.cell? ⟨b,off+i,none⟩=some (.int .u8 ds[i]))) (hpl:0≤pl∧pl≤255) (hfr:0≤fr∧fr≤255) (hto:0≤tz∧tz≤255) (hm:mayV l=true) (hz:0<l.length) (hn:100<ds.length):Calls prog 4 #[.slice a l.length cap,.slice a2 ds.length cap2,.int .u8 pl,.int .u8 fr,.int .u8 tz] w fun e w'=>e=.returned (.bool true)∧Below w.heap.size w w':=by
 have B_0:=hid (Below.refl w.heap.size w)
 have L_0:=hid h
 have HM:=hid hm
 have hlm:=h.1.len
 have hdm:ds.length≤9223372036854775807:=by unfold maxLen at hml;omega
 have q0:((l.length:Int)==0)=false:=by rw [beq_eq_false_iff_ne];omega
 have q1:(100:Int)<(ds.length:Int):=by omega
 clear hz hn
 clear hm h h2 hwf hml hpl hfr hto
 go_enter func4,ntmps4
 go_wp2_with fail
 refine (awake17_any _).mono ?_
 rintro e u1 ⟨rfl,b1⟩
 have B_1:=hid (bl B_0.out b1)
 have L_1:=hid (L_0.out.call b1)
 clear b1 B_0 L_0
 go_wp2_with fail
 refine (refmay17_any _ _ _ _ L_1.out.1).mono ?_
 rintro e u2 ⟨rfl,b2⟩
 rw [HM.out]
 have B_2:=hid (bl B_1.out b2)
 have L_2:=hid (L_1.out.call b2)
 clear b2 B_1 L_1
 go_wp2_with fail
 refine (awake17_any _).mono ?_
 rintro e u3 ⟨rfl,b3⟩
 have B_3:=hid (bl B_2.out b3)
 have L_3:=hid (L_2.out.call b3)
 clear b3 B_2 L_2
 go_wp2_with fail
 go_ret
 exact ⟨rfl,B_3.out⟩
set_option maxHeartbeats 4000000 in
theorem verTells_go (a:Option Addr) (cap:Nat) (l:List Int) (a2:Option Addr) (cap2:Nat) (ds:List Int) (pl fr tz:Int) (w:World) (h:LkAt w a cap l) (hwf:∀d∈ds,(Lit.int .u8 d).wf=true) (hml:ds.length≤maxLen) (h2:(ds=[]∨∃b off,a2=some ⟨b,off,none⟩∧b<w.heap.size∧∀i (hi:i<ds.length),w.cell? ⟨b,off+i,none⟩=some (.int .u8 ds[i]))) (hpl:0≤pl∧pl≤255) (hfr:0≤fr∧fr≤255) (hto:0≤tz∧tz≤255) (hm:mayV l=true) (hz:0<l.length) (hn:ds.length≤100):Calls prog 4 #[.slice a l.length cap,.slice a2 ds.length cap2,.int .u8 pl,.int .u8 fr,.int .u8 tz] w fun e w'=>e=.returned (.bool true)∧Below w.heap.size w w':=by
 have B_0:=hid (Below.refl w.heap.size w)
 have L_0:=hid h
 have HM:=hid hm
 have HV0:=hid hm
 have HWF:=hid hwf
 have HD:=hid h2
 have hlm:=h.1.len
 have q0:((l.length:Int)==0)=false:=by rw [beq_eq_false_iff_ne];omega
 have q3:(ds.length:Int)≤100:=by omega
 have HN:=hid hn
 have HL1:=hid (mayV_len hm)
 obtain ⟨pn,rfl⟩:∃m:Nat,pl=m:=⟨pl.toNat,by omega⟩
 obtain ⟨fn,rfl⟩:∃m:Nat,fr=m:=⟨fr.toNat,by omega⟩
 obtain ⟨tn,rfl⟩:∃m:Nat,tz=m:=⟨tz.toNat,by omega⟩
 have wp:IntKind.i64.wrap (pn:Int)=(pn:Int):=IntWalk.i64_in _ (by omega)
 have wf:IntKind.i64.wrap (fn:Int)=(fn:Int):=IntWalk.i64_in _ (by omega)
 have wt:IntKind.i64.wrap (tn:Int)=(tn:Int):=IntWalk.i64_in _ (by omega)
 obtain ⟨p,hp⟩:∃p,pn%l.length=p:=⟨_,rfl⟩
 have hpl2:p<l.length:=by rw [←hp];exact Nat.mod_lt _ hz
 have m1:(pn:Int).tmod (l.length:Int)=(p:Int):=by rw [←hp];rfl
 have m2:(pn:Int)%(l.length:Int)=(p:Int):=by rw [←hp];rfl
 obtain ⟨i,hi⟩:∃i,fn%(ds.length+1)=i:=⟨_,rfl⟩
 have hin:i≤ds.length:=by have:=Nat.mod_lt fn (show 0<ds.length+1 by omega);omega
 have q1:(((ds.length:Int)+1)==0)=false:=by rw [beq_eq_false_iff_ne];omega
 have wd:IntKind.i64.wrap ((ds.length:Int)+1)=(ds.length:Int)+1:=IntWalk.i64_in _ (by omega)
 have m3:(fn:Int).tmod ((ds.length:Int)+1)=(i:Int):=by rw [←hi];rfl
 have m4:(fn:Int)%((ds.length:Int)+1)=(i:Int):=by rw [←hi];rfl
 obtain ⟨m,hmm⟩:∃m,ds.length+1-i=m:=⟨_,rfl⟩
 have m0:(ds.length:Int)+1-(i:Int)=(m:Int):=by omega
 have q2:¬m=0:=by omega
 have wm:IntKind.i64.wrap (m:Int)=(m:Int):=IntWalk.i64_in _ (by omega)
 obtain ⟨tt,htt⟩:∃t,tn%m=t:=⟨_,rfl⟩
 have htm:tt<m:=by rw [←htt];exact Nat.mod_lt _ (by omega)
 have m5:(tn:Int).tmod (m:Int)=(tt:Int):=by rw [←htt];rfl
 have m6:(tn:Int)%(m:Int)=(tt:Int):=by rw [←htt];rfl
 obtain ⟨j,hj⟩:∃j,i+tt=j:=⟨_,rfl⟩
 have m7:(i:Int)+(tt:Int)=(j:Int):=by omega
 have wj:IntKind.i64.wrap (j:Int)=(j:Int):=IntWalk.i64_in _ (by omega)
 obtain ⟨us,hus⟩:∃us:List Int,ds.map (fun d=>d%(l.length:Int))=us:=⟨_,rfl⟩
 have hul:us.length=ds.length:=by rw [←hus,List.length_map]
 obtain ⟨vi,hvi⟩:∃v,(upsV l (us.take i)).getD p 0=v:=⟨_,rfl⟩
 obtain ⟨vj,hvj⟩:∃v,(upsV l (us.take j)).getD p 0=v:=⟨_,rfl⟩
 have HVI:=hid ((read_ups hpl2).trans hvi)
 have HVJ:=hid ((read_ups hpl2).trans hvj)
 have HFIN:=hid (show vj=vi+(btwN us p i j us.length:Nat) by rw [←hvi,←hvj];exact btw_all l hpl2 (by omega) (by omega))
 have HV1:=hid (show 0≤vi∧vi≤4611686018427387904 from hvi ▸ ups_pos hm _ p hpl2 (by simp;omega))
 have HV2:=hid (show 0≤vj∧vj≤4611686018427387904 from hvj ▸ ups_pos hm _ p hpl2 (by simp;omega))
 have HUS:=hid (show ∀k (hk:k<ds.length) (hk2:k<us.length),us[k]=ds[k]%(l.length:Int) from fun k hk hk2=>by subst hus;simp)
 have HVS:=hid (fun k=>upsV_vers hm (us.take k) (by simp;omega))
 have HIJ:=hid (show i≤j by omega)
 have HJN:=hid (show j≤ds.length by omega)
 have HP:=hid hpl2
 have HUL:=hid hul
 clear hm h h2 hwf hml hpl hfr hto hn hp hi hmm htt hj hvi hvj hus hul hpl2 hin htm
 go_enter func4,ntmps4
 go_wp2_with fail
 refine (awake17_any _).mono ?_
 rintro e u1 ⟨rfl,b1⟩
 have B_1:=hid (bl B_0.out b1)
 have L_1:=hid (L_0.out.call b1)
 clear b1 B_0 L_0
 go_wp2_with fail
 refine (refmay17_any _ _ _ _ L_1.out.1).mono ?_
 rintro e u2 ⟨rfl,b2⟩
 rw [HM.out]
 have B_2:=hid (bl B_1.out b2)
 have L_2:=hid (L_1.out.call b2)
 clear b2 B_1 L_1
 go_wp2_with fail
 clear q3 wp wf wt m1 m2 m3 m4 m0 q2 m5 m6 m7 q1
 go_loopw [14,15,16,17,18] (fun v v1 v2 v3 x wr=>∃(k:Nat) (la:Option Addr) (lc:Nat) (fv gv:Int) (bv:Nat),k≤ds.length∧x=.int .i64 k∧v=.slice la l.length lc∧v1=.int .i64 fv∧v2=.int .i64 gv∧v3=.int .i64 (bv:Int)∧LkAt wr la lc (upsV l (us.take k))∧(i<k→fv=vi)∧(j<k→gv=vj)∧bv=btwN us p i j k∧Below w.heap.size w wr) (fun _ _ _ _ x _=>ds.length+1-(intOf x).toNat)
 case atStart=>exact ⟨0,_,_,0,0,0,Nat.zero_le _,rfl,rfl,rfl,rfl,rfl,L_2.out,fun h=>absurd h (Nat.not_lt_zero _),fun h=>absurd h (Nat.not_lt_zero _),(btw_zero _ _ _ _).symm,B_2.out⟩
 case round =>
  obtain ⟨k,la,lc,fv,gv,bv,hk,rfl,rfl,rfl,rfl,rfl,hA,hf,hg,hbv,hB⟩:=hrel
  have HA:=hid hA
  have HF:=hid hf
  have HG:=hid hg
  have HBV:=hid hbv
  have HB:=hid hB
  have hbl:=btw_le us p i j k
  rw [←hbv,HUL.out] at hbl
  have wk:IntKind.i64.wrap ((k:Int)+1)=(k:Int)+1:=IntWalk.i64_in _ (by have:=HN.out;omega)
  have wb:IntKind.i64.wrap ((bv:Int)+1)=(bv:Int)+1:=IntWalk.i64_in _ (by have:=HN.out;omega)
  have HRI:=hid (show k=i→readV (upsV l (us.take k)) (p:Int)=vi from fun e=>e ▸ HVI.out)
  have HRJ:=hid (show k=j→readV (upsV l (us.take k)) (p:Int)=vj from fun e=>e ▸ HVJ.out)
  have HLU:=hid (show (upsV l (us.take k)).length=l.length from Fk8 _ _)
  have HPB:=hid (show mplB l.length (p:Int)=true from Al6 HP.out)
  clear hA hf hg hB hbv L_2 B_2
  have hz0:=HN.out
  have hij:=HIJ.out
  have hjn:=HJN.out
  by_cases hlt:k=ds.length
  ·rcases (show ((k=i)∧(k=j))∨((i<k)∧(k=j))∨((i<k)∧(j<k)) by omega) with ⟨hci,hcj⟩|⟨hci,hcj⟩|⟨hci,hcj⟩
   ·have c1:((k:Int)==(i:Int))=true:=by simp [hci]
    have c2:((k:Int)==(j:Int))=true:=by simp [hcj]
    have c3:((k:Int)==(ds.length:Int))=true:=by simp [hlt]
    have HE:=hid (show vj=vi+(bv:Nat) by have h:=HFIN.out;rw [HUL.out,←hlt,←HBV.out] at h;exact h)
    have c4:IntKind.i64.wrap (vi+(bv:Int))=vi+(bv:Int):=IntWalk.i64_in _ (by have:=HV1.out;have:=HN.out;omega)
    have c5:(vj==vi+(bv:Int))=true:=by rw [HE.out];simp
    have HCI:=hid hci
    have HCJ:=hid hcj
    clear hlt
    by_cases hb0:bv=0
    ·have c6:((bv:Int)==0)=true:=by simp [hb0]
     obtain ⟨o,ho⟩:∃o,decide (vi%2=1)=o:=⟨_,rfl⟩
     have HO:=hid ho
     have HC:=hid (show calmB vi vj=!o by rw [←ho];exact calm_yes HE.out hb0)
     clear ho
     clear hci hcj hb0 HF HG HFIN
     go_wp2_with fail
     refine (vrd_as HLU.out HA.out (HRI.out HCI.out) HPB.out).mono ?_
     rintro e w9 ⟨rfl,rfl⟩
     go_wp2_with fail
     refine (vrd_as HLU.out HA.out (HRJ.out HCJ.out) HPB.out).mono ?_
     rintro e w9 ⟨rfl,rfl⟩
     go_wp2_with fail
     refine (vcalm_as HV2.out.1 HC.out _).mono ?_
     rintro e w9 ⟨rfl,rfl⟩
     go_wp2_with fail
     refine (vodd_as HV1.out.1 HO.out _).mono ?_
     rintro e w9 ⟨rfl,rfl⟩
     cases o
     ·
      go_wp2_with fail
      go_ret
      exact ⟨rfl,HB.out⟩
     ·
      go_wp2_with fail
      go_ret
      exact ⟨rfl,HB.out⟩
    ·have c6:((bv:Int)==0)=false:=by rw [beq_eq_false_iff_ne];omega
     have HC:=hid (show calmB vi vj=false from calm_no HE.out hb0)
     clear hci hcj hb0 HF HG HFIN
     go_wp2_with fail
     refine (vrd_as HLU.out HA.out (HRI.out HCI.out) HPB.out).mono ?_
     rintro e w9 ⟨rfl,rfl⟩
     go_wp2_with fail
     refine (vrd_as HLU.out HA.out (HRJ.out HCJ.out) HPB.out).mono ?_
     rintro e w9 ⟨rfl,rfl⟩
     go_wp2_with fail
     refine (vcalm_as HV2.out.1 HC.out _).mono ?_
     rintro e w9 ⟨rfl,rfl⟩
     go_wp2_with fail
     go_ret
     exact ⟨rfl,HB.out⟩
   ·have c1:((k:Int)==(i:Int))=false:=by rw [beq_eq_false_iff_ne];omega
    have c2:((k:Int)==(j:Int))=true:=by simp [hcj]
    have c3:((k:Int)==(ds.length:Int))=true:=by simp [hlt]
    obtain rfl:fv=vi:=HF.out (by omega)
    have HE:=hid (show vj=fv+(bv:Nat) by have h:=HFIN.out;rw [HUL.out,←hlt,←HBV.out] at h;exact h)
    have c4:IntKind.i64.wrap (fv+(bv:Int))=fv+(bv:Int):=IntWalk.i64_in _ (by have:=HV1.out;have:=HN.out;omega)
    have c5:(vj==fv+(bv:Int))=true:=by rw [HE.out];simp
    have HCI:=hid hci
    have HCJ:=hid hcj
    clear hlt
    by_cases hb0:bv=0
    ·have c6:((bv:Int)==0)=true:=by simp [hb0]
     obtain ⟨o,ho⟩:∃o,decide (fv%2=1)=o:=⟨_,rfl⟩
     have HO:=hid ho
     have HC:=hid (show calmB fv vj=!o by rw [←ho];exact calm_yes HE.out hb0)
     clear ho
     clear hci hcj hb0 HF HG HFIN
     go_wp2_with fail
     refine (vrd_as HLU.out HA.out (HRJ.out HCJ.out) HPB.out).mono ?_
     rintro e w9 ⟨rfl,rfl⟩
     go_wp2_with fail
     refine (vcalm_as HV2.out.1 HC.out _).mono ?_
     rintro e w9 ⟨rfl,rfl⟩
     go_wp2_with fail
     refine (vodd_as HV1.out.1 HO.out _).mono ?_
     rintro e w9 ⟨rfl,rfl⟩
     cases o
     ·
      go_wp2_with fail
      go_ret
      exact ⟨rfl,HB.out⟩
     ·
      go_wp2_with fail
      go_ret
      exact ⟨rfl,HB.out⟩
    ·have c6:((bv:Int)==0)=false:=by rw [beq_eq_false_iff_ne];omega
     have HC:=hid (show calmB fv vj=false from calm_no HE.out hb0)
     clear hci hcj hb0 HF HG HFIN
     go_wp2_with fail
     refine (vrd_as HLU.out HA.out (HRJ.out HCJ.out) HPB.out).mono ?_
     rintro e w9 ⟨rfl,rfl⟩
     go_wp2_with fail
     refine (vcalm_as HV2.out.1 HC.out _).mono ?_
     rintro e w9 ⟨rfl,rfl⟩
     go_wp2_with fail
     go_ret
     exact ⟨rfl,HB.out⟩
   ·have c1:((k:Int)==(i:Int))=false:=by rw [beq_eq_false_iff_ne];omega
    have c2:((k:Int)==(j:Int))=false:=by rw [beq_eq_false_iff_ne];omega
    have c3:((k:Int)==(ds.length:Int))=true:=by simp [hlt]
    obtain rfl:fv=vi:=HF.out (by omega)
    obtain rfl:gv=vj:=HG.out (by omega)
    have HE:=hid (show gv=fv+(bv:Nat) by have h:=HFIN.out;rw [HUL.out,←hlt,←HBV.out] at h;exact h)
    have c4:IntKind.i64.wrap (fv+(bv:Int))=fv+(bv:Int):=IntWalk.i64_in _ (by have:=HV1.out;have:=HN.out;omega)
    have c5:(gv==fv+(bv:Int))=true:=by rw [HE.out];simp
    have HCI:=hid hci
    have HCJ:=hid hcj
    clear hlt
    by_cases hb0:bv=0
    ·have c6:((bv:Int)==0)=true:=by simp [hb0]
     obtain ⟨o,ho⟩:∃o,decide (fv%2=1)=o:=⟨_,rfl⟩
     have HO:=hid ho
     have HC:=hid (show calmB fv gv=!o by rw [←ho];exact calm_yes HE.out hb0)
     clear ho
     clear hci hcj hb0 HF HG HFIN
     go_wp2_with fail
     refine (vcalm_as HV2.out.1 HC.out _).mono ?_
     rintro e w9 ⟨rfl,rfl⟩
     go_wp2_with fail
     refine (vodd_as HV1.out.1 HO.out _).mono ?_
     rintro e w9 ⟨rfl,rfl⟩
     cases o
     ·
      go_wp2_with fail
      go_ret
      exact ⟨rfl,HB.out⟩
     ·
      go_wp2_with fail
      go_ret
      exact ⟨rfl,HB.out⟩
    ·have c6:((bv:Int)==0)=false:=by rw [beq_eq_false_iff_ne];omega
     have HC:=hid (show calmB fv gv=false from calm_no HE.out hb0)
     clear hci hcj hb0 HF HG HFIN
     go_wp2_with fail
     refine (vcalm_as HV2.out.1 HC.out _).mono ?_
     rintro e w9 ⟨rfl,rfl⟩
     go_wp2_with fail
     go_ret
     exact ⟨rfl,HB.out⟩
  ·have hlt2:k<ds.length:=by omega
   clear hlt
   obtain ⟨b2,o2,rfl,hb2,hc2⟩:∃b off,a2=some ⟨b,off,none⟩∧b<w.heap.size∧∀i (hi:i<ds.length),w.cell? ⟨b,off+i,none⟩=some (.int .u8 ds[i]):=by
    rcases HD.out with h|h
    ·subst h;simp at hlt2
    ·exact h
   have hcd:=(HB.out.cell (p:=⟨b2,o2+k,none⟩) hb2).trans (hc2 k hlt2)
   have hdr:=Ed (HWF.out ds[k] (List.getElem_mem hlt2))
   have hk2:k<us.length:=by rw [HUL.out];exact hlt2
   have hmo:=upsV_more l hk2
   have hbt:=btw_step p i j hk2
   rw [HUS.out k hlt2 hk2] at hmo hbt
   clear hc2 hb2 HD
   obtain ⟨dn,hdn⟩:∃m:Nat,ds[k]=m:=⟨ds[k].toNat,by omega⟩
   rw [hdn] at hcd hdr hmo hbt
   obtain ⟨un,hun⟩:∃u,dn%l.length=u:=⟨_,rfl⟩
   have hul2:un<l.length:=by rw [←hun];have:=HP.out;exact Nat.mod_lt _ (by omega)
   have wdn:IntKind.i64.wrap (dn:Int)=(dn:Int):=IntWalk.i64_in _ (by omega)
   have n1:(dn:Int).tmod (l.length:Int)=(un:Int):=by rw [←hun];rfl
   have n2:(dn:Int)%(l.length:Int)=(un:Int):=by rw [←hun];rfl
   rw [n2] at hmo hbt
   have HMO:=hid hmo.symm
   have HBT:=hid hbt
   have HUB:=hid (show mplB l.length (un:Int)=true from Al6 hul2)
   clear hmo hbt hdn hun hul2 HWF hdr
   by_cases hup:un=p
   ·rcases (show ((k<i)∧(k<j))∨((k=i)∧(k<j))∨((k=i)∧(k=j))∨((i<k)∧(k<j))∨((i<k)∧(k=j))∨((i<k)∧(j<k)) by omega) with ⟨hci,hcj⟩|⟨hci,hcj⟩|⟨hci,hcj⟩|⟨hci,hcj⟩|⟨hci,hcj⟩|⟨hci,hcj⟩
    ·have c1:((k:Int)==(i:Int))=false:=by rw [beq_eq_false_iff_ne];omega
     have c2:((k:Int)==(j:Int))=false:=by rw [beq_eq_false_iff_ne];omega
     have c3:((k:Int)==(ds.length:Int))=false:=by rw [beq_eq_false_iff_ne];omega
     have c4:((un:Int)==(p:Int))=true:=by simp [hup]
     have c5:¬((i:Int)≤(k:Int)):=by omega
     have HF2:=hid (show i<k+1→fv=vi from fun h=>by omega)
     have HG2:=hid (show j<k+1→gv=vj from fun h=>by omega)
     have HBS:=hid (show bv=btwN us p i j (k+1) by rw [HBT.out,←HBV.out,if_neg (fun h=>by have:=h.1;have:=h.2.1;have:=h.2.2;omega),Nat.add_zero])
     have HCI:=hid hci
     have HCJ:=hid hcj
     clear HF HG HBV HBT hup
     clear hci hcj
     go_wp2_with fail
     refine (up_as HLU.out HA.out (HVS.out k) HMO.out HUB.out).mono ?_
     rintro e u5 ⟨g,gc,rfl,hgx,-,b5⟩
     have HA2:=hid hgx
     have HB2:=hid (bl HB.out b5)
     clear hgx b5 HA HB
     go_wp2_with fail
     go_roundw
     case rel=>exact ⟨k+1,g,gc,fv,gv,bv,by omega,by go_num,rfl,rfl,rfl,rfl,HA2.out,HF2.out,HG2.out,HBS.out,HB2.out⟩
     case measure=>simp [intOf];omega
    ·have c1:((k:Int)==(i:Int))=true:=by simp [hci]
     have c2:((k:Int)==(j:Int))=false:=by rw [beq_eq_false_iff_ne];omega
     have c3:((k:Int)==(ds.length:Int))=false:=by rw [beq_eq_false_iff_ne];omega
     have c4:((un:Int)==(p:Int))=true:=by simp [hup]
     have c5:(i:Int)≤(k:Int):=by omega
     have c6:(k:Int)<(j:Int):=by omega
     have HF2:=hid (show i<k+1→vi=vi from fun _=>rfl)
     have HG2:=hid (show j<k+1→gv=vj from fun h=>by omega)
     have HBS:=hid (show bv+1=btwN us p i j (k+1) by rw [HBT.out,←HBV.out,if_pos ⟨by rw [hup],by omega,by omega⟩])
     have HCI:=hid hci
     have HCJ:=hid hcj
     clear HF HG HBV HBT hup
     clear hci hcj
     go_wp2_with fail
     refine (vrd_as HLU.out HA.out (HRI.out HCI.out) HPB.out).mono ?_
     rintro e w9 ⟨rfl,rfl⟩
     go_wp2_with fail
     refine (up_as HLU.out HA.out (HVS.out k) HMO.out HUB.out).mono ?_
     rintro e u5 ⟨g,gc,rfl,hgx,-,b5⟩
     have HA2:=hid hgx
     have HB2:=hid (bl HB.out b5)
     clear hgx b5 HA HB
     go_wp2_with fail
     go_roundw
     case rel=>exact ⟨k+1,g,gc,vi,gv,bv+1,by omega,by go_num,rfl,rfl,rfl,by go_num,HA2.out,fun _=>rfl,HG2.out,HBS.out,HB2.out⟩
     case measure=>simp [intOf];omega
    ·have c1:((k:Int)==(i:Int))=true:=by simp [hci]
     have c2:((k:Int)==(j:Int))=true:=by simp [hcj]
     have c3:((k:Int)==(ds.length:Int))=false:=by rw [beq_eq_false_iff_ne];omega
     have c4:((un:Int)==(p:Int))=true:=by simp [hup]
     have c5:(i:Int)≤(k:Int):=by omega
     have c6:¬((k:Int)<(j:Int)):=by omega
     have HF2:=hid (show i<k+1→vi=vi from fun _=>rfl)
     have HG2:=hid (show j<k+1→vj=vj from fun _=>rfl)
     have HBS:=hid (show bv=btwN us p i j (k+1) by rw [HBT.out,←HBV.out,if_neg (fun h=>by have:=h.1;have:=h.2.1;have:=h.2.2;omega),Nat.add_zero])
     have HCI:=hid hci
     have HCJ:=hid hcj
     clear HF HG HBV HBT hup
     clear hci hcj
     go_wp2_with fail
     refine (vrd_as HLU.out HA.out (HRI.out HCI.out) HPB.out).mono ?_
     rintro e w9 ⟨rfl,rfl⟩
     go_wp2_with fail
     refine (vrd_as HLU.out HA.out (HRJ.out HCJ.out) HPB.out).mono ?_
     rintro e w9 ⟨rfl,rfl⟩
     go_wp2_with fail
     refine (up_as HLU.out HA.out (HVS.out k) HMO.out HUB.out).mono ?_
     rintro e u5 ⟨g,gc,rfl,hgx,-,b5⟩
     have HA2:=hid hgx
     have HB2:=hid (bl HB.out b5)
     clear hgx b5 HA HB
     go_wp2_with fail
     go_roundw
     case rel=>exact ⟨k+1,g,gc,vi,vj,bv,by omega,by go_num,rfl,rfl,rfl,rfl,HA2.out,fun _=>rfl,fun _=>rfl,HBS.out,HB2.out⟩
     case measure=>simp [intOf];omega
    ·have c1:((k:Int)==(i:Int))=false:=by rw [beq_eq_false_iff_ne];omega
     have c2:((k:Int)==(j:Int))=false:=by rw [beq_eq_false_iff_ne];omega
     have c3:((k:Int)==(ds.length:Int))=false:=by rw [beq_eq_false_iff_ne];omega
     have c4:((un:Int)==(p:Int))=true:=by simp [hup]
     have c5:(i:Int)≤(k:Int):=by omega
     have c6:(k:Int)<(j:Int):=by omega
     have HF2:=hid (show i<k+1→fv=vi from fun _=>HF.out (by omega))
     have HG2:=hid (show j<k+1→gv=vj from fun h=>by omega)
     have HBS:=hid (show bv+1=btwN us p i j (k+1) by rw [HBT.out,←HBV.out,if_pos ⟨by rw [hup],by omega,by omega⟩])
     have HCI:=hid hci
     have HCJ:=hid hcj
     clear HF HG HBV HBT hup
     clear hci hcj
     go_wp2_with fail
     refine (up_as HLU.out HA.out (HVS.out k) HMO.out HUB.out).mono ?_
     rintro e u5 ⟨g,gc,rfl,hgx,-,b5⟩
     have HA2:=hid hgx
     have HB2:=hid (bl HB.out b5)
     clear hgx b5 HA HB
     go_wp2_with fail
     go_roundw
     case rel=>exact ⟨k+1,g,gc,fv,gv,bv+1,by omega,by go_num,rfl,rfl,rfl,by go_num,HA2.out,HF2.out,HG2.out,HBS.out,HB2.out⟩
     case measure=>simp [intOf];omega
    ·have c1:((k:Int)==(i:Int))=false:=by rw [beq_eq_false_iff_ne];omega
     have c2:((k:Int)==(j:Int))=true:=by simp [hcj]
     have c3:((k:Int)==(ds.length:Int))=false:=by rw [beq_eq_false_iff_ne];omega
     have c4:((un:Int)==(p:Int))=true:=by simp [hup]
     have c5:(i:Int)≤(k:Int):=by omega
     have c6:¬((k:Int)<(j:Int)):=by omega
     have HF2:=hid (show i<k+1→fv=vi from fun _=>HF.out (by omega))
     have HG2:=hid (show j<k+1→vj=vj from fun _=>rfl)
     have HBS:=hid (show bv=btwN us p i j (k+1) by rw [HBT.out,←HBV.out,if_neg (fun h=>by have:=h.1;have:=h.2.1;have:=h.2.2;omega),Nat.add_zero])
     have HCI:=hid hci
     have HCJ:=hid hcj
     clear HF HG HBV HBT hup
     clear hci hcj
     go_wp2_with fail
     refine (vrd_as HLU.out HA.out (HRJ.out HCJ.out) HPB.out).mono ?_
     rintro e w9 ⟨rfl,rfl⟩
     go_wp2_with fail
     refine (up_as HLU.out HA.out (HVS.out k) HMO.out HUB.out).mono ?_
     rintro e u5 ⟨g,gc,rfl,hgx,-,b5⟩
     have HA2:=hid hgx
     have HB2:=hid (bl HB.out b5)
     clear hgx b5 HA HB
     go_wp2_with fail
     go_roundw
     case rel=>exact ⟨k+1,g,gc,fv,vj,bv,by omega,by go_num,rfl,rfl,rfl,rfl,HA2.out,HF2.out,fun _=>rfl,HBS.out,HB2.out⟩
     case measure=>simp [intOf];omega
    ·have c1:((k:Int)==(i:Int))=false:=by rw [beq_eq_false_iff_ne];omega
     have c2:((k:Int)==(j:Int))=false:=by rw [beq_eq_false_iff_ne];omega
     have c3:((k:Int)==(ds.length:Int))=false:=by rw [beq_eq_false_iff_ne];omega
     have c4:((un:Int)==(p:Int))=true:=by simp [hup]
     have c5:(i:Int)≤(k:Int):=by omega
     have c6:¬((k:Int)<(j:Int)):=by omega
     have HF2:=hid (show i<k+1→fv=vi from fun _=>HF.out (by omega))
     have HG2:=hid (show j<k+1→gv=vj from fun _=>HG.out (by omega))
     have HBS:=hid (show bv=btwN us p i j (k+1) by rw [HBT.out,←HBV.out,if_neg (fun h=>by have:=h.1;have:=h.2.1;have:=h.2.2;omega),Nat.add_zero])
     have HCI:=hid hci
     have HCJ:=hid hcj
     clear HF HG HBV HBT hup
     clear hci hcj
     go_wp2_with fail
     refine (up_as HLU.out HA.out (HVS.out k) HMO.out HUB.out).mono ?_
     rintro e u5 ⟨g,gc,rfl,hgx,-,b5⟩
     have HA2:=hid hgx
     have HB2:=hid (bl HB.out b5)
     clear hgx b5 HA HB
     go_wp2_with fail
     go_roundw
     case rel=>exact ⟨k+1,g,gc,fv,gv,bv,by omega,by go_num,rfl,rfl,rfl,rfl,HA2.out,HF2.out,HG2.out,HBS.out,HB2.out⟩
     case measure=>simp [intOf];omega
   ·rcases (show ((k<i)∧(k<j))∨((k=i)∧(k<j))∨((k=i)∧(k=j))∨((i<k)∧(k<j))∨((i<k)∧(k=j))∨((i<k)∧(j<k)) by omega) with ⟨hci,hcj⟩|⟨hci,hcj⟩|⟨hci,hcj⟩|⟨hci,hcj⟩|⟨hci,hcj⟩|⟨hci,hcj⟩
    ·have c1:((k:Int)==(i:Int))=false:=by rw [beq_eq_false_iff_ne];omega
     have c2:((k:Int)==(j:Int))=false:=by rw [beq_eq_false_iff_ne];omega
     have c3:((k:Int)==(ds.length:Int))=false:=by rw [beq_eq_false_iff_ne];omega
     have c4:((un:Int)==(p:Int))=false:=by rw [beq_eq_false_iff_ne];omega
     have HF2:=hid (show i<k+1→fv=vi from fun h=>by omega)
     have HG2:=hid (show j<k+1→gv=vj from fun h=>by omega)
     have HBS:=hid (show bv=btwN us p i j (k+1) by rw [HBT.out,←HBV.out,if_neg (fun h=>by have:=h.1;have:=h.2.1;have:=h.2.2;omega),Nat.add_zero])
     have HCI:=hid hci
     have HCJ:=hid hcj
     clear HF HG HBV HBT hup
     clear hci hcj
     go_wp2_with fail
     refine (up_as HLU.out HA.out (HVS.out k) HMO.out HUB.out).mono ?_
     rintro e u5 ⟨g,gc,rfl,hgx,-,b5⟩
     have HA2:=hid hgx
     have HB2:=hid (bl HB.out b5)
     clear hgx b5 HA HB
     go_wp2_with fail
     go_roundw
     case rel=>exact ⟨k+1,g,gc,fv,gv,bv,by omega,by go_num,rfl,rfl,rfl,rfl,HA2.out,HF2.out,HG2.out,HBS.out,HB2.out⟩
     case measure=>simp [intOf];omega
    ·have c1:((k:Int)==(i:Int))=true:=by simp [hci]
     have c2:((k:Int)==(j:Int))=false:=by rw [beq_eq_false_iff_ne];omega
     have c3:((k:Int)==(ds.length:Int))=false:=by rw [beq_eq_false_iff_ne];omega
     have c4:((un:Int)==(p:Int))=false:=by rw [beq_eq_false_iff_ne];omega
     have HF2:=hid (show i<k+1→vi=vi from fun _=>rfl)
     have HG2:=hid (show j<k+1→gv=vj from fun h=>by omega)
     have HBS:=hid (show bv=btwN us p i j (k+1) by rw [HBT.out,←HBV.out,if_neg (fun h=>by have:=h.1;have:=h.2.1;have:=h.2.2;omega),Nat.add_zero])
     have HCI:=hid hci
     have HCJ:=hid hcj
     clear HF HG HBV HBT hup
     clear hci hcj
     go_wp2_with fail
     refine (vrd_as HLU.out HA.out (HRI.out HCI.out) HPB.out).mono ?_
     rintro e w9 ⟨rfl,rfl⟩
     go_wp2_with fail
     refine (up_as HLU.out HA.out (HVS.out k) HMO.out HUB.out).mono ?_
     rintro e u5 ⟨g,gc,rfl,hgx,-,b5⟩
     have HA2:=hid hgx
     have HB2:=hid (bl HB.out b5)
     clear hgx b5 HA HB
     go_wp2_with fail
     go_roundw
     case rel=>exact ⟨k+1,g,gc,vi,gv,bv,by omega,by go_num,rfl,rfl,rfl,rfl,HA2.out,fun _=>rfl,HG2.out,HBS.out,HB2.out⟩
     case measure=>simp [intOf];omega
    ·have c1:((k:Int)==(i:Int))=true:=by simp [hci]
     have c2:((k:Int)==(j:Int))=true:=by simp [hcj]
     have c3:((k:Int)==(ds.length:Int))=false:=by rw [beq_eq_false_iff_ne];omega
     have c4:((un:Int)==(p:Int))=false:=by rw [beq_eq_false_iff_ne];omega
     have HF2:=hid (show i<k+1→vi=vi from fun _=>rfl)
     have HG2:=hid (show j<k+1→vj=vj from fun _=>rfl)
     have HBS:=hid (show bv=btwN us p i j (k+1) by rw [HBT.out,←HBV.out,if_neg (fun h=>by have:=h.1;have:=h.2.1;have:=h.2.2;omega),Nat.add_zero])
     have HCI:=hid hci
     have HCJ:=hid hcj
     clear HF HG HBV HBT hup
     clear hci hcj
     go_wp2_with fail
     refine (vrd_as HLU.out HA.out (HRI.out HCI.out) HPB.out).mono ?_
     rintro e w9 ⟨rfl,rfl⟩
     go_wp2_with fail
     refine (vrd_as HLU.out HA.out (HRJ.out HCJ.out) HPB.out).mono ?_
     rintro e w9 ⟨rfl,rfl⟩
     go_wp2_with fail
     refine (up_as HLU.out HA.out (HVS.out k) HMO.out HUB.out).mono ?_
     rintro e u5 ⟨g,gc,rfl,hgx,-,b5⟩
     have HA2:=hid hgx
     have HB2:=hid (bl HB.out b5)
     clear hgx b5 HA HB
     go_wp2_with fail
     go_roundw
     case rel=>exact ⟨k+1,g,gc,vi,vj,bv,by omega,by go_num,rfl,rfl,rfl,rfl,HA2.out,fun _=>rfl,fun _=>rfl,HBS.out,HB2.out⟩
     case measure=>simp [intOf];omega
    ·have c1:((k:Int)==(i:Int))=false:=by rw [beq_eq_false_iff_ne];omega
     have c2:((k:Int)==(j:Int))=false:=by rw [beq_eq_false_iff_ne];omega
     have c3:((k:Int)==(ds.length:Int))=false:=by rw [beq_eq_false_iff_ne];omega
     have c4:((un:Int)==(p:Int))=false:=by rw [beq_eq_false_iff_ne];omega
     have HF2:=hid (show i<k+1→fv=vi from fun _=>HF.out (by omega))
     have HG2:=hid (show j<k+1→gv=vj from fun h=>by omega)
     have HBS:=hid (show bv=btwN us p i j (k+1) by rw [HBT.out,←HBV.out,if_neg (fun h=>by have:=h.1;have:=h.2.1;have:=h.2.2;omega),Nat.add_zero])
     have HCI:=hid hci
     have HCJ:=hid hcj
     clear HF HG HBV HBT hup
     clear hci hcj
     go_wp2_with fail
     refine (up_as HLU.out HA.out (HVS.out k) HMO.out HUB.out).mono ?_
     rintro e u5 ⟨g,gc,rfl,hgx,-,b5⟩
     have HA2:=hid hgx
     have HB2:=hid (bl HB.out b5)
     clear hgx b5 HA HB
     go_wp2_with fail
     go_roundw
     case rel=>exact ⟨k+1,g,gc,fv,gv,bv,by omega,by go_num,rfl,rfl,rfl,rfl,HA2.out,HF2.out,HG2.out,HBS.out,HB2.out⟩
     case measure=>simp [intOf];omega
    ·have c1:((k:Int)==(i:Int))=false:=by rw [beq_eq_false_iff_ne];omega
     have c2:((k:Int)==(j:Int))=true:=by simp [hcj]
     have c3:((k:Int)==(ds.length:Int))=false:=by rw [beq_eq_false_iff_ne];omega
     have c4:((un:Int)==(p:Int))=false:=by rw [beq_eq_false_iff_ne];omega
     have HF2:=hid (show i<k+1→fv=vi from fun _=>HF.out (by omega))
     have HG2:=hid (show j<k+1→vj=vj from fun _=>rfl)
     have HBS:=hid (show bv=btwN us p i j (k+1) by rw [HBT.out,←HBV.out,if_neg (fun h=>by have:=h.1;have:=h.2.1;have:=h.2.2;omega),Nat.add_zero])
     have HCI:=hid hci
     have HCJ:=hid hcj
     clear HF HG HBV HBT hup
     clear hci hcj
     go_wp2_with fail
     refine (vrd_as HLU.out HA.out (HRJ.out HCJ.out) HPB.out).mono ?_
     rintro e w9 ⟨rfl,rfl⟩
     go_wp2_with fail
     refine (up_as HLU.out HA.out (HVS.out k) HMO.out HUB.out).mono ?_
     rintro e u5 ⟨g,gc,rfl,hgx,-,b5⟩
     have HA2:=hid hgx
     have HB2:=hid (bl HB.out b5)
     clear hgx b5 HA HB
     go_wp2_with fail
     go_roundw
     case rel=>exact ⟨k+1,g,gc,fv,vj,bv,by omega,by go_num,rfl,rfl,rfl,rfl,HA2.out,HF2.out,fun _=>rfl,HBS.out,HB2.out⟩
     case measure=>simp [intOf];omega
    ·have c1:((k:Int)==(i:Int))=false:=by rw [beq_eq_false_iff_ne];omega
     have c2:((k:Int)==(j:Int))=false:=by rw [beq_eq_false_iff_ne];omega
     have c3:((k:Int)==(ds.length:Int))=false:=by rw [beq_eq_false_iff_ne];omega
     have c4:((un:Int)==(p:Int))=false:=by rw [beq_eq_false_iff_ne];omega
     have HF2:=hid (show i<k+1→fv=vi from fun _=>HF.out (by omega))
     have HG2:=hid (show j<k+1→gv=vj from fun _=>HG.out (by omega))
     have HBS:=hid (show bv=btwN us p i j (k+1) by rw [HBT.out,←HBV.out,if_neg (fun h=>by have:=h.1;have:=h.2.1;have:=h.2.2;omega),Nat.add_zero])
     have HCI:=hid hci
     have HCJ:=hid hcj
     clear HF HG HBV HBT hup
     clear hci hcj
     go_wp2_with fail
     refine (up_as HLU.out HA.out (HVS.out k) HMO.out HUB.out).mono ?_
     rintro e u5 ⟨g,gc,rfl,hgx,-,b5⟩
     have HA2:=hid hgx
     have HB2:=hid (bl HB.out b5)
     clear hgx b5 HA HB
     go_wp2_with fail
     go_roundw
     case rel=>exact ⟨k+1,g,gc,fv,gv,bv,by omega,by go_num,rfl,rfl,rfl,rfl,HA2.out,HF2.out,HG2.out,HBS.out,HB2.out⟩
     case measure=>simp [intOf];omega
theorem walk_verTells (a:Option Addr) (cap:Nat) (l:List Int) (a2:Option Addr) (cap2:Nat) (ds:List Int) (pl fr tz:Int) (w:World) (hwf:∀d∈ds,(Lit.int .u8 d).wf=true) (hpl:(Lit.int .u8 pl).wf=true) (hfr:(Lit.int .u8 fr).wf=true) (hto:(Lit.int .u8 tz).wf=true) (h:LkAt w a cap l) (_hi:InL l) (hml:ds.length≤maxLen) (h2:(ds=[]∨∃b off,a2=some ⟨b,off,none⟩∧b<w.heap.size∧∀i (hi:i<ds.length),w.cell? ⟨b,off+i,none⟩=some (.int .u8 ds[i]))):Calls prog 4 #[.slice a l.length cap,.slice a2 ds.length cap2,.int .u8 pl,.int .u8 fr,.int .u8 tz] w fun e w'=>e=.returned (.bool true)∧Below w.heap.size w w':=by
 have h3:=Ed hpl
 have h4:=Ed hfr
 have h5:=Ed hto
 cases hm:mayV l
 ·exact verTells_no a cap l a2 cap2 ds pl fr tz w h hwf hml h2 h3 h4 h5 hm
 by_cases hz:l.length=0
 ·exact verTells_nil a cap l a2 cap2 ds pl fr tz w h hwf hml h2 h3 h4 h5 hm hz
 by_cases hn:ds.length≤100
 ·exact verTells_go a cap l a2 cap2 ds pl fr tz w h hwf hml h2 h3 h4 h5 hm (by omega) hn
 ·exact verTells_long a cap l a2 cap2 ds pl fr tz w h hwf hml h2 h3 h4 h5 hm (by omega) (by omega)
theorem lifted_verTells (os:Os) (started:os.Started) (H:Type) (enc:TypeId × Value→H) :
 ReturnsInHanded {} Try.checked os 4 .any (Rows.verTellsSpec.pre6 enc prog Try.f4 Rows.verTellsRow.domain false) (Rows.verTellsSpec.post enc prog Try.f4 false true false false):=by
 refine returnsInHanded_of_change (C:=Try.checked) (by kernel_rfl) started (by kernel_rfl) func4
  (ChangeSpec.witness6 (enc:=enc) (C:=Try.checked) false ⟨#[],#[.slice none 0 0,.slice none 0 0,.int .u8 0,.int .u8 0,.int .u8 0],[]⟩ 8 (by kernel_rfl) (by kernel_rfl) (by kernel_rfl) (by kernel_rfl)) ?_
 intro W base args ds gs before hval0 hW hcnd _
 have hval:∀(j:Nat) t v,Try.f4.params[j]?=some t→args[j]?=some v→Value.okWide prog W .any base t v:=hval0
 have hW':=hW
 obtain ⟨p,q,hA0,hV,rfl,hfz,hnd⟩:=hW
 have hA:DataW.TrodAll enc prog W 0 (fun _=>true) true Try.f4.params.toList args.toList ds p:=hA0
 rw [Try.params4] at hA hval
 obtain ⟨v0,vs0,d0,ds0,p0,q0,hargs,rfl,rfl,h0,r0⟩:=trodAll_cons hA
 obtain ⟨v1,vs1,d1,ds1,p1,q1,rfl,rfl,rfl,h1,r1⟩:=trodAll_cons r0
 obtain ⟨v2,vs2,d2,ds2,p2,q2,rfl,rfl,rfl,h2,r2⟩:=trodAll_cons r1
 obtain ⟨v3,vs3,d3,ds3,p3,q3,rfl,rfl,rfl,h3,r3⟩:=trodAll_cons r2
 obtain ⟨v4,vs4,d4,ds4,p4,q4,rfl,rfl,rfl,h4,r4⟩:=trodAll_cons r3
 obtain ⟨rfl,rfl,rfl⟩:=trodAll_nil r4
 obtain rfl:args=#[v0,v1,v2,v3,v4]:=by cases args;simp_all
 obtain ⟨rfl,rfl⟩:=trodVars_none hV
 obtain ⟨a0,cap0,xs0,rfl,c0,i0⟩:=read_lks (hval 0 22 v0 rfl rfl) h0
 obtain ⟨a1,cap1,xs1,rfl,m1,wf1,c1⟩:=Cv5 underlying34 underlying5 (by kernel_rfl) (hval 1 34 v1 rfl rfl) h1
 obtain ⟨a2,rfl,rfl,rfl,w2⟩:=open_int underlying5 (hval 2 5 v2 rfl rfl) h2
 obtain ⟨a3,rfl,rfl,rfl,w3⟩:=open_int underlying5 (hval 3 5 v3 rfl rfl) h3
 obtain ⟨a4,rfl,rfl,rfl,w4⟩:=open_int underlying5 (hval 4 5 v4 rfl rfl) h4
 clear hA0 hval0
 simp only [List.append_nil] at hW'
 refine (walk_verTells a0 cap0 xs0 a1 cap1 xs1 a2 a3 a4 W wf1 w2 w3 w4 c0 i0 m1 c1).mono fun e W' ⟨he,hg⟩=>?_
 subst he
 exact ⟨_,rfl,Iy (by kernel_rfl) rfl (by rw [Try.params4];decide +kernel) rfl rfl underlying4 hW' hg⟩
theorem proved_verTells:Rows.VerTellsSaid :=
 OpenClaim.holds_of_wide 4 Try.f4 rfl rfl rfl rfl rfl rfl rfl ⟨rfl,rfl,rfl,rfl,rfl⟩ rfl rfl rfl rfl rfl (by kernel_rfl) func4 (by kernel_rfl)
  (of_decide_eq_true (by kernel_rfl)) (by unfold Func.isWrapper;first|(rw [if_pos (by decide +kernel)];kernel_rfl)|(rw [if_neg (by decide +kernel)];exact ⟨rfl,rfl⟩))
  (fun os started H enc _=>lifted_verTells os started H enc)
#print axioms proved_verTells
end Go.Proofs.Ytchmbmkdceaboaa
