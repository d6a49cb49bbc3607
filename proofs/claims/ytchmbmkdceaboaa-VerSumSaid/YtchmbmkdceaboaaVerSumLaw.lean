/- VerSum: behind whatever ups the sum is as much more as there were ups of places that there are; in whatever order. -/
import Derived.Test.YtchmbmkdceaboaaVerAw
import Derived.Test.YtchmbmkdceaboaaVerBtw
namespace Go.Proofs.Ytchmbmkdceaboaa
open Go.ChangeShapes Go.WideShapes Go.ChangeAt Go.RowKit Go.Proofs.Try
open Lib (hid)
set_option linter.unusedVariables false
set_option maxRecDepth 100000
open Go.RowKit Go Go.Joins
theorem upsV_app (l us:List Int) (x:Int):upsV l (us++[x])=upV (upsV l us) x:=by unfold upsV;rw [List.foldl_append];rfl
theorem cnt_more {us:List Int} {k:Nat} (h:k<us.length) (P:Int→Bool):(us.take (k+1)).countP P=(us.take k).countP P+if P us[k] then 1 else 0:=by
 rw [List.take_succ_eq_append_getElem h,List.countP_append];simp [List.countP_cons]
theorem sum_more {l:List Int} {k:Nat} (h:k<l.length):(l.take (k+1)).sum=(l.take k).sum+l[k]:=by
 rw [List.take_succ_eq_append_getElem h,List.sum_append];simp
theorem pl_zero {n:Nat} {d:Nat} (h:d=0):mplB n ((d:Int)-1)=false:=by simp [mplB];omega
theorem pl_in {n:Nat} {d:Nat} (h:0<d) (h2:d≤n):mplB n ((d:Int)-1)=true:=by simp [mplB];omega
theorem pl_out {n:Nat} {d:Nat} (h2:n<d):mplB n ((d:Int)-1)=false:=by simp [mplB];omega
theorem verSum_no (a:Option Addr) (cap:Nat) (l:List Int) (a2:Option Addr) (cap2:Nat) (ds:List Int) (tz:Int) (w:World) (h:LkAt w a cap l) (hwf:∀d∈ds,(Lit.int .u8 d).wf=true) (hml:ds.length≤maxLen) (h2:(ds=[]∨∃b off,a2=some ⟨b,off,none⟩∧b<w.heap.size∧∀i (hi:i<ds.length),w.cell? ⟨b,off+i,none⟩=some (.int .u8 ds[i]))) (hto:0≤tz∧tz≤255) (hm:mayV l=false):Calls prog 6 #[.slice a l.length cap,.slice a2 ds.length cap2,.int .u8 tz] w fun e w'=>e=.returned (.bool true)∧Below w.heap.size w w':=by
 have B_0:=hid (Below.refl w.heap.size w)
 have L_0:=hid h
 have HM:=hid hm
 have hlm:=h.1.len
 have hdm:ds.length≤9223372036854775807:=by unfold maxLen at hml;omega
 clear hm h h2 hwf hml hto
 go_enter func6,ntmps6
 go_wp2_with fail
 refine (awake17_any _).mono ?_
 rintro e u1 ⟨rfl,b1⟩
 have B_1:=hid (bl B_0.out b1)
 have L_1:=hid (L_0.out.call b1)
 clear b1 B_0 L_0
 go_wp2_with fail
 refine (refmay17_any _ _ _ _ L_1.out.1).mono ?_
 rintro e u2 ⟨rfl,b2⟩
 rw [HM.out]
 have B_2:=hid (bl B_1.out b2)
 have L_2:=hid (L_1.out.call b2)
 clear b2 B_1 L_1
 go_wp2_with fail
 refine (awake17_any _).mono ?_
 rintro e u3 ⟨rfl,b3⟩
 have B_3:=hid (bl B_2.out b3)
 have L_3:=hid (L_2.out.call b3)
 clear b3 B_2 L_2
 go_wp2_with fail
 go_ret
 exact ⟨rfl,B_3.out⟩
theorem verSum_long (a:Option Addr) (cap:Nat) (l:List Int) (a2:Option Addr) (cap2:Nat) (ds:List Int) (tz:Int) (w:World) (h:LkAt w a cap l) (hwf:∀d∈ds,(Lit.int .u8 d).wf=true) (hml:ds.length≤maxLen) (h2:(ds=[]∨∃b off,a2=some ⟨b,off,none⟩∧b<w.heap.size∧∀i (hi:i<ds.length),w.cell? ⟨b,off+i,none⟩=some (.int .u8 ds[i]))) (hto:0≤tz∧tz≤255) (hm:mayV l=true) (hn:100<ds.length):Calls prog 6 #[.slice a l.length cap,.slice a2 ds.length cap2,.int .u8 tz] w fun e w'=>e=.returned (.bool true)∧Below w.heap.size w w':=by
 have B_0:=hid (Below.refl w.heap.size w)
 have L_0:=hid h
 have HM:=hid hm
 have hlm:=h.1.len
 have hdm:ds.length≤9223372036854775807:=by unfold maxLen at hml;omega
 have q1:(100:Int)<(ds.length:Int):=by omega
 clear hn
 clear hm h h2 hwf hml hto
 go_enter func6,ntmps6
 go_wp2_with fail
 refine (awake17_any _).mono ?_
 rintro e u1 ⟨rfl,b1⟩
 have B_1:=hid (bl B_0.out b1)
 have L_1:=hid (L_0.out.call b1)
 clear b1 B_0 L_0
 go_wp2_with fail
 refine (refmay17_any _ _ _ _ L_1.out.1).mono ?_
 rintro e u2 ⟨rfl,b2⟩
 rw [HM.out]
 have B_2:=hid (bl B_1.out b2)
 have L_2:=hid (L_1.out.call b2)
 clear b2 B_1 L_1
 go_wp2_with fail
 refine (awake17_any _).mono ?_
 rintro e u3 ⟨rfl,b3⟩
 have B_3:=hid (bl B_2.out b3)
 have L_3:=hid (L_2.out.call b3)
 clear b3 B_2 L_2
 go_wp2_with fail
 go_ret
 exact ⟨rfl,B_3.out⟩
set_option maxHeartbeats 4000000 in
theorem verSum_go (a:Option Addr) (cap:Nat) (l:List Int) (a2:Option Addr) (cap2:Nat) (ds:List Int) (tz:Int) (w:World) (h:LkAt w a cap l) (hwf:∀d∈ds,(Lit.int .u8 d).wf=true) (hml:ds.length≤maxLen) (h2:(ds=[]∨∃b off,a2=some ⟨b,off,none⟩∧b<w.heap.size∧∀i (hi:i<ds.length),w.cell? ⟨b,off+i,none⟩=some (.int .u8 ds[i]))) (hto:0≤tz∧tz≤255) (hm:mayV l=true) (hn:ds.length≤100):Calls prog 6 #[.slice a l.length cap,.slice a2 ds.length cap2,.int .u8 tz] w fun e w'=>e=.returned (.bool true)∧Below w.heap.size w w':=by
 have B_0:=hid (Below.refl w.heap.size w)
 have L_0:=hid h
 have HM:=hid hm
 have HV0:=hid hm
 have HWF:=hid hwf
 have HD:=hid h2
 have hlm:=h.1.len
 have q3:(ds.length:Int)≤100:=by omega
 have HN:=hid hn
 have HL1:=hid (mayV_len hm)
 obtain ⟨tn,rfl⟩:∃m:Nat,tz=m:=⟨tz.toNat,by omega⟩
 have wt:IntKind.i64.wrap (tn:Int)=(tn:Int):=IntWalk.i64_in _ (by omega)
 have HT:=hid hto
 obtain ⟨us,hus⟩:∃us:List Int,ds.map (fun d=>d-1)=us:=⟨_,rfl⟩
 have hul:us.length=ds.length:=by rw [←hus,List.length_map]
 have HUS:=hid (show ∀k (hk:k<ds.length) (hk2:k<us.length),us[k]=ds[k]-1 from fun k hk hk2=>by subst hus;simp)
 have HVS:=hid (fun k=>upsV_vers hm (us.take k) (by simp;omega))
 have HVR:=hid (fun k (hk:k≤ds.length)=>upsV_vers hm (rot us tn k) (by rw [Cz8];omega))
 have HSAME:=hid (show upsV l (rot us tn us.length)=upsV l us from upsV_same (fun k=>rot_count us tn _))
 have HSUM:=hid (upsV_sum us l)
 have HGR:=hid (fun k hk=>upsV_grows us l k hk)
 have HBD:=hid (show ∀x∈l,0≤x∧x≤1099511627776 from by simp [mayV] at hm;exact fun x hx=>hm.1 x hx)
 have HUL:=hid hul
 clear hm h h2 hwf hml hto hn hus hul
 go_enter func6,ntmps6
 go_wp2_with fail
 refine (awake17_any _).mono ?_
 rintro e u1 ⟨rfl,b1⟩
 have B_1:=hid (bl B_0.out b1)
 have L_1:=hid (L_0.out.call b1)
 clear b1 B_0 L_0
 go_wp2_with fail
 refine (refmay17_any _ _ _ _ L_1.out.1).mono ?_
 rintro e u2 ⟨rfl,b2⟩
 rw [HM.out]
 have B_2:=hid (bl B_1.out b2)
 have L_2:=hid (L_1.out.call b2)
 clear b2 B_1 L_1
 go_wp2_with fail
 clear q3
 go_loopw [7,8,9,10] (fun v v1 v2 x wr=>∃(k:Nat) (la:Option Addr) (lc:Nat) (lb:Option Addr) (ld:Nat) (mn:Nat),k≤ds.length∧x=.int .i64 k∧v=.slice la l.length lc∧v1=.slice lb l.length ld∧v2=.int .i64 (mn:Int)∧LkAt wr la lc (upsV l (us.take k))∧LkAt wr lb ld (upsV l (rot us tn k))∧mn=(us.take k).countP (fun p=>mplB l.length p)∧Below u2.heap.size u2 wr) (fun _ _ _ x _=>ds.length-(intOf x).toNat)
 case atStart=>exact ⟨0,_,_,_,_,0,Nat.zero_le _,rfl,rfl,rfl,rfl,L_2.out,L_2.out,rfl,Below.refl _ _⟩
 case round =>
  obtain ⟨k,la,lc,lb,ld,mn,hk,rfl,rfl,rfl,rfl,hA,hR,hmn,hB⟩:=hrel
  have HA:=hid hA
  have HR:=hid hR
  have HMN:=hid hmn
  have HB:=hid hB
  have hmk:mn≤ds.length:=by rw [hmn];exact Nat.le_trans List.countP_le_length (by simp;omega)
  have wk:IntKind.i64.wrap ((k:Int)+1)=(k:Int)+1:=IntWalk.i64_in _ (by have:=HN.out;omega)
  have wb:IntKind.i64.wrap ((mn:Int)+1)=(mn:Int)+1:=IntWalk.i64_in _ (by have:=HN.out;omega)
  have HLU:=hid (show (upsV l (us.take k)).length=l.length from Fk8 _ _)
  have HLR:=hid (show (upsV l (rot us tn k)).length=l.length from Fk8 _ _)
  clear hA hR hmn hB
  by_cases hlt:k<ds.length
  ·obtain ⟨b2,o2,rfl,hb2,hc2⟩:∃b off,a2=some ⟨b,off,none⟩∧b<w.heap.size∧∀i (hi:i<ds.length),w.cell? ⟨b,off+i,none⟩=some (.int .u8 ds[i]):=by
    rcases HD.out with h|h
    ·subst h;simp at hlt
    ·exact h
   have HBW:=hid (bl B_2.out HB.out)
   have hcd:=(HBW.out.cell (p:=⟨b2,o2+k,none⟩) hb2).trans (hc2 k hlt)
   have hdr:=Ed (HWF.out ds[k] (List.getElem_mem hlt))
   obtain ⟨r,hr⟩:∃r,(k+tn)%ds.length=r:=⟨_,rfl⟩
   have hrl:r<ds.length:=by rw [←hr];exact Nat.mod_lt _ (by omega)
   have m1:((k:Int)+(tn:Int)).tmod (ds.length:Int)=(r:Int):=by rw [←hr];rfl
   have m2:((k:Int)+(tn:Int))%(ds.length:Int)=(r:Int):=by rw [←hr];rfl
   have wkt:IntKind.i64.wrap ((k:Int)+(tn:Int))=(k:Int)+(tn:Int):=IntWalk.i64_in _ (by have:=HN.out;have:=HT.out;omega)
   have hn0:¬ds.length=0:=by omega
   have hcr:=(HBW.out.cell (p:=⟨b2,o2+r,none⟩) hb2).trans (hc2 r hrl)
   have her:=Ed (HWF.out ds[r] (List.getElem_mem hrl))
   have hk2:k<us.length:=by rw [HUL.out];exact hlt
   have hr2:r<us.length:=by rw [HUL.out];exact hrl
   have hmo:=upsV_more l hk2
   rw [HUS.out k hlt hk2] at hmo
   have hcm:=cnt_more hk2 (fun p=>mplB l.length p)
   rw [HUS.out k hlt hk2,←HMN.out] at hcm
   have hro:upsV l (rot us tn (k+1))=upV (upsV l (rot us tn k)) (ds[r]-1):=by
    rw [Gn2,upsV_app,HUL.out,hr,List.getD_eq_getElem?_getD,List.getElem?_eq_getElem hr2,Option.getD_some,HUS.out r hrl hr2]
   have hbl2:b2<wr.heap.size:=Nat.lt_of_lt_of_le hb2 HBW.out.size
   clear hc2 hb2 HD
   obtain ⟨dn,hdn⟩:∃m:Nat,ds[k]=m:=⟨ds[k].toNat,by omega⟩
   rw [hdn] at hcd hdr hmo hcm
   obtain ⟨en,hen⟩:∃m:Nat,ds[r]=m:=⟨ds[r].toNat,by omega⟩
   rw [hen] at hcr her hro
   have wdn:IntKind.i64.wrap (dn:Int)=(dn:Int):=IntWalk.i64_in _ (by omega)
   have wen:IntKind.i64.wrap (en:Int)=(en:Int):=IntWalk.i64_in _ (by omega)
   have wd1:IntKind.i64.wrap ((dn:Int)-1)=(dn:Int)-1:=IntWalk.i64_in _ (by omega)
   have we1:IntKind.i64.wrap ((en:Int)-1)=(en:Int)-1:=IntWalk.i64_in _ (by omega)
   have HMO:=hid hmo.symm
   have HRO:=hid hro.symm
   have HRL:=hid hrl
   have HKL:=hid hlt
   obtain ⟨o2x,ho2⟩:∃o,mplB l.length ((en:Int)-1)=o:=⟨_,rfl⟩
   have HO2:=hid ho2
   clear hmo hro hdn hen HWF hdr her ho2 hr hk2 hr2 HMN HN HT
   have HBL:=hid hbl2
   clear hbl2
   rcases (show dn=0∨(0<dn∧dn≤l.length)∨l.length<dn by omega) with hdc|hdc|hdc
   ·have d1:(dn:Int)≤0:=by omega
    have HP:=hid (show mplB l.length ((dn:Int)-1)=false from pl_zero hdc)
    simp only [HP.out] at hcm
    have HCM:=hid hcm
    clear hcm hdc
    go_wp2_with fail
    refine (up_as HLU.out HA.out (HVS.out k) HMO.out HP.out).mono ?_
    rintro e u5 ⟨g,gc,rfl,hgx,-,b5⟩
    have HA2:=hid hgx
    have HR2:=hid (HR.out.call b5)
    have HB2:=hid (bl HB.out b5)
    replace hcd:=(b5.cell (p:=⟨b2,o2+k,none⟩) HBL.out).trans hcd
    replace hcr:=(b5.cell (p:=⟨b2,o2+r,none⟩) HBL.out).trans hcr
    have HBL5:=hid (Nat.lt_of_lt_of_le HBL.out b5.size)
    clear hgx b5 HA HR HB HBL
    go_wp2_with fail
    refine (up_as HLR.out HR2.out (HVR.out k (Nat.le_of_lt HKL.out)) HRO.out HO2.out).mono ?_
    rintro e u6 ⟨g2,gc2,rfl,hgy,-,b6⟩
    have HA3:=hid (HA2.out.call b6)
    have HR3:=hid hgy
    have HB3:=hid (bl HB2.out b6)
    replace hcd:=(b6.cell (p:=⟨b2,o2+k,none⟩) HBL5.out).trans hcd
    clear hcr hgy b6 HA2 HR2 HB2
    cases o2x
    ·
     go_wp2_with fail
     go_roundw
     case rel=>exact ⟨k+1,g,gc,g2,gc2,mn,by have:=HKL.out;omega,by go_num,rfl,rfl,rfl,HA3.out,HR3.out,HCM.out.symm,HB3.out⟩
     case measure=>have:=HKL.out;simp [intOf];omega
    ·
     go_wp2_with fail
     go_roundw
     case rel=>exact ⟨k+1,g,gc,g2,gc2,mn,by have:=HKL.out;omega,by go_num,rfl,rfl,rfl,HA3.out,HR3.out,HCM.out.symm,HB3.out⟩
     case measure=>have:=HKL.out;simp [intOf];omega
   ·have d1:0<dn:=hdc.1
    have d2:dn≤l.length:=hdc.2
    have HP:=hid (show mplB l.length ((dn:Int)-1)=true from pl_in hdc.1 hdc.2)
    simp only [HP.out] at hcm
    have HCM:=hid hcm
    clear hcm hdc
    go_wp2_with fail
    refine (up_as HLU.out HA.out (HVS.out k) HMO.out HP.out).mono ?_
    rintro e u5 ⟨g,gc,rfl,hgx,-,b5⟩
    have HA2:=hid hgx
    have HR2:=hid (HR.out.call b5)
    have HB2:=hid (bl HB.out b5)
    replace hcd:=(b5.cell (p:=⟨b2,o2+k,none⟩) HBL.out).trans hcd
    replace hcr:=(b5.cell (p:=⟨b2,o2+r,none⟩) HBL.out).trans hcr
    have HBL5:=hid (Nat.lt_of_lt_of_le HBL.out b5.size)
    clear hgx b5 HA HR HB HBL
    go_wp2_with fail
    refine (up_as HLR.out HR2.out (HVR.out k (Nat.le_of_lt HKL.out)) HRO.out HO2.out).mono ?_
    rintro e u6 ⟨g2,gc2,rfl,hgy,-,b6⟩
    have HA3:=hid (HA2.out.call b6)
    have HR3:=hid hgy
    have HB3:=hid (bl HB2.out b6)
    replace hcd:=(b6.cell (p:=⟨b2,o2+k,none⟩) HBL5.out).trans hcd
    clear hcr hgy b6 HA2 HR2 HB2
    cases o2x
    ·
     go_wp2_with fail
     go_roundw
     case rel=>exact ⟨k+1,g,gc,g2,gc2,mn+1,by have:=HKL.out;omega,by go_num,rfl,rfl,by go_num,HA3.out,HR3.out,HCM.out.symm,HB3.out⟩
     case measure=>have:=HKL.out;simp [intOf];omega
    ·
     go_wp2_with fail
     go_roundw
     case rel=>exact ⟨k+1,g,gc,g2,gc2,mn+1,by have:=HKL.out;omega,by go_num,rfl,rfl,by go_num,HA3.out,HR3.out,HCM.out.symm,HB3.out⟩
     case measure=>have:=HKL.out;simp [intOf];omega
   ·have d1:0<dn:=by omega
    have d2:l.length<dn:=hdc
    have HP:=hid (show mplB l.length ((dn:Int)-1)=false from pl_out hdc)
    simp only [HP.out] at hcm
    have HCM:=hid hcm
    clear hcm hdc
    go_wp2_with fail
    refine (up_as HLU.out HA.out (HVS.out k) HMO.out HP.out).mono ?_
    rintro e u5 ⟨g,gc,rfl,hgx,-,b5⟩
    have HA2:=hid hgx
    have HR2:=hid (HR.out.call b5)
    have HB2:=hid (bl HB.out b5)
    replace hcd:=(b5.cell (p:=⟨b2,o2+k,none⟩) HBL.out).trans hcd
    replace hcr:=(b5.cell (p:=⟨b2,o2+r,none⟩) HBL.out).trans hcr
    have HBL5:=hid (Nat.lt_of_lt_of_le HBL.out b5.size)
    clear hgx b5 HA HR HB HBL
    go_wp2_with fail
    refine (up_as HLR.out HR2.out (HVR.out k (Nat.le_of_lt HKL.out)) HRO.out HO2.out).mono ?_
    rintro e u6 ⟨g2,gc2,rfl,hgy,-,b6⟩
    have HA3:=hid (HA2.out.call b6)
    have HR3:=hid hgy
    have HB3:=hid (bl HB2.out b6)
    replace hcd:=(b6.cell (p:=⟨b2,o2+k,none⟩) HBL5.out).trans hcd
    clear hcr hgy b6 HA2 HR2 HB2
    cases o2x
    ·
     go_wp2_with fail
     go_roundw
     case rel=>exact ⟨k+1,g,gc,g2,gc2,mn,by have:=HKL.out;omega,by go_num,rfl,rfl,rfl,HA3.out,HR3.out,HCM.out.symm,HB3.out⟩
     case measure=>have:=HKL.out;simp [intOf];omega
    ·
     go_wp2_with fail
     go_roundw
     case rel=>exact ⟨k+1,g,gc,g2,gc2,mn,by have:=HKL.out;omega,by go_num,rfl,rfl,rfl,HA3.out,HR3.out,HCM.out.symm,HB3.out⟩
     case measure=>have:=HKL.out;simp [intOf];omega
  ·have hke:k=us.length:=by have:=HUL.out;omega
   have hke2:ds.length=us.length:=HUL.out.symm
   have ha:=HA.out
   have hr:=HR.out
   have hm2:=HMN.out
   rw [hke,List.take_of_length_le (Nat.le_refl _)] at ha hm2
   rw [hke,HSAME.out] at hr
   obtain ⟨av,hav⟩:∃v,upsV l us=v:=⟨_,rfl⟩
   rw [hav] at ha hr
   have hal:av.length=l.length:=by rw [←hav,Fk8]
   have hsum:av.sum=l.sum+(mn:Nat):=by rw [←hav,HSUM.out,←hm2]
   have hgr:∀j (h1:j<l.length) (h2:j<av.length),l[j]≤av[j]∧av[j]≤l[j]+100:=fun j h1 h2=>by
    have h3:=HGR.out j h1
    rw [hav] at h3
    simp only [List.getD_eq_getElem?_getD,List.getElem?_eq_getElem h1,List.getElem?_eq_getElem h2,Option.getD_some] at h3
    have:=HN.out;have:=HUL.out
    omega
   have HA2:=hid ha
   have HR2:=hid hr
   have HAL:=hid hal
   have HS:=hid hsum
   have HG:=hid hgr
   have HL:=hid (L_2.out.call HB.out)
   have HBW:=hid (bl B_2.out HB.out)
   clear ha hr hm2 hav hal hsum hgr HA HR HMN HB HSAME HSUM HGR HVS HVR HUS hke2
   go_wp2_with fail
   clear hlt hke
   go_loopw [15,16] (fun v x W=>∃(j:Nat) (sm:Int),j≤l.length∧x=.int .i64 j∧v=.int .i64 sm∧sm=(av.take j).sum-(l.take j).sum∧0≤sm∧sm≤100*j∧Below wr.heap.size wr W) (fun _ x _=>l.length-(intOf x).toNat)
   case atStart=>exact ⟨0,0,Nat.zero_le _,rfl,rfl,by simp,by omega,by omega,Below.refl _ _⟩
   case round =>
    obtain ⟨j,sm,hj,rfl,rfl,hsm,hs0,hs1,hB⟩:=hrel
    have HSM:=hid hsm
    have HB:=hid hB
    clear hsm hB
    by_cases hjl:j<l.length
    ·have hja:j<av.length:=by rw [HAL.out];exact hjl
     obtain ⟨ba,oa,rfl,hba,hca⟩:=HA2.out.1.at_ hja
     obtain ⟨bb,ob,rfl,hbb,hcb⟩:=HL.out.1.at_ hjl
     have h1:=(HB.out.cell (p:=⟨ba,oa+j,none⟩) hba).trans (hca j hja)
     have h2:=(HB.out.cell (p:=⟨bb,ob+j,none⟩) hbb).trans (hcb j hjl)
     have h3:=HG.out j hjl hja
     have h4:=HBD.out l[j] (List.getElem_mem hjl)
     have HS1:=hid (sum_more hja)
     have HS2:=hid (sum_more hjl)
     clear hca hcb
     obtain ⟨x,hx⟩:∃x,av[j]=x:=⟨_,rfl⟩
     obtain ⟨y,hy⟩:∃y,l[j]=y:=⟨_,rfl⟩
     rw [hx] at h1 h3
     rw [hy] at h2 h3 h4
     have HX:=hid hx
     have HY:=hid hy
     obtain ⟨h5,h6⟩:=h3
     have hj100:=HL1.out
     have w1:IntKind.i64.wrap (sm+x)=sm+x:=IntWalk.i64_in _ (by omega)
     have w2:IntKind.i64.wrap (sm+x-y)=sm+x-y:=IntWalk.i64_in _ (by omega)
     have w3:IntKind.i64.wrap ((j:Int)+1)=(j:Int)+1:=IntWalk.i64_in _ (by omega)
     have HSS:=hid (show sm+x-y=(av.take (j+1)).sum-(l.take (j+1)).sum by rw [HS1.out,HS2.out,HX.out,HY.out,HSM.out];omega)
     have H0:=hid (show 0≤sm+x-y by omega)
     have H1:=hid (show sm+x-y≤100*((j+1:Nat):Int) by omega)
     clear h4 h6 hs0 hs1 hx hy hj100 HS1 HS2 HSM
     go_wp2_with fail
     go_quiet (fail)
     go_wp2_with fail
     go_quiet (fail)
     go_wp2_with fail
     go_roundw
     case rel=>exact ⟨j+1,_,by omega,by go_num,rfl,HSS.out,H0.out,H1.out,Ib HB.out _⟩
     case measure=>simp [intOf];omega
    ·have hje:j=l.length:=by omega
     subst hje
     have hq:(sm==(mn:Int))=true:=by
      have h1:=HSM.out;have h2:=HS.out
      rw [List.take_of_length_le (Nat.le_of_eq HAL.out),List.take_of_length_le (Nat.le_refl _)] at h1
      simp;omega
     clear hs0 hs1
     go_wp2_with fail
     refine (msame_as HAL.out (HA2.out.call HB.out) (HR2.out.call HB.out)).mono ?_
     rintro e u9 ⟨rfl,b9⟩
     go_wp2_with fail
     go_ret
     exact ⟨rfl,bl (bl HBW.out HB.out) b9⟩
theorem walk_verSum (a:Option Addr) (cap:Nat) (l:List Int) (a2:Option Addr) (cap2:Nat) (ds:List Int) (tz:Int) (w:World) (hwf:∀d∈ds,(Lit.int .u8 d).wf=true) (hto:(Lit.int .u8 tz).wf=true) (h:LkAt w a cap l) (_hi:InL l) (hml:ds.length≤maxLen) (h2:(ds=[]∨∃b off,a2=some ⟨b,off,none⟩∧b<w.heap.size∧∀i (hi:i<ds.length),w.cell? ⟨b,off+i,none⟩=some (.int .u8 ds[i]))):Calls prog 6 #[.slice a l.length cap,.slice a2 ds.length cap2,.int .u8 tz] w fun e w'=>e=.returned (.bool true)∧Below w.heap.size w w':=by
 have h5:=Ed hto
 cases hm:mayV l
 ·exact verSum_no a cap l a2 cap2 ds tz w h hwf hml h2 h5 hm
 by_cases hn:ds.length≤100
 ·exact verSum_go a cap l a2 cap2 ds tz w h hwf hml h2 h5 hm hn
 ·exact verSum_long a cap l a2 cap2 ds tz w h hwf hml h2 h5 hm (by omega)
theorem lifted_verSum (os:Os) (started:os.Started) (H:Type) (enc:TypeId × Value→H) :
 ReturnsInHanded {} Try.checked os 6 .any (Rows.verSumSpec.pre6 enc prog Try.f6 Rows.verSumRow.domain false) (Rows.verSumSpec.post enc prog Try.f6 false true false false):=by
 refine returnsInHanded_of_change (C:=Try.checked) (by kernel_rfl) started (by kernel_rfl) func6
  (ChangeSpec.witness6 (enc:=enc) (C:=Try.checked) false ⟨#[],#[.slice none 0 0,.slice none 0 0,.int .u8 0],[]⟩ 8 (by kernel_rfl) (by kernel_rfl) (by kernel_rfl) (by kernel_rfl)) ?_
 intro W base args ds gs before hval0 hW hcnd _
 have hval:∀(j:Nat) t v,Try.f6.params[j]?=some t→args[j]?=some v→Value.okWide prog W .any base t v:=hval0
 have hW':=hW
 obtain ⟨p,q,hA0,hV,rfl,hfz,hnd⟩:=hW
 have hA:DataW.TrodAll enc prog W 0 (fun _=>true) true Try.f6.params.toList args.toList ds p:=hA0
 rw [Try.params6] at hA hval
 obtain ⟨v0,vs0,d0,ds0,p0,q0,hargs,rfl,rfl,h0,r0⟩:=trodAll_cons hA
 obtain ⟨v1,vs1,d1,ds1,p1,q1,rfl,rfl,rfl,h1,r1⟩:=trodAll_cons r0
 obtain ⟨v2,vs2,d2,ds2,p2,q2,rfl,rfl,rfl,h2,r2⟩:=trodAll_cons r1
 obtain ⟨rfl,rfl,rfl⟩:=trodAll_nil r2
 obtain rfl:args=#[v0,v1,v2]:=by cases args;simp_all
 obtain ⟨rfl,rfl⟩:=trodVars_none hV
 obtain ⟨a0,cap0,xs0,rfl,c0,i0⟩:=read_lks (hval 0 22 v0 rfl rfl) h0
 obtain ⟨a1,cap1,xs1,rfl,m1,wf1,c1⟩:=Cv5 underlying34 underlying5 (by kernel_rfl) (hval 1 34 v1 rfl rfl) h1
 obtain ⟨a2,rfl,rfl,rfl,w2⟩:=open_int underlying5 (hval 2 5 v2 rfl rfl) h2
 clear hA0 hval0
 simp only [List.append_nil] at hW'
 refine (walk_verSum a0 cap0 xs0 a1 cap1 xs1 a2 W wf1 w2 c0 i0 m1 c1).mono fun e W' ⟨he,hg⟩=>?_
 subst he
 exact ⟨_,rfl,Iy (by kernel_rfl) rfl (by rw [Try.params6];decide +kernel) rfl rfl underlying4 hW' hg⟩
theorem proved_verSum:Rows.VerSumSaid :=
 OpenClaim.holds_of_wide 6 Try.f6 rfl rfl rfl rfl rfl rfl rfl ⟨rfl,rfl,rfl,rfl,rfl⟩ rfl rfl rfl rfl rfl (by kernel_rfl) func6 (by kernel_rfl)
  (of_decide_eq_true (by kernel_rfl)) (by unfold Func.isWrapper;first|(rw [if_pos (by decide +kernel)];kernel_rfl)|(rw [if_neg (by decide +kernel)];exact ⟨rfl,rfl⟩))
  (fun os started H enc _=>lifted_verSum os started H enc)
#print axioms proved_verSum
end Go.Proofs.Ytchmbmkdceaboaa
