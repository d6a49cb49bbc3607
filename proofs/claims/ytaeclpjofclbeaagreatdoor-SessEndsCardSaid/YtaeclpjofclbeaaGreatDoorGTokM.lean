/- token: Number, of whatever word, by the code and by the document's own definition. -/
import Derived.Test.YtaeclpjofclbeaaGreatDoorGCmdN
import Derived.PlainAid
import Derived.Deep.RegionWith
import Derived.Lib.ItoaLen
import Derived.Lib.ItoaMem
namespace Go.Proofs.YtaeclpjofclbeaaGreatDoor
open Go.ChangeShapes Go.WideShapes Go.ChangeAt Go.RowKit Go.Proofs.Tryz
open Lib (hid)
set_option linter.unusedVariables false
section
theorem Bt6 (s:ByteArray) (k:Nat) (h:k<s.size):s.data.toList.take (k+1)=s.data.toList.take k++[s[k]]:=by
 rw [List.take_succ_eq_append_getElem (by simpa using h)];rfl
theorem data_get? (s:ByteArray) (k:Nat) (h:k<s.size):s.data.toList[k]?=some s[k]:=by
 rw [List.getElem?_eq_getElem (by simpa using h)];rfl
theorem Fx (s:ByteArray):s.data.toList.length=s.size:=by simp
theorem Az3 {s:ByteArray} (h:0<s.size):s.data.toList≠[]:=by
 intro e;have:=Fx s;rw [e] at this;simp at this;omega
theorem Yr {l:List UInt8} {n:Int} {b:Bool} (h1:n=numN l) (h2:b=numB l):Ending.returned (.tuple #[.int .i64 n,.bool b])=.returned (.tuple #[.int .i64 (numN l),.bool (numB l)]):=by rw [h1,h2]
theorem Ay1 {l:List UInt8} (h:numB l=false):(0:Int)=numN l:=by unfold numN;rw [h];rfl
theorem Fn8 {l:List UInt8} (h:numB l=true):((val l:Nat):Int)=numN l:=by unfold numN;rw [h];rfl
theorem El5 {l:List UInt8} {k:Nat} (h:1073741824<val (l.take k)):numB l=false:=by
 rw [Bool.eq_false_iff];intro h2;have:=((Qo l).1 h2).2.2.2;have:=Cl9 l k;omega
theorem El6 {l:List UInt8} {k:Nat} (h:dig (l.take k)=false):numB l=false:=by
 rw [Bool.eq_false_iff];intro h2;have:=Er7 ((Qo l).1 h2).2.2.1 k;rw [h] at this;cases this
theorem Ch0 {l:List UInt8} (h:Ie l=true):numB l=false:=by simp [numB,h]
theorem Fh7 (s:ByteArray) (w:World) (hs:s.size=0) :
 Calls prog 82 #[.string s] w fun e w'=>e=.returned (.tuple #[.int .i64 (numN s.data.toList),.bool (numB s.data.toList)])∧w=w':=by
 obtain rfl:s=⟨#[]⟩:=by apply ByteArray.ext;exact Array.eq_empty_of_size_eq_zero hs
 go_enter func82,ntmps82
 go_wp2_with fail
 go_ret2
 exact ⟨rfl,rfl⟩
theorem El4 (s:ByteArray) (w:World) (hs:s.size≤9223372036854775807) (h0:0<s.size) (hz:Ie s.data.toList=false) :
 Calls prog 82 #[.string s] w fun e w'=>e=.returned (.tuple #[.int .i64 (numN s.data.toList),.bool (numB s.data.toList)])∧w=w':=by
 have he:s.toList.isEmpty=false:=by rw [ByteArray.toList_eq];simpa using Az3 h0
 have hz2:1<s.size→(((s[0]'h0).toNat:Int)==48)=false:=by
  intro h;rw [beq_eq_false_iff_ne];intro e
  have e2:s[0]=48:=UInt8.toNat_inj.1 (by simp;omega)
  rw [(Fv _).2 ⟨by rw [Fx];exact h,by rw [data_get? s 0 h0,e2]⟩] at hz;cases hz
 have hd1:dig (s.data.toList.take 0)=true:=by simp [dig]
 have HZ:=hid hz
 have HD:=hid hd1
 clear hz hd1
 have hne:=hid (Az3 h0)
 by_cases h1:1<s.size
 all_goals
  first|(have hb:=hz2 h1;clear hz2)|clear hz2
  go_enter func82,ntmps82
  go_wp2_with fail
  go_loop [4,21] (fun n i=>∃k:Nat,k≤s.size∧i=.int .i64 k∧n=.int .i64 (val (s.data.toList.take k):Nat)∧dig (s.data.toList.take k)=true∧val (s.data.toList.take k)≤1073741824) (fun _ i=>s.size-(intOf i).toNat)
  case atStart=>exact ⟨0,Nat.zero_le _,rfl,rfl,HD.out,by simp [val]⟩
  case round =>
   obtain ⟨k,hk,rfl,rfl,hd,hv⟩:=hrel
   have HDk:=hid hd
   clear hd
   by_cases hlt:k<s.size
   ·have hts:=hid (Bt6 s k hlt)
    by_cases hc:48≤s[k].toNat∧s[k].toNat≤57
    ·obtain ⟨hc1,hc2⟩:=hc
     have hvs:val (s.data.toList.take (k+1))=10*val (s.data.toList.take k)+(s[k].toNat-48):=by rw [hts.out,Qk]
     have hds:=hid (show dig (s.data.toList.take (k+1))=true by rw [hts.out,Qs,HDk.out,(Oj _).2 ⟨hc1,hc2⟩];rfl)
     have HVS:=hid hvs
     clear hvs
     generalize hvv:val (s.data.toList.take k)=v at *
     have HV:=hid hvv
     clear hvv
     by_cases ho:10*v+(s[k].toNat-48)≤1073741824
     ·go_wp2_with fail
      go_round
      case rel=>exact ⟨k+1,by omega,by go_num,by rw [HVS.out];go_num,hds.out,by rw [HVS.out];exact ho⟩
      case measure=>simp [intOf];omega
     ·have hno:=hid (El5 (l:=s.data.toList) (k:=k+1) (by rw [HVS.out];omega))
      go_wp2_with fail
      go_ret2
      exact ⟨Yr (Ay1 hno.out) hno.symm,rfl⟩
    ·have hno:=hid (El6 (l:=s.data.toList) (k:=k+1) (by rw [hts.out,Qs,HDk.out,Bool.true_and,Bool.eq_false_iff];intro e;exact hc ((Oj _).1 e)))
     by_cases hc3:s[k].toNat<48
     ·clear hc
      go_wp2_with fail
      go_ret2
      exact ⟨Yr (Ay1 hno.out) hno.symm,rfl⟩
     ·have hc4:57<s[k].toNat:=by omega
      clear hc
      go_wp2_with fail
      go_ret2
      exact ⟨Yr (Ay1 hno.out) hno.symm,rfl⟩
   ·have hke:k=s.size:=by omega
    subst hke
    have hall:s.data.toList.take s.size=s.data.toList:=List.take_of_length_le (by rw [Fx];omega)
    have hyes:=hid (show numB s.data.toList=true from (Qo _).2 ⟨hne.out,HZ.out,by rw [←hall];exact HDk.out,by rw [←hall];exact hv⟩)
    have HA:=hid hall
    clear hall
    go_wp2_with fail
    go_ret2
    exact ⟨Yr (by rw [HA.out];exact Fn8 hyes.out) hyes.symm,rfl⟩
theorem Mw (s:ByteArray) (w:World) (hs:s.size≤9223372036854775807) :
 Calls prog 82 #[.string s] w fun e w'=>e=.returned (.tuple #[.int .i64 (numN s.data.toList),.bool (numB s.data.toList)])∧w=w':=by
 by_cases h0:0<s.size
 ·by_cases hz:Ie s.data.toList=true
  ·have hno:=hid (Ch0 hz)
   have he:s.toList.isEmpty=false:=by rw [ByteArray.toList_eq];simpa using Az3 h0
   obtain ⟨h1,h2⟩:=(Fv _).1 hz
   rw [Fx] at h1
   have hb:(((s[0]'h0).toNat:Int)==48)=true:=by
    rw [data_get? s 0 h0] at h2;injection h2 with h2;rw [h2];rfl
   clear hz h2
   go_enter func82,ntmps82
   go_wp2_with fail
   go_ret2
   exact ⟨Yr (Ay1 hno.out) hno.symm,rfl⟩
  ·exact El4 s w hs h0 (by simpa using hz)
 ·exact Fh7 s w (by omega)
end
section
theorem same_cells (a b:Option Addr) (ca cb:Nat) (xs ys:List (List UInt8)) (w:World) (hl:xs.length=ys.length) (hm:xs.length≤maxLen)
 (ha:xs=[]∨∃b off,a=some ⟨b,off,none⟩∧b<w.heap.size∧∀i (hi:i<xs.length),w.cell? ⟨b,off+i,none⟩=some (str xs[i]))
 (hb:ys=[]∨∃b' off,b=some ⟨b',off,none⟩∧b'<w.heap.size∧∀i (hi:i<ys.length),w.cell? ⟨b',off+i,none⟩=some (str ys[i])) :
 Calls prog 25 #[.slice a xs.length ca,.slice b ys.length cb] w fun e w'=>e=.returned (.bool (decide (xs=ys)))∧Below w.heap.size w w':=by
 unfold maxLen at hm
 have H1:=hid ha
 have H2:=hid hb
 have HL:=hid hl
 rw [←hl]
 clear ha hb hl
 go_enter func25,ntmps25
 go_wp2_with fail
 go_loopw [5] (fun i wr=>∃k:Nat,k≤xs.length∧i=.int .i64 k∧xs.take k=ys.take k∧Below w.heap.size w wr) (fun i _=>xs.length-(intOf i).toNat)
 case atStart=>exact ⟨0,Nat.zero_le _,rfl,rfl,Below.refl _ _⟩
 case round =>
  obtain ⟨k,hk,rfl,htk,hbel⟩:=hrel
  have HT:=hid htk
  clear htk
  by_cases hlt:k<xs.length
  ·have hy:k<ys.length:=by have:=HL.out;omega
   obtain ⟨xb,xo,rfl,hxb,hxc⟩:∃b off,a=some ⟨b,off,none⟩∧b<w.heap.size∧∀i (hi:i<xs.length),w.cell? ⟨b,off+i,none⟩=some (str xs[i]):=by
    rcases H1.out with h|h
    ·subst h;simp at hlt
    ·exact h
   obtain ⟨yb,yo,rfl,hyb,hyc⟩:∃b' off,b=some ⟨b',off,none⟩∧b'<w.heap.size∧∀i (hi:i<ys.length),w.cell? ⟨b',off+i,none⟩=some (str ys[i]):=by
    rcases H2.out with h|h
    ·subst h;simp at hy
    ·exact h
   have h1:=(hbel.cell (p:=⟨xb,xo+k,none⟩) hxb).trans (hxc k hlt)
   have h2:=(hbel.cell (p:=⟨yb,yo+k,none⟩) hyb).trans (hyc k hy)
   clear hxc hyc H1 H2
   have HX:=hid (Ga hlt hy HT.out)
   have HN:Hid (¬xs[k]=ys[k]→¬xs=ys):=hid (fun h e=>by subst e;exact h rfl)
   generalize hx:xs[k]=x at *
   generalize hyy:ys[k]=y at *
   have G1:=hid hx
   have G2:=hid hyy
   clear hx hyy
   unfold str at h1 h2
   by_cases he:x=y
   ·subst he
    have HX2:=hid (HX.out rfl)
    go_wp2_with fail
    go_quiet (fail)
    go_wp2_with fail
    go_roundw
    case rel=>exact ⟨k+1,by omega,by go_num,HX2.out,Ib hbel _⟩
    case measure=>simp [intOf];omega
   ·have hne:(x==y)=false:=by simpa using he
    have HD:=hid (show decide (xs=ys)=false by simpa using HN.out he)
    clear he
    go_wp2_with fail
    go_quiet (fail)
    go_wp2_with fail
    go_ret
    exact ⟨Ag (by rw [HD.out]),Ib hbel _⟩
  ·have hke:k=xs.length:=by omega
   subst hke
   have HD:=hid (show decide (xs=ys)=true by
    have:=HT.out
    rw [List.take_of_length_le lr0,HL.out,List.take_of_length_le lr0] at this
    simpa using this)
   clear H1 H2
   go_wp2_with fail
   go_ret
   exact ⟨Ag (by rw [HD.out]),hbel⟩
theorem Hu {xs ys:List (List UInt8)} {v u:Value} (w:World) (h1:Strs w v xs) (h2:Strs w u ys) :
 Calls prog 25 #[v,u] w fun e w'=>e=.returned (.bool (decide (xs=ys)))∧Below w.heap.size w w':=by
 obtain ⟨a,ca,rfl,hl,ha⟩:=h1
 obtain ⟨b,cb,rfl,hl2,hb⟩:=h2
 by_cases h:xs.length=ys.length
 ·exact same_cells a b ca cb xs ys w h hl ha hb
 ·have HD:=hid (show decide (xs=ys)=false by rw [decide_eq_false_iff_not];intro e;exact h (by rw [e]))
  rw [HD.out]
  clear ha hb
  unfold maxLen at hl hl2
  have hb:((xs.length:Int)==(ys.length:Int))=false:=by rw [beq_eq_false_iff_ne];omega
  go_enter func25,ntmps25
  go_wp2_with fail
  go_ret
  exact ⟨rfl,Below.refl _ _⟩
end
section
theorem Da2 (s:ByteArray) (w:World) (h0:0<s.size) (h10:s.size≤10) :
 Calls prog 50 #[.string s] w fun e w'=>e=.returned (.tuple #[.int .i64 (numN s.data.toList),.bool (numB s.data.toList)])∧w=w':=by
 have hd1:dig (s.data.toList.take 0)=true:=by simp [dig]
 have HD:=hid hd1
 clear hd1
 have hne:=hid (Az3 h0)
 have he1:¬s=ByteArray.empty:=by intro e;rw [e] at h0;simp at h0
 have he2:((s.size:Int)==0)=false:=by rw [beq_eq_false_iff_ne];omega
 go_enter func50,ntmps50
 go_wp2_with fail
 go_loop [4,5] (fun n i=>∃k:Nat,k≤s.size∧i=.int .i64 k∧n=.int .i64 (val (s.data.toList.take k):Nat)∧dig (s.data.toList.take k)=true∧Ie (s.data.toList.take k)=false) (fun _ i=>s.size-(intOf i).toNat)
 case atStart=>exact ⟨0,Nat.zero_le _,rfl,rfl,HD.out,by simp [Ie]⟩
 case round =>
  obtain ⟨k,hk,rfl,rfl,hd,hz⟩:=hrel
  have HDk:=hid hd
  have HZk:=hid hz
  have hlt10:=Cf1 _ hd
  have hle:(s.data.toList.take k).length≤10:=by have:=List.length_take_le k s.data.toList;omega
  have hp10:10 ^ (s.data.toList.take k).length≤10 ^ 10:=Nat.pow_le_pow_right (by omega) hle
  have hv10:val (s.data.toList.take k)<10000000000:=by omega
  clear hd hz hlt10 hle hp10
  by_cases hlt:k<s.size
  ·have hts:=hid (Bt6 s k hlt)
   have hg:=hid (show (s.data.toList.take (k+1))[0]?=s.data.toList[0]? by rw [List.getElem?_take,if_pos (by omega)])
   by_cases hc:48≤s[k].toNat∧s[k].toNat≤57
   ·obtain ⟨hc1,hc2⟩:=hc
    have hds:=hid (show dig (s.data.toList.take (k+1))=true by rw [hts.out,Qs,HDk.out,(Oj _).2 ⟨hc1,hc2⟩];rfl)
    have HVS:=hid (show val (s.data.toList.take (k+1))=10*val (s.data.toList.take k)+(s[k].toNat-48) by rw [hts.out,Qk])
    have hzero:0<k→val (s.data.toList.take k)=0→numB s.data.toList=false:=fun hk0 hv0=>by
     have hne2:s.data.toList.take k≠[]:=by intro e;have:=congrArg List.length e;rw [List.length_take,Fx,List.length_nil] at this;omega
     have:=Cc1 HDk.out hne2 hv0
     rw [List.getElem?_take,if_pos hk0] at this
     exact Ch0 ((Fv _).2 ⟨by rw [Fx];omega,this⟩)
    have hnext:(0<k→val (s.data.toList.take k)≠0)→Ie (s.data.toList.take (k+1))=false:=fun hn=>by
     rw [Bool.eq_false_iff];intro hz
     obtain ⟨z1,z2⟩:=(Fv _).1 hz
     rw [List.length_take,Fx] at z1
     rw [hg.out] at z2
     by_cases hk1:k=1
     ·subst hk1
      apply hn (by omega)
      have e0:s.data.toList.take 1=[48]:=by
       cases hq:s.data.toList with
       | nil=>exact absurd hq hne.out
       | cons a b=>rw [hq] at z2;simp at z2;simp [z2]
      rw [e0];rfl
     ·have:Ie (s.data.toList.take k)=true:=(Fv _).2 ⟨by rw [List.length_take,Fx];omega,by rw [List.getElem?_take,if_pos (by omega)];exact z2⟩
      rw [HZk.out] at this;cases this
    have HN:=hid hnext
    have HO:=hid hzero
    clear hnext hzero
    generalize hvv:val (s.data.toList.take k)=v at *
    have HV:=hid hvv
    clear hvv
    by_cases hk0:k=0
    ·subst hk0
     have hn:=hid (HN.out (by omega))
     go_wp2_with fail
     go_round
     case rel=>exact ⟨1,by omega,by go_num,by rw [HVS.out];go_num,hds.out,hn.out⟩
     case measure=>simp [intOf];omega
    ·by_cases hv0:v=0
     ·have hno:=hid (HO.out (by omega) hv0)
      subst hv0
      go_wp2_with fail
      go_ret2
      exact ⟨Yr (Ay1 hno.out) hno.symm,rfl⟩
     ·have hn:=hid (HN.out (fun _=>hv0))
      have hbv:((v:Int)==0)=false:=by rw [beq_eq_false_iff_ne];omega
      go_wp2_with fail
      go_round
      case rel=>exact ⟨k+1,by omega,by go_num,by rw [HVS.out];go_num,hds.out,hn.out⟩
      case measure=>simp [intOf];omega
   ·have hno:=hid (El6 (l:=s.data.toList) (k:=k+1) (by rw [hts.out,Qs,HDk.out,Bool.true_and,Bool.eq_false_iff];intro e;exact hc ((Oj _).1 e)))
    by_cases hc3:s[k].toNat<48
    ·clear hc
     go_wp2_with fail
     go_ret2
     exact ⟨Yr (Ay1 hno.out) hno.symm,rfl⟩
    ·have hc4:57<s[k].toNat:=by omega
     clear hc
     go_wp2_with fail
     go_ret2
     exact ⟨Yr (Ay1 hno.out) hno.symm,rfl⟩
  ·have hke:k=s.size:=by omega
   subst hke
   have hall:s.data.toList.take s.size=s.data.toList:=List.take_of_length_le (by rw [Fx];omega)
   rw [hall] at HDk HZk hv10
   have HA:=hid hall
   clear hall
   by_cases hm:val s.data.toList≤1073741824
   ·have hyes:=hid (show numB s.data.toList=true from (Qo _).2 ⟨hne.out,HZk.out,HDk.out,hm⟩)
    have HW:=hid (Fn8 hyes.out)
    generalize hvv:val s.data.toList=v at *
    have HV:=hid hvv
    clear hvv
    rw [HA.out,HV.out]
    go_wp2_with fail
    go_ret2
    exact ⟨Yr HW.out hyes.symm,rfl⟩
   ·have hno:=hid (El5 (l:=s.data.toList) (k:=s.size) (by rw [HA.out];omega))
    generalize hvv:val s.data.toList=v at *
    have HV:=hid hvv
    clear hvv
    rw [HA.out,HV.out]
    go_wp2_with fail
    go_ret2
    exact ⟨Yr (Ay1 hno.out) hno.symm,rfl⟩
theorem Ap5 (s:ByteArray) (w:World) (hs:s.size≤9223372036854775807) :
 Calls prog 50 #[.string s] w fun e w'=>e=.returned (.tuple #[.int .i64 (numN s.data.toList),.bool (numB s.data.toList)])∧w=w':=by
 by_cases h0:0<s.size
 ·by_cases h10:s.size≤10
  ·exact Da2 s w h0 h10
  ·have hno:=hid (Cu1 (l:=s.data.toList) (by rw [Fx];omega))
   have he1:¬s=ByteArray.empty:=by intro e;rw [e] at h0;simp at h0
   have he2:((s.size:Int)==0)=false:=by rw [beq_eq_false_iff_ne];omega
   have h11:¬((s.size:Int)≤10):=by omega
   have h12:10<(s.size:Int):=by omega
   go_enter func50,ntmps50
   go_wp2_with fail
   go_ret2
   exact ⟨Yr (Ay1 hno.out) hno.symm,rfl⟩
 ·obtain rfl:s=⟨#[]⟩:=by apply ByteArray.ext;exact Array.eq_empty_of_size_eq_zero (by have:=s.size_data;omega)
  go_enter func50,ntmps50
  go_wp2_with fail
  go_ret2
  exact ⟨rfl,rfl⟩
end
section
def dgt (n:Nat):UInt8:=UInt8.ofNat (48+n)
theorem Fs1 {n:Nat} (h:n<10):(48+(n:Int))=(dgt n).toNat:=by unfold dgt;simp;omega
theorem Cq4 (W:World) (b:UInt8) (x:Int) (hx:x=b.toNat) :
 (convert 110 9 (.slice (some ⟨W.heap.size,0,none⟩) 1 1)).run prog (W.alloc (.cells #[.int .u8 x] 5))=.ok (.string ⟨#[b]⟩) (W.alloc (.cells #[.int .u8 x] 5)):=by
 subst hx
 exact run_convert_bytes_back (P:=prog) (W.alloc (.cells #[.int .u8 (b.toNat:Int)] 5)) 110 9 5 ⟨W.heap.size,0,none⟩ 1 [b] underlying110 underlying5 underlying9 (fun j hj=>by
  have:j=0:=by simp at hj;omega
  subst this
  simp [Addr.add])
theorem Es0 {w w1:World} {b:UInt8} {x:Int} (b1:Below (w.alloc (.cells #[.int .u8 x] 5)).drew.heap.size (w.alloc (.cells #[.int .u8 x] 5)).drew w1) (hx:x=b.toNat) :
 (convert 110 9 (.slice (some ⟨w.heap.size,0,none⟩) 1 1)).run prog w1=.ok (.string ⟨#[b]⟩) w1:=by
 subst hx
 exact run_convert_bytes_back (P:=prog) w1 110 9 5 ⟨w.heap.size,0,none⟩ 1 [b] underlying110 underlying5 underlying9 (fun j hj=>by
  have:j=0:=by simp at hj;omega
  subst this
  rw [show (Addr.add ⟨w.heap.size,0,none⟩ 0)=⟨w.heap.size,0,none⟩ by simp [Addr.add],b1.cell (p:=⟨w.heap.size,0,none⟩) (by simp)]
  simp)
theorem Cw4 (w:World) (b:UInt8) (x:Int) (hx:x=b.toNat) :
 (convert 110 9 (.slice (some ⟨w.heap.size,0,none⟩) 1 1)).run prog (w.alloc (.cells #[.int .u8 x] 5)).drew=.ok (.string ⟨#[b]⟩) (w.alloc (.cells #[.int .u8 x] 5)).drew :=
 Es0 (Below.refl _ _) hx
theorem Hf5 {w w1:World} {o:Obj} (b1:Below w.drew.heap.size w.drew w1):Below w.heap.size w (w1.alloc o):=by
 have b2:Below w.heap.size w w1:=⟨b1.os,b1.tape,b1.output,b1.size,b1.block⟩
 exact b2.alloc b2.size o
theorem Hf4 {w w1:World} {o:Obj} (b1:Below (w.alloc o).drew.heap.size (w.alloc o).drew w1):Below w.heap.size w w1:=by
 have b2:Below (w.alloc o).heap.size (w.alloc o) w1:=⟨b1.os,b1.tape,b1.output,b1.size,b1.block⟩
 exact ((Below.refl w.heap.size w).alloc lr0 o).trans (b2.mono (by simp))
theorem Ah2 (n:Nat):∀(w:World) (hn:n≤1073741824),Calls prog 64 #[.int .i64 n] w fun e w'=>e=.returned (.string ⟨(Lib.decDigits n).toArray⟩)∧Below w.heap.size w w':=by
 induction n using Nat.strongRecOn with
 | ind n ih =>
   intro w hn
   by_cases h:n<10
   ·have HD:=hid (show Lib.decDigits n=[dgt n] by rw [Lib.decDigits,dif_pos h];rfl)
    rw [HD.out]
    clear ih
    have hcv:=fun W=>Cq4 W (dgt n) (48+(n:Int)) (Fs1 h)
    go_enter func64,ntmps64
    go_wp2_with fail
    go_ret
    exact ⟨rfl,b_a _⟩
   ·have HD:=hid (show Lib.decDigits n=Lib.decDigits (n / 10)++[dgt (n%10)] by rw [Lib.decDigits,dif_neg h];rfl)
    have HI:=hid (ih (n / 10) (by omega))
    rw [HD.out]
    clear ih
    have hdg:=hid (show (48+(n:Int)%10)=(dgt (n%10)).toNat by rw [←Fs1 (by omega)];omega)
    have hcv:=fun W=>Cq4 W (dgt (n%10)) (48+(n:Int)%10) hdg.out
    have hq:((n / 10:Nat):Int)=(n:Int) / 10:=by omega
    rw [hq] at HI
    clear hq
    have t1:(n:Int).tmod 10=(n:Int)%10:=Int.tmod_eq_emod_of_nonneg (by omega)
    have t2:IntKind.i64.wrap (48+(n:Int)%10)=48+(n:Int)%10:=IntWalk.i64_in _ (by omega)
    have t3:IntKind.u8.wrap (48+(n:Int)%10)=48+(n:Int)%10:=IntWalk.u8_in _ (by omega)
    have t4:IntKind.i64.wrap ((n:Int) / 10)=(n:Int) / 10:=IntWalk.i64_in _ (by omega)
    have hn10:=hid (show n / 10≤1073741824 by omega)
    have hlen:(Lib.decDigits (n / 10)).length≤21:=by
     have:=Lib.itoa_length_le ((n / 10:Nat):Int) (by omega) (by omega)
     rwa [Lib.itoa_nonneg] at this
    have hadd:=fun w=>run_string_add_sum (P:=prog) (w:=w) ⟨(Lib.decDigits (n / 10)).toArray⟩ ⟨#[dgt (n%10)]⟩ (by simp [ByteArray.size];omega)
    have hcv3:=fun W=>Cw4 W (dgt (n%10)) (48+(n:Int)%10) hdg.out
    go_enter func64,ntmps64
    go_wp2_with fail
    go_region_with (go_at_call 64;refine (HI.out _ hn10.out).mono ?_;rintro e w1 ⟨rfl,b1⟩;try have hcv2:=Es0 b1 hdg.out)
    all_goals
     go_wp2
     go_ret
     refine ⟨congrArg Ending.returned (congrArg Value.string (ByteArray.mk_append_mk _ _)),?_⟩
     first
      | exact Hf5 b1
      | exact Hf4 b1
end
section
theorem Ab3:(prog.info? 9).map (fun i=>(i.zero,i.size,i.bytes))=some (some (.string ⟨#[]⟩),1,16):=by kernel_rfl
theorem Zi {w:World} {base:Nat} {v:Value} {xs:List (List UInt8)} (h:w.ownsRow base 9 1 v xs.length (xs.map str)) (hm:xs.length≤maxLen):Strs w v xs:=by
 obtain ⟨_,h⟩:=h
 rcases h with ⟨rfl,h0⟩|⟨g,cap2,cur,rfl,hg,hh,hn,hc2,hsz,htk⟩
 ·have:xs=[]:=List.eq_nil_of_length_eq_zero h0
  subst this;exact ⟨none,0,rfl,by simp,.inl rfl⟩
 ·refine ⟨_,_,rfl,hm,.inr ⟨g,0,rfl,?_,fun i hi=>?_⟩⟩
  ·exact (Array.getElem?_eq_some_iff.1 hh).1
  ·have e1:cur.toList[i]?=some (str xs[i]):=by
    have e2:(cur.toList.take (xs.length*1))[i]?=(xs.map str)[i]?:=by rw [htk]
    rw [List.getElem?_take] at e2
    simpa [hi] using e2
   simp [World.cell?,hh,Array.getElem?_toList] at e1 ⊢
   exact e1
theorem Dy9 {w:World} {base:Nat} {v:Value} {xs:List (List UInt8)} (h:w.ownsRow base 9 1 v xs.length (xs.map str)) (hm:xs.length≤maxLen):Ja w v xs:=by
 refine ⟨Zi h hm,?_⟩
 rcases h.2 with ⟨rfl,h0⟩|⟨g,c,cur,rfl,_,_,hc,_⟩
 ·exact ⟨none,0,by rw [h0],by omega⟩
 ·exact ⟨_,c,rfl,hc⟩
theorem Ck5 (w:World) (x:Value) (T:TypeId) (j:Nat) (u:Value) (h:[x][j]?=some u):(w.alloc (.cells #[x] T)).cell? ((⟨w.heap.size,0,none⟩:Addr).add j)=some u:=by
 match j,h with
 | 0,h=>simp at h;subst h;simp [Addr.add]
theorem Bn4 (x:Value) (hx:x.oneCell'=true):∀u∈[x],u.oneCell'=true:=by intro u hu;simp at hu;rw [hu];exact hx
theorem Er9 (l:List UInt8):(cuts l).length≤l.length+1:=by
 induction l with
 | nil=>simp [cuts]
 | cons c l ih =>
   rw [Uf]
   split
   ·simp;omega
   ·cases hq:cuts l with
    | nil=>simp [onto]
    | cons h t=>rw [hq] at ih;simp [onto] at ih ⊢;omega
theorem Xq (l:List UInt8):(Aq l).length≤l.length+1:=Nat.le_trans (List.length_filter_le _ _) (Er9 l)
theorem Er2 (s:ByteArray) (i:Nat) (h:i<s.size) (hc:s[i]=32):Aq (s.data.toList.drop i)=Aq (s.data.toList.drop (i+1)):=by
 have:s.data.toList.drop i=32 :: s.data.toList.drop (i+1):=by
  rw [List.drop_eq_getElem_cons (by rw [Fx];exact h)]
  have:s.data.toList[i]'(by rw [Fx];exact h)=s[i]:=rfl
  rw [this,hc]
 rw [this,Zp]
def part (s:ByteArray) (i k:Nat):List UInt8:=(s.data.toList.drop i).take (k-i)
theorem Gb1 (s:ByteArray) (i k:Nat) (hik:i≤k) (h:k<s.size):part s i (k+1)=part s i k++[s[k]]:=by
 unfold part
 rw [show k+1-i=(k-i)+1 by omega,List.take_succ_eq_append_getElem (by rw [List.length_drop,Fx];omega)]
 congr 1
 simp only [List.getElem_drop]
 have:i+(k-i)=k:=by omega
 simp only [this];rfl
theorem Ek8 {s:ByteArray} {i k:Nat} (hik:i≤k) (h:k<s.size) (ha:(part s i k).all (fun c=>c != 32)=true) (hc:¬s[k]=32):(part s i (k+1)).all (fun c=>c != 32)=true:=by
 rw [Gb1 s i k hik h,List.all_append,ha];simpa using hc
theorem Ca7 (s:ByteArray) (i k:Nat):Value.string (s.extract i k)=str (part s i k):=by
 unfold str part
 have:=ByteArray.extract_mk s.data.toList i k
 rw [show (ByteArray.mk s.data.toList.toArray)=s by simp] at this
 rw [this]
theorem Dc1 {s:ByteArray} {i k:Nat} (hik:i<k) (hk:k≤s.size) (ha:(part s i k).all (fun c=>c != 32)=true) (hend:k=s.size∨∃h:k<s.size,s[k]=32) :
 Aq (s.data.toList.drop i)=part s i k :: Aq (s.data.toList.drop k):=by
 have e:s.data.toList.drop i=part s i k++s.data.toList.drop k:=by
  unfold part
  have:=List.take_append_drop (k-i) (s.data.toList.drop i)
  rw [List.drop_drop,show i+(k-i)=k by omega] at this
  exact this.symm
 rw [e,Uz]
 ·simp only [plain,ha,Bool.and_true,Bool.not_eq_true',List.isEmpty_eq_false_iff]
  intro e2
  have:=congrArg List.length e2
  unfold part at this
  rw [List.length_take,List.length_drop,Fx,List.length_nil] at this
  omega
 ·rcases hend with rfl|⟨h,hc⟩
  ·left;exact List.drop_eq_nil_of_le (by rw [Fx];omega)
  ·right
   rw [List.getElem?_drop,Nat.add_zero,data_get? s k h,hc]
set_option maxRecDepth 100000 in
theorem Fu (s:ByteArray) (w:World) (hs:s.size≤1000000) :
 Calls prog 20 #[.string s] w (Jk (Aq s.data.toList) w):=by
 obtain ⟨i0,hi0,hz0,hz1,hz2⟩:=info_parts Ab3
 have HI:=hid hi0
 clear hi0
 go_enter func20,ntmps20
 go_wp2_with fail
 go_loopw [3,4] (fun v iv wr=>∃(i:Nat) (ys:List (List UInt8)),i≤s.size∧iv=.int .i64 i∧Aq s.data.toList=ys++Aq (s.data.toList.drop i)∧ys.length≤i ∧
  wr.ownsRow w.heap.size 9 1 v ys.length (ys.map str)∧Below w.heap.size w wr) (fun _ iv _=>s.size-(intOf iv).toNat)
 case atStart=>exact ⟨0,[],Nat.zero_le _,rfl,by simp,by simp,World.ownsRow_nil _ _ _ _,Below.refl _ _⟩
 case round =>
  obtain ⟨i,ys,hi,rfl,hw,hyl,hown,hbel⟩:=hrel
  have HW:=hid hw
  have HO:=hid hown
  clear hw hown
  by_cases hlt:i<s.size
  ·by_cases hc:s[i]=32
   ·have hb:((s[i].toNat:Int)==32)=true:=by rw [hc];rfl
    have HD:=hid (Er2 s i hlt hc)
    clear hc
    go_wp2_with fail
    go_roundw
    case rel=>exact ⟨i+1,ys,by omega,by go_num,by rw [HW.out,HD.out],by omega,HO.out,hbel⟩
    case measure=>simp [intOf];omega
   ·have hb:((s[i].toNat:Int)==32)=false:=by
     rw [beq_eq_false_iff_ne];intro e;exact hc (UInt8.toNat_inj.1 (by simp;omega))
    have HC:=hid hc
    clear hc
    go_wp2_with fail
    go_loop [5] (fun kv=>∃k:Nat,i≤k∧k≤s.size∧kv=.int .i64 k∧(part s i k).all (fun c=>c != 32)=true) (fun kv=>s.size-(intOf kv).toNat)
    case atStart=>exact ⟨i,Nat.le_refl _,by omega,rfl,by simp [part]⟩
    case round =>
     obtain ⟨k,hik,hk,rfl,ha⟩:=hrel
     have HA:=hid ha
     clear ha
     by_cases hgo:∃h:k<s.size,¬s[k]=32
     ·obtain ⟨hk2,hc2⟩:=hgo
      have hb2:((s[k].toNat:Int)==32)=false:=by
       rw [beq_eq_false_iff_ne];intro e;exact hc2 (UInt8.toNat_inj.1 (by simp;omega))
      have HA2:=hid (Ek8 hik hk2 HA.out hc2)
      clear hc2
      go_wp2_with fail
      go_round
      case rel=>exact ⟨k+1,by omega,by omega,by go_num,HA2.out⟩
      case measure=>simp [intOf];omega
     ·have hend:k=s.size∨∃h:k<s.size,s[k]=32:=by
       by_cases hk2:k<s.size
       ·right;exact ⟨hk2,Classical.byContradiction fun h=>hgo ⟨hk2,h⟩⟩
       ·left;omega
      clear hgo
      have hlt2:i<k:=by
       apply Decidable.byContradiction;intro h
       have hki:k=i:=by omega
       subst hki
       rcases hend with h|⟨h,hc⟩
       ·omega
       ·exact HC.out hc
      have HP:=hid (Dc1 hlt2 hk HA.out hend)
      have hex:=Ca7 s i k
      have HG:∀hk2:k<s.size,((s[k].toNat:Int)==32)=true:=fun hk2=>by
       rcases hend with h|⟨h,hc⟩
       ·omega
       ·rw [hc];rfl
      have hsz:=hid hbel.size
      have HEX:=hid hex
      clear hend hex
      by_cases hk2:k<s.size
      all_goals
       first
        | (have hb3:=HG hk2;clear HG)
        | clear HG
       go_wp2_with (at_builtin;refine wpList_append_own _ rfl (.tmp 29) (.tmp 34) 22 rfl w.heap.size 9 i0 (.string ⟨#[]⟩) 1 16 underlying22 HI.out hz0 hz1 hz2 rfl (by decide) _ _ _ rfl (HO.alloc _) ⟨wr.heap.size,0,none⟩ 1 1 [.string (s.extract i k)] rfl rfl (Ck5 _ _ _) (Bn4 _ rfl) (by unfold maxLen;omega) (by omega) (by have:=hsz.out;simp;omega) ?_;intro v' w2 hown' hgrow _)
       have R:w2.ownsRow w.heap.size 9 1 v' (ys++[part s i k]).length ((ys++[part s i k]).map str):=by
        rw [HEX.out] at hown';simpa using hown'
       have hbel2:Below w.heap.size w w2:=(hbel.alloc hsz.out _).grown hgrow (by have:=hsz.out;simp;omega) (fun q hq=>(HO.lt q hq).1)
       exact ⟨⟨k,ys++[part s i k],hk,rfl,by rw [HW.out,HP.out];simp,by simp;omega,R,hbel2⟩,by simp [intOf];omega⟩
  ·have hie:i=s.size:=by omega
   subst hie
   have HE:=hid (show Aq s.data.toList=ys by
    have h:=HW.out
    rw [List.drop_eq_nil_of_le (by rw [Fx];omega),Xp,List.append_nil] at h;exact h)
   go_wp2_with fail
   go_ret
   exact ⟨u3,rfl,by rw [HE.out];exact Zi HO.out (by unfold maxLen;omega),hbel⟩
end
end Go.Proofs.YtaeclpjofclbeaaGreatDoor
