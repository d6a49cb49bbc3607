/- token: Number, of whatever word, by the code and by the document's own definition. -/
import Derived.Test.YtaeclpjofclbeaaDoorGCmdN
import Derived.PlainAid
import Derived.Deep.RegionWith
import Derived.Lib.ItoaLen
import Derived.Lib.ItoaMem
namespace Go.Proofs.YtaeclpjofclbeaaDoor
open Go.ChangeShapes Go.WideShapes Go.ChangeAt Go.RowKit Go.Proofs.Tryd
open Lib (hid)
set_option linter.unusedVariables false
section
theorem Bt6 (s:ByteArray) (k:Nat) (h:k<s.size):s.data.toList.take (k+1)=s.data.toList.take k++[s[k]]:=by
 rw [List.take_succ_eq_append_getElem (by simpa using h)];rfl
theorem data_get? (s:ByteArray) (k:Nat) (h:k<s.size):s.data.toList[k]?=some s[k]:=by
 rw [List.getElem?_eq_getElem (by simpa using h)];rfl
theorem Fx (s:ByteArray):s.data.toList.length=s.size:=by simp
theorem Az3 {s:ByteArray} (h:0<s.size):s.data.toList≠[]:=by
 intro e;have:=Fx s;rw [e] at this;simp at this;omega
theorem Yr {l:List UInt8} {n:Int} {b:Bool} (h1:n=numN l) (h2:b=numB l):Ending.returned (.tuple #[.int .i64 n,.bool b])=.returned (.tuple #[.int .i64 (numN l),.bool (numB l)]):=by rw [h1,h2]
theorem Ay1 {l:List UInt8} (h:numB l=false):(0:Int)=numN l:=by unfold numN;rw [h];rfl
theorem Fn8 {l:List UInt8} (h:numB l=true):((val l:Nat):Int)=numN l:=by unfold numN;rw [h];rfl
theorem El5 {l:List UInt8} {k:Nat} (h:1073741824<val (l.take k)):numB l=false:=by
 rw [Bool.eq_false_iff];intro h2;have:=((Qo l).1 h2).2.2.2;have:=Cl9 l k;omega
theorem El6 {l:List UInt8} {k:Nat} (h:dig (l.take k)=false):numB l=false:=by
 rw [Bool.eq_false_iff];intro h2;have:=Er7 ((Qo l).1 h2).2.2.1 k;rw [h] at this;cases this
theorem Ch0 {l:List UInt8} (h:Ie l=true):numB l=false:=by simp [numB,h]
theorem Fh7 (s:ByteArray) (w:World) (hs:s.size=0) :
 Calls prog 68 #[.string s] w fun e w'=>e=.returned (.tuple #[.int .i64 (numN s.data.toList),.bool (numB s.data.toList)])∧w=w':=by
 obtain rfl:s=⟨#[]⟩:=by apply ByteArray.ext;exact Array.eq_empty_of_size_eq_zero hs
 go_enter func68,ntmps68
 go_wp2_with fail
 go_ret2
 exact ⟨rfl,rfl⟩
theorem El4 (s:ByteArray) (w:World) (hs:s.size≤9223372036854775807) (h0:0<s.size) (hz:Ie s.data.toList=false) :
 Calls prog 68 #[.string s] w fun e w'=>e=.returned (.tuple #[.int .i64 (numN s.data.toList),.bool (numB s.data.toList)])∧w=w':=by
 have he:s.toList.isEmpty=false:=by rw [ByteArray.toList_eq];simpa using Az3 h0
 have hz2:1<s.size→(((s[0]'h0).toNat:Int)==48)=false:=by
  intro h;rw [beq_eq_false_iff_ne];intro e
  have e2:s[0]=48:=UInt8.toNat_inj.1 (by simp;omega)
  rw [(Fv _).2 ⟨by rw [Fx];exact h,by rw [data_get? s 0 h0,e2]⟩] at hz;cases hz
 have hd1:dig (s.data.toList.take 0)=true:=by simp [dig]
 have HZ:=hid hz
 have HD:=hid hd1
 clear hz hd1
 have hne:=hid (Az3 h0)
 by_cases h1:1<s.size
 all_goals
  first|(have hb:=hz2 h1;clear hz2)|clear hz2
  go_enter func68,ntmps68
  go_wp2_with fail
  go_loop [4,21] (fun n i=>∃k:Nat,k≤s.size∧i=.int .i64 k∧n=.int .i64 (val (s.data.toList.take k):Nat)∧dig (s.data.toList.take k)=true∧val (s.data.toList.take k)≤1073741824) (fun _ i=>s.size-(intOf i).toNat)
  case atStart=>exact ⟨0,Nat.zero_le _,rfl,rfl,HD.out,by simp [val]⟩
  case round =>
   obtain ⟨k,hk,rfl,rfl,hd,hv⟩:=hrel
   have HDk:=hid hd
   clear hd
   by_cases hlt:k<s.size
   ·have hts:=hid (Bt6 s k hlt)
    by_cases hc:48≤s[k].toNat∧s[k].toNat≤57
    ·obtain ⟨hc1,hc2⟩:=hc
     have hvs:val (s.data.toList.take (k+1))=10*val (s.data.toList.take k)+(s[k].toNat-48):=by rw [hts.out,Qk]
     have hds:=hid (show dig (s.data.toList.take (k+1))=true by rw [hts.out,Qs,HDk.out,(Oj _).2 ⟨hc1,hc2⟩];rfl)
     have HVS:=hid hvs
     clear hvs
     generalize hvv:val (s.data.toList.take k)=v at *
     have HV:=hid hvv
     clear hvv
     by_cases ho:10*v+(s[k].toNat-48)≤1073741824
     ·go_wp2_with fail
      go_round
      case rel=>exact ⟨k+1,by omega,by go_num,by rw [HVS.out];go_num,hds.out,by rw [HVS.out];exact ho⟩
      case measure=>simp [intOf];omega
     ·have hno:=hid (El5 (l:=s.data.toList) (k:=k+1) (by rw [HVS.out];omega))
      go_wp2_with fail
      go_ret2
      exact ⟨Yr (Ay1 hno.out) hno.symm,rfl⟩
    ·have hno:=hid (El6 (l:=s.data.toList) (k:=k+1) (by rw [hts.out,Qs,HDk.out,Bool.true_and,Bool.eq_false_iff];intro e;exact hc ((Oj _).1 e)))
     by_cases hc3:s[k].toNat<48
     ·clear hc
      go_wp2_with fail
      go_ret2
      exact ⟨Yr (Ay1 hno.out) hno.symm,rfl⟩
     ·have hc4:57<s[k].toNat:=by omega
      clear hc
      go_wp2_with fail
      go_ret2
      exact ⟨Yr (Ay1 hno.out) hno.symm,rfl⟩
   ·have hke:k=s.size:=by omega
    subst hke
    have hall:s.data.toList.take s.size=s.data.toList:=List.take_of_length_le (by rw [Fx];omega)
    have hyes:=hid (show numB s.data.toList=true from (Qo _).2 ⟨hne.out,HZ.out,by rw [←hall];exact HDk.out,by rw [←hall];exact hv⟩)
    have HA:=hid hall
    clear hall
    go_wp2_with fail
    go_ret2
    exact ⟨Yr (by rw [HA.out];exact Fn8 hyes.out) hyes.symm,rfl⟩
theorem Mw (s:ByteArray) (w:World) (hs:s.size≤9223372036854775807) :
 Calls prog 68 #[.string s] w fun e w'=>e=.returned (.tuple #[.int .i64 (numN s.data.toList),.bool (numB s.data.toList)])∧w=w':=by
 by_cases h0:0<s.size
 ·by_cases hz:Ie s.data.toList=true
  ·have hno:=hid (Ch0 hz)
   have he:s.toList.isEmpty=false:=by rw [ByteArray.toList_eq];simpa using Az3 h0
   obtain ⟨h1,h2⟩:=(Fv _).1 hz
   rw [Fx] at h1
   have hb:(((s[0]'h0).toNat:Int)==48)=true:=by
    rw [data_get? s 0 h0] at h2;injection h2 with h2;rw [h2];rfl
   clear hz h2
   go_enter func68,ntmps68
   go_wp2_with fail
   go_ret2
   exact ⟨Yr (Ay1 hno.out) hno.symm,rfl⟩
  ·exact El4 s w hs h0 (by simpa using hz)
 ·exact Fh7 s w (by omega)
end
section
end
section
end
section
def dgt (n:Nat):UInt8:=UInt8.ofNat (48+n)
theorem Fs1 {n:Nat} (h:n<10):(48+(n:Int))=(dgt n).toNat:=by unfold dgt;simp;omega
theorem Cq4 (W:World) (b:UInt8) (x:Int) (hx:x=b.toNat) :
 (convert 112 9 (.slice (some ⟨W.heap.size,0,none⟩) 1 1)).run prog (W.alloc (.cells #[.int .u8 x] 5))=.ok (.string ⟨#[b]⟩) (W.alloc (.cells #[.int .u8 x] 5)):=by
 subst hx
 exact run_convert_bytes_back (P:=prog) (W.alloc (.cells #[.int .u8 (b.toNat:Int)] 5)) 112 9 5 ⟨W.heap.size,0,none⟩ 1 [b] underlying112 underlying5 underlying9 (fun j hj=>by
  have:j=0:=by simp at hj;omega
  subst this
  simp [Addr.add])
theorem Es0 {w w1:World} {b:UInt8} {x:Int} (b1:Below (w.alloc (.cells #[.int .u8 x] 5)).drew.heap.size (w.alloc (.cells #[.int .u8 x] 5)).drew w1) (hx:x=b.toNat) :
 (convert 112 9 (.slice (some ⟨w.heap.size,0,none⟩) 1 1)).run prog w1=.ok (.string ⟨#[b]⟩) w1:=by
 subst hx
 exact run_convert_bytes_back (P:=prog) w1 112 9 5 ⟨w.heap.size,0,none⟩ 1 [b] underlying112 underlying5 underlying9 (fun j hj=>by
  have:j=0:=by simp at hj;omega
  subst this
  rw [show (Addr.add ⟨w.heap.size,0,none⟩ 0)=⟨w.heap.size,0,none⟩ by simp [Addr.add],b1.cell (p:=⟨w.heap.size,0,none⟩) (by simp)]
  simp)
theorem Cw4 (w:World) (b:UInt8) (x:Int) (hx:x=b.toNat) :
 (convert 112 9 (.slice (some ⟨w.heap.size,0,none⟩) 1 1)).run prog (w.alloc (.cells #[.int .u8 x] 5)).drew=.ok (.string ⟨#[b]⟩) (w.alloc (.cells #[.int .u8 x] 5)).drew :=
 Es0 (Below.refl _ _) hx
theorem Hf5 {w w1:World} {o:Obj} (b1:Below w.drew.heap.size w.drew w1):Below w.heap.size w (w1.alloc o):=by
 have b2:Below w.heap.size w w1:=⟨b1.os,b1.tape,b1.output,b1.size,b1.block⟩
 exact b2.alloc b2.size o
theorem Hf4 {w w1:World} {o:Obj} (b1:Below (w.alloc o).drew.heap.size (w.alloc o).drew w1):Below w.heap.size w w1:=by
 have b2:Below (w.alloc o).heap.size (w.alloc o) w1:=⟨b1.os,b1.tape,b1.output,b1.size,b1.block⟩
 exact ((Below.refl w.heap.size w).alloc lr0 o).trans (b2.mono (by simp))
end
section
theorem Ab3:(prog.info? 9).map (fun i=>(i.zero,i.size,i.bytes))=some (some (.string ⟨#[]⟩),1,16):=by kernel_rfl
theorem Zi {w:World} {base:Nat} {v:Value} {xs:List (List UInt8)} (h:w.ownsRow base 9 1 v xs.length (xs.map str)) (hm:xs.length≤maxLen):Strs w v xs:=by
 obtain ⟨_,h⟩:=h
 rcases h with ⟨rfl,h0⟩|⟨g,cap2,cur,rfl,hg,hh,hn,hc2,hsz,htk⟩
 ·have:xs=[]:=List.eq_nil_of_length_eq_zero h0
  subst this;exact ⟨none,0,rfl,by simp,.inl rfl⟩
 ·refine ⟨_,_,rfl,hm,.inr ⟨g,0,rfl,?_,fun i hi=>?_⟩⟩
  ·exact (Array.getElem?_eq_some_iff.1 hh).1
  ·have e1:cur.toList[i]?=some (str xs[i]):=by
    have e2:(cur.toList.take (xs.length*1))[i]?=(xs.map str)[i]?:=by rw [htk]
    rw [List.getElem?_take] at e2
    simpa [hi] using e2
   simp [World.cell?,hh,Array.getElem?_toList] at e1 ⊢
   exact e1
theorem Dy9 {w:World} {base:Nat} {v:Value} {xs:List (List UInt8)} (h:w.ownsRow base 9 1 v xs.length (xs.map str)) (hm:xs.length≤maxLen):Ja w v xs:=by
 refine ⟨Zi h hm,?_⟩
 rcases h.2 with ⟨rfl,h0⟩|⟨g,c,cur,rfl,_,_,hc,_⟩
 ·exact ⟨none,0,by rw [h0],by omega⟩
 ·exact ⟨_,c,rfl,hc⟩
theorem Ck5 (w:World) (x:Value) (T:TypeId) (j:Nat) (u:Value) (h:[x][j]?=some u):(w.alloc (.cells #[x] T)).cell? ((⟨w.heap.size,0,none⟩:Addr).add j)=some u:=by
 match j,h with
 | 0,h=>simp at h;subst h;simp [Addr.add]
theorem Bn4 (x:Value) (hx:x.oneCell'=true):∀u∈[x],u.oneCell'=true:=by intro u hu;simp at hu;rw [hu];exact hx
theorem Er9 (l:List UInt8):(cuts l).length≤l.length+1:=by
 induction l with
 | nil=>simp [cuts]
 | cons c l ih =>
   rw [Uf]
   split
   ·simp;omega
   ·cases hq:cuts l with
    | nil=>simp [onto]
    | cons h t=>rw [hq] at ih;simp [onto] at ih ⊢;omega
theorem Xq (l:List UInt8):(Aq l).length≤l.length+1:=Nat.le_trans (List.length_filter_le _ _) (Er9 l)
theorem Er2 (s:ByteArray) (i:Nat) (h:i<s.size) (hc:s[i]=32):Aq (s.data.toList.drop i)=Aq (s.data.toList.drop (i+1)):=by
 have:s.data.toList.drop i=32 :: s.data.toList.drop (i+1):=by
  rw [List.drop_eq_getElem_cons (by rw [Fx];exact h)]
  have:s.data.toList[i]'(by rw [Fx];exact h)=s[i]:=rfl
  rw [this,hc]
 rw [this,Zp]
def part (s:ByteArray) (i k:Nat):List UInt8:=(s.data.toList.drop i).take (k-i)
theorem Gb1 (s:ByteArray) (i k:Nat) (hik:i≤k) (h:k<s.size):part s i (k+1)=part s i k++[s[k]]:=by
 unfold part
 rw [show k+1-i=(k-i)+1 by omega,List.take_succ_eq_append_getElem (by rw [List.length_drop,Fx];omega)]
 congr 1
 simp only [List.getElem_drop]
 have:i+(k-i)=k:=by omega
 simp only [this];rfl
theorem Ek8 {s:ByteArray} {i k:Nat} (hik:i≤k) (h:k<s.size) (ha:(part s i k).all (fun c=>c != 32)=true) (hc:¬s[k]=32):(part s i (k+1)).all (fun c=>c != 32)=true:=by
 rw [Gb1 s i k hik h,List.all_append,ha];simpa using hc
theorem Ca7 (s:ByteArray) (i k:Nat):Value.string (s.extract i k)=str (part s i k):=by
 unfold str part
 have:=ByteArray.extract_mk s.data.toList i k
 rw [show (ByteArray.mk s.data.toList.toArray)=s by simp] at this
 rw [this]
theorem Dc1 {s:ByteArray} {i k:Nat} (hik:i<k) (hk:k≤s.size) (ha:(part s i k).all (fun c=>c != 32)=true) (hend:k=s.size∨∃h:k<s.size,s[k]=32) :
 Aq (s.data.toList.drop i)=part s i k :: Aq (s.data.toList.drop k):=by
 have e:s.data.toList.drop i=part s i k++s.data.toList.drop k:=by
  unfold part
  have:=List.take_append_drop (k-i) (s.data.toList.drop i)
  rw [List.drop_drop,show i+(k-i)=k by omega] at this
  exact this.symm
 rw [e,Uz]
 ·simp only [plain,ha,Bool.and_true,Bool.not_eq_true',List.isEmpty_eq_false_iff]
  intro e2
  have:=congrArg List.length e2
  unfold part at this
  rw [List.length_take,List.length_drop,Fx,List.length_nil] at this
  omega
 ·rcases hend with rfl|⟨h,hc⟩
  ·left;exact List.drop_eq_nil_of_le (by rw [Fx];omega)
  ·right
   rw [List.getElem?_drop,Nat.add_zero,data_get? s k h,hc]
end
end Go.Proofs.YtaeclpjofclbeaaDoor
