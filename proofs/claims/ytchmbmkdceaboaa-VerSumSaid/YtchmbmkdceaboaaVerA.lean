/- ver: Odd, Up, Read, Calm, and the document's own Up, Calm, May. -/
import Derived.Test.YtchmbmkdceaboaaMutexR
import Derived.Test.YtchmbmkdceaboaaVerMath
import Derived.Laws.CopyOwn
import Derived.Deep.DeepCutAuto
namespace Go.Proofs.Ytchmbmkdceaboaa
open Go.ChangeShapes Go.WideShapes Go.ChangeAt Go.RowKit Go.Proofs.Try
open Lib (hid)
set_option linter.unusedVariables false
set_option maxRecDepth 100000
open Go.RowKit Go
def Vers (l:List Int):Prop:=l.length≤100∧∀x∈l,0≤x∧x≤4611686018427387904
def readV (l:List Int) (p:Int):Int:=if mplB l.length p then Dt6 l p else 0
theorem vread_any (a:Option Addr) (cap:Nat) (l:List Int) (p:Int) (w:World) (h:Ae w a l):Calls prog 11 #[.slice a l.length cap,.int .i64 p] w fun e w'=>e=.returned (.tuple #[.int .i64 (readV l p),.bool (mplB l.length p)])∧w=w':=by
 have hm:=h.len
 cases hp:mplB l.length p
 ·have HR:=hid (show readV l p=0 by simp [readV,hp])
  by_cases hn:p<0
  ·clear h hp
   go_enter func11,ntmps11
   go_wp2_with fail
   go_ret2
   rw [HR.out]
   exact ⟨rfl,rfl⟩
  ·have hn2:(l.length:Int)≤p:=by simp [mplB] at hp;omega
   clear h hp
   go_enter func11,ntmps11
   go_wp2_with fail
   go_ret2
   rw [HR.out]
   exact ⟨rfl,rfl⟩
 ·obtain ⟨k,rfl,hk⟩:=Ea9 hp
  obtain ⟨b,o,rfl,hb,hc⟩:=h.at_ hk
  have hck:=hc k hk
  have HR:=hid (show readV l (k:Int)=l[k] by simp [readV,hp,Ju hk])
  clear h hp hc
  generalize l[k]=x at *
  go_enter func11,ntmps11
  go_wp2_with fail
  go_ret2
  rw [HR.out]
  exact ⟨rfl,rfl⟩
theorem vodd_any (v:Int) (w:World) (h:0≤v):Calls prog 13 #[.int .i64 v] w fun e w'=>e=.returned (.bool (decide (v%2=1)))∧w=w':=by
 by_cases h2:v%2=1
 ·rw [decide_eq_true h2]
  have q0:(v%2 != 0)=true:=by rw [h2];rfl
  go_enter func13,ntmps13
  go_wp2_with fail
  go_ret
  exact ⟨rfl,rfl⟩
 ·rw [decide_eq_false h2]
  have q0:(v%2 != 0)=false:=by rw [show v%2=0 by omega];rfl
  go_enter func13,ntmps13
  go_wp2_with fail
  go_ret
  exact ⟨rfl,rfl⟩
def calmB (a b:Int):Bool:=decide (a=b)&&decide (b%2=0)
theorem vcalm_any (x y:Int) (w:World) (h:0≤y):Calls prog 14 #[.int .i64 x,.int .i64 y] w fun e w'=>e=.returned (.bool (calmB x y))∧w=w':=by
 by_cases he:x=y
 ·by_cases h2:y%2=1
  ·have HR:=hid (show calmB x y=false by simp [calmB,h2])
   have HO:=hid h2
   have q0:(x==y)=true:=by simpa using he
   have HH:=hid h
   clear he h2 h
   go_enter func14,ntmps14
   go_wp2_with fail
   refine (vodd_any _ _ HH.out).mono ?_
   rintro e w' ⟨rfl,rfl⟩
   rw [decide_eq_true HO.out]
   go_wp2_with fail
   go_ret
   exact ⟨Ag HR.out.symm,rfl⟩
  ·have HR:=hid (show calmB x y=true by simp [calmB,he];omega)
   have HO:=hid h2
   have q0:(x==y)=true:=by simpa using he
   have HH:=hid h
   clear he h2 h
   go_enter func14,ntmps14
   go_wp2_with fail
   refine (vodd_any _ _ HH.out).mono ?_
   rintro e w' ⟨rfl,rfl⟩
   rw [decide_eq_false HO.out]
   go_wp2_with fail
   go_ret
   exact ⟨Ag HR.out.symm,rfl⟩
 ·have HR:=hid (show calmB x y=false by simp [calmB,he])
  have q0:(x==y)=false:=by simpa using he
  clear he h
  go_enter func14,ntmps14
  go_wp2_with fail
  go_ret
  exact ⟨Ag HR.out.symm,rfl⟩
theorem refcalm_any (x y:Int) (w:World) (h:0≤x):Calls prog 15 #[.int .i64 x,.int .i64 y] w fun e w'=>e=.returned (.bool (calmB x y))∧w=w':=by
 by_cases he:x=y
 ·have q0:(x==y)=true:=by simpa using he
  by_cases h2:x%2=0
  ·have HR:=hid (show calmB x y=true by subst he;simp [calmB,h2])
   have q1:(x%2==0)=true:=by rw [h2];rfl
   clear he h2
   go_enter func15,ntmps15
   go_wp2_with fail
   go_ret
   exact ⟨Ag HR.out.symm,rfl⟩
  ·have HR:=hid (show calmB x y=false by subst he;simp [calmB,h2])
   have q1:(x%2==0)=false:=by rw [show x%2=1 by omega];rfl
   clear he h2
   go_enter func15,ntmps15
   go_wp2_with fail
   go_ret
   exact ⟨Ag HR.out.symm,rfl⟩
 ·have HR:=hid (show calmB x y=false by simp [calmB,he])
  have q0:(x==y)=false:=by simpa using he
  clear he h
  go_enter func15,ntmps15
  go_wp2_with fail
  go_ret
  exact ⟨Ag HR.out.symm,rfl⟩
theorem inV_at (W:World) {b o:Nat} {l:List Int} (hc:∀i (hi:i<l.length),W.cell? ⟨b,o+i,none⟩=some (.int .i64 l[i])):∀j u,(inV l)[j]?=some u→W.cell? ((⟨b,o,none⟩:Addr).add j)=some u:=Hg9 hc
theorem blk_lk {W:World} {g:Nat} {l:List Int} (h:Blk W g 3 (inV l).toArray) (hl:l.length≤100):LkAt W (some ⟨g,0,none⟩) l.length l:=by
 refine ⟨⟨by unfold maxLen;omega,.inr ⟨g,0,rfl,h.lt,fun i hi=>?_⟩⟩,Nat.le_refl _,by unfold maxLen;omega⟩
 rw [Nat.zero_add,h.cell]
 simp [inV,hi]
theorem int_one1:(prog.info? 3).map (·.size)=some 1:=by kernel_rfl
theorem copy_all {W w:World} {g n B:Nat} (hz:Blk W g 3 (zc n)) (hb:Below B w W) (hB:B≤g) {a:Addr} (cap:Nat) {l:List Int} (hc:∀j u,(inV l)[j]?=some u→W.cell? (a.add j)=some u) (hn:l.length=n:=by rfl) :
 ∃W2,(Builtin.copy_ #[22,22] 3 #[.slice (some ⟨g,0,none⟩) n n,.slice (some a) n cap]).run prog W=.ok (goInt n) W2∧Blk W2 g 3 (inV l).toArray∧Below B w W2:=by
 have hr:=run_copy_row (P:=prog) W 22 22 3 3 g 0 n n a n cap (zc n) 3 (inV l) underlying22 int_one1 hz (by rw [inV_len,hn];exact (Nat.min_self _).symm) hc (by simp [inV_len,zc,hn]) (Hm3 l)
 rw [inV_len,hn] at hr
 have e:((zc n).toList.take 0++inV l++(zc n).toList.drop (0+n))=inV l:=by simp [zc]
 rw [e] at hr
 exact ⟨_,hr,setRow_heap W g _ _ _ _ hz,below_setRow hb hB _⟩
theorem inV_put (l:List Int) (k:Nat) (x:Int):(inV l).toArray.setIfInBounds k (.int .i64 x)=(inV (l.set k x)).toArray:=by
 simp [inV,List.map_set]
theorem vup_own (a:Option Addr) (cap:Nat) (l:List Int) (k:Nat) (w:World) (h:LkAt w a cap l) (hl:Vers l) (hk:k<l.length):Calls prog 9 #[.slice a l.length cap,.int .i64 (k:Int)] w fun e w'=>∃g,e=.returned (.tuple #[.slice (some ⟨g,0,none⟩) l.length l.length,.bool true])∧Blk w' g 3 (inV (upV l (k:Int))).toArray∧w.heap.size≤g∧Below w.heap.size w w':=by
 have HI:=hid h.1
 have HL:=hid h
 have hm:=h.1.len
 have hp:=Al6 hk
 obtain ⟨x,hxk⟩:∃x,l[k]=x:=⟨_,rfl⟩
 have HT:=hid (show upV l (k:Int)=l.set k (x+1) by simp [upV,hp,Ju hk,hxk])
 have HR:=hid (show readV l (k:Int)=x by simp [readV,hp,Ju hk,hxk])
 have hx:=hl.2 l[k] (List.getElem_mem hk)
 rw [hxk] at hx
 have hw:IntKind.i64.wrap (x+1)=x+1:=IntWalk.i64_in _ (by omega)
 have HN:=hid hl.1
 have HP:=hid hp
 have HKL:=hid hk
 have hmk:=fun W=>Xy l.length (by have:=hl.1;omega) W
 replace hxk:=hid hxk
 clear h hl hp hx
 go_enter func9,ntmps9
 go_wp2_with fail
 refine (vread_any _ _ _ _ _ HI.out).mono ?_
 rintro e u1 ⟨rfl,rfl⟩
 rw [HP.out,HR.out]
 go_upto_region 5 with fail
 have HZ:=hid (Blk.new w 3 (zc l.length))
 have HB:=hid ((Below.refl w.heap.size w).alloc (Nat.le_refl _) (.cells (zc l.length) 3))
 have HI1:=hid (HI.out.below HB.out (Nat.le_refl _))
 clear hmk
 generalize w.alloc (.cells (zc l.length) 3)=W1 at *
 obtain ⟨b,o,rfl,hbb,hc⟩:=HI1.out.at_ hk
 have HC:=hid (Hg9 hc)
 clear hbb hc
 obtain ⟨W2,hcp,hg2,hb2⟩:=copy_all HZ.out HB.out (Nat.le_refl _) (a:=⟨b,o,none⟩) cap HC.out
 have HG2:=hid hg2
 have HB2:=hid hb2
 have hgl:=hg2.lt
 have f0:=hg2.frozen
 have hcx:W2.cell? ⟨w.heap.size,k,none⟩=some (.int .i64 x):=by rw [hg2.cell];simp [inV,hk,hxk.out]
 clear hg2 hb2 HZ HB HI1 HC
 go_wp2_with fail
 go_ret2
 rw [HT.out]
 have HG3:=HG2.out.set_ k (.int .i64 (x+1))
 rw [inV_put] at HG3
 exact ⟨w.heap.size,rfl,HG3,Nat.le_refl _,HB2.out.setCell (Nat.le_refl _) _⟩
theorem vup_any (a:Option Addr) (cap:Nat) (l:List Int) (p:Int) (w:World) (h:LkAt w a cap l) (hl:Vers l):Calls prog 9 #[.slice a l.length cap,.int .i64 p] w fun e w'=>Dx5 a cap (upV l p) (mplB l.length p) w e w':=by
 have HI:=hid h.1
 have HL:=hid h
 have hm:=h.1.len
 cases hp:mplB l.length p
 ·have HT:=hid (show upV l p=l by simp [upV,hp])
  have HP:=hid hp
  clear h hl hp
  go_enter func9,ntmps9
  go_wp2_with fail
  refine (vread_any _ _ _ _ _ HI.out).mono ?_
  rintro e w' ⟨rfl,rfl⟩
  rw [HP.out]
  go_wp2_with fail
  go_ret2
  rw [HT.out]
  exact ⟨a,cap,rfl,HL.out,.inl ⟨rfl,rfl,rfl⟩,Below.refl _ _⟩
 ·obtain ⟨k,rfl,hk⟩:=Ea9 hp
  refine (vup_own a cap l k w h hl hk).mono ?_
  rintro e w' ⟨g,rfl,hg,hn,hb⟩
  have h4:=blk_lk hg (by rw [Ha2];exact hl.1)
  rw [Ha2] at h4
  exact ⟨some ⟨g,0,none⟩,l.length,by rw [Ha2],h4,.inr (fun q hq=>by cases hq;exact hn),hb⟩
theorem refup_any (a:Option Addr) (cap:Nat) (l:List Int) (p:Int) (w:World) (h:LkAt w a cap l) (hl:Vers l):Calls prog 10 #[.slice a l.length cap,.int .i64 p] w fun e w'=>Dx5 a cap (upV l p) (mplB l.length p) w e w':=by
 have HI:=hid h.1
 have HL:=hid h
 have hm:=h.1.len
 cases hp:mplB l.length p
 ·have HT:=hid (show upV l p=l by simp [upV,hp])
  by_cases hn:p<0
  ·clear h hl hp
   go_enter func10,ntmps10
   go_wp2_with fail
   go_ret2
   rw [HT.out]
   exact ⟨a,cap,rfl,HL.out,.inl ⟨rfl,rfl,rfl⟩,Below.refl _ _⟩
  ·have hn2:(l.length:Int)≤p:=by simp [mplB] at hp;omega
   clear h hl hp
   go_enter func10,ntmps10
   go_wp2_with fail
   go_ret2
   rw [HT.out]
   exact ⟨a,cap,rfl,HL.out,.inl ⟨rfl,rfl,rfl⟩,Below.refl _ _⟩
 ·obtain ⟨k,rfl,hk⟩:=Ea9 hp
  obtain ⟨b,o,rfl,hb,hc⟩:=h.1.at_ hk
  have hck:=hc k hk
  obtain ⟨x,hxk⟩:∃x,l[k]=x:=⟨_,rfl⟩
  have HT:=hid (show upV l (k:Int)=l.set k (x+1) by simp [upV,hp,Ju hk,hxk])
  have hx:=hl.2 l[k] (List.getElem_mem hk)
  rw [hxk] at hck hx
  have hw:IntKind.i64.wrap (x+1)=x+1:=IntWalk.i64_in _ (by omega)
  have HN:=hid hl.1
  have HKL:=hid hk
  clear h hl hp hx hc hxk
  go_enter func10,ntmps10
  go_wp2_with fail
  refine (Gn9 _ cap l k (x+1) _ HI.out HN.out HKL.out).mono ?_
  rintro e u1 ⟨g,gc,rfl,hg,hn,-,b1⟩
  have HG:=hid hg
  have HN2:=hid hn
  have B1:=hid b1
  clear hg hn b1
  go_wp2_with fail
  go_ret2
  rw [HT.out]
  exact ⟨g,gc,by rw [List.length_set];rfl,HG.out,.inr HN2.out,B1.out⟩
def mayV (l:List Int):Bool:=l.all (fun x=>decide (0≤x∧x≤1099511627776))&&decide (l.length≤100)
theorem refmay17_any (a:Option Addr) (cap:Nat) (l:List Int) (w:World) (h:Ae w a l):Calls prog 8 #[.slice a l.length cap] w fun e w'=>e=.returned (.bool (mayV l))∧Below w.heap.size w w':=by
 have HI:=hid h
 have hm:=h.len
 clear h
 go_enter func8,ntmps8
 go_wp2_with fail
 go_loopw [3] (fun i wr=>∃k:Nat,k≤l.length∧i=.int .i64 k∧(l.take k).all (fun x=>decide (0≤x∧x≤1099511627776))=true∧Below w.heap.size w wr) (fun i _=>l.length-(intOf i).toNat)
 case atStart=>exact ⟨0,Nat.zero_le _,rfl,by simp,Below.refl _ _⟩
 case round =>
  obtain ⟨k,hk,rfl,hg,hb⟩:=hrel
  have HG:=hid hg
  have HB:=hid hb
  clear hg hb
  by_cases hlt:k<l.length
  ·have HM:=hid (take_more hlt (fun x=>decide (0≤x∧x≤1099511627776)))
   obtain ⟨b,o,rfl,hbb,hc⟩:=HI.out.at_ hlt
   have hck:=(HB.out.cell (p:=⟨b,o+k,none⟩) hbb).trans (hc k hlt)
   have HX:=hid (List.getElem_mem hlt)
   clear hc
   generalize l[k]=x at *
   have hw:IntKind.i64.wrap ((k:Int)+1)=(k:Int)+1:=IntWalk.i64_in _ (by omega)
   have HBAD:=hid (show ¬(0≤x∧x≤1099511627776)→mayV l=false from fun hn=>by
    have:l.all (fun x=>decide (0≤x∧x≤1099511627776))=false:=by rw [List.all_eq_false];exact ⟨x,HX.out,by simpa using hn⟩
    simp only [mayV,this,Bool.false_and])
   by_cases hx:x<0
   ·have HR:=hid (HBAD.out (by omega))
    clear HG HM HX HBAD
    go_wp2_with fail
    go_ret
    exact ⟨Ag HR.out.symm,HB.out⟩
   ·by_cases hx2:1099511627776<x
    ·have HR:=hid (HBAD.out (by omega))
     clear HG HM HX HBAD
     go_wp2_with fail
     go_ret
     exact ⟨Ag HR.out.symm,HB.out⟩
    ·have HM2:=hid (show (l.take (k+1)).all (fun x=>decide (0≤x∧x≤1099511627776))=true by rw [HM.out,HG.out];simp;omega)
     clear HG HM HX HBAD
     go_wp2_with fail
     go_roundw
     case rel=>exact ⟨k+1,by omega,by go_num,HM2.out,HB.out⟩
     case measure=>simp [intOf];omega
  ·have hke:k=l.length:=by omega
   subst hke
   have HR:=hid (show mayV l=decide ((l.length:Int)≤100) by
    have:=HG.out
    rw [List.take_length] at this
    rw [mayV,this,Bool.true_and];simp;omega)
   clear HG HI
   go_wp2_with fail
   go_ret
   exact ⟨Ag HR.out.symm,HB.out⟩
theorem mayV_len {l:List Int} (h:mayV l=true):l.length≤100:=by simp [mayV] at h;exact h.2
theorem mayV_vers {l:List Int} (h:mayV l=true):Vers l:=by
 simp [mayV] at h
 exact ⟨h.2,fun x hx=>⟨(h.1 x hx).1,by have:=(h.1 x hx).2;omega⟩⟩
theorem upsV_vers {l:List Int} (h:mayV l=true) (us:List Int) (hu:us.length≤1000000):Vers (upsV l us):=by
 have h0:=h
 simp [mayV] at h
 refine ⟨by rw [Fk8];exact h.2,fun x hx=>?_⟩
 obtain ⟨k,hk,rfl⟩:=List.getElem_of_mem hx
 have hk2:k<l.length:=by rwa [Fk8] at hk
 have h1:=upsV_grows us l k hk2
 have h2:=h.1 l[k] (List.getElem_mem hk2)
 simp only [List.getD_eq_getElem?_getD,List.getElem?_eq_getElem hk,List.getElem?_eq_getElem hk2,Option.getD_some] at h1
 omega
theorem upV_vers {l:List Int} (h:mayV l=true) (p:Int):Vers (upV l p):=upsV_vers h [p] (by simp)
end Go.Proofs.Ytchmbmkdceaboaa
