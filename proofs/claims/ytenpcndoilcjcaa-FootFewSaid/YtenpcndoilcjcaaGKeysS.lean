/- slices.SortFunc, laid at this translation by name: the structure that its contracts ask. -/
import Derived.Shelf.SlSortCmp.NoneTotal
import Derived.Test.YtenpcndoilcjcaaGKeysC
namespace Go.Proofs
open Go.Shelf Go.RowKit
def Try.sortLaid_ren:Go.Shelf.Ren:=⟨fun|6=>59|14=>66|15=>67|20=>73|21=>74|22=>75|23=>76|24=>77|25=>78|26=>79|27=>80|28=>81|29=>82|46=>85|47=>86|48=>87|49=>88|50=>89|57=>91|n=>n,fun|0=>0|3=>3|4=>4|5=>5|9=>9|22=>32|24=>47|25=>85|39=>97|45=>101|46=>102|50=>65|53=>108|55=>110|66=>114|70=>118|76=>121|77=>122|n=>n,fun n=>n⟩
theorem Try.sortLaid:Go.Proofs.SlLaysF0.n6 Try.prog Try.sortLaid_ren:={
 mixed:=by kernel_rfl
 f6:=⟨Try.f59.name,by kernel_rfl,Try.func59.trans (congrArg some (by kernel_rfl))⟩
 f14:=⟨Try.f66.name,by kernel_rfl,Try.func66.trans (congrArg some (by kernel_rfl))⟩
 f15:=Try.func67.trans (congrArg some (by kernel_rfl))
 f20:=⟨Try.f73.name,by kernel_rfl,Try.func73.trans (congrArg some (by kernel_rfl))⟩
 f21:=⟨Try.f74.name,by kernel_rfl,Try.func74.trans (congrArg some (by kernel_rfl))⟩
 f22:=⟨Try.f75.name,by kernel_rfl,Try.func75.trans (congrArg some (by kernel_rfl))⟩
 f23:=⟨Try.f76.name,by kernel_rfl,Try.func76.trans (congrArg some (by kernel_rfl))⟩
 f24:=⟨Try.f77.name,by kernel_rfl,Try.func77.trans (congrArg some (by kernel_rfl))⟩
 f25:=⟨Try.f78.name,by kernel_rfl,Try.func78.trans (congrArg some (by kernel_rfl))⟩
 f26:=⟨Try.f79.name,by kernel_rfl,Try.func79.trans (congrArg some (by kernel_rfl))⟩
 f27:=⟨Try.f80.name,by kernel_rfl,Try.func80.trans (congrArg some (by kernel_rfl))⟩
 f28:=Try.func81.trans (congrArg some (by kernel_rfl))
 f29:=Try.func82.trans (congrArg some (by kernel_rfl))
 f46:=⟨Try.f85.name,by kernel_rfl,Try.func85.trans (congrArg some (by kernel_rfl))⟩
 f47:=Try.func86.trans (congrArg some (by kernel_rfl))
 f48:=Try.func87.trans (congrArg some (by kernel_rfl))
 f49:=⟨Try.f88.name,by kernel_rfl,Try.func88.trans (congrArg some (by kernel_rfl))⟩
 f50:=⟨Try.f89.name,by kernel_rfl,Try.func89.trans (congrArg some (by kernel_rfl))⟩
 f57:=⟨Try.f91.name,by kernel_rfl,Try.func91.trans (congrArg some (by kernel_rfl))⟩
 t0:=Try.underlying0
 a0:=Try.isAgg0
 z0:=Try.sizeOf0
 v0:=Try.zeroValue0
 t3:=Try.underlying3
 a3:=Try.isAgg3
 z3:=Try.sizeOf3
 v3:=Try.zeroValue3
 t4:=Try.underlying4
 a4:=Try.isAgg4
 z4:=Try.sizeOf4
 v4:=Try.zeroValue4
 t5:=Try.underlying5
 a5:=Try.isAgg5
 z5:=Try.sizeOf5
 v5:=Try.zeroValue5
 t9:=Try.underlying9
 a9:=Try.isAgg9
 z9:=Try.sizeOf9
 v9:=Try.zeroValue9
 t22:=Try.underlying32
 a22:=Try.isAgg32
 z22:=Try.sizeOf32
 v22:=Try.zeroValue32
 t25:=Try.underlying85
 a25:=Try.isAgg85
 z25:=Try.sizeOf85
 v25:=Try.zeroValue85
 t39:=Try.underlying97
 a39:=Try.isAgg97
 z39:=Try.sizeOf97
 v39:=Try.zeroValue97
 t45:=Try.underlying101
 a45:=Try.isAgg101
 z45:=Try.sizeOf101
 v45:=Try.zeroValue101
 t46:=Try.underlying102
 a46:=Try.isAgg102
 z46:=Try.sizeOf102
 v46:=Try.zeroValue102
 t50:=Try.underlying65
 a50:=Try.isAgg65
 z50:=Try.sizeOf65
 v50:=Try.zeroValue65
 t53:=Try.underlying108
 a53:=Try.isAgg108
 z53:=Try.sizeOf108
 v53:=Try.zeroValue108
 t55:=Try.underlying110
 a55:=Try.isAgg110
 z55:=Try.sizeOf110
 v55:=Try.zeroValue110
 t66:=Try.underlying114
 a66:=Try.isAgg114
 z66:=Try.sizeOf114
 v66:=Try.zeroValue114
 t70:=Try.underlying118
 a70:=Try.isAgg118
 z70:=Try.sizeOf118
 v70:=Try.zeroValue118
 t76:=Try.underlying121
 a76:=Try.isAgg121
 z76:=Try.sizeOf121
 v76:=Try.zeroValue121
 t77:=Try.underlying122
 a77:=Try.isAgg122
 z77:=Try.sizeOf122
 v77:=Try.zeroValue122 }
end Go.Proofs
namespace Go.Proofs.Ytenpcndoilcjcaa
open Go.ChangeShapes Go.WideShapes Go.ChangeAt Go.RowKit
open Lib (hid)
set_option linter.unusedVariables false
set_option maxRecDepth 100000
open Go.RowKit Go Go.Shelf Go.Sort
instance pl_inh:Inhabited Pl:=⟨⟨0,0⟩⟩
theorem Cb2:ltOf cmpK=Ev:=by funext a b;exact Am1 a b
theorem swoK:Go.Sort.SWO (ltOf cmpK) where
 irrefl x:=by rw [Cb2];exact Pb x
 trans x y z h1 h2:=by rw [Cb2] at *;exact Av8 h1 h2
 ntrans x y z h1 h2:=by
  rw [Cb2] at *
  rw [Bool.eq_false_iff] at *
  rw [ne_eq,Qa] at *
  omega
theorem totK (x y:Pl) (h1:ltOf cmpK x y=false) (h2:ltOf cmpK y x=false):x=y:=by
 rw [Cb2] at *
 apply Decidable.byContradiction
 intro h
 rcases Ba7 h with h3|h3
 ·rw [h3] at h1;cases h1
 ·rw [h3] at h2;cases h2
def srtK (ks:List Pl):List Pl:=ks.mergeSort fun x y=>!Ev y x
theorem Eg6 (ks:List Pl):(srtK ks).length=ks.length:=List.length_mergeSort ks
theorem Ha7 {ks:List Pl} (h:ks.Nodup):Lm ks (srtK ks):=by
 have hp:(srtK ks).Pairwise fun a b=>(!Ev b a)=true:=List.pairwise_mergeSort (le:=fun x y=>!Ev y x)
  (fun a b c h1 h2=>by
    simp only [Bool.not_eq_true',Bool.eq_false_iff,ne_eq,Qa] at *
    omega)
  (fun a b=>by
    simp only [Bool.or_eq_true,Bool.not_eq_true',Bool.eq_false_iff,ne_eq,Qa]
    omega) ks
 have hm:=List.mergeSort_perm ks (fun x y=>!Ev y x)
 have hn:(srtK ks).Nodup:=hm.nodup_iff.2 h
 refine ⟨?_,fun k=>hm.mem_iff⟩
 refine (hp.and hn).imp ?_
 rintro a b ⟨h1,h2⟩
 rcases Ba7 h2 with h3|h3
 ·exact h3
 ·rw [h3] at h1;cases h1
theorem He2 (blk off size:Nat) (w:World):CmpLays Try.prog 60 #[] plC 2 cmpK blk off size w:=fun _ _ _ _ x y=>Ao7 x y _
theorem Fr7 {ks:List Pl} {j:Nat} (hj:j<ks.length*2):((flatK plC 2 ks.toArray)[j]!)=((plC (ks[j / 2]'(by omega)))[j%2]?).getD default:=by
 have h2:j / 2<ks.length:=by omega
 rw [get_flatK _ _ _ _ (by simpa using hj)]
 have e:(ks.toArray[j / 2]!)=ks[j / 2]'h2:=by simp [h2]
 rw [e]
 rw [List.getElem!_eq_getElem?_getD]
theorem Gk9 (n:Nat) (a:Option Addr) (cap:Nat) (ks:List Pl) (w:World) (h:OwnR 2 47 plC n w a ks) (hl:ks.length≤1000000) :
 Calls Try.prog 59 #[.slice a ks.length cap,.func (.func 60) #[] #[]] w fun e w' =>
  e=.returned (.tuple #[])∧OwnR 2 47 plC n w' a (srtK ks)∧∀B w0,Below B w0 w→B≤n→Below B w0 w':=by
 rcases h.2 with ⟨rfl,rfl⟩|⟨g,cs,rfl,hg,hb,hc⟩
 ·refine (AnyF.slices_SortFunc_none Try.sortLaid none cap _ w).mono ?_
  rintro e w' ⟨rfl,rfl⟩
  exact ⟨rfl,by simpa [srtK] using h,fun B w0 hb _=>hb⟩
 ·have eg:∀args w,(callFunc 60 args).run Try.prog w=.ok (.enter 60 args) w:=enters_of Try.func60 (by kernel_rfl) rfl
  have hH:HoldsK plC 2 w g 0 ks.toArray:=fun j hj=>by
   have hj2:j<ks.length*2:=by simpa using hj
   have h2:j / 2<ks.length:=by omega
   refine ⟨?_,by rw [Nat.zero_add];exact hb.frozen j⟩
   rw [Nat.zero_add,hb.cell,Fr7 hj2]
   have:=hc (j / 2) h2 (j%2) (by omega)
   rw [show j / 2*2+j%2=j by omega] at this
   rw [this]
   have hm:j%2<(plC ks[j / 2]).length:=by simp [plC];omega
   rw [List.getElem?_eq_getElem hm]
   rfl
  have hcon:=AnyQ.slices_SortFunc_total Try.sortLaid 2 Try.isAgg47 Try.sizeOf47 plC (fun _=>rfl) (fun x v hv=>by simp [plC] at hv;rcases hv with rfl|rfl<;>rfl) cmpK swoK 60 #[] g 0 cap ks.toArray w eg (He2 g 0 _ w) hH hb.lt (by simp;omega) totK
  have hcon2:=hcon
  rw [List.size_toArray] at hcon2
  refine hcon2.mono ?_
  rintro e w' ⟨rfl,m,os,rfl⟩
  rw [Cb2]
  have hs:(srtK ks).length=ks.length:=Eg6 ks
  have hS:((ks.toArray.toList.mergeSort fun x y=>!Ev y x).toArray)=(srtK ks).toArray:=by simp [srtK]
  rw [hS]
  have hH2:=holdsK_putRowK (enc:=plC) (k:=2) w g 0 ks.toArray (srtK ks).toArray hH (by simp [hs])
  have hblk:∃cs',(sortWorldK plC 2 w g 0 m (srtK ks).toArray os).heap[g]?=some (.cells cs' 47 (0,0)):=by
   unfold sortWorldK
   rw [Go.Sort.heap_grow_old _ _ (by simpa [putRowK,Go.Sort.ahead] using hb.lt)]
   have hb2:w.heap[g]?=some (.cells cs 47 (0,0)):=hb
   simp [putRowK,Go.Sort.putRow,Go.Sort.mapBlock,Go.Sort.ahead,Array.getElem?_modify,hb2,Go.Sort.onCells]
  obtain ⟨cs',hblk⟩:=hblk
  have hB:Blk (sortWorldK plC 2 w g 0 m (srtK ks).toArray os) g 47 cs':=hblk
  refine ⟨rfl,⟨by rw [hs];exact h.1,.inr ⟨g,cs',rfl,hg,hB,fun i hi j hj=>?_⟩⟩,fun B w0 hb0 hBn=>?_⟩
  ·rw [←hB.cell]
   have hk:i*2+j<(srtK ks).length*2:=by omega
   have h3:=(hH2 (i*2+j) (by simpa using hk)).1
   rw [Nat.zero_add] at h3
   have h4:(sortWorldK plC 2 w g 0 m (srtK ks).toArray os).cell? ⟨g,i*2+j,none⟩=(putRowK plC 2 w g 0 (srtK ks).toArray).cell? ⟨g,i*2+j,none⟩:=by
    unfold sortWorldK
    rw [Go.Sort.cell?_grow _ _ _ (by simpa [putRowK,Go.Sort.ahead] using hb.lt)]
    rfl
   rw [h4,h3,Fr7 hk]
   simp only [id,show (i*2+j) / 2=i by omega,show (i*2+j)%2=j by omega]
   have hm:j<(plC (srtK ks)[i]).length:=by simp [plC];omega
   rw [List.getElem?_eq_getElem hm]
   rfl
  ·have hsz:w.heap.size≤(sortWorldK plC 2 w g 0 m (srtK ks).toArray os).heap.size:=by simp [sortWorldK,putRowK,Go.Sort.ahead]
   refine ⟨hb0.os,hb0.tape,hb0.output,Nat.le_trans hb0.size hsz,fun k hk=>?_⟩
   rw [←hb0.block k hk]
   by_cases hkw:k<w.heap.size
   ·unfold sortWorldK
    rw [Go.Sort.heap_grow_old _ _ (by simpa [putRowK,Go.Sort.ahead] using hkw)]
    have:g≠k:=by omega
    simp [putRowK,Go.Sort.putRow,Go.Sort.mapBlock,Go.Sort.ahead,Array.getElem?_modify,this]
   ·exact absurd (Nat.lt_of_lt_of_le hk (Nat.le_trans hBn (Nat.le_trans hg (Nat.le_of_lt hb.lt)))) hkw
end Go.Proofs.Ytenpcndoilcjcaa
namespace Go.Proofs.Ytenpcndoilcjcaa
open Go.ChangeShapes Go.WideShapes Go.ChangeAt Go.RowKit
open Lib (hid)
set_option linter.unusedVariables false
open Go.RowKit Go
theorem Bh9:(Try.prog.info? 47).map (fun i=>(i.zero,i.size,i.bytes))=some (some (.agg #[.int .i64 0,.int .i64 0]),2,16):=by kernel_rfl
theorem Gb3 {α:Type} {k:Nat} {e:TypeId} {enc:α→List Value} {n m:Nat} {W:World} {a:Option Addr} {xs:List α} (h:OwnR k e enc n W a xs) (hm:m≤n):OwnR k e enc m W a xs :=
 ⟨h.1,h.2.imp id (fun ⟨b,cs,e,hb,h⟩=>⟨b,cs,e,Nat.le_trans hm hb,h⟩)⟩
set_option maxHeartbeats 1000000 in
theorem Ai4 (a:Option Addr) (cap:Nat) (l:List Pl) (w:World) (h:Au w a l) (hi:∀k∈l,InK k) (hl:l.length≤1000) :
 Calls Try.prog 37 #[.slice a l.length cap] w fun e w'=>∃(b:Option Addr) (c:Nat) (s:List Pl),e=.returned (.slice b s.length c)∧Lm l s∧OwnR 2 47 plC w.heap.size w' b s∧Below w.heap.size w w':=by
 have hm:=h.len
 have H:=hid h
 have HI:=hid hi
 have HL:=hid hl
 have M0:=hid (Gc2 w)
 have B0:=hid ((Below.refl w.heap.size w).alloc (Nat.le_refl _) (.map #[] 0))
 clear h hi
 have hmk:=run_makeMap (P:=Try.prog) 83 w
 go_enter Try.func37,Try.ntmps37
 go_wp2_with fail
 generalize w.alloc (.map #[] 0)=W0 at *
 clear hmk
 go_loopw [5,11] (fun _ i wr=>∃k:Nat,k≤l.length∧i=.int .i64 k∧MetK wr w.heap.size (l.take k)∧Below w.heap.size w wr) (fun _ i _=>l.length-(intOf i).toNat)
 case atStart=>exact ⟨0,Nat.zero_le _,rfl,M0.out,B0.out⟩
 case round =>
  obtain ⟨k,hk,rfl,hmt,hb1⟩:=hrel
  have HM:=hid hmt
  have HB:=hid hb1
  clear hmt M0 B0
  by_cases hlt:k<l.length
  ·obtain ⟨b,o,rfl,hbb,h0,h1⟩:=H.out.cells hlt
   have c0:=Bz h0 hbb hb1
   have c1:=Bz h1 hbb hb1
   have hin:=HI.out _ (List.getElem_mem hlt)
   have HT:=hid (show l.take (k+1)=l.take k++[l[k]] by rw [List.take_succ_eq_append_getElem hlt])
   clear h0 h1 hb1
   generalize l[k]=z at *
   obtain ⟨z0,z1⟩:=z
   simp only at c0 c1
   obtain ⟨W',hrun,hm3,hg⟩:=(HM.out.call (b_a (.cells #[.int .i64 z0,.int .i64 z1] 47))).put ⟨z0,z1⟩ hin (by rw [List.length_take];omega)
   have HM3:=hid hm3
   have HR2:=hid hrun
   have HB2:=hid ((HB.out.alloc HB.out.size (.cells #[.int .i64 z0,.int .i64 z1] 47)).grown hg (by have:=HB.out.size;simp;omega) (fun q hq=>by cases hq;exact Nat.le_refl _))
   clear hrun hg hm3 hin
   go_wp2_with (at_mapUpdate;refine Gc5 rfl _ _ _ 83 rfl _ _ _ rfl rfl rfl HR2.out ?_)
   go_wp2_with fail
   go_roundw
   case rel=>exact ⟨k+1,by omega,by go_num,by rw [HT.out];exact HM3.out,HB2.out⟩
   case measure=>simp [intOf];omega
  ·have hke:k=l.length:=by omega
   subst hke
   rw [List.take_length] at HM
   have HS:=hid HB.out.size
   clear H hb1
   go_wp2_with (at_range;refine Fg8 HM.out rfl _ rfl rfl ?_;intro w0 hrg0 hg0 hs0)
   go_frame
   have HR0:=hid hrg0
   have HB0:=hid (HB.out.grown hg0 HB.out.size (fun q hq=>by cases hq))
   have HN:=hid (show wr.heap.size+1≤w0.heap.size by omega)
   have HRN:=hid HM.out.lt
   generalize wr.heap.size=rn at *
   have HMR:=hid (show some w.heap.size≠none∧True from ⟨by simp,trivial⟩)
   clear hrg0 hg0 hs0 HB HS HM
   go_loopw [6,7] (fun v _ wr=>∃R:List Pl,RngK wr w.heap.size rn l R∧Dt 2 47 plC (rn+1) wr v R∧rn+1≤wr.heap.size∧Below w.heap.size w wr) (fun _ _ wr=>wr.rangeLeft w.heap.size rn)
   case atStart=>exact ⟨[],HR0.out,Dt.nil _,HN.out,HB0.out⟩
   case round =>
    obtain ⟨R,hR,hG,hN,hB⟩:=hrel
    have HRR:=hid hR
    have HG:=hid hG
    have HNN:=hid hN
    have HBB:=hid hB
    clear hR hG hB hN HR0 HB0 HN
    go_wp2_with (at_next;refine Gb7 HRR.out HI.out rfl _ rfl rfl ?_ ?_)
    ·intro hall hnd
     have HALL:=hid hall
     have HND:=hid hnd
     obtain ⟨ra,rc,rfl,hO⟩:=HG.out.own Ni
     have HO:=hid hO
     have HRL:=hid HRR.out.sub
     clear hall hnd hO
     go_wp2_with fail
     refine (Gk9 (rn+1) ra rc R _ HO.out (by have:=HRL.out;omega)).mono ?_
     rintro e w2 ⟨rfl,hO2,hB2⟩
     have HO2:=hid hO2
     have HB2:=hid (hB2 _ _ HBB.out (by have:=HRN.out;omega))
     clear hO2 hB2
     go_wp2_with fail
     go_ret
     refine ⟨ra,rc,srtK R,by rw [Eg6];rfl,?_,Gb3 HO2.out (by have:=HRN.out;omega),HB2.out⟩
     have hs:=Ha7 HND.out
     exact ⟨hs.up,fun q=>(hs.mem q).trans (HALL.out q)⟩
    ·intro z c w1 hz hR1 hg1 hs1 hlt1 hen
     obtain ⟨z0,z1⟩:=z
     have HR1:=hid hR1
     have HG1:=hid (show Dt 2 47 plC (rn+1) w1 _ R from World.ownsRow.kept HG.out hg1 (.inr (HG.out.apart (g:=rn) (by omega))))
     have HB1:=hid (HBB.out.grown hg1 HBB.out.size (fun q hq=>by cases hq;exact Nat.le_of_lt HRN.out))
     have HS1:=hid hs1
     have HLT:=hid hlt1
     have HRL:=hid HRR.out.sub
     have hn1:rn+1≤w1.heap.size:=by have:=HNN.out;omega
     have HN1:=hid hn1
     clear hR1 hg1 hs1 hlt1 hz
     simp only at hen
     dsimp only
     have A1:=hid (World.grownBy_alloc w1 (.cells #[.int .i64 z0,.int .i64 z1] 47) none)
     have G2:=hid (HG1.out.call (b_a (.cells #[.int .i64 z0,.int .i64 z1] 47)))
     obtain ⟨v3,W3,hr3,hg3,hb3⟩:=G2.out.one Try.underlying32 Bh9 rfl (by decide) (by decide) Ni Zk ⟨z0,z1⟩ (by have:=HRL.out;omega) (by simp;omega)
     have HR3:=hid (show (Builtin.append_ #[32,32] 32 #[_,.slice (some ⟨w1.heap.size+1,0,none⟩) 1 1]).run Try.prog ((w1.alloc (.cells #[.int .i64 z0,.int .i64 z1] 47)).alloc (.cells #[.int .i64 z0,.int .i64 z1] 47))=.ok v3 W3 by simpa [plC] using hr3)
     have HG3:=hid hg3
     have HB3:=hid hb3
     clear hr3 hg3 hb3
     go_wp2_with (at_builtin;refine Bb rfl (.tmp 24) (.tmp 26) 32 rfl _ _ v3 W3 rfl rfl HR3.out ?_)
     have hap:∀g,g<rn+1→some g≠Value.ownBlock u6:=fun g hg e=>HG.out.apart hg e.symm
     have K1:=HR1.out.kept A1.out (by simp) (by simp)
     have L1:=HR1.out.left A1.out (by simp) (by simp)
     have L2:=K1.left HB3.out (hap _ (by have:=HRN.out;omega)) (hap _ (by omega))
     go_roundw
     case rel=>exact ⟨_,K1.kept HB3.out (hap _ (by have:=HRN.out;omega)) (hap _ (by omega)),HG3.out,Nat.le_trans (by simp;omega) HB3.out.size,G2.out.below (HB1.out.alloc HB1.out.size _) HB3.out (by have:=HRN.out;omega)⟩
     case measure=>rw [L2,L1];exact HLT.out
end Go.Proofs.Ytenpcndoilcjcaa
