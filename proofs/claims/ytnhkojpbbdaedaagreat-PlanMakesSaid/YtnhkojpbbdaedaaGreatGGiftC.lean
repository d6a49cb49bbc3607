/- gifts: whose hands; are there such players, such items; are they there. -/
import Derived.Test.YtnhkojpbbdaedaaGreatGHoldA
import Derived.Test.YtnhkojpbbdaedaaGreatGGiftM
import Derived.Maps.Own
import Derived.Maps.Views
import Derived.Test.YtnhkojpbbdaedaaGreatCoinB
namespace Go.Proofs.YtnhkojpbbdaedaaGreat
open Go.ChangeShapes Go.WideShapes Go.ChangeAt Go.RowKit Go.Proofs.Tryz
open Lib (hid)
set_option linter.unusedVariables false
set_option maxHeartbeats 4000000
set_option maxRecDepth 100000
section
theorem Jn (n:Int) (w:World):Calls prog 92 #[.int .i64 n] w fun e w'=>e=.returned (.agg #[.int .i64 1,.int .i64 n])∧Below w.heap.size w w':=by
 have hWC:=@wC.eq_1
 go_enter func92,ntmps92
 go_wp2_with fail
 refine bodyPost_ret (v:=.agg #[.int .i64 1,.int .i64 n]) (by simp [results,results92,go_sem]) rfl ⟨rfl,?_⟩
 exact b_a _
theorem Ao2 (x:Wd) (p:Wp) (k:Int) (w:World) (hl:x.coins.length=x.at_.length):Calls prog 120 #[.agg (wC x p),.int .i64 k] w fun e w'=>e=.returned (.bool (inB k x.at_.length))∧Below w.heap.size w w':=by
 have hb:=(Below.refl w.heap.size w).alloc (Nat.le_refl _) (.cells (wC x p) 29)
 unfold inB
 by_cases h1:0≤k
 ·by_cases h2:k<x.at_.length
  ·have h3:k<x.coins.length:=by rw [hl];exact h2
   clear hl
   have hWC:=@wC.eq_1
   go_enter func120,ntmps120
   go_wp2_with fail
   go_ret
   exact ⟨Ag (by simp),hb⟩
  ·clear hl
   have hWC:=@wC.eq_1
   go_enter func120,ntmps120
   go_wp2_with fail
   go_ret
   exact ⟨Ag (by simp [h2]),hb⟩
 ·clear hl
  have hWC:=@wC.eq_1
  go_enter func120,ntmps120
  go_wp2_with fail
  go_ret
  exact ⟨Ag (by simp;omega),hb⟩
theorem Ao9 (x:Wd) (p:Wp) (l:List Int) (a:Option Addr) (c:Nat) (w:World) (h:Ae w a l):Calls prog 121 #[.agg (wC x p),.slice a l.length c] w fun e w'=>e=.returned (.bool (l.all fun k=>inB k x.wher.length))∧Below w.heap.size w w':=by
 have hm:=h.len
 have H:=hid h
 clear h
 have HH:=hid (Ac.new w (wC x p) 29)
 have hWC:=@wC.eq_1
 go_enter func121,ntmps121
 go_wp2_with fail
 go_loopw [6,9] (fun _ i wr=>∃k:Nat,k≤l.length∧i=.int .i64 k∧(l.take k).all (fun n=>inB n x.wher.length)=true∧Ac w w.heap.size (wC x p) wr) (fun _ i _=>l.length-(intOf i).toNat)
 case atStart=>exact ⟨0,Nat.zero_le _,rfl,rfl,HH.out⟩
 case round =>
  obtain ⟨k,hk,rfl,htk,hh⟩:=hrel
  have HT:=hid htk
  have HK:=hid hh
  clear htk HH
  by_cases hlt:k<l.length
  ·obtain ⟨b,o,rfl,hb,hc⟩:=H.out.at_ hlt
   have c1:=Ad (hc k hlt) hh.1
   have hcl:=hh.2.2
   have hls:=hh.2.1
   clear hc H hb hh
   have HF:=hid (Ch (fun n=>inB n x.wher.length) hlt HT.out)
   have HN:=hid (Ht (fun n=>inB n x.wher.length) hlt)
   generalize l[k]=y at *
   by_cases h0:0≤y
   ·by_cases h1:y<x.wher.length
    ·have HX:=hid (show inB y x.wher.length=true by simp [inB,h0,h1])
     go_wp2_with fail
     go_roundw
     case rel=>exact ⟨k+1,by omega,by go_num,HF.out HX.out,HK.out⟩
     case measure=>simp [intOf];omega
    ·have HX:=hid (show inB y x.wher.length=false by simp [inB,h1])
     go_wp2_with fail
     go_ret
     exact ⟨Ag (HN.out HX.out).symm,HK.out.1⟩
   ·have HX:=hid (show inB y x.wher.length=false by simp [inB,h0])
    go_wp2_with fail
    go_ret
    exact ⟨Ag (HN.out HX.out).symm,HK.out.1⟩
  ·have hke:k=l.length:=by omega
   subst hke
   have HD:=hid (Ff _ HT.out)
   clear H hh
   go_wp2_with fail
   go_ret
   exact ⟨Ag HD.out.symm,HK.out.1⟩
theorem Et6 (x:Wd) (ud:Dp) (ua uk uw:Option Addr) (uac ukc uwc:Nat) (l:List Nat) (a:Option Addr) (c:Nat) (yk yi:Int) (w:World) (h:Au w uw x.wher) (hi:Ae w a (l.map fun (k:Nat)=>(k:Int))) (hl:∀k∈l,k<x.wher.length) :
 Calls prog 123 #[.agg (wC x ⟨ud,ua,uac,uk,ukc,uw,uwc⟩),.slice a l.length c,.agg #[.int .i64 yk,.int .i64 yi]] w fun e w'=>e=.returned (.bool (l.all fun k=>decide (plOf x.wher k=⟨yk,yi⟩)))∧Below w.heap.size w w':=by
 have hm:l.length≤9223372036854775807:=by simpa using hi.len
 have hm2:=h.len
 have H:=hid h
 have HI:=hid hi
 have HL:=hid hl
 clear h hi hl
 have HH:=hid (Ac.pair w (wC x ⟨ud,ua,uac,uk,ukc,uw,uwc⟩) #[.int .i64 yk,.int .i64 yi] 29 48)
 have hWC:=@wC.eq_1
 go_enter func123,ntmps123
 go_wp2_with fail
 go_loopw [8,11] (fun _ i wr=>∃k:Nat,k≤l.length∧i=.int .i64 k∧(l.take k).all (fun k=>decide (plOf x.wher k=⟨yk,yi⟩))=true∧Ac w w.heap.size (wC x ⟨ud,ua,uac,uk,ukc,uw,uwc⟩) wr∧Ac w (w.heap.size+1) #[.int .i64 yk,.int .i64 yi] wr) (fun _ i _=>l.length-(intOf i).toNat)
 case atStart=>exact ⟨0,Nat.zero_le _,rfl,rfl,HH.out.1,HH.out.2⟩
 case round =>
  obtain ⟨j,hj,rfl,htk,h1,h2⟩:=hrel
  have HT:=hid htk
  have H1:=hid h1
  have H2:=hid h2
  clear htk HH
  by_cases hlt:j<l.length
  ·have HF:=hid (Ch (fun k=>decide (plOf x.wher k=⟨yk,yi⟩)) hlt HT.out)
   have HN:=hid (Ht (fun k=>decide (plOf x.wher k=⟨yk,yi⟩)) hlt)
   obtain ⟨b,o,rfl,hb,hc⟩:=HI.out.at_ (show j<(l.map fun (k:Nat)=>(k:Int)).length by simpa using hlt)
   have c1:=hc j (by simpa using hlt)
   simp only [List.getElem_map] at c1
   have hk:=HL.out l[j] (List.getElem_mem hlt)
   clear hc hb
   generalize l[j]=k at *
   have c1:=Ad c1 h1.1
   obtain ⟨yb,yo,rfl,hyb,d0,d1⟩:=Au.cells H.out hk
   rw [←Bo hk] at d0 d1
   have d0:=Ad d0 h1.1
   have d1:=Ad d1 h1.1
   have hc1:=h1.2.2
   have hl1:=h1.2.1
   have hc2:=h2.2.2
   have hl2:=h2.2.1
   have hk1:¬(x.wher.length:Int)≤(k:Int):=by omega
   have hk2:(x.wher.length≤k)=False:=by simp;omega
   clear hyb h1 h2
   generalize plOf x.wher k=z at *
   obtain ⟨zk,zi⟩:=z
   simp only at d0 d1
   have hrun:=Kj zk zi yk yi
   by_cases hz:(⟨zk,zi⟩:Pl)=⟨yk,yi⟩
   all_goals
    have HZ:=hid hz
    simp only [hz,decide_true,decide_false,Bool.not_true,Bool.not_false] at hrun
    clear hz
    go_wp2_with fail
    refine tkS (S:=(fun w'=>(∀i,w'.cell? ⟨w.heap.size,i,none⟩=((wC x ⟨ud,ua,uac,uk,ukc,some ⟨yb,yo,none⟩,uwc⟩)[i]?:Option Value))∧(∀i,w'.cell? ⟨w.heap.size+1,i,none⟩=(#[.int .i64 yk,.int .i64 yi][i]?:Option Value))∧w'.cell? ⟨yb,yo+k*2,none⟩=some (.int .i64 zk)∧w'.cell? ⟨yb,yo+k*2+1,none⟩=some (.int .i64 zi))) (by (first|(exact ⟨hc1,hc2,d0,d1⟩))) (fun hHeld=>?_)
    refine tkl [0,1,2,3,4,5,6] ?_
    iterate 7
     first|refine tW ?_|refine tN ?_
     try go_frame
    refine tkD ?_
    clear hHeld hc1 hl1 hc2 hl2
    have J1:=hid H1.out.drew
    have J2:=hid H2.out.drew
    clear H1 H2
    generalize wr.drew=W5 at *
    go_wp2_with fail
   ·go_roundw
    case rel=>exact ⟨j+1,by omega,by go_num,HF.out (by simpa using HZ.out),J1.out,J2.out⟩
    case measure=>simp [intOf];omega
   ·go_ret
    exact ⟨Ag (HN.out (by simpa using HZ.out)).symm,J1.out.1⟩
  ·have hke:j=l.length:=by omega
   subst hke
   have HD:=hid (Ff _ HT.out)
   clear h1 h2
   go_wp2_with fail
   go_ret
   exact ⟨Ag HD.out.symm,H1.out.1⟩
theorem Bw8 (x:Wd) (p:Wp) (l:List Nat) (a:Option Addr) (c:Nat) (i:Nat) (w:World) (h:Au w p.wh x.wher) (hi:Ae w a (l.map fun (k:Nat)=>(k:Int))) (hl:∀k∈l,k<x.wher.length) :
 Calls prog 123 #[.agg (wC x p),.slice a l.length c,.agg #[.int .i64 1,.int .i64 (i:Int)]] w fun e w'=>e=.returned (.bool (hasB x i l))∧Below w.heap.size w w':=Et6 x p.d p.at_ p.co p.wh p.atc p.coc p.whc l a c 1 i w h hi hl
end
section
open Go.RowKit Go
def MetB (W:World) (m:Nat) (L:List Int):Prop :=
 ∃(n:Nat) (D:DataW Unit),W.ownsMap prog 3 (plainElem prog 4) m n D∧n≤L.length∧Maps.IsMap D∧∀i:Int,D.atKey (.int .i64 i) (.lit (.bool false))=.lit (.bool (decide (i∈L)))
theorem Em5 (w:World):MetB (w.alloc (.map #[] 0)) w.heap.size [] :=
 ⟨0,.map [],World.ownsMap_made w prog 3 (plainElem prog 4),Nat.le_refl _,⟨_,rfl⟩,fun i=>by simp [DataW.atKey]⟩
theorem Es5 {v:Value} {z:DataW Unit × List MemPlace} {x:Bool} (h:plainElem prog 4 v=some z) (hz:z.1=.lit (.bool x)):v=.bool x:=by
 unfold plainElem at h
 rw [underlying4] at h
 cases v<;>simp at h
 subst h
 simp at hz
 rw [hz]
theorem Cb5 {i:Int} (h:-9223372036854775808≤i∧i≤9223372036854775807):keyOf prog 3 (.int .i64 i)=some (.int .i64 i) :=
 Maps.keyOf_int_mk underlying3 (by simp [Lit.wf,IntKind.min,IntKind.max,IntKind.signed,IntKind.bits];omega)
theorem MetB.look {W:World} {m:Nat} {L:List Int} (h:MetB W m L) (i:Int) (hi:-9223372036854775808≤i∧i≤9223372036854775807):(Instr.lookup 157 (.map (some m)) (.int .i64 i) false).run prog W=.ok (.bool (decide (i∈L))) W:=by
 obtain ⟨n,D,ho,_,_,hD⟩:=h
 obtain ⟨v,ps,hr,hv⟩:=ho.lookup (Maps.int_keyed underlying3) underlying157 (z:=.bool false) (by kernel_rfl) (plainElem_bool underlying4 false) (Cb5 hi)
 rw [hr,Es5 hv (hD i)]
theorem MetB.put {W:World} {m:Nat} {L:List Int} (h:MetB W m L) (i:Int) (hi:-9223372036854775808≤i∧i≤9223372036854775807) (hl:L.length≤1000000) :
 ∃W',(Instr.mapUpdate 157 (.map (some m)) (.int .i64 i) (.bool true)).run prog W=.ok () W'∧MetB W' m (L++[i])∧W.grownBy W' (some m):=by
 obtain ⟨n,D,ho,hn,hm,hD⟩:=h
 obtain ⟨W',hr,ho',hg⟩:=ho.update (Maps.int_keyed underlying3) underlying157 (by unfold maxLen;omega) (Cb5 hi) (plainElem_bool underlying4 true)
 have hk:=(Maps.int_keyed (P:=prog) underlying3).key (Cb5 hi)
 refine ⟨W',hr,⟨n+1,_,ho',by simp;omega,?_,fun j=>?_⟩,hg⟩
 ·obtain ⟨es,rfl⟩:=hm
  exact ⟨_,rfl⟩
 ·by_cases hj:j=i
  ·subst hj
   rw [Maps.atKey_put_same hm hk]
   simp
  ·rw [Maps.atKey_put_other (by intro e;injection e with _ e;exact hj e),hD j]
   simp [hj]
theorem MetB.lt {W:World} {m:Nat} {L:List Int} (h:MetB W m L):m<W.heap.size:=by obtain ⟨n,D,ho,_⟩:=h;exact ho.lt
theorem Cp1 {P:Program} {ops:Array Oper} {rest:List Oper} {o:Oper} {a:Act} {Q:Exit→Act→World→Prop} {w w':World} (hgd:o.guard=none) (s x y:Operand) (t:TypeId)
 (ho:o.op=.mapUpdate t s x y) (v u z:Value) (hs:a.eval s=v) (hx:a.eval x=u) (hy:a.eval y=z)
 (hrun:(Instr.mapUpdate t v u z).run P w=.ok () w') (h:wpList P ops Q rest (a.put o.dst undef) w'):wpList P ops Q (o :: rest) a w :=
 wpList_plain hgd fun K hK=>by
  unfold Oper.wp
  simp [execOp,ho,hs,hx,hy,hrun,Result.andThen]
  exact hK _ _ h
theorem Bw4 {α:Type} {R:List (List α)} {r:Nat} (hr:r<R.length):(R.take (r+1)).flatten=(R.take r).flatten++R[r]:=by
 rw [List.take_succ_eq_append_getElem hr,List.flatten_append];simp
theorem Eq4 {α:Type} {R:List (List α)} {r k:Nat} (hr:r<R.length):((R.take r).flatten++R[r].take k).Sublist R.flatten:=by
 have h1:((R.take r).flatten++R[r].take k).Sublist ((R.take r).flatten++R[r]):=List.Sublist.append (List.Sublist.refl _) (List.take_sublist _ _)
 rw [←Bw4 hr] at h1
 refine h1.trans ?_
 conv=>rhs;rw [←List.take_append_drop (r+1) R]
 rw [List.flatten_append]
 exact List.sublist_append_left _ _
theorem Dc6 {L:List Int} {y:Int} (h:L.Nodup) (hy:¬y∈L):(L++[y]).Nodup:=by
 rw [List.nodup_append]
 refine ⟨h,by simp,fun a ha b hb e=>?_⟩
 rw [List.mem_singleton] at hb
 subst hb e
 exact hy ha
theorem Cn4 (R:List (List Int)) (b c:Nat) (w:World) (hb:b<w.heap.size) (hR:∀r (hr:r<R.length),∃a c,w.cell? ⟨b,r,none⟩=some (.slice a R[r].length c)∧Ae w a R[r]) (hl:R.length≤1000) (hf:R.flatten.length≤1000) (hi:∀y∈R.flatten,-9223372036854775808≤y∧y≤9223372036854775807) :
 Calls prog 122 #[.slice (some ⟨b,0,none⟩) R.length c] w fun e w'=>e=.returned (.bool (!decide R.flatten.Nodup))∧Below w.heap.size w w':=by
 have HR:=hid hR
 have HF:=hid hf
 have HI:=hid hi
 have M0:=hid (Em5 w)
 have B0:=hid ((Below.refl w.heap.size w).alloc (Nat.le_refl _) (.map #[] 0))
 clear hR hf hi
 have hmk:=run_makeMap (P:=prog) 157 w
 go_enter func122,ntmps122
 go_wp2_with fail
 generalize w.alloc (.map #[] 0)=W0 at *
 clear hmk
 go_loopw [5,7,11,15,16,17] (fun _ _ i _ _ _ wr=>∃r:Nat,r≤R.length∧i=.int .i64 r∧MetB wr w.heap.size (R.take r).flatten∧(R.take r).flatten.Nodup∧Below w.heap.size w wr) (fun _ _ i _ _ _ _=>R.length-(intOf i).toNat)
 case atStart=>exact ⟨0,Nat.zero_le _,rfl,M0.out,by simp,B0.out⟩
 case round =>
  obtain ⟨r,hr,rfl,hm,hnd,hb1⟩:=hrel
  have HM:=hid hm
  have HN:=hid hnd
  have HB:=hid hb1
  clear hm hnd M0 B0
  by_cases hlt:r<R.length
  ·obtain ⟨a,ac,hc,hia⟩:=HR.out r hlt
   have hc:=Ad hc hb1
   have IA:=hid hia
   have hbw:b<wr.heap.size:=by have:=hb1.size;omega
   have HFM:=hid (Bw4 hlt)
   have HFS:=hid (fun k=>Eq4 (k:=k) hlt)
   have hal:R[r].length≤9223372036854775807:=hia.len
   clear hia hb1
   generalize R[r]=xs at *
   go_wp2_with fail
   obtain ⟨wp,hwp⟩:∃q,q=wr:=⟨_,rfl⟩
   subst hwp
   go_loopw [7,17] (fun _ i wr=>∃k:Nat,k≤xs.length∧i=.int .i64 k∧MetB wr w.heap.size ((R.take r).flatten++xs.take k)∧((R.take r).flatten++xs.take k).Nodup∧Below w.heap.size w wr) (fun _ i _=>xs.length-(intOf i).toNat)
   case atStart=>exact ⟨0,Nat.zero_le _,rfl,by simpa using HM.out,by simpa using HN.out,HB.out⟩
   case round =>
    obtain ⟨k,hk,rfl,hm2,hn2,hb2⟩:=hrel
    by_cases hlt2:k<xs.length
    ·obtain ⟨a0,o,rfl,hbb,hcc⟩:=IA.out.at_ hlt2
     have c1:=Ad (hcc k hlt2) hb2
     have hsub:=HFS.out (k+1)
     have hlk:=(HFS.out k).length_le
     rw [List.take_succ_eq_append_getElem hlt2,←List.append_assoc] at hsub
     have hyi:=HI.out xs[k] (hsub.subset (List.mem_append_right _ (List.mem_singleton.2 rfl)))
     have HS:=hid hsub
     have HTK:=hid (show (R.take r).flatten++xs.take (k+1)=(R.take r).flatten++xs.take k++[xs[k]] by rw [List.take_succ_eq_append_getElem hlt2,List.append_assoc])
     have hlL:((R.take r).flatten++xs.take k).length≤1000000:=by have:=HF.out;omega
     clear hcc hbb hsub hlk
     generalize xs[k]=y at *
     generalize (R.take r).flatten++xs.take k=L at *
     have hlook:=hm2.look y hyi
     by_cases hy:y∈L
     ·have HE:=hid (show decide R.flatten.Nodup=false from decide_eq_false (fun hn=>by
       have h2:=HS.out.nodup hn
       rw [List.nodup_append] at h2
       exact h2.2.2 y hy y (by simp) rfl))
      rw [decide_eq_true hy] at hlook
      have HB2:=hid hb2
      clear hm2 hn2 hb2 hy
      go_wp2_with fail
      go_ret
      exact ⟨Ag (by rw [HE.out];rfl),HB2.out⟩
     ·obtain ⟨W',hrun,hm3,hg⟩:=hm2.put y hyi hlL
      have HM3:=hid hm3
      have HN3:=hid (Dc6 hn2 hy)
      have HB2:=hid (hb2.grown hg hb2.size (fun q hq=>by cases hq;exact Nat.le_refl _))
      rw [decide_eq_false hy] at hlook
      have HR2:=hid hrun
      clear hm2 hn2 hb2 hy hrun hg hm3
      go_wp2_with (at_mapUpdate;refine Cp1 rfl _ _ _ 157 rfl _ _ _ rfl rfl rfl HR2.out ?_)
      go_wp2_with fail
      go_roundw
      case rel=>exact ⟨k+1,by omega,by go_num,by rw [HTK.out];exact HM3.out,by rw [HTK.out];exact HN3.out,HB2.out⟩
      case measure=>simp [intOf];omega
    ·have hke:k=xs.length:=by omega
     subst hke
     rw [List.take_length,←HFM.out] at hm2 hn2
     have HM2:=hid hm2
     have HN2:=hid hn2
     have HB2:=hid hb2
     clear hm2 hn2 hb2 IA
     go_wp2_with fail
     go_roundw
     case rel=>exact ⟨r+1,by omega,by go_num,HM2.out,HN2.out,HB2.out⟩
     case measure=>simp [intOf];omega
  ·have hke:r=R.length:=by omega
   subst hke
   have HE:=hid (show decide R.flatten.Nodup=true from decide_eq_true (by have:=HN.out;rwa [List.take_length] at this))
   clear hb1
   go_wp2_with fail
   go_ret
   exact ⟨Ag (by rw [HE.out];rfl),HB.out⟩
end
section
section
variable {t u s:TypeId} {w v v1:World} {cs ds z:Array Value}
theorem Tri.setr (h:Tri t u s w v cs ds z) (i:Nat) (y:Value):Tri t u s w (v.setCell ⟨w.heap.size+2,i,none⟩ y) cs ds (z.setIfInBounds i y) :=
 ⟨h.a.far (by show w.heap.size≠w.heap.size+2;omega) y,h.m.far (by show w.heap.size+1≠w.heap.size+2;omega) y,h.r.set_ i y,h.b.setCell (by show w.heap.size≤w.heap.size+2;omega) y⟩
theorem Tri.seta (h:Tri t u s w v cs ds z) (i:Nat) (y:Value):Tri t u s w (v.setCell ⟨w.heap.size,i,none⟩ y) (cs.setIfInBounds i y) ds z :=
 ⟨h.a.set_ i y,h.m.far (by show w.heap.size+1≠w.heap.size;omega) y,h.r.far (by show w.heap.size+2≠w.heap.size;omega) y,h.b.setCell (by show w.heap.size≤w.heap.size;omega) y⟩
theorem Tri.drew (h:Tri t u s w v cs ds z):Tri t u s w v.drew cs ds z:=h.call (Af (Below.refl _ _))
theorem Tri.setm (h:Tri t u s w v cs ds z) (i:Nat) (y:Value):Tri t u s w (v.setCell ⟨w.heap.size+1,i,none⟩ y) cs (ds.setIfInBounds i y) z :=
 ⟨h.a.far (by show w.heap.size≠w.heap.size+1;omega) y,h.m.set_ i y,h.r.far (by show w.heap.size+2≠w.heap.size+1;omega) y,h.b.setCell (by show w.heap.size≤w.heap.size+1;omega) y⟩
end
def TriM (t u s:TypeId) (w v:World) (cs z:Array Value):Prop:=∃ds,Tri t u s w v cs ds z
theorem TriM.mk {t u s:TypeId} {w v:World} {cs ds z:Array Value} (h:Tri t u s w v cs ds z):TriM t u s w v cs z:=⟨ds,h⟩
theorem TriM.setm {t u s:TypeId} {w v:World} {cs z:Array Value} (h:TriM t u s w v cs z) (i:Nat) (y:Value):TriM t u s w (v.setCell ⟨w.heap.size+1,i,none⟩ y) cs z:=h.elim fun _ h=>⟨_,h.setm i y⟩
theorem Fc9 {t u s:TypeId} {w v:World} {cs z:Array Value} (h:TriM t u s w v cs z):Below w.heap.size w v∧w.heap.size+2<v.heap.size∧(∀i,v.cell? ⟨w.heap.size,i,none⟩=cs[i]?)∧(∀i,v.cell? ⟨w.heap.size+2,i,none⟩=z[i]?):=h.elim fun _ h=>⟨h.b,h.r.lt,h.a.cell,h.r.cell⟩
theorem By3 {t u s:TypeId} {w v:World} {cs ds z:Array Value} (h:Tri t u s w v cs ds z):Below w.heap.size w v∧w.heap.size+2<v.heap.size∧(∀i,v.cell? ⟨w.heap.size,i,none⟩=cs[i]?)∧(∀i,v.cell? ⟨w.heap.size+2,i,none⟩=z[i]?):=⟨h.b,h.r.lt,h.a.cell,h.r.cell⟩
theorem Dg4 (x:Wd) (p:Wp) (w:World) (h:Ab w p x) (hf:FewW x) :
 Calls prog 90 #[.agg (wC x p)] w fun e w'=>∃p':Wp,e=.returned (.agg (wC x p'))∧Ao w.heap.size w' p' x∧Below w.heap.size w w':=by
 have H:=hid h
 have HF:=hid hf
 clear h hf
 have C0:=hid (Tri.start 29 29 26 w (wC x p) zC (dC x.d p.d))
 have hWC:=@wC.eq_1
 have hZC:=@zC.eq_1
 have hDC:=@dC.eq_1
 go_enter func90,ntmps90
 go_wp2_with fail
 generalize hw0:(((w.alloc (.cells (wC x p) 29)).alloc (.cells zC 29)).alloc (.cells (dC x.d p.d) 26))=v0 at *
 clear hw0
 refine (Ac5 _ _ _ v0 (H.out.d.below C0.out.b (Nat.le_refl _)).ex HF.out.1.1).mono ?_
 rintro e w1 ⟨g0,c0,rfl,o0,b0⟩
 have O0:=hid (o0.less C0.out.size)
 have D0:=hid (C0.out.call b0)
 have C1:=hid (show Tri 29 29 26 w (w1.setCell ⟨w.heap.size+2,0,none⟩ (.slice g0 x.d.exits.length c0)) (wC x p) zC (dC x.d ⟨g0,c0,p.d.pl,p.d.plc,p.d.co,p.d.coc,p.d.it,p.d.itc,p.d.bo,p.d.boc⟩) from D0.out.setr 0 _)
 have O0:=hid (O0.out.set (q:=w.heap.size+2) (by omega) 0 (.slice g0 x.d.exits.length c0))
 obtain ⟨hc,hz,hs⟩:=D0.out.rr
 clear o0 b0
 go_wp2_with fail
 clear hc hz hs
 generalize hw1:w1.setCell ⟨w.heap.size+2,0,none⟩ (.slice g0 x.d.exits.length c0)=v1 at *
 clear hw1
 refine (Gv _ _ _ v1 (Av.1 (H.out.d.below C1.out.b (Nat.le_refl _)).pl) HF.out.1.2.1).mono ?_
 rintro e w2 ⟨g1,c1,rfl,o1,b1⟩
 have O1:=hid (o1.less C1.out.size)
 have O0:=hid (O0.out.call b1)
 have D1:=hid (C1.out.call b1)
 have C2:=hid (show Tri 29 29 26 w (w2.setCell ⟨w.heap.size+2,1,none⟩ (.slice g1 x.d.players.length c1)) (wC x p) zC (dC x.d ⟨g0,c0,g1,c1,p.d.co,p.d.coc,p.d.it,p.d.itc,p.d.bo,p.d.boc⟩) from D1.out.setr 1 _)
 have O0:=hid (O0.out.set (q:=w.heap.size+2) (by omega) 1 (.slice g1 x.d.players.length c1))
 have O1:=hid (O1.out.set (q:=w.heap.size+2) (by omega) 1 (.slice g1 x.d.players.length c1))
 obtain ⟨hc,hz,hs⟩:=D1.out.rr
 clear o1 b1
 go_wp2_with fail
 clear hc hz hs
 generalize hw2:w2.setCell ⟨w.heap.size+2,1,none⟩ (.slice g1 x.d.players.length c1)=v2 at *
 clear hw2
 refine (Gv _ _ _ v2 (Av.1 (H.out.d.below C2.out.b (Nat.le_refl _)).co) HF.out.1.2.2.1).mono ?_
 rintro e w3 ⟨g2,c2,rfl,o2,b2⟩
 have O2:=hid (o2.less C2.out.size)
 have O0:=hid (O0.out.call b2)
 have O1:=hid (O1.out.call b2)
 have D2:=hid (C2.out.call b2)
 have C3:=hid (show Tri 29 29 26 w (w3.setCell ⟨w.heap.size+2,2,none⟩ (.slice g2 x.d.coins.length c2)) (wC x p) zC (dC x.d ⟨g0,c0,g1,c1,g2,c2,p.d.it,p.d.itc,p.d.bo,p.d.boc⟩) from D2.out.setr 2 _)
 have O0:=hid (O0.out.set (q:=w.heap.size+2) (by omega) 2 (.slice g2 x.d.coins.length c2))
 have O1:=hid (O1.out.set (q:=w.heap.size+2) (by omega) 2 (.slice g2 x.d.coins.length c2))
 have O2:=hid (O2.out.set (q:=w.heap.size+2) (by omega) 2 (.slice g2 x.d.coins.length c2))
 obtain ⟨hc,hz,hs⟩:=D2.out.rr
 clear o2 b2
 go_wp2_with fail
 clear hc hz hs
 generalize hw3:w3.setCell ⟨w.heap.size+2,2,none⟩ (.slice g2 x.d.coins.length c2)=v3 at *
 clear hw3
 refine (Gv _ _ _ v3 (Av.1 (H.out.d.below C3.out.b (Nat.le_refl _)).it) HF.out.1.2.2.2.1).mono ?_
 rintro e w4 ⟨g3,c3,rfl,o3,b3⟩
 have O3:=hid (o3.less C3.out.size)
 have O0:=hid (O0.out.call b3)
 have O1:=hid (O1.out.call b3)
 have O2:=hid (O2.out.call b3)
 have D3:=hid (C3.out.call b3)
 have C4:=hid (show Tri 29 29 26 w (w4.setCell ⟨w.heap.size+2,3,none⟩ (.slice g3 x.d.items.length c3)) (wC x p) zC (dC x.d ⟨g0,c0,g1,c1,g2,c2,g3,c3,p.d.bo,p.d.boc⟩) from D3.out.setr 3 _)
 have O0:=hid (O0.out.set (q:=w.heap.size+2) (by omega) 3 (.slice g3 x.d.items.length c3))
 have O1:=hid (O1.out.set (q:=w.heap.size+2) (by omega) 3 (.slice g3 x.d.items.length c3))
 have O2:=hid (O2.out.set (q:=w.heap.size+2) (by omega) 3 (.slice g3 x.d.items.length c3))
 have O3:=hid (O3.out.set (q:=w.heap.size+2) (by omega) 3 (.slice g3 x.d.items.length c3))
 obtain ⟨hc,hz,hs⟩:=D3.out.rr
 clear o3 b3
 go_wp2_with fail
 clear hc hz hs
 generalize hw4:w4.setCell ⟨w.heap.size+2,3,none⟩ (.slice g3 x.d.items.length c3)=v4 at *
 clear hw4
 refine (Ac6 _ _ _ v4 (H.out.d.below C4.out.b (Nat.le_refl _)).bo HF.out.1.2.2.2.2).mono ?_
 rintro e w5 ⟨g4,c4,rfl,o4,b4⟩
 have O4:=hid (o4.less C4.out.size)
 have O0:=hid (O0.out.call b4)
 have O1:=hid (O1.out.call b4)
 have O2:=hid (O2.out.call b4)
 have O3:=hid (O3.out.call b4)
 have D4:=hid (C4.out.call b4)
 have C5:=hid (show Tri 29 29 26 w (w5.setCell ⟨w.heap.size+2,4,none⟩ (.slice g4 x.d.boxes.length c4)) (wC x p) zC (dC x.d ⟨g0,c0,g1,c1,g2,c2,g3,c3,g4,c4⟩) from D4.out.setr 4 _)
 have O0:=hid (O0.out.set (q:=w.heap.size+2) (by omega) 4 (.slice g4 x.d.boxes.length c4))
 have O1:=hid (O1.out.set (q:=w.heap.size+2) (by omega) 4 (.slice g4 x.d.boxes.length c4))
 have O2:=hid (O2.out.set (q:=w.heap.size+2) (by omega) 4 (.slice g4 x.d.boxes.length c4))
 have O3:=hid (O3.out.set (q:=w.heap.size+2) (by omega) 4 (.slice g4 x.d.boxes.length c4))
 have O4:=hid (O4.out.set (q:=w.heap.size+2) (by omega) 4 (.slice g4 x.d.boxes.length c4))
 obtain ⟨hc,hz,hs⟩:=D4.out.rr
 have hca:=D4.out.a.cell
 have hla:=D4.out.a.lt
 clear o4 b4
 go_wp2_with fail
 clear hc hz hs hca hla
 generalize hw5:w5.setCell ⟨w.heap.size+2,4,none⟩ (.slice g4 x.d.boxes.length c4)=v5 at *
 clear hw5
 have C5:=hid C5.out.drew
 have O0:=hid (show OwnR _ _ _ (w.heap.size+3) v5.drew _ _ from O0.out)
 have O1:=hid (show OwnR _ _ _ (w.heap.size+3) v5.drew _ _ from O1.out)
 have O2:=hid (show OwnR _ _ _ (w.heap.size+3) v5.drew _ _ from O2.out)
 have O3:=hid (show OwnR _ _ _ (w.heap.size+3) v5.drew _ _ from O3.out)
 have O4:=hid (show OwnR _ _ _ (w.heap.size+3) v5.drew _ _ from O4.out)
 refine tkS (S:=(fun w'=>Below w.heap.size w w'∧w.heap.size+2<w'.heap.size∧(∀i,w'.cell? ⟨w.heap.size,i,none⟩=((wC x p)[i]?:Option Value))∧(∀i,w'.cell? ⟨w.heap.size+2,i,none⟩=((dC x.d ⟨g0,c0,g1,c1,g2,c2,g3,c3,g4,c4⟩)[i]?:Option Value)))) (by (first|(with_reducible exact By3 C5.out)|(with_reducible exact By3 E1.out)|(with_reducible exact By3 E2.out)|(with_reducible exact By3 E3.out))) (fun hHeld=>?_)
 refine tkl [0,1,2,4,5,7,8] ?_
 iterate 7
  refine tW ?_
  try go_frame
 refine rdy1 3 (fun K hK=>?_)
 go_simp
 refine (Gv _ _ x.at_ _ (Av.1 (H.out.at_.below C5.out.b (Nat.le_refl _))) HF.out.2.1).mono ?_;rintro e w6 ⟨k1,kc1,rfl,q1,hb6⟩;have E1:=hid (C5.out.call hb6)
 try go_wp2_with fail
 refine hK.out _ _ (by (with_reducible exact By3 E1.out)) (fun hHeld=>?_)
 clear hK K
 try go_frame
 refine rdy1 6 (fun K hK=>?_)
 go_simp
 refine (Gv _ _ x.coins _ (Av.1 (H.out.co.below E1.out.b (Nat.le_refl _))) HF.out.2.2.1).mono ?_;rintro e w7 ⟨k2,kc2,rfl,q2,hb7⟩;have E2:=hid (E1.out.call hb7)
 try go_wp2_with fail
 refine hK.out _ _ (by (with_reducible exact By3 E2.out)) (fun hHeld=>?_)
 clear hK K
 try go_frame
 refine rdy1 9 (fun K hK=>?_)
 go_simp
 refine (Ze _ _ x.wher _ (H.out.wh.below E2.out.b (Nat.le_refl _)) HF.out.2.2.2).mono ?_;rintro e w8 ⟨k3,kc3,rfl,q3,hb8⟩;have E3:=hid (E2.out.call hb8)
 try go_wp2_with fail
 refine hK.out _ _ (by (with_reducible exact By3 E3.out)) (fun hHeld=>?_)
 clear hK K
 try go_frame
 have O:=hid (Al8 (p:=⟨⟨g0,c0,g1,c1,g2,c2,g3,c3,g4,c4⟩,k1,kc1,k2,kc2,k3,kc3⟩) (x:=x) (show w.heap.size+3≤v5.drew.heap.size from C5.out.size) ⟨O0.out,O1.out,O2.out,O3.out,O4.out⟩ q1 hb6 q2 hb7 q3 hb8)
 have hc2:∀i,World.cell? _ ⟨w.heap.size+1,i,none⟩=_:=E3.out.m.cell
 have hz2:∀i,World.frozen? _ ⟨w.heap.size+1,i,none⟩=false:=E3.out.m.frozen
 have hs2:=E3.out.m.lt
 clear q1 q2 q3 hb6 hb7 hb8
 refine tkl [10] (tW ?_)
 try go_frame
 refine rdy1 11 (fun K hK=>?_)
 go_simp
 try go_wp2_with fail
 refine hK.out _ _ (by (first|(refine Fc9 (t:=29) (u:=29) (s:=26) (w:=w) ?_;(iterate 11 with_reducible refine TriM.setm ?_ _ _);with_reducible exact TriM.mk E3.out))) (fun hHeld=>?_)
 clear hK K
 try go_frame
 refine tkD ?_
 go_wp2_with fail
 refine bodyPost_ret (v:=.agg (wC x ⟨⟨g0,c0,g1,c1,g2,c2,g3,c3,g4,c4⟩,k1,kc1,k2,kc2,k3,kc3⟩)) (by simp [results,results90,go_sem,hc2]) rfl ⟨⟨⟨g0,c0,g1,c1,g2,c2,g3,c3,g4,c4⟩,k1,kc1,k2,kc2,k3,kc3⟩,rfl,?_,?_⟩
 ·refine Ao.less (n:=w.heap.size+3) ?_ (by omega)
  iterate 11 refine Ao.set (q:=w.heap.size+1) ?_ (by omega) _ _
  exact O.out
 ·iterate 11 refine bs_1 ?_
  exact E3.out.b
def Jp (x:Wd) (l:List Nat) (y:Pl):Wd:=⟨x.d,x.at_,x.coins,setL x.wher l y⟩
theorem Ia (x:Wd) (l:List Nat) (y:Pl):Am x (Jp x l y):=⟨rfl,rfl,rfl,rfl,rfl,rfl,rfl,rfl,rfl,rfl,by simp [Jp]⟩
theorem Bo9 (x:Wd) {l:List Nat} {j:Nat} (hj:j<l.length) (y:Pl):Jp x (l.take (j+1)) y=putW (Jp x (l.take j) y) l[j] y:=by
 unfold Jp putW
 rw [List.take_succ_eq_append_getElem hj,Al9]
theorem Vm {x:Wd} (h:FewW x) (l:List Nat) (y:Pl):FewW (Jp x l y):=⟨h.1,h.2.1,h.2.2.1,by simpa [Jp] using h.2.2.2⟩
theorem Fi7 {x z:Wd} (hs:Am x z) (p:Wp) (k:Nat) (y:Pl) (w:World) (h:Ab w p z) (hf:FewW z) (hk:k<z.wher.length):Calls prog 107 #[.agg (wC x p),.int .i64 (k:Int),.agg #[.int .i64 y.kind,.int .i64 y.id]] w fun e w'=>∃q:Wp,e=.returned (.agg (wC x q))∧Ao w.heap.size w' q (putW z k y)∧Below w.heap.size w w':=by
 have:=Bm2 z p k y w h hf hk
 simp only [hs.val] at this
 exact this
def Pe (B:Nat) (W:World) (p q:Wp) (x z:Wd):Prop:=(q=p∧z=x)∨Ao B W q z
theorem Pe.world {w W:World} {B:Nat} {p q:Wp} {x z:Wd} (h:Pe B W p q x z) (hw:Ab w p x) (hb:Below w.heap.size w W):Ab W q z:=by
 rcases h with ⟨rfl,rfl⟩|h
 ·exact hw.below hb (Nat.le_refl _)
 ·exact h.world
theorem Pe.call {B:Nat} {W W':World} {p q:Wp} {x z:Wd} (h:Pe B W p q x z) (hb:Below W.heap.size W W'):Pe B W' p q x z:=h.imp id (fun h=>h.call hb)
theorem Pe.set {B:Nat} {W:World} {p q:Wp} {x z:Wd} (h:Pe B W p q x z) {b:Nat} (hb:b<B) (i:Nat) (u:Value):Pe B (W.setCell ⟨b,i,none⟩ u) p q x z:=h.imp id (fun h=>h.set hb i u)
theorem Fq {W:World} {g:Nat} {t:TypeId} {c0 c1 c2 c3 c4 c5 c6 c7 c8 c9 c10 u0 u1 u2 u3 u4 u5 u6 u7 u8 u9 u10:Value} (h:Blk W g t #[c0,c1,c2,c3,c4,c5,c6,c7,c8,c9,c10]) :
 Blk (((((((((((W.setCell ⟨g,0,none⟩ u0).setCell ⟨g,1,none⟩ u1).setCell ⟨g,2,none⟩ u2).setCell ⟨g,3,none⟩ u3).setCell ⟨g,4,none⟩ u4).setCell ⟨g,5,none⟩ u5).setCell ⟨g,6,none⟩ u6).setCell ⟨g,7,none⟩ u7).setCell ⟨g,8,none⟩ u8).setCell ⟨g,9,none⟩ u9).setCell ⟨g,10,none⟩ u10) g t #[u0,u1,u2,u3,u4,u5,u6,u7,u8,u9,u10]:=by
 have:=((((((((((h.set_ 0 u0).set_ 1 u1).set_ 2 u2).set_ 3 u3).set_ 4 u4).set_ 5 u5).set_ 6 u6).set_ 7 u7).set_ 8 u8).set_ 9 u9).set_ 10 u10
 simpa using this
theorem Ci3 (x:Wd) (p:Wp) (l:List Nat) (a:Option Addr) (c:Nat) (y:Pl) (w:World) (n:Nat) (hn:n≤w.heap.size) (h:Ao n w p x) (hf:FewW x) (hi:Ae w a (l.map fun (k:Nat)=>(k:Int))) (hl:∀k∈l,k<x.wher.length) :
 Calls prog 91 #[.agg (wC x p),.slice a l.length c,.agg #[.int .i64 y.kind,.int .i64 y.id]] w fun e w'=>∃q:Wp,e=.returned (.agg (wC x q))∧Ao n w' q (Jp x l y)∧Below w.heap.size w w':=by
 have hm:l.length≤9223372036854775807:=by simpa using hi.len
 have C0:=hid (Tri.start 29 48 29 w (wC x p) #[.int .i64 y.kind,.int .i64 y.id] zC)
 have H:=hid h
 have HF:=hid hf
 have HI:=hid hi
 have HL:=hid hl
 have HN:=hid hn
 clear h hf hi hl hn
 have hWC:=@wC.eq_1
 have hZC:=@zC.eq_1
 have hDC:=@dC.eq_1
 go_enter func91,ntmps91
 go_wp2_with fail
 go_loopw [8,11] (fun _ i wr=>∃(j:Nat) (q:Wp),j≤l.length∧i=.int .i64 j∧Tri 29 48 29 w wr (wC x q) #[.int .i64 y.kind,.int .i64 y.id] zC∧Pe (w.heap.size+3) wr p q x (Jp x (l.take j) y)) (fun _ i _=>l.length-(intOf i).toNat)
 case atStart=>exact ⟨0,p,Nat.zero_le _,rfl,C0.out,.inl ⟨rfl,by simp [Jp]⟩⟩
 case round =>
  obtain ⟨j,⟨qd,qa,qac,qk,qkc,qw,qwc⟩,hj,rfl,hT,hB⟩:=hrel
  have HT:=hid hT
  have HB:=hid hB
  clear hB
  by_cases hlt:j<l.length
  ·have HM:=hid (Bo9 x hlt y)
   obtain ⟨b,o,rfl,hb,hc⟩:=HI.out.at_ (show j<(l.map fun (k:Nat)=>(k:Int)).length by simpa using hlt)
   have c1:=hc j (by simpa using hlt)
   simp only [List.getElem_map] at c1
   have hk:=hid (HL.out l[j] (List.getElem_mem hlt))
   clear hc hb
   generalize l[j]=k at *
   have c1:=Ad c1 hT.b
   have hca:=hT.a.cell
   have hla:=hT.a.lt
   have hcm:=hT.m.cell
   have hlm:=hT.m.lt
   clear hT
   go_wp2_with fail
   refine (Fi7 (Ia x (l.take j) y) ⟨qd,qa,qac,qk,qkc,qw,qwc⟩ k y wr (HB.out.world H.out.world HT.out.b) (Vm HF.out _ _) (by rw [(Ia x (l.take j) y).w];exact hk.out)).mono ?_
   rintro e w2 ⟨⟨rd,ra,rac,rk,rkc,rw_,rwc⟩,rfl,ho,b2⟩
   have C2:=hid (HT.out.call b2)
   have HO:=hid (ho.less HT.out.size)
   clear ho b2 hca hla hcm hlm c1
   obtain ⟨hca,hza,hla⟩:=C2.out.a.all
   go_wp2_with fail
   go_roundw
   case rel =>
    refine ⟨j+1,⟨rd,ra,rac,rk,rkc,rw_,rwc⟩,by omega,by go_num,⟨Fq C2.out.a,?_,?_,?_⟩,.inr ?_⟩
    ·iterate 11 with_reducible refine Blk.far ?_ (by show w.heap.size+1≠w.heap.size;omega) _
     exact C2.out.m
    ·iterate 11 with_reducible refine Blk.far ?_ (by show w.heap.size+2≠w.heap.size;omega) _
     exact C2.out.r
    ·iterate 11 with_reducible refine Below.setCell ?_ (by show w.heap.size≤w.heap.size;omega) _
     exact C2.out.b
    ·rw [HM.out]
     iterate 11 with_reducible refine Ao.set (q:=w.heap.size) ?_ (by omega) _ _
     exact HO.out
   case measure=>simp [intOf];omega
  ·have hke:j=l.length:=by omega
   subst hke
   have HE:=hid (show Jp x (l.take l.length) y=Jp x l y by rw [List.take_length])
   have hca:=hT.a.cell
   have hla:=hT.a.lt
   have hcr:∀i,World.cell? _ ⟨w.heap.size+1+1,i,none⟩=_:=hT.r.cell
   have hzr:∀i,World.frozen? _ ⟨w.heap.size+1+1,i,none⟩=false:=hT.r.frozen
   have hlr:w.heap.size+1+1<_:=hT.r.lt
   clear hT
   go_wp2_with fail
   refine bodyPost_ret (v:=.agg (wC x ⟨qd,qa,qac,qk,qkc,qw,qwc⟩)) (by simp [results,results91,go_sem,hcr]) rfl ⟨⟨qd,qa,qac,qk,qkc,qw,qwc⟩,rfl,?_,?_⟩
   ·rcases HB.out with ⟨e1,e2⟩|ho
    ·rw [←HE.out,e2,e1]
     refine H.out.call ?_
     iterate 11 with_reducible refine Below.setCell ?_ (by show w.heap.size≤w.heap.size+2;omega) _
     exact HT.out.b
    ·rw [←HE.out]
     refine Ao.less (n:=w.heap.size+3) ?_ (by have:=HN.out;omega)
     iterate 11 with_reducible refine Ao.set (q:=w.heap.size+2) ?_ (by omega) _ _
     exact ho
   ·iterate 11 with_reducible refine Below.setCell ?_ (by show w.heap.size≤w.heap.size+2;omega) _
    exact HT.out.b
end
section
theorem Ww {t s:TypeId} {w v:World} {cs z:Array Value} (h:Two t s w v cs z):Below w.heap.size w v∧(∀i,v.cell? ⟨w.heap.size,i,none⟩=cs[i]?)∧(∀i,v.cell? ⟨w.heap.size+1,i,none⟩=z[i]?):=⟨h.b,h.a.cell,h.r.cell⟩
theorem Pn {a b:Int} (h:b=a):Ending.returned (.int .i64 a)=.returned (.int .i64 b):=by rw [h]
theorem Et9 {α:Type} (f:α→Bool) (a b:List α):(a++b).all f=(a.all f&&b.all f):=List.all_append
theorem Ag6 (x:Wd) (pd:Dp) (pa pk pw:Option Addr) (pac pkc pwc:Nat) (i:Nat) (kd di it bx who pay fee:Int) (gl wl:List Int) (ga wa:Option Addr) (gc wc:Nat) (w:World) (hx:Ai x=true) (h:Ae w pa x.at_) (hi:i<x.at_.length) (hg:Ae w ga gl) (hw:Ae w wa wl) :
 Calls prog 87 #[.agg (wC x ⟨pd,pa,pac,pk,pkc,pw,pwc⟩),.int .i64 (i:Int),.agg #[.int .i64 kd,.int .i64 di,.int .i64 it,.int .i64 bx,.int .i64 who,.slice ga gl.length gc,.int .i64 pay,.slice wa wl.length wc,.int .i64 fee]] w fun e w'=>e=.returned (.int .i64 (Tj x i who gl wl))∧Below w.heap.size w w':=by
 have C0:=hid (Two.start 29 31 w (wC x ⟨pd,pa,pac,pk,pkc,pw,pwc⟩) #[.int .i64 kd,.int .i64 di,.int .i64 it,.int .i64 bx,.int .i64 who,.slice ga gl.length gc,.int .i64 pay,.slice wa wl.length wc,.int .i64 fee])
 have H:=hid h
 have HX:=hid hx
 have HG:=hid hg
 have HW:=hid hw
 have HC:=hid ((Aj hx).2.2.1)
 have HI:=hid (show inB (i:Int) x.at_.length=true by simp [inB,hi])
 obtain ⟨E,hE⟩:∃E,E=Tj x i who gl wl:=⟨_,rfl⟩
 have HE:=hid (show E=if inB who x.at_.length=false∨(gl.all (fun k=>inB k x.wher.length)&&wl.all (fun k=>inB k x.wher.length))=false then 3 else if who=i then 12 else if Ah x i=Ah x who.toNat then 0 else 5 by rw [hE];unfold Tj;rw [Et9])
 rw [←hE]
 clear h hx hg hw hE
 have hWC:=@wC.eq_1
 go_enter func87,ntmps87
 go_wp2_with fail
 refine (Ao2 x ⟨pd,pa,pac,pk,pkc,pw,pwc⟩ who _ HC.out).mono ?_
 rintro e w1 ⟨rfl,b1⟩
 have C1:=hid (C0.out.call b1)
 have hca:=C1.out.a.cell
 have hla:=C1.out.a.lt
 have hcm:∀i,World.cell? _ ⟨w.heap.size+1,i,none⟩=_:=C1.out.r.cell
 have hlm:=C1.out.r.lt
 clear b1
 cases hq:inB who x.at_.length
 ·have H3:=hid (show E=3 by rw [HE.out,if_pos (.inl hq)])
  clear hq
  go_wp2_with fail
  go_ret
  exact ⟨Pn H3.out,C1.out.b⟩
 have HQ:=hid hq
 clear hq
 go_wp2_with fail
 refine (Ao9 x ⟨pd,pa,pac,pk,pkc,pw,pwc⟩ gl ga gc _ (HG.out.below C1.out.b (Nat.le_refl _))).mono ?_
 rintro e w2 ⟨rfl,b2⟩
 have C2:=hid (C1.out.call b2)
 clear b2 hca hla hcm hlm
 have hca:=C2.out.a.cell
 have hla:=C2.out.a.lt
 have hcm:∀i,World.cell? _ ⟨w.heap.size+1,i,none⟩=_:=C2.out.r.cell
 have hlm:=C2.out.r.lt
 cases hgl:gl.all (fun k=>inB k x.wher.length)
 ·have H3:=hid (show E=3 by rw [HE.out,if_pos (.inr (by rw [hgl];rfl))])
  clear hgl
  go_wp2_with fail
  go_ret
  exact ⟨Pn H3.out,C2.out.b⟩
 have HGL:=hid hgl
 clear hgl
 go_wp2_with fail
 refine (Ao9 x ⟨pd,pa,pac,pk,pkc,pw,pwc⟩ wl wa wc _ (HW.out.below C2.out.b (Nat.le_refl _))).mono ?_
 rintro e w3 ⟨rfl,b3⟩
 have C3:=hid (C2.out.call b3)
 clear b3 hca hla hcm hlm
 have hca:=C3.out.a.cell
 have hla:=C3.out.a.lt
 have hcm:∀i,World.cell? _ ⟨w.heap.size+1,i,none⟩=_:=C3.out.r.cell
 have hlm:=C3.out.r.lt
 cases hwl:wl.all (fun k=>inB k x.wher.length)
 ·have H3:=hid (show E=3 by rw [HE.out,if_pos (.inr (by rw [hwl,HGL.out];rfl))])
  clear hwl
  go_wp2_with fail
  go_ret
  exact ⟨Pn H3.out,C3.out.b⟩
 have HN3:=hid (show ¬(inB who x.at_.length=false∨(gl.all (fun k=>inB k x.wher.length)&&wl.all (fun k=>inB k x.wher.length))=false) by rw [HQ.out,HGL.out,hwl];decide)
 clear hwl
 obtain ⟨q,rfl,hql⟩:∃q:Nat,who=(q:Int)∧q<x.at_.length:=⟨who.toNat,by have:=(Bi _ _).1 HQ.out;omega,by have:=(Bi _ _).1 HQ.out;omega⟩
 by_cases hs:q=i
 ·have H3:=hid (show E=12 by rw [HE.out,if_neg HN3.out,if_pos (by omega)])
  subst hs
  go_wp2_with fail
  go_ret
  exact ⟨Pn H3.out,C3.out.b⟩
 have hs2:((q:Int)==(i:Int))=false:=by simp;omega
 have HE2:=hid (show E=if Ah x i=Ah x q then 0 else 5 by rw [HE.out,if_neg HN3.out,if_neg (by omega),Int.toNat_natCast])
 obtain ⟨ab,ao,rfl,hab,hat⟩:=H.out.at_ hi
 have c1:=hat i hi
 have c2:=hat q hql
 rw [(Bn HX.out hi).1] at c1
 rw [(Bn HX.out hql).1] at c2
 have c1:=Ad c1 C3.out.b
 have c2:=Ad c2 C3.out.b
 have qi:¬(x.at_.length:Int)≤(i:Int):=by omega
 have qi2:(x.at_.length≤i)=False:=by simp;omega
 have qq:¬(x.at_.length:Int)≤(q:Int):=by omega
 have qq2:(x.at_.length≤q)=False:=by simp;omega
 clear hat hab hs
 generalize Ah x i=r1 at *
 generalize Ah x q=r2 at *
 go_wp2_with fail
 refine tkS (S:=(fun w'=>Below w.heap.size w w'∧(∀i,w'.cell? ⟨w.heap.size,i,none⟩=((wC x ⟨pd,some ⟨ab,ao,none⟩,pac,pk,pkc,pw,pwc⟩)[i]?:Option Value))∧(∀j,w'.cell? ⟨w.heap.size+1,j,none⟩=(#[.int .i64 kd,.int .i64 di,.int .i64 it,.int .i64 bx,.int .i64 (q:Int),.slice ga gl.length gc,.int .i64 pay,.slice wa wl.length wc,.int .i64 fee][j]?:Option Value))∧w'.cell? ⟨ab,ao+i,none⟩=some (.int .i64 (r1:Int))∧w'.cell? ⟨ab,ao+q,none⟩=some (.int .i64 (r2:Int)))) (by (first|(exact ⟨C3.out.drew.b,C3.out.drew.a.cell,C3.out.drew.r.cell,c1,c2⟩))) (fun hHeld=>?_)
 refine tkl [0,1] ?_
 iterate 2
  refine tW ?_
  try go_frame
 have K1:=hid hHeld.2.2.2
 refine rdy1 2 (fun K hK=>?_)
 go_simp
 refine (Ao2 x ⟨pd,some ⟨ab,ao,none⟩,pac,pk,pkc,pw,pwc⟩ (i:Int) _ HC.out).mono ?_;rintro e w4 ⟨rfl,hb4⟩;rw [HI.out];have C4:=hid (C3.out.drew.call hb4)
 try go_wp2_with fail
 refine hK.out _ _ (by (first|(with_reducible exact ⟨C4.out.b,C4.out.a.cell,C4.out.r.cell,Ad K1.out.1 hb4,Ad K1.out.2 hb4⟩))) (fun hHeld=>?_)
 clear hK K
 try go_frame
 clear hca hla hcm hlm
 refine tkl [3,4,5,6,7,8,9,10,11,12,13,14,15,16,17] ?_
 iterate 15
  refine tW ?_
  try go_frame
 refine tkD ?_
 have HB:=hid hHeld.1
 clear hHeld
 by_cases hr:r1=r2
 ·have H3:=hid (show E=0 by rw [HE2.out,if_pos hr])
  subst hr
  go_wp2_with fail
  go_ret
  exact ⟨Pn H3.out,HB.out⟩
 ·have H3:=hid (show E=5 by rw [HE2.out,if_neg hr])
  have hr2:((r2:Int) != (r1:Int))=true:=by simp;omega
  go_wp2_with fail
  go_ret
  exact ⟨Pn H3.out,HB.out⟩
end
section
theorem Cn3 (gs ws:List Nat) (ga wa:Option Addr) (gc wc:Nat) (n:Nat) (b:Nat) (w:World) (hB:Blk w b 23 #[.slice ga gs.length gc,.slice wa ws.length wc]) (hg:Ae w ga (gs.map fun (k:Nat)=>(k:Int))) (hw:Ae w wa (ws.map fun (k:Nat)=>(k:Int))) (hgl:gs.length≤16) (hwl:ws.length≤16) (hgi:∀k∈gs,k<16) (hwi:∀k∈ws,k<16) :
 Calls prog 122 #[.slice (some ⟨b,0,none⟩) 2 n] w fun e w'=>e=.returned (.bool (!decide (gs++ws).Nodup))∧Below w.heap.size w w':=by
 have hf:([gs.map (fun (k:Nat)=>(k:Int)),ws.map (fun (k:Nat)=>(k:Int))]:List (List Int)).flatten=(gs++ws).map (fun (k:Nat)=>(k:Int)):=by simp
 have h:=Cn4 [gs.map (fun (k:Nat)=>(k:Int)),ws.map (fun (k:Nat)=>(k:Int))] b n w hB.lt (fun r hr=>by
  obtain rfl|rfl:r=0∨r=1:=by simp at hr;omega
  ·exact ⟨ga,gc,by rw [hB.cell];simp,hg⟩
  ·exact ⟨wa,wc,by rw [hB.cell];simp,hw⟩) (by simp) (by rw [hf];simp;omega) (fun y hy=>by
  rw [hf] at hy
  obtain ⟨k,hk,rfl⟩:=List.mem_map.1 hy
  rcases List.mem_append.1 hk with hk|hk
  ·have:=hgi k hk;omega
  ·have:=hwi k hk;omega)
 rw [hf,show decide ((gs++ws).map (fun (k:Nat)=>(k:Int))).Nodup=decide (gs++ws).Nodup from decide_eq_decide.2 (Yw _)] at h
 exact h
theorem Cp8 (x:Wd) (p:Wp) (i:Nat) (w:World) (hx:Ai x=true) (h:Au w p.wh x.wher):Calls prog 106 #[.agg (wC x p),.agg #[.int .i64 1,.int .i64 (i:Int)]] w fun e w'=>e=.returned (.int .i64 (roomI x ⟨1,(i:Int)⟩))∧Below w.heap.size w w' :=
 Lp x p 1 i (by decide) (Yh hx (by decide)) w h (by have:=(Aj hx).2.2.2.1;omega)
theorem Az6 (x:Wd) (p:Wp) (i q:Nat) (kd di it bx pay fee:Int) (gs ws:List Nat) (ga wa:Option Addr) (gc wc:Nat) (w:World) (hx:Ai x=true) (h:Ab w p x) (hg:Ae w ga (gs.map fun (k:Nat)=>(k:Int))) (hw:Ae w wa (ws.map fun (k:Nat)=>(k:Int))) (hgi:∀k∈gs,k<x.wher.length) (hwi:∀k∈ws,k<x.wher.length) (hgl:gs.length≤16) (hwl:ws.length≤16) :
 Calls prog 88 #[.agg (wC x p),.int .i64 (i:Int),.agg #[.int .i64 kd,.int .i64 di,.int .i64 it,.int .i64 bx,.int .i64 (q:Int),.slice ga gs.length gc,.int .i64 pay,.slice wa ws.length wc,.int .i64 fee]] w fun e w'=>e=.returned (.int .i64 (Xe x i q gs ws))∧Below w.heap.size w w':=by
 have C0:=hid (Two.start 29 31 w (wC x p) #[.int .i64 kd,.int .i64 di,.int .i64 it,.int .i64 bx,.int .i64 (q:Int),.slice ga gs.length gc,.int .i64 pay,.slice wa ws.length wc,.int .i64 fee])
 have H:=hid h
 have HX:=hid hx
 have HG:=hid hg
 have HW:=hid hw
 have HGI:=hid hgi
 have HWI:=hid hwi
 have HL:=hid ((Aj hx).2.2.2.1)
 obtain ⟨E,hE⟩:∃E,E=Xe x i q gs ws:=⟨_,rfl⟩
 have HE:=hid (show E=if ¬(gs++ws).Nodup then 13 else if (hasB x i gs&&hasB x q ws)=false then 5 else if roomI x ⟨1,(i:Int)⟩<(ws.length:Int)-gs.length∨roomI x ⟨1,(q:Int)⟩ < -((ws.length:Int)-gs.length) then 9 else 0 from hE)
 rw [←hE]
 clear h hx hg hw hgi hwi hE
 have hWC:=@wC.eq_1
 go_enter func88,ntmps88
 go_wp2_with fail
 have D0:=hid (Blk.newn (((w.alloc (.cells (wC x p) 29)).alloc (.cells #[.int .i64 kd,.int .i64 di,.int .i64 it,.int .i64 bx,.int .i64 (q:Int),.slice ga gs.length gc,.int .i64 pay,.slice wa ws.length wc,.int .i64 fee] 31))) 23 #[.slice ga gs.length gc,.slice wa ws.length wc] (n:=w.heap.size+1+1) (by simp))
 have C1:=hid (C0.out.alloc (.cells #[.slice ga gs.length gc,.slice wa ws.length wc] 23))
 refine (Cn3 gs ws ga wa gc wc 2 (w.heap.size+1+1) _ D0.out (HG.out.below C1.out.b (Nat.le_refl _)) (HW.out.below C1.out.b (Nat.le_refl _)) hgl hwl (fun k hk=>by have:=HGI.out k hk;have:=HL.out;omega) (fun k hk=>by have:=HWI.out k hk;have:=HL.out;omega)).mono ?_
 rintro e w1 ⟨rfl,b1⟩
 have C2:=hid (C1.out.call b1)
 clear b1 C0 C1 D0
 by_cases hnd:(gs++ws).Nodup
 case neg =>
  have H3:=hid (show E=13 by rw [HE.out,if_pos hnd])
  rw [show (!decide (gs++ws).Nodup)=true by simpa using hnd]
  clear hnd
  go_wp2_with fail
  go_ret
  exact ⟨Pn H3.out,C2.out.b⟩
 have HND:=hid hnd
 rw [show (!decide (gs++ws).Nodup)=false by simpa using hnd]
 have HE2:=hid (show E=if (hasB x i gs&&hasB x q ws)=false then 5 else if roomI x ⟨1,(i:Int)⟩<(ws.length:Int)-gs.length∨roomI x ⟨1,(q:Int)⟩ < -((ws.length:Int)-gs.length) then 9 else 0 by rw [HE.out,if_neg (fun h=>h hnd)])
 clear hnd HE
 have hca:=C2.out.a.cell
 have hla:=C2.out.a.lt
 have hcm:∀i,World.cell? _ ⟨w.heap.size+1,i,none⟩=_:=C2.out.r.cell
 have hlm:=C2.out.r.lt
 go_wp2_with fail
 refine tkS (S:=(fun w'=>Below w.heap.size w w'∧(∀i,w'.cell? ⟨w.heap.size,i,none⟩=((wC x p)[i]?:Option Value))∧(∀j,w'.cell? ⟨w.heap.size+1,j,none⟩=(#[.int .i64 kd,.int .i64 di,.int .i64 it,.int .i64 bx,.int .i64 (q:Int),.slice ga gs.length gc,.int .i64 pay,.slice wa ws.length wc,.int .i64 fee][j]?:Option Value)))) (by (first|(with_reducible exact Ww C2.out.drew))) (fun hHeld=>?_)
 clear hca hla hcm hlm
 refine tkl [0,1,2,3] ?_
 iterate 4
  refine tW ?_
  try go_frame
 refine rdy1 4 (fun K hK=>?_)
 go_simp
 refine (Jn i _).mono ?_;rintro e w3 ⟨rfl,hb3⟩;have C3:=hid (C2.out.drew.call hb3);clear hb3
 try go_wp2_with fail
 refine hK.out _ _ (by (first|(with_reducible exact Ww C3.out))) (fun hHeld=>?_)
 clear hK K
 try go_frame
 refine rdy1 5 (fun K hK=>?_)
 go_simp
 refine (Bw8 x p gs ga gc i _ (H.out.wh.below C3.out.b (Nat.le_refl _)) (HG.out.below C3.out.b (Nat.le_refl _)) HGI.out).mono ?_;rintro e w4 ⟨rfl,hb4⟩;have C4:=hid (C3.out.call hb4);clear hb4
 try go_wp2_with fail
 refine hK.out _ _ (by (first|(with_reducible exact Ww C4.out))) (fun hHeld=>?_)
 clear hK K
 try go_frame
 refine tkl [6,7] ?_
 iterate 2
  refine tW ?_
  try go_frame
 cases hgB:hasB x i gs
 ·have H3:=hid (show E=5 by rw [HE2.out,if_pos (by rw [hgB];rfl)])
  clear hgB
  refine tkl [8,9,10,11,12,13,14,15] ?_
  iterate 8
   refine tN ?_
   try go_frame
  refine tkl [16] (tW ?_)
  try go_frame
  refine tkD ?_
  clear hHeld
  go_wp2_with fail
  go_ret
  exact ⟨Pn H3.out,C4.out.b⟩
 have HGB:=hid hgB
 clear hgB
 refine tkl [8,9,10,11,12] ?_
 iterate 5
  refine tW ?_
  try go_frame
 refine rdy1 13 (fun K hK=>?_)
 go_simp
 refine (Jn q _).mono ?_;rintro e w5 ⟨rfl,hb5⟩;have C5:=hid (C4.out.call hb5);clear hb5
 try go_wp2_with fail
 refine hK.out _ _ (by (first|(with_reducible exact Ww C5.out))) (fun hHeld=>?_)
 clear hK K
 try go_frame
 refine rdy1 14 (fun K hK=>?_)
 go_simp
 refine (Bw8 x p ws wa wc q _ (H.out.wh.below C5.out.b (Nat.le_refl _)) (HW.out.below C5.out.b (Nat.le_refl _)) HWI.out).mono ?_;rintro e w6 ⟨rfl,hb6⟩;have C6:=hid (C5.out.call hb6);clear hb6
 try go_wp2_with fail
 refine hK.out _ _ (by (first|(with_reducible exact Ww C6.out))) (fun hHeld=>?_)
 clear hK K
 try go_frame
 refine tkl [15,16] ?_
 iterate 2
  refine tW ?_
  try go_frame
 refine tkD ?_
 clear hHeld
 cases hwB:hasB x q ws
 ·have H3:=hid (show E=5 by rw [HE2.out,if_pos (by rw [hwB,HGB.out];rfl)])
  clear hwB
  go_wp2_with fail
  go_ret
  exact ⟨Pn H3.out,C6.out.b⟩
 have HE3:=hid (show E=if roomI x ⟨1,(i:Int)⟩<(ws.length:Int)-gs.length∨roomI x ⟨1,(q:Int)⟩ < -((ws.length:Int)-gs.length) then 9 else 0 by rw [HE2.out,if_neg (by rw [hwB,HGB.out];decide)])
 clear hwB HE2
 have hca:=C6.out.a.cell
 have hla:=C6.out.a.lt
 have hcm:∀i,World.cell? _ ⟨w.heap.size+1,i,none⟩=_:=C6.out.r.cell
 have hlm:=C6.out.r.lt
 have hsub:IntKind.i64.wrap ((ws.length:Int)-(gs.length:Int))=(ws.length:Int)-gs.length:=IntWalk.i64_in _ (by omega)
 have hneg:IntKind.i64.wrap (-((ws.length:Int)-(gs.length:Int)))=-((ws.length:Int)-gs.length):=IntWalk.i64_in _ (by omega)
 generalize hm:(ws.length:Int)-gs.length=m at *
 have HRI:=hid (Cp8 x p i)
 have HRQ:=hid (Cp8 x p q)
 generalize roomI x ⟨1,(i:Int)⟩=r1 at *
 generalize roomI x ⟨1,(q:Int)⟩=r2 at *
 go_wp2_with fail
 refine tkS (S:=(fun w'=>Below w.heap.size w w'∧(∀i,w'.cell? ⟨w.heap.size,i,none⟩=((wC x p)[i]?:Option Value))∧(∀j,w'.cell? ⟨w.heap.size+1,j,none⟩=(#[.int .i64 kd,.int .i64 di,.int .i64 it,.int .i64 bx,.int .i64 (q:Int),.slice ga gs.length gc,.int .i64 pay,.slice wa ws.length wc,.int .i64 fee][j]?:Option Value)))) (by (first|(with_reducible exact Ww C6.out.drew))) (fun hHeld=>?_)
 clear hca hla hcm hlm
 refine tkl [0,1,4] ?_
 iterate 3
  refine tW ?_
  try go_frame
 refine rdy1 2 (fun K hK=>?_)
 go_simp
 refine (Jn i _).mono ?_;rintro e w7 ⟨rfl,hb7⟩;have C7:=hid (C6.out.drew.call hb7);clear hb7
 try go_wp2_with fail
 refine hK.out _ _ (by (first|(with_reducible exact Ww C7.out))) (fun hHeld=>?_)
 clear hK K
 try go_frame
 refine rdy1 3 (fun K hK=>?_)
 go_simp
 refine (HRI.out _ HX.out (H.out.wh.below C7.out.b (Nat.le_refl _))).mono ?_;rintro e w8 ⟨rfl,hb8⟩;have C8:=hid (C7.out.call hb8);clear hb8
 try go_wp2_with fail
 refine hK.out _ _ (by (first|(with_reducible exact Ww C8.out))) (fun hHeld=>?_)
 clear hK K
 try go_frame
 by_cases h1:r1<m
 ·have H3:=hid (show E=9 by rw [HE3.out,if_pos (.inl h1)])
  refine tkl [5,6] ?_
  iterate 2
   refine tW ?_
   try go_frame
  refine tkl [7,8,9,10,11,12,13,14] ?_
  iterate 8
   refine tN ?_
   try go_frame
  refine tkl [15] (tW ?_)
  try go_frame
  refine tkD ?_
  clear hHeld
  go_wp2_with fail
  go_ret
  exact ⟨Pn H3.out,C8.out.b⟩
 refine tkl [5,6,7,8,9,12,13] ?_
 iterate 7
  refine tW ?_
  try go_frame
 refine rdy1 10 (fun K hK=>?_)
 go_simp
 refine (Jn q _).mono ?_;rintro e w9 ⟨rfl,hb9⟩;have C9:=hid (C8.out.call hb9);clear hb9
 try go_wp2_with fail
 refine hK.out _ _ (by (first|(with_reducible exact Ww C9.out))) (fun hHeld=>?_)
 clear hK K
 try go_frame
 refine rdy1 11 (fun K hK=>?_)
 go_simp
 refine (HRQ.out _ HX.out (H.out.wh.below C9.out.b (Nat.le_refl _))).mono ?_;rintro e wA ⟨rfl,hbA⟩;have CA:=hid (C9.out.call hbA);clear hbA
 try go_wp2_with fail
 refine hK.out _ _ (by (first|(with_reducible exact Ww CA.out))) (fun hHeld=>?_)
 clear hK K
 try go_frame
 by_cases h2:r2 < -m
 ·have H3:=hid (show E=9 by rw [HE3.out,if_pos (.inr h2)])
  refine tkl [14,15] ?_
  iterate 2
   refine tW ?_
   try go_frame
  refine tkD ?_
  clear hHeld
  go_wp2_with fail
  go_ret
  exact ⟨Pn H3.out,CA.out.b⟩
 ·have H3:=hid (show E=0 by rw [HE3.out,if_neg (by omega)])
  refine tkl [14,15] ?_
  iterate 2
   refine tW ?_
   try go_frame
  refine tkD ?_
  clear hHeld
  go_wp2_with fail
  go_ret
  exact ⟨Pn H3.out,CA.out.b⟩
end
section
def Nk (N:Nat) (W W':World):Prop:=W.heap.size≤W'.heap.size∧∀b,b≠N→b<W.heap.size→W'.heap[b]?=W.heap[b]?
theorem Nk.refl (N:Nat) (W:World):Nk N W W:=⟨Nat.le_refl _,fun _ _ _=>rfl⟩
theorem Nk.set {N:Nat} {W W':World} (h:Nk N W W') (i:Nat) (u:Value):Nk N W (W'.setCell ⟨N,i,none⟩ u) :=
 ⟨by simpa [World.setCell] using h.1,fun b hb hl=>(Below.heap_setCell W' _ u b (by show b≠N;exact hb)).trans (h.2 b hb hl)⟩
theorem Nk.drew {N:Nat} {W W':World} (h:Nk N W W'):Nk N W W'.drew:=h
theorem OwnR.only {α:Type} {k:Nat} {e t:TypeId} {enc:α→List Value} {n N:Nat} {W W':World} {a:Option Addr} {xs:List α} {cs:Array Value} (h:OwnR k e enc n W a xs) (hN:Blk W N t cs) (hne:e≠t) (ho:Nk N W W'):OwnR k e enc n W' a xs:=by
 obtain ⟨hl,h⟩:=h
 refine ⟨hl,h.imp id ?_⟩
 rintro ⟨b,cs',rfl,hn,hB,hc⟩
 refine ⟨b,cs',rfl,hn,(ho.2 b (fun e1=>?_) hB.lt).trans hB,hc⟩
 subst e1
 unfold Blk at hN hB
 rw [hN] at hB
 simp only [Option.some.injEq,Obj.cells.injEq] at hB
 exact hne hB.2.1.symm
theorem Ao.only {n N:Nat} {W W':World} {p:Wp} {x:Wd} {cs:Array Value} (h:Ao n W p x) (hN:Blk W N 29 cs) (ho:Nk N W W'):Ao n W' p x:=by
 obtain ⟨m1,m2,m3,h1,h2,h3,h4,hd,hdm,ha,ham,hc,hcm,hw⟩:=h.ex
 exact ⟨m1,m2,m3,h1,h2,h3,Nat.le_trans h4 ho.1,⟨hd.ex.only hN (by decide) ho,hd.pl.only hN (by decide) ho,hd.co.only hN (by decide) ho,hd.it.only hN (by decide) ho,hd.bo.only hN (by decide) ho⟩,hdm,ha.only hN (by decide) ho,ham,hc.only hN (by decide) ho,hcm,hw.only hN (by decide) ho⟩
theorem Ao.drew_ {n:Nat} {W:World} {p:Wp} {x:Wd} (h:Ao n W p x):Ao n W.drew p x:=h.call (Af (Below.refl _ _))
theorem Tri.far {t u s:TypeId} {w v:World} {cs ds z:Array Value} (h:Tri t u s w v cs ds z) {g:Nat} (hg:w.heap.size+3≤g) (i:Nat) (y:Value):Tri t u s w (v.setCell ⟨g,i,none⟩ y) cs ds z :=
 ⟨h.a.far (by show w.heap.size≠g;omega) y,h.m.far (by show w.heap.size+1≠g;omega) y,h.r.far (by show w.heap.size+2≠g;omega) y,h.b.setCell (by show w.heap.size≤g;omega) y⟩
theorem Hl {t u s:TypeId} {w v:World} {cs ds z:Array Value} (h:Tri t u s w v cs ds z):Below w.heap.size w v∧(∀j,v.cell? ⟨w.heap.size+1,j,none⟩=(ds[j]?:Option Value)):=⟨h.b,h.m.cell⟩
def OffG (a b:Nat) (A B:Array Value) (W:World):Prop:=(∀j,W.cell? ⟨a,j,none⟩=(A[j]?:Option Value))∧(∀j,W.cell? ⟨b,j,none⟩=(B[j]?:Option Value))
theorem OffG.set {a b r:Nat} {A B:Array Value} {W:World} (ha:a≠r) (hb:b≠r) (h:OffG a b A B W) (i:Nat) (u:Value):OffG a b A B (W.setCell ⟨r,i,none⟩ u) :=
 ⟨fun j=>(World.cell?_setCell_far _ _ _ _ (by simpa using Ne.symm ha)).trans (h.1 j),fun j=>(World.cell?_setCell_far _ _ _ _ (by simpa using Ne.symm hb)).trans (h.2 j)⟩
theorem OffG.drew {a b:Nat} {A B:Array Value} {W:World} (h:OffG a b A B W):OffG a b A B W.drew:=h
def Rw (x:Wd) (i q:Nat) (a b:Int):Wd:=⟨x.d,x.at_,(x.coins.set i a).set q b,x.wher⟩
theorem Mj (x:Wd) (i q:Nat) (a b:Int):Am x (Rw x i q a b):=⟨rfl,rfl,rfl,rfl,rfl,rfl,rfl,rfl,rfl,by simp [Rw],rfl⟩
theorem Qj {x:Wd} (h:FewW x) (i q:Nat) (a b:Int):FewW (Rw x i q a b):=⟨h.1,h.2.1,by simpa [Rw] using h.2.2.1,h.2.2.2⟩
theorem Am.trans' {x y z:Wd} (s1:Am x y) (s2:Am y z):Am x z :=
 ⟨s2.ex.trans s1.ex,s2.pl.trans s1.pl,s2.co.trans s1.co,s2.it.trans s1.it,s2.bo.trans s1.bo,s2.r.trans s1.r,s2.p.trans s1.p,s2.b.trans s1.b,s2.at_.trans s1.at_,s2.c.trans s1.c,s2.w.trans s1.w⟩
theorem Am0 (x:Wd) (i q:Nat) (gs ws:List Nat) (a b:Int):Jp (Jp (Rw x i q a b) gs ⟨1,(q:Int)⟩) ws ⟨1,(i:Int)⟩=trW x i q gs ws a b:=rfl
theorem Aa9 (x:Wd) (p:Wp) (i q:Nat) (kd di it bx pay fee:Int) (gs ws:List Nat) (ga wa:Option Addr) (gc wc:Nat) (w:World) (hx:Ai x=true) (h:Ab w p x) (hi:i<x.at_.length) (hg:Ae w ga (gs.map fun (k:Nat)=>(k:Int))) (hw:Ae w wa (ws.map fun (k:Nat)=>(k:Int))) :
 Calls prog 87 #[.agg (wC x p),.int .i64 (i:Int),.agg #[.int .i64 kd,.int .i64 di,.int .i64 it,.int .i64 bx,.int .i64 (q:Int),.slice ga gs.length gc,.int .i64 pay,.slice wa ws.length wc,.int .i64 fee]] w fun e w'=>e=.returned (.int .i64 (Tj x i q (gs.map fun (k:Nat)=>(k:Int)) (ws.map fun (k:Nat)=>(k:Int))))∧Below w.heap.size w w':=by
 have h:=Ag6 x p.d p.at_ p.co p.wh p.atc p.coc p.whc i kd di it bx q pay fee (gs.map fun (k:Nat)=>(k:Int)) (ws.map fun (k:Nat)=>(k:Int)) ga wa gc wc w hx h.at_ hi hg hw
 rw [List.length_map,List.length_map] at h
 exact h
theorem Sy {x z:Wd} (hs:Am x z) (p:Wp) (l:List Nat) (a:Option Addr) (c:Nat) (i:Nat) (w:World) (n:Nat) (hn:n≤w.heap.size) (h:Ao n w p z) (hf:FewW z) (hi:Ae w a (l.map fun (k:Nat)=>(k:Int))) (hl:∀k∈l,k<z.wher.length) :
 Calls prog 91 #[.agg (wC x p),.slice a l.length c,.agg #[.int .i64 1,.int .i64 (i:Int)]] w fun e w'=>∃q:Wp,e=.returned (.agg (wC x q))∧Ao n w' q (Jp z l ⟨1,(i:Int)⟩)∧Below w.heap.size w w':=by
 have:=Ci3 z p l a c ⟨1,(i:Int)⟩ w n hn h hf hi hl
 simp only [hs.val] at this
 exact this
theorem Zm {x:Wd} (hx:Ai x=true) {i:Nat} (hi:i<x.at_.length):∃h:i<x.coins.length,x.coins[i]=Al x i∧0≤Al x i∧Al x i≤1073741824:=by
 have h:i<x.coins.length:=by rw [(Aj hx).2.2.1];exact hi
 have e:x.coins[i]=Al x i:=by simp [Al,List.getD,List.getElem?_eq_getElem h]
 refine ⟨h,e,?_⟩
 rw [←e]
 exact (Fb hx).2.1 _ (List.getElem_mem h)
end
section
theorem gen_k {A:Type} {K:A→World→Prop} {a:A} {W:World} (F:World→Prop) (hF:F W) (h:∀V,F V→K a V):K a W:=h W hF
theorem Hc1 {v:Value} {a b:Int} (h:b=a):Ending.returned (.tuple #[v,.int .i64 a])=.returned (.tuple #[v,.int .i64 b]):=by rw [h]
theorem Bi4 (x:Wd) (p:Wp) (i:Nat) (kd di it bx who pay fee:Int) (gl wl:List Int) (ga wa:Option Addr) (gc wc:Nat) (w:World) (hx:Ai x=true) (h:Ab w p x) (hi:i<x.at_.length) (hg:Ae w ga gl) (hw:Ae w wa wl) (E:Int) (hE:Tj x i who gl wl=E) (hne:¬E=0) :
 Calls prog 53 #[.agg (wC x p),.int .i64 (i:Int),.agg #[.int .i64 kd,.int .i64 di,.int .i64 it,.int .i64 bx,.int .i64 who,.slice ga gl.length gc,.int .i64 pay,.slice wa wl.length wc,.int .i64 fee]] w fun e w'=>e=.returned (.tuple #[.agg (wC x p),.int .i64 E])∧Below w.heap.size w w':=by
 have C0:=hid (Tri.start 29 31 29 w (wC x p) #[.int .i64 kd,.int .i64 di,.int .i64 it,.int .i64 bx,.int .i64 who,.slice ga gl.length gc,.int .i64 pay,.slice wa wl.length wc,.int .i64 fee] zC)
 have H:=hid h
 have HX:=hid hx
 have HG:=hid hg
 have HW:=hid hw
 have HE:=hid hE
 clear h hx hg hw hE
 have hWC:=@wC.eq_1
 have hZC:=@zC.eq_1
 go_enter func53,ntmps53
 go_wp2_with fail
 refine (Ag6 x p.d p.at_ p.co p.wh p.atc p.coc p.whc i kd di it bx who pay fee gl wl ga wa gc wc _ HX.out (H.out.below C0.out.b (Nat.le_refl _)).at_ hi (HG.out.below C0.out.b (Nat.le_refl _)) (HW.out.below C0.out.b (Nat.le_refl _))).mono ?_
 rintro e w1 ⟨rfl,b1⟩
 rw [HE.out]
 have C1:=hid (C0.out.call b1)
 clear b1
 have hne2:(E != 0)=true:=by simpa using hne
 have hca:=C1.out.a.cell
 have hla:=C1.out.a.lt
 obtain ⟨hcr,hzr,hlr⟩:=C1.out.rr
 go_wp2_with fail
 refine bodyPost_ret (v:=.tuple #[.agg (wC x p),.int .i64 E]) (by simp [results,results53,go_sem,hcr]) rfl ⟨rfl,?_⟩
 iterate 11 refine bs_2 ?_
 exact C1.out.b
section
variable (x:Wd) (pd:Dp) (pa:Option Addr) (pac kb ko pkc:Nat) (pw:Option Addr) (pwc:Nat) (i q:Nat) (kd di it bx pay fee:Int) (gs ws:List Nat) (ga wa:Option Addr) (gc wc:Nat) (w:World) (hx:Ai x=true) (h:Ab w ⟨pd,pa,pac,some ⟨kb,ko,none⟩,pkc,pw,pwc⟩ x) (hi:i<x.at_.length) (hq:q<x.at_.length)
 (hg:Ae w ga (gs.map fun (k:Nat)=>(k:Int))) (hw:Ae w wa (ws.map fun (k:Nat)=>(k:Int))) (hgi:∀k∈gs,k<x.wher.length) (hwi:∀k∈ws,k<x.wher.length) (hgl:gs.length≤16) (hwl:ws.length≤16)
 (hP:Tj x i q (gs.map fun (k:Nat)=>(k:Int)) (ws.map fun (k:Nat)=>(k:Int))=0) (E:Int) (hE:Xe x i q gs ws=E)
include hx h hi hq hg hw hgi hwi hgl hwl hP hE
variable (k1:w.cell? ⟨kb,ko+i,none⟩=some (.int .i64 (Al x i))) (k2:w.cell? ⟨kb,ko+q,none⟩=some (.int .i64 (Al x q)))
include k1 k2
theorem gtrade_rest (S:Int) (hS:Cg (Al x i) (Al x q) pay fee=S) (a b:Int) (ha:Al x i-pay+fee=a) (hb:Al x q-fee+pay=b):Calls prog 53 #[.agg (wC x ⟨pd,pa,pac,some ⟨kb,ko,none⟩,pkc,pw,pwc⟩),.int .i64 (i:Int),.agg #[.int .i64 kd,.int .i64 di,.int .i64 it,.int .i64 bx,.int .i64 (q:Int),.slice ga gs.length gc,.int .i64 pay,.slice wa ws.length wc,.int .i64 fee]] w fun e w'=>(¬E=0→e=.returned (.tuple #[.agg (wC x ⟨pd,pa,pac,some ⟨kb,ko,none⟩,pkc,pw,pwc⟩),.int .i64 E])∧Below w.heap.size w w')∧(E=0→¬S=0→e=.returned (.tuple #[.agg (wC x ⟨pd,pa,pac,some ⟨kb,ko,none⟩,pkc,pw,pwc⟩),.int .i64 S])∧Below w.heap.size w w')∧(E=0→S=0→∃p':Wp,e=.returned (.tuple #[.agg (wC x p'),.int .i64 0])∧Ao w.heap.size w' p' (trW x i q gs ws a b)∧Below w.heap.size w w'):=by
 have KA:=hid k1
 have KB:=hid k2
 have HS:=hid hS
 have HA0:=hid ha
 have HB0:=hid hb
 clear k1 k2 hS ha hb
 have C0:=hid (Tri.start 29 31 29 w (wC x ⟨pd,pa,pac,some ⟨kb,ko,none⟩,pkc,pw,pwc⟩) #[.int .i64 kd,.int .i64 di,.int .i64 it,.int .i64 bx,.int .i64 (q:Int),.slice ga gs.length gc,.int .i64 pay,.slice wa ws.length wc,.int .i64 fee] zC)
 have H:=hid h
 have HX:=hid hx
 have HG:=hid hg
 have HW:=hid hw
 have HGI:=hid hgi
 have HWI:=hid hwi
 have HGL:=hid hgl
 have HWL:=hid hwl
 have HP:=hid hP
 have HE:=hid hE
 have HQ:=hid hq
 have HI:=hid hi
 clear h hx hg hw hgi hwi hP hE hq hi hgl hwl
 have hWC:=@wC.eq_1
 have hZC:=@zC.eq_1
 go_enter func53,ntmps53
 go_wp2_with fail
 refine (Aa9 x ⟨pd,pa,pac,some ⟨kb,ko,none⟩,pkc,pw,pwc⟩ i q kd di it bx pay fee gs ws ga wa gc wc _ HX.out (H.out.below C0.out.b (Nat.le_refl _)) HI.out (HG.out.below C0.out.b (Nat.le_refl _)) (HW.out.below C0.out.b (Nat.le_refl _))).mono ?_
 rintro e w1 ⟨rfl,b1⟩
 rw [HP.out]
 have C1:=hid (C0.out.call b1)
 clear b1
 have hca:=C1.out.a.cell
 have hla:=C1.out.a.lt
 have hcm:∀i,World.cell? _ ⟨w.heap.size+1,i,none⟩=_:=C1.out.m.cell
 have hlm:=C1.out.m.lt
 go_wp2_with fail
 refine (Az6 x ⟨pd,pa,pac,some ⟨kb,ko,none⟩,pkc,pw,pwc⟩ i q kd di it bx pay fee gs ws ga wa gc wc _ HX.out (H.out.below C1.out.b (Nat.le_refl _)) (HG.out.below C1.out.b (Nat.le_refl _)) (HW.out.below C1.out.b (Nat.le_refl _)) HGI.out HWI.out HGL.out HWL.out).mono ?_
 rintro e w2 ⟨rfl,b2⟩
 rw [HE.out]
 have C2:=hid (C1.out.call b2)
 clear b2 hca hla hcm hlm C0 C1
 have hca:=C2.out.a.cell
 have hla:=C2.out.a.lt
 have hcm:∀i,World.cell? _ ⟨w.heap.size+1,i,none⟩=_:=C2.out.m.cell
 have hlm:=C2.out.m.lt
 obtain ⟨hcr,hzr,hlr⟩:=C2.out.rr
 by_cases hE0:E=0
 ·subst hE0
  have k1:=Ad KA.out C2.out.b
  have k2:=Ad KB.out C2.out.b
  obtain ⟨li,-,a0,a1⟩:=Zm HX.out HI.out
  obtain ⟨lq,-,b0,b1⟩:=Zm HX.out HQ.out
  have A0:=hid a0
  have A1:=hid a1
  have B0:=hid b0
  have B1:=hid b1
  have qi:¬(x.coins.length:Int)≤(i:Int):=by omega
  have qi2:(x.coins.length≤i)=False:=by simp;omega
  have qq:¬(x.coins.length:Int)≤(q:Int):=by omega
  have qq2:(x.coins.length≤q)=False:=by simp;omega
  have hs0:=hid (show Cg (Al x i) (Al x q) pay fee=S from HS.out)
  have LI:=hid li
  have LQ:=hid lq
  clear a0 a1 b0 b1 HS li lq KA KB
  generalize hcI:Al x i=cI at *
  generalize hcQ:Al x q=cQ at *
  have HCI:=hid hcI
  have HCQ:=hid hcQ
  clear hcI hcQ
  go_wp2_with fail
  refine tkS (S:=(fun w'=>Below w.heap.size w w'∧(∀i,w'.cell? ⟨w.heap.size,i,none⟩=((wC x ⟨pd,pa,pac,some ⟨kb,ko,none⟩,pkc,pw,pwc⟩)[i]?:Option Value))∧(∀j,w'.cell? ⟨w.heap.size+1,j,none⟩=(#[.int .i64 kd,.int .i64 di,.int .i64 it,.int .i64 bx,.int .i64 (q:Int),.slice ga gs.length gc,.int .i64 pay,.slice wa ws.length wc,.int .i64 fee][j]?:Option Value))∧w'.cell? ⟨kb,ko+i,none⟩=some (.int .i64 cI)∧w'.cell? ⟨kb,ko+q,none⟩=some (.int .i64 cQ))) (by (first|(exact ⟨C2.out.drew.b,C2.out.drew.a.cell,C2.out.drew.m.cell,k1,k2⟩))) (fun hHeld=>?_)
  clear hca hla hcm hlm hcr hzr hlr
  refine tkl [0,1,2,3,4,5,6,7,8,9,10,11,12,13,14] ?_
  iterate 15
   refine tW ?_
   try go_frame
  have K1:=hid hHeld.2.2.2
  refine rdy1 15 (fun K hK=>?_)
  go_simp
  refine (Zn cI cQ pay fee _ A0.out A1.out B0.out B1.out).mono ?_;rintro e w3 ⟨rfl,hb3⟩;rw [hs0.out];have C3:=hid (C2.out.drew.call hb3)
  try go_wp2_with fail
  refine hK.out _ _ (by (first|(with_reducible exact ⟨C3.out.b,C3.out.a.cell,C3.out.m.cell,Ad K1.out.1 hb3,Ad K1.out.2 hb3⟩))) (fun hHeld=>?_)
  clear hK K
  try go_frame
  clear hb3
  refine tkl [16,17,18,19,20,21,22] ?_
  iterate 7
   refine tW ?_
   try go_frame
  refine tkD ?_
  clear hHeld k1 k2
  have hca:=C3.out.a.cell
  have hla:=C3.out.a.lt
  have hcm:∀i,World.cell? _ ⟨w.heap.size+1,i,none⟩=_:=C3.out.m.cell
  have hlm:=C3.out.m.lt
  obtain ⟨hcr,hzr,hlr⟩:=C3.out.rr
  by_cases hS0:S=0
  ·subst hS0
   have HA:=hid (show Dx cI cQ pay fee=a by unfold Dx;rw [if_pos hs0.out];exact HA0.out)
   have HB:=hid (show Dw cI cQ pay fee=b by unfold Dw;rw [if_pos hs0.out];exact HB0.out)
   clear HA0 HB0
   go_wp2_with fail
   rw [HA.out,HB.out]
   refine (Dg4 x ⟨pd,pa,pac,some ⟨kb,ko,none⟩,pkc,pw,pwc⟩ _ (H.out.below C3.out.b (Nat.le_refl _)) (Ci HX.out)).mono ?_
   rintro e w4 ⟨⟨qd,qa,qac,qk,qkc,qw,qwc⟩,rfl,ho,b4⟩
   have C4:=hid (C3.out.call b4)
   have HO:=hid (ho.less C3.out.size)
   clear b4 ho hca hla hcm hlm hcr hzr hlr
   have hg0:∃g:Nat,qk=some ⟨g,0,none⟩∧w.heap.size+3≤g∧g<w4.heap.size:=by obtain ⟨g,e,h1,h2,-⟩:=HO.out.putCo (k:=i) LI.out;exact ⟨g,e,h1,h2⟩
   obtain ⟨g,rfl,hg3,hgN⟩:=hg0
   have HN3:=hid C4.out.size
   have D5:=hid (Blk.newn w4 29 (wC x ⟨qd,qa,qac,some ⟨g,0,none⟩,qkc,qw,qwc⟩) (n:=w4.heap.size) rfl)
   have C5:=hid (C4.out.alloc (.cells (wC x ⟨qd,qa,qac,some ⟨g,0,none⟩,qkc,qw,qwc⟩) 29))
   have O5:=hid (HO.out.alloc' (.cells (wC x ⟨qd,qa,qac,some ⟨g,0,none⟩,qkc,qw,qwc⟩) 29))
   clear C4 HO
   generalize hN:w4.heap.size=N at *
   go_wp2_with fail
   generalize w4.alloc (.cells (wC x ⟨qd,qa,qac,some ⟨g,0,none⟩,qkc,qw,qwc⟩) 29)=W5 at *
   obtain ⟨g',eg,-,hg5,cz,fz,hput⟩:=O5.out.putCo (k:=i) LI.out
   simp only [Option.some.injEq,Addr.mk.injEq] at eg
   obtain ⟨rfl,-⟩:=eg
   obtain ⟨g',eg,-,-,cz2,fz2,hput2⟩:=(hput a).putCo (k:=q) (by simpa using LQ.out)
   simp only [Option.some.injEq,Addr.mk.injEq] at eg
   obtain ⟨rfl,-⟩:=eg
   have O6:=hid (show Ao (w.heap.size+3) ((W5.setCell ⟨g,i,none⟩ (.int .i64 a)).setCell ⟨g,q,none⟩ (.int .i64 b)).drew ⟨qd,qa,qac,some ⟨g,0,none⟩,qkc,qw,qwc⟩ (Rw x i q a b) from (hput2 b).drew_)
   have n1:N≠g:=by omega
   have n2:w.heap.size+1≠g:=by omega
   have n3:g≠N:=by omega
   have C6:=hid (show Tri 29 31 29 w ((W5.setCell ⟨g,i,none⟩ (.int .i64 a)).setCell ⟨g,q,none⟩ (.int .i64 b)).drew (wC x ⟨pd,pa,pac,some ⟨kb,ko,none⟩,pkc,pw,pwc⟩) #[.int .i64 kd,.int .i64 di,.int .i64 it,.int .i64 bx,.int .i64 (q:Int),.slice ga gs.length gc,.int .i64 pay,.slice wa ws.length wc,.int .i64 fee] zC from ((C5.out.far hg3 i _).far hg3 q _).drew)
   have D6:=hid (show Blk ((W5.setCell ⟨g,i,none⟩ (.int .i64 a)).setCell ⟨g,q,none⟩ (.int .i64 b)).drew N _ (wC x ⟨qd,qa,qac,some ⟨g,0,none⟩,qkc,qw,qwc⟩) from (((D5.out.far n1 _).far n1 _).drew))
   have hl5:=hg5
   have S5:=hid (show OffG N (w.heap.size+1) (wC x ⟨qd,qa,qac,some ⟨g,0,none⟩,qkc,qw,qwc⟩) #[.int .i64 kd,.int .i64 di,.int .i64 it,.int .i64 bx,.int .i64 (q:Int),.slice ga gs.length gc,.int .i64 pay,.slice wa ws.length wc,.int .i64 fee] W5.drew from ⟨D5.out.drew.cell,C5.out.m.cell⟩)
   clear hput hput2
   refine tkS (S:=(fun w'=>(∀j,w'.cell? ⟨N,j,none⟩=((wC x ⟨qd,qa,qac,some ⟨g,0,none⟩,qkc,qw,qwc⟩)[j]?:Option Value))∧(∀j,w'.cell? ⟨w.heap.size+1,j,none⟩=(#[.int .i64 kd,.int .i64 di,.int .i64 it,.int .i64 bx,.int .i64 (q:Int),.slice ga gs.length gc,.int .i64 pay,.slice wa ws.length wc,.int .i64 fee][j]?:Option Value)))) (by (first|(exact S5.out))) (fun hHeld=>?_)
   refine tkl [0,1,2,3,4,5,6,7,8,9] ?_
   iterate 10
    refine tW ?_
    try go_frame
   refine rdy1 10 (fun K hK=>?_)
   go_simp
   try go_wp2_with fail
   refine hK.out _ _ (by (first|(refine OffG.set n1 n2 S5.out _ _))) (fun hHeld=>?_)
   clear hK K
   try go_frame
   refine tkl [11] (tW ?_)
   try go_frame
   refine rdy1 12 (fun K hK=>?_)
   go_simp
   try go_wp2_with fail
   refine hK.out _ _ (by (first|(refine OffG.set n1 n2 (OffG.set n1 n2 S5.out _ _) _ _))) (fun hHeld=>?_)
   clear hK K
   try go_frame
   refine tkD ?_
   clear hHeld
   go_wp2_with fail
   generalize ((W5.setCell ⟨g,i,none⟩ (.int .i64 a)).setCell ⟨g,q,none⟩ (.int .i64 b)).drew=W6 at *
   clear hgN hg5 hl5 fz fz2 cz cz2 n1 n2 n3 S5 D5 C5 O5
   have C6:=hid C6.out.drew
   have D6:=hid D6.out.drew
   have O6:=hid O6.out.drew_
   refine tkS (S:=(fun w'=>Below w.heap.size w w'∧(∀j,w'.cell? ⟨w.heap.size+1,j,none⟩=(#[.int .i64 kd,.int .i64 di,.int .i64 it,.int .i64 bx,.int .i64 (q:Int),.slice ga gs.length gc,.int .i64 pay,.slice wa ws.length wc,.int .i64 fee][j]?:Option Value)))) (by (first|(with_reducible exact Hl C6.out))) (fun hHeld=>?_)
   generalize W6.drew=V6 at *
   refine tkl [1,2,3,4] ?_
   iterate 4
    refine tW ?_
    try go_frame
   have hn:=D6.out.cell
   have hnl:=D6.out.lt
   refine wpAnyH_ready (rs:=[0,5]) (by kernel_rfl) (by simp) (AllReadyH.cons (by simp only [List.getElem?_toArray,List.getElem?_cons_zero];rfl) (fun K hK=>?_) (AllReadyH.cons (by simp only [List.getElem?_toArray,List.getElem?_cons_succ,List.getElem?_cons_zero];rfl) (fun K hK=>?_) AllReadyH.nil))
   ·
    go_simp
    try go_wp2_with fail
    refine hK.out _ _ (by (first|(with_reducible exact Hl C6.out))) (fun hHeld=>?_)
    clear hK K
    try go_frame
    refine rdy1 5 (fun K hK=>?_)
    go_simp
    refine (Jn q _).mono ?_;rintro e wA6 ⟨rfl,hbA⟩;have CA6:=hid (C6.out.call hbA);have DA6:=hid (D6.out.call hbA);have BA6:=hid hbA;clear hbA
    try go_wp2_with fail
    refine hK.out _ _ (by (first|(with_reducible exact Hl CA6.out))) (fun hHeld=>?_)
    clear hK K
    try go_frame
    clear hnl
    refine rdy1 6 (fun K hK=>?_)
    go_simp
    refine (Sy (Mj x i q a b) ⟨qd,qa,qac,some ⟨g,0,none⟩,qkc,qw,qwc⟩ gs ga gc q _ (w.heap.size+3) CA6.out.size (O6.out.call BA6.out) (Qj (Ci HX.out) i q a b) (HG.out.below CA6.out.b (Nat.le_refl _)) HGI.out).mono ?_;rintro e wB6 ⟨⟨rd,ra,rac,rk,rkc,rw_,rwc⟩,rfl,ho,hbB⟩;have CB6:=hid (CA6.out.call hbB);have DB6:=hid (DA6.out.call hbB);have OB6:=hid ho;clear hbB ho
    try go_wp2_with fail
    refine hK.out _ _ (by (first|(with_reducible exact Hl CB6.out))) (fun hHeld=>?_)
    clear hK K
    try go_frame
    clear hn
    have hn:=DB6.out.cell
    have hnz:=DB6.out.frozen
    have hnl:=DB6.out.lt
    refine rdy1 7 (fun K hK=>?_)
    go_simp
    try go_wp2_with fail
    refine hK.out _ _ (by (first|(refine Hl (t:=29) (u:=31) (s:=29) (w:=w) (cs:=(wC x ⟨pd,pa,pac,some ⟨kb,ko,none⟩,pkc,pw,pwc⟩)) (z:=zC) ?_;(iterate 11 with_reducible refine Tri.far ?_ HN3.out _ _);with_reducible exact CB6.out))) (fun hHeld=>?_)
    clear hK K
    try go_frame
    refine tkD ?_
    clear hHeld hn hnz hnl
    refine gen_k (fun V=>Tri 29 31 29 w V (wC x ⟨pd,pa,pac,some ⟨kb,ko,none⟩,pkc,pw,pwc⟩) #[.int .i64 kd,.int .i64 di,.int .i64 it,.int .i64 bx,.int .i64 (q:Int),.slice ga gs.length gc,.int .i64 pay,.slice wa ws.length wc,.int .i64 fee] zC∧Blk V N 29 (wC x ⟨rd,ra,rac,rk,rkc,rw_,rwc⟩)∧Ao (w.heap.size+3) V ⟨rd,ra,rac,rk,rkc,rw_,rwc⟩ (Jp (Rw x i q a b) gs ⟨1,(q:Int)⟩)) ⟨(by (iterate 11 with_reducible refine Tri.far ?_ HN3.out _ _);with_reducible exact CB6.out),Fq DB6.out,OB6.out.only DB6.out (by (iterate 11 with_reducible refine Nk.set ?_ _ _);exact Nk.refl _ _)⟩ (fun W8 hV=>?_)
    have C8:=hid hV.1
    have D8:=hid hV.2.1
    have O8:=hid hV.2.2
    clear hV
    go_wp2_with fail
    clear CB6 DB6 OB6 CA6 DA6 C6 D6 O6 BA6
    have C8:=hid C8.out.drew
    have D8:=hid D8.out.drew
    have O8:=hid O8.out.drew_
    refine tkS (S:=(fun w'=>Below w.heap.size w w'∧(∀j,w'.cell? ⟨w.heap.size+1,j,none⟩=(#[.int .i64 kd,.int .i64 di,.int .i64 it,.int .i64 bx,.int .i64 (q:Int),.slice ga gs.length gc,.int .i64 pay,.slice wa ws.length wc,.int .i64 fee][j]?:Option Value)))) (by (first|(with_reducible exact Hl C8.out))) (fun hHeld=>?_)
    generalize W8.drew=V8 at *
    refine tkl [1,2,3] ?_
    iterate 3
     refine tW ?_
     try go_frame
    have hn:=D8.out.cell
    have hnl:=D8.out.lt
    refine wpAnyH_ready (rs:=[0,4]) (by kernel_rfl) (by simp) (AllReadyH.cons (by simp only [List.getElem?_toArray,List.getElem?_cons_zero];rfl) (fun K hK=>?_) (AllReadyH.cons (by simp only [List.getElem?_toArray,List.getElem?_cons_succ,List.getElem?_cons_zero];rfl) (fun K hK=>?_) AllReadyH.nil))
    ·
     go_simp
     try go_wp2_with fail
     refine hK.out _ _ (by (first|(with_reducible exact Hl C8.out))) (fun hHeld=>?_)
     clear hK K
     try go_frame
     refine rdy1 4 (fun K hK=>?_)
     go_simp
     refine (Jn i _).mono ?_;rintro e wA8 ⟨rfl,hbA⟩;have CA8:=hid (C8.out.call hbA);have DA8:=hid (D8.out.call hbA);have BA8:=hid hbA;clear hbA
     try go_wp2_with fail
     refine hK.out _ _ (by (first|(with_reducible exact Hl CA8.out))) (fun hHeld=>?_)
     clear hK K
     try go_frame
     clear hnl
     refine rdy1 5 (fun K hK=>?_)
     go_simp
     refine (Sy (Am.trans' (Mj x i q a b) (Ia _ gs ⟨1,(q:Int)⟩)) ⟨rd,ra,rac,rk,rkc,rw_,rwc⟩ ws wa wc i _ (w.heap.size+3) CA8.out.size (O8.out.call BA8.out) (Vm (Qj (Ci HX.out) i q a b) _ _) (HW.out.below CA8.out.b (Nat.le_refl _)) (fun k hk=>by rw [(Ia _ gs ⟨1,(q:Int)⟩).w];exact HWI.out k hk)).mono ?_;rintro e wB8 ⟨⟨ud,ua,uac,uk,ukc,uw,uwc⟩,rfl,ho,hbB⟩;have CB8:=hid (CA8.out.call hbB);have DB8:=hid (DA8.out.call hbB);have OB8:=hid ho;clear hbB ho
     try go_wp2_with fail
     refine hK.out _ _ (by (first|(with_reducible exact Hl CB8.out))) (fun hHeld=>?_)
     clear hK K
     try go_frame
     clear hn
     have hn:=DB8.out.cell
     have hnz:=DB8.out.frozen
     have hnl:=DB8.out.lt
     refine rdy1 6 (fun K hK=>?_)
     go_simp
     try go_wp2_with fail
     refine hK.out _ _ (by (first|(refine Hl (t:=29) (u:=31) (s:=29) (w:=w) (cs:=(wC x ⟨pd,pa,pac,some ⟨kb,ko,none⟩,pkc,pw,pwc⟩)) (z:=zC) ?_;(iterate 11 with_reducible refine Tri.far ?_ HN3.out _ _);with_reducible exact CB8.out))) (fun hHeld=>?_)
     clear hK K
     try go_frame
     refine tkD ?_
     clear hHeld hn hnz hnl
     refine gen_k (fun V=>Tri 29 31 29 w V (wC x ⟨pd,pa,pac,some ⟨kb,ko,none⟩,pkc,pw,pwc⟩) #[.int .i64 kd,.int .i64 di,.int .i64 it,.int .i64 bx,.int .i64 (q:Int),.slice ga gs.length gc,.int .i64 pay,.slice wa ws.length wc,.int .i64 fee] zC∧Blk V N 29 (wC x ⟨ud,ua,uac,uk,ukc,uw,uwc⟩)∧Ao (w.heap.size+3) V ⟨ud,ua,uac,uk,ukc,uw,uwc⟩ (Jp (Jp (Rw x i q a b) gs ⟨1,(q:Int)⟩) ws ⟨1,(i:Int)⟩)) ⟨(by (iterate 11 with_reducible refine Tri.far ?_ HN3.out _ _);with_reducible exact CB8.out),Fq DB8.out,OB8.out.only DB8.out (by (iterate 11 with_reducible refine Nk.set ?_ _ _);exact Nk.refl _ _)⟩ (fun WE hV=>?_)
     have CE:=hid hV.1
     have DE:=hid hV.2.1
     have OE:=hid hV.2.2
     clear hV
     clear CB8 DB8 OB8 CA8 DA8 C8 D8 O8 BA8
     have hn:=DE.out.cell
     have hnl:=DE.out.lt
     obtain ⟨hcr,hzr,hlr⟩:=CE.out.rr
     go_wp2_with fail
     refine bodyPost_ret (v:=.tuple #[.agg (wC x ⟨ud,ua,uac,uk,ukc,uw,uwc⟩),.int .i64 0]) (by simp [results,results53,go_sem,hcr]) rfl ⟨⟨ud,ua,uac,uk,ukc,uw,uwc⟩,rfl,?_,?_⟩
     ·rw [←Am0]
      refine Ao.less (n:=w.heap.size+3) ?_ (by omega)
      iterate 11 with_reducible refine Ao.set (q:=w.heap.size+2) ?_ (by omega) _ _
      exact OE.out
     ·iterate 11 with_reducible refine Below.setCell ?_ (by show w.heap.size≤w.heap.size+2;omega) _
      exact CE.out.b
    ·
     go_simp
     refine (Jn i _).mono ?_;rintro e wA8 ⟨rfl,hbA⟩;have CA8:=hid (C8.out.call hbA);have DA8:=hid (D8.out.call hbA);have BA8:=hid hbA;clear hbA
     try go_wp2_with fail
     refine hK.out _ _ (by (first|(with_reducible exact Hl CA8.out))) (fun hHeld=>?_)
     clear hK K
     try go_frame
     clear hn hnl
     have hn:=DA8.out.cell
     have hnl:=DA8.out.lt
     refine rdy1 0 (fun K hK=>?_)
     go_simp
     try go_wp2_with fail
     refine hK.out _ _ (by (first|(with_reducible exact Hl CA8.out))) (fun hHeld=>?_)
     clear hK K
     try go_frame
     clear hnl
     refine rdy1 5 (fun K hK=>?_)
     go_simp
     refine (Sy (Am.trans' (Mj x i q a b) (Ia _ gs ⟨1,(q:Int)⟩)) ⟨rd,ra,rac,rk,rkc,rw_,rwc⟩ ws wa wc i _ (w.heap.size+3) CA8.out.size (O8.out.call BA8.out) (Vm (Qj (Ci HX.out) i q a b) _ _) (HW.out.below CA8.out.b (Nat.le_refl _)) (fun k hk=>by rw [(Ia _ gs ⟨1,(q:Int)⟩).w];exact HWI.out k hk)).mono ?_;rintro e wB8 ⟨⟨ud,ua,uac,uk,ukc,uw,uwc⟩,rfl,ho,hbB⟩;have CB8:=hid (CA8.out.call hbB);have DB8:=hid (DA8.out.call hbB);have OB8:=hid ho;clear hbB ho
     try go_wp2_with fail
     refine hK.out _ _ (by (first|(with_reducible exact Hl CB8.out))) (fun hHeld=>?_)
     clear hK K
     try go_frame
     clear hn
     have hn:=DB8.out.cell
     have hnz:=DB8.out.frozen
     have hnl:=DB8.out.lt
     refine rdy1 6 (fun K hK=>?_)
     go_simp
     try go_wp2_with fail
     refine hK.out _ _ (by (first|(refine Hl (t:=29) (u:=31) (s:=29) (w:=w) (cs:=(wC x ⟨pd,pa,pac,some ⟨kb,ko,none⟩,pkc,pw,pwc⟩)) (z:=zC) ?_;(iterate 11 with_reducible refine Tri.far ?_ HN3.out _ _);with_reducible exact CB8.out))) (fun hHeld=>?_)
     clear hK K
     try go_frame
     refine tkD ?_
     clear hHeld hn hnz hnl
     refine gen_k (fun V=>Tri 29 31 29 w V (wC x ⟨pd,pa,pac,some ⟨kb,ko,none⟩,pkc,pw,pwc⟩) #[.int .i64 kd,.int .i64 di,.int .i64 it,.int .i64 bx,.int .i64 (q:Int),.slice ga gs.length gc,.int .i64 pay,.slice wa ws.length wc,.int .i64 fee] zC∧Blk V N 29 (wC x ⟨ud,ua,uac,uk,ukc,uw,uwc⟩)∧Ao (w.heap.size+3) V ⟨ud,ua,uac,uk,ukc,uw,uwc⟩ (Jp (Jp (Rw x i q a b) gs ⟨1,(q:Int)⟩) ws ⟨1,(i:Int)⟩)) ⟨(by (iterate 11 with_reducible refine Tri.far ?_ HN3.out _ _);with_reducible exact CB8.out),Fq DB8.out,OB8.out.only DB8.out (by (iterate 11 with_reducible refine Nk.set ?_ _ _);exact Nk.refl _ _)⟩ (fun WE hV=>?_)
     have CE:=hid hV.1
     have DE:=hid hV.2.1
     have OE:=hid hV.2.2
     clear hV
     clear CB8 DB8 OB8 CA8 DA8 C8 D8 O8 BA8
     have hn:=DE.out.cell
     have hnl:=DE.out.lt
     obtain ⟨hcr,hzr,hlr⟩:=CE.out.rr
     go_wp2_with fail
     refine bodyPost_ret (v:=.tuple #[.agg (wC x ⟨ud,ua,uac,uk,ukc,uw,uwc⟩),.int .i64 0]) (by simp [results,results53,go_sem,hcr]) rfl ⟨⟨ud,ua,uac,uk,ukc,uw,uwc⟩,rfl,?_,?_⟩
     ·rw [←Am0]
      refine Ao.less (n:=w.heap.size+3) ?_ (by omega)
      iterate 11 with_reducible refine Ao.set (q:=w.heap.size+2) ?_ (by omega) _ _
      exact OE.out
     ·iterate 11 with_reducible refine Below.setCell ?_ (by show w.heap.size≤w.heap.size+2;omega) _
      exact CE.out.b
   ·
    go_simp
    refine (Jn q _).mono ?_;rintro e wA6 ⟨rfl,hbA⟩;have CA6:=hid (C6.out.call hbA);have DA6:=hid (D6.out.call hbA);have BA6:=hid hbA;clear hbA
    try go_wp2_with fail
    refine hK.out _ _ (by (first|(with_reducible exact Hl CA6.out))) (fun hHeld=>?_)
    clear hK K
    try go_frame
    clear hn hnl
    have hn:=DA6.out.cell
    have hnl:=DA6.out.lt
    refine rdy1 0 (fun K hK=>?_)
    go_simp
    try go_wp2_with fail
    refine hK.out _ _ (by (first|(with_reducible exact Hl CA6.out))) (fun hHeld=>?_)
    clear hK K
    try go_frame
    clear hnl
    refine rdy1 6 (fun K hK=>?_)
    go_simp
    refine (Sy (Mj x i q a b) ⟨qd,qa,qac,some ⟨g,0,none⟩,qkc,qw,qwc⟩ gs ga gc q _ (w.heap.size+3) CA6.out.size (O6.out.call BA6.out) (Qj (Ci HX.out) i q a b) (HG.out.below CA6.out.b (Nat.le_refl _)) HGI.out).mono ?_;rintro e wB6 ⟨⟨rd,ra,rac,rk,rkc,rw_,rwc⟩,rfl,ho,hbB⟩;have CB6:=hid (CA6.out.call hbB);have DB6:=hid (DA6.out.call hbB);have OB6:=hid ho;clear hbB ho
    try go_wp2_with fail
    refine hK.out _ _ (by (first|(with_reducible exact Hl CB6.out))) (fun hHeld=>?_)
    clear hK K
    try go_frame
    clear hn
    have hn:=DB6.out.cell
    have hnz:=DB6.out.frozen
    have hnl:=DB6.out.lt
    refine rdy1 7 (fun K hK=>?_)
    go_simp
    try go_wp2_with fail
    refine hK.out _ _ (by (first|(refine Hl (t:=29) (u:=31) (s:=29) (w:=w) (cs:=(wC x ⟨pd,pa,pac,some ⟨kb,ko,none⟩,pkc,pw,pwc⟩)) (z:=zC) ?_;(iterate 11 with_reducible refine Tri.far ?_ HN3.out _ _);with_reducible exact CB6.out))) (fun hHeld=>?_)
    clear hK K
    try go_frame
    refine tkD ?_
    clear hHeld hn hnz hnl
    refine gen_k (fun V=>Tri 29 31 29 w V (wC x ⟨pd,pa,pac,some ⟨kb,ko,none⟩,pkc,pw,pwc⟩) #[.int .i64 kd,.int .i64 di,.int .i64 it,.int .i64 bx,.int .i64 (q:Int),.slice ga gs.length gc,.int .i64 pay,.slice wa ws.length wc,.int .i64 fee] zC∧Blk V N 29 (wC x ⟨rd,ra,rac,rk,rkc,rw_,rwc⟩)∧Ao (w.heap.size+3) V ⟨rd,ra,rac,rk,rkc,rw_,rwc⟩ (Jp (Rw x i q a b) gs ⟨1,(q:Int)⟩)) ⟨(by (iterate 11 with_reducible refine Tri.far ?_ HN3.out _ _);with_reducible exact CB6.out),Fq DB6.out,OB6.out.only DB6.out (by (iterate 11 with_reducible refine Nk.set ?_ _ _);exact Nk.refl _ _)⟩ (fun W8 hV=>?_)
    have C8:=hid hV.1
    have D8:=hid hV.2.1
    have O8:=hid hV.2.2
    clear hV
    go_wp2_with fail
    clear CB6 DB6 OB6 CA6 DA6 C6 D6 O6 BA6
    have C8:=hid C8.out.drew
    have D8:=hid D8.out.drew
    have O8:=hid O8.out.drew_
    refine tkS (S:=(fun w'=>Below w.heap.size w w'∧(∀j,w'.cell? ⟨w.heap.size+1,j,none⟩=(#[.int .i64 kd,.int .i64 di,.int .i64 it,.int .i64 bx,.int .i64 (q:Int),.slice ga gs.length gc,.int .i64 pay,.slice wa ws.length wc,.int .i64 fee][j]?:Option Value)))) (by (first|(with_reducible exact Hl C8.out))) (fun hHeld=>?_)
    generalize W8.drew=V8 at *
    refine tkl [1,2,3] ?_
    iterate 3
     refine tW ?_
     try go_frame
    have hn:=D8.out.cell
    have hnl:=D8.out.lt
    refine wpAnyH_ready (rs:=[0,4]) (by kernel_rfl) (by simp) (AllReadyH.cons (by simp only [List.getElem?_toArray,List.getElem?_cons_zero];rfl) (fun K hK=>?_) (AllReadyH.cons (by simp only [List.getElem?_toArray,List.getElem?_cons_succ,List.getElem?_cons_zero];rfl) (fun K hK=>?_) AllReadyH.nil))
    ·
     go_simp
     try go_wp2_with fail
     refine hK.out _ _ (by (first|(with_reducible exact Hl C8.out))) (fun hHeld=>?_)
     clear hK K
     try go_frame
     refine rdy1 4 (fun K hK=>?_)
     go_simp
     refine (Jn i _).mono ?_;rintro e wA8 ⟨rfl,hbA⟩;have CA8:=hid (C8.out.call hbA);have DA8:=hid (D8.out.call hbA);have BA8:=hid hbA;clear hbA
     try go_wp2_with fail
     refine hK.out _ _ (by (first|(with_reducible exact Hl CA8.out))) (fun hHeld=>?_)
     clear hK K
     try go_frame
     clear hnl
     refine rdy1 5 (fun K hK=>?_)
     go_simp
     refine (Sy (Am.trans' (Mj x i q a b) (Ia _ gs ⟨1,(q:Int)⟩)) ⟨rd,ra,rac,rk,rkc,rw_,rwc⟩ ws wa wc i _ (w.heap.size+3) CA8.out.size (O8.out.call BA8.out) (Vm (Qj (Ci HX.out) i q a b) _ _) (HW.out.below CA8.out.b (Nat.le_refl _)) (fun k hk=>by rw [(Ia _ gs ⟨1,(q:Int)⟩).w];exact HWI.out k hk)).mono ?_;rintro e wB8 ⟨⟨ud,ua,uac,uk,ukc,uw,uwc⟩,rfl,ho,hbB⟩;have CB8:=hid (CA8.out.call hbB);have DB8:=hid (DA8.out.call hbB);have OB8:=hid ho;clear hbB ho
     try go_wp2_with fail
     refine hK.out _ _ (by (first|(with_reducible exact Hl CB8.out))) (fun hHeld=>?_)
     clear hK K
     try go_frame
     clear hn
     have hn:=DB8.out.cell
     have hnz:=DB8.out.frozen
     have hnl:=DB8.out.lt
     refine rdy1 6 (fun K hK=>?_)
     go_simp
     try go_wp2_with fail
     refine hK.out _ _ (by (first|(refine Hl (t:=29) (u:=31) (s:=29) (w:=w) (cs:=(wC x ⟨pd,pa,pac,some ⟨kb,ko,none⟩,pkc,pw,pwc⟩)) (z:=zC) ?_;(iterate 11 with_reducible refine Tri.far ?_ HN3.out _ _);with_reducible exact CB8.out))) (fun hHeld=>?_)
     clear hK K
     try go_frame
     refine tkD ?_
     clear hHeld hn hnz hnl
     refine gen_k (fun V=>Tri 29 31 29 w V (wC x ⟨pd,pa,pac,some ⟨kb,ko,none⟩,pkc,pw,pwc⟩) #[.int .i64 kd,.int .i64 di,.int .i64 it,.int .i64 bx,.int .i64 (q:Int),.slice ga gs.length gc,.int .i64 pay,.slice wa ws.length wc,.int .i64 fee] zC∧Blk V N 29 (wC x ⟨ud,ua,uac,uk,ukc,uw,uwc⟩)∧Ao (w.heap.size+3) V ⟨ud,ua,uac,uk,ukc,uw,uwc⟩ (Jp (Jp (Rw x i q a b) gs ⟨1,(q:Int)⟩) ws ⟨1,(i:Int)⟩)) ⟨(by (iterate 11 with_reducible refine Tri.far ?_ HN3.out _ _);with_reducible exact CB8.out),Fq DB8.out,OB8.out.only DB8.out (by (iterate 11 with_reducible refine Nk.set ?_ _ _);exact Nk.refl _ _)⟩ (fun WE hV=>?_)
     have CE:=hid hV.1
     have DE:=hid hV.2.1
     have OE:=hid hV.2.2
     clear hV
     clear CB8 DB8 OB8 CA8 DA8 C8 D8 O8 BA8
     have hn:=DE.out.cell
     have hnl:=DE.out.lt
     obtain ⟨hcr,hzr,hlr⟩:=CE.out.rr
     go_wp2_with fail
     refine bodyPost_ret (v:=.tuple #[.agg (wC x ⟨ud,ua,uac,uk,ukc,uw,uwc⟩),.int .i64 0]) (by simp [results,results53,go_sem,hcr]) rfl ⟨⟨ud,ua,uac,uk,ukc,uw,uwc⟩,rfl,?_,?_⟩
     ·rw [←Am0]
      refine Ao.less (n:=w.heap.size+3) ?_ (by omega)
      iterate 11 with_reducible refine Ao.set (q:=w.heap.size+2) ?_ (by omega) _ _
      exact OE.out
     ·iterate 11 with_reducible refine Below.setCell ?_ (by show w.heap.size≤w.heap.size+2;omega) _
      exact CE.out.b
    ·
     go_simp
     refine (Jn i _).mono ?_;rintro e wA8 ⟨rfl,hbA⟩;have CA8:=hid (C8.out.call hbA);have DA8:=hid (D8.out.call hbA);have BA8:=hid hbA;clear hbA
     try go_wp2_with fail
     refine hK.out _ _ (by (first|(with_reducible exact Hl CA8.out))) (fun hHeld=>?_)
     clear hK K
     try go_frame
     clear hn hnl
     have hn:=DA8.out.cell
     have hnl:=DA8.out.lt
     refine rdy1 0 (fun K hK=>?_)
     go_simp
     try go_wp2_with fail
     refine hK.out _ _ (by (first|(with_reducible exact Hl CA8.out))) (fun hHeld=>?_)
     clear hK K
     try go_frame
     clear hnl
     refine rdy1 5 (fun K hK=>?_)
     go_simp
     refine (Sy (Am.trans' (Mj x i q a b) (Ia _ gs ⟨1,(q:Int)⟩)) ⟨rd,ra,rac,rk,rkc,rw_,rwc⟩ ws wa wc i _ (w.heap.size+3) CA8.out.size (O8.out.call BA8.out) (Vm (Qj (Ci HX.out) i q a b) _ _) (HW.out.below CA8.out.b (Nat.le_refl _)) (fun k hk=>by rw [(Ia _ gs ⟨1,(q:Int)⟩).w];exact HWI.out k hk)).mono ?_;rintro e wB8 ⟨⟨ud,ua,uac,uk,ukc,uw,uwc⟩,rfl,ho,hbB⟩;have CB8:=hid (CA8.out.call hbB);have DB8:=hid (DA8.out.call hbB);have OB8:=hid ho;clear hbB ho
     try go_wp2_with fail
     refine hK.out _ _ (by (first|(with_reducible exact Hl CB8.out))) (fun hHeld=>?_)
     clear hK K
     try go_frame
     clear hn
     have hn:=DB8.out.cell
     have hnz:=DB8.out.frozen
     have hnl:=DB8.out.lt
     refine rdy1 6 (fun K hK=>?_)
     go_simp
     try go_wp2_with fail
     refine hK.out _ _ (by (first|(refine Hl (t:=29) (u:=31) (s:=29) (w:=w) (cs:=(wC x ⟨pd,pa,pac,some ⟨kb,ko,none⟩,pkc,pw,pwc⟩)) (z:=zC) ?_;(iterate 11 with_reducible refine Tri.far ?_ HN3.out _ _);with_reducible exact CB8.out))) (fun hHeld=>?_)
     clear hK K
     try go_frame
     refine tkD ?_
     clear hHeld hn hnz hnl
     refine gen_k (fun V=>Tri 29 31 29 w V (wC x ⟨pd,pa,pac,some ⟨kb,ko,none⟩,pkc,pw,pwc⟩) #[.int .i64 kd,.int .i64 di,.int .i64 it,.int .i64 bx,.int .i64 (q:Int),.slice ga gs.length gc,.int .i64 pay,.slice wa ws.length wc,.int .i64 fee] zC∧Blk V N 29 (wC x ⟨ud,ua,uac,uk,ukc,uw,uwc⟩)∧Ao (w.heap.size+3) V ⟨ud,ua,uac,uk,ukc,uw,uwc⟩ (Jp (Jp (Rw x i q a b) gs ⟨1,(q:Int)⟩) ws ⟨1,(i:Int)⟩)) ⟨(by (iterate 11 with_reducible refine Tri.far ?_ HN3.out _ _);with_reducible exact CB8.out),Fq DB8.out,OB8.out.only DB8.out (by (iterate 11 with_reducible refine Nk.set ?_ _ _);exact Nk.refl _ _)⟩ (fun WE hV=>?_)
     have CE:=hid hV.1
     have DE:=hid hV.2.1
     have OE:=hid hV.2.2
     clear hV
     clear CB8 DB8 OB8 CA8 DA8 C8 D8 O8 BA8
     have hn:=DE.out.cell
     have hnl:=DE.out.lt
     obtain ⟨hcr,hzr,hlr⟩:=CE.out.rr
     go_wp2_with fail
     refine bodyPost_ret (v:=.tuple #[.agg (wC x ⟨ud,ua,uac,uk,ukc,uw,uwc⟩),.int .i64 0]) (by simp [results,results53,go_sem,hcr]) rfl ⟨⟨ud,ua,uac,uk,ukc,uw,uwc⟩,rfl,?_,?_⟩
     ·rw [←Am0]
      refine Ao.less (n:=w.heap.size+3) ?_ (by omega)
      iterate 11 with_reducible refine Ao.set (q:=w.heap.size+2) ?_ (by omega) _ _
      exact OE.out
     ·iterate 11 with_reducible refine Below.setCell ?_ (by show w.heap.size≤w.heap.size+2;omega) _
      exact CE.out.b
  ·have hne2:(S != 0)=true:=by simpa using hS0
   go_wp2_with fail
   refine bodyPost_ret (v:=.tuple #[.agg (wC x ⟨pd,pa,pac,some ⟨kb,ko,none⟩,pkc,pw,pwc⟩),.int .i64 S]) (by simp [results,results53,go_sem,hcr]) rfl ⟨rfl,?_⟩
   iterate 11 refine bs_2 ?_
   exact C3.out.b
 ·have hne2:(E != 0)=true:=by simpa using hE0
  go_wp2_with fail
  refine bodyPost_ret (v:=.tuple #[.agg (wC x ⟨pd,pa,pac,some ⟨kb,ko,none⟩,pkc,pw,pwc⟩),.int .i64 E]) (by simp [results,results53,go_sem,hcr]) rfl ⟨fun _=>⟨rfl,?_⟩,fun h=>absurd h hE0,fun h=>absurd h hE0⟩
  iterate 11 refine bs_2 ?_
  exact C2.out.b
end
theorem Yz (x:Wd) (p:Wp) (i:Nat) (kd di it bx who pay fee:Int) (gl wl:List Int) (ga wa:Option Addr) (gc wc:Nat) (w:World) (hx:Ai x=true) (h:Ab w p x) (hi:i<x.at_.length) (hg:Ae w ga gl) (hw:Ae w wa wl) (hgl:gl.length≤16) (hwl:wl.length≤16) :
 Calls prog 53 #[.agg (wC x p),.int .i64 (i:Int),.agg #[.int .i64 kd,.int .i64 di,.int .i64 it,.int .i64 bx,.int .i64 who,.slice ga gl.length gc,.int .i64 pay,.slice wa wl.length wc,.int .i64 fee]] w fun e w'=>∃q:Wp,e=.returned (.tuple #[.agg (wC x q),.int .i64 (Ca x i who gl wl pay fee).2])∧Took w.heap.size w' p q x (Ca x i who gl wl pay fee)∧Below w.heap.size w w':=by
 rcases Dp1 x i who gl wl pay fee with ⟨h1,e⟩|⟨k,gs,ws,rfl,rfl,rfl,hk,hgi,hwi,hne,hP,hr⟩
 ·rw [e]
  exact (Bi4 x p i kd di it bx who pay fee gl wl ga wa gc wc w hx h hi hg hw _ rfl h1).mono fun e' w' ⟨h2,h3⟩=>⟨_,h2,.inl ⟨h1,rfl,rfl⟩,h3⟩
 ·obtain ⟨li,ei,-,-⟩:=Zm hx hi
  obtain ⟨lq,eq,-,-⟩:=Zm hx hk
  obtain ⟨kb,ko,ea,hkb,hc⟩:=h.co.at_ li
  have k1:=hc i li
  have k2:=hc k lq
  rw [ei] at k1
  rw [eq] at k2
  obtain ⟨pd,pa,pac,pk,pkc,pw,pwc⟩:=p
  simp only at ea
  subst ea
  simp only [List.length_map] at hgl hwl ⊢
  have M:=gtrade_rest x pd pa pac kb ko pkc pw pwc i k kd di it bx pay fee gs ws ga wa gc wc w hx h hi hk hg hw hgi hwi hgl hwl hP _ rfl k1 k2 _ rfl _ _ rfl rfl
  rcases hr with ⟨h1,e⟩|⟨h0,⟨h1,e⟩|⟨h1,e⟩⟩
  all_goals rw [e]
  ·exact M.mono fun e' w' h2=>⟨⟨pd,pa,pac,_,pkc,pw,pwc⟩,(h2.1 h1).1,.inl ⟨h1,rfl,rfl⟩,(h2.1 h1).2⟩
  ·exact M.mono fun e' w' h2=>⟨⟨pd,pa,pac,_,pkc,pw,pwc⟩,(h2.2.1 h0 h1).1,.inl ⟨h1,rfl,rfl⟩,(h2.2.1 h0 h1).2⟩
  ·exact M.mono fun e' w' h2=>by
    obtain ⟨q,h3,h4,h5⟩:=h2.2.2 h0 h1
    exact ⟨q,h3,.inr ⟨rfl,h4⟩,h5⟩
end
section
theorem Dd9 (x:Wd) (p:Wp) (i:Nat) (item q:Int) (ga:Option Addr) (gc:Nat) (w:World) (hx:Ai x=true) (h:Ab w p x) (hi:i<x.at_.length) (hg:Ae w ga [item]) :
 Calls prog 53 #[.agg (wC x p),.int .i64 (i:Int),.agg #[.int .i64 8,.int .i64 0,.int .i64 0,.int .i64 0,.int .i64 q,.slice ga 1 gc,.int .i64 0,.slice none 0 0,.int .i64 0]] w fun e w'=>∃q':Wp,e=.returned (.tuple #[.agg (wC x q'),.int .i64 (Jg x i item q).2])∧Took w.heap.size w' p q' x (Jg x i item q)∧Below w.heap.size w w':=by
 rw [Xj hx hi]
 exact Yz x p i 8 0 0 0 q 0 0 [item] [] ga none gc 0 w hx h hi hg (Ae.nil _ _) (by simp) (by simp)
theorem Ba8 (x:Wd) (p:Wp) (i:Nat) (item q:Int) (w:World) (hx:Ai x=true) (h:Ab w p x) (hi:i<x.at_.length) :
 Calls prog 52 #[.agg (wC x p),.int .i64 (i:Int),.int .i64 item,.int .i64 q] w fun e w'=>∃q':Wp,e=.returned (.tuple #[.agg (wC x q'),.int .i64 (Jg x i item q).2])∧Took w.heap.size w' p q' x (Jg x i item q)∧Below w.heap.size w w':=by
 have C0:=hid (Two.start 29 29 w (wC x p) zC)
 have H:=hid h
 have HX:=hid hx
 obtain ⟨y,hy⟩:∃y,y=Jg x i item q:=⟨_,rfl⟩
 have HT:=hid (fun ga gc W h1 h2=>Dd9 x p i item q ga gc W hx h1 hi h2)
 rw [←hy] at HT ⊢
 clear h hx hy
 have hWC:=@wC.eq_1
 have hZC:=@zC.eq_1
 go_enter func52,ntmps52
 go_wp2_with fail
 have D0:=hid (Blk.newn (((w.alloc (.cells (wC x p) 29)).alloc (.cells zC 29))) 3 #[.int .i64 item] (n:=w.heap.size+1+1) (by simp))
 have C1:=hid (C0.out.alloc (.cells #[.int .i64 item] 3))
 refine (HT.out (some ⟨w.heap.size+1+1,0,none⟩) 1 _ (H.out.below C1.out.b (Nat.le_refl _)) (D0.out.ints (xs:=[item]) (by simp [maxLen]) (fun j hj=>by obtain rfl:j=0:=(by simpa using hj);rfl))).mono ?_
 rintro e w1 ⟨⟨qd,qa,qac,qk,qkc,qw,qwc⟩,rfl,wn,b1⟩
 have C2:=hid (C1.out.call b1)
 have WN:=hid wn
 clear b1 wn C0 D0
 obtain ⟨hcr,hzr,hlr⟩:=C2.out.r.all
 go_wp2_with fail
 refine bodyPost_ret (v:=.tuple #[.agg (wC x ⟨qd,qa,qac,qk,qkc,qw,qwc⟩),.int .i64 y.2]) (by simp [results,results52,go_sem,hcr]) rfl ⟨⟨qd,qa,qac,qk,qkc,qw,qwc⟩,rfl,?_,?_⟩
 ·refine Took.less (n:=(((w.alloc (.cells (wC x p) 29)).alloc (.cells zC 29)).alloc (.cells #[.int .i64 item] 3)).heap.size) ?_ (by simp;omega)
  iterate 11 refine Took.set (b:=w.heap.size+1) ?_ (by simp) _ _
  exact WN.out
 ·iterate 11 refine bs_1 ?_
  exact C2.out.b
end
end Go.Proofs.YtnhkojpbbdaedaaGreat
