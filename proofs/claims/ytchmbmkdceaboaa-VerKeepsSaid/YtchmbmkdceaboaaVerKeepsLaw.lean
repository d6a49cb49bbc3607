/- VerKeeps: what is handed in stays. -/
import Derived.Test.YtchmbmkdceaboaaVerAw
namespace Go.Proofs.Ytchmbmkdceaboaa
open Go.ChangeShapes Go.WideShapes Go.ChangeAt Go.RowKit Go.Proofs.Try
open Lib (hid)
set_option linter.unusedVariables false
set_option maxHeartbeats 1000000
set_option maxRecDepth 100000
open Go.RowKit Go Go.Joins
theorem vrow_empty (W:World):RowI W.heap.size (W.alloc (.cells #[] 3)) (.slice (some ⟨W.heap.size,0,none⟩) 0 0) [] :=
 ⟨rfl,.inr ⟨W.heap.size,0,#[],rfl,Nat.le_refl _,Blk.new W _ _,Nat.le_refl _,by unfold maxLen;omega,rfl,rfl⟩⟩
theorem LkAt.vgrown {W W':World} {a:Option Addr} {cap q:Nat} {l:List Int} (h:LkAt W a cap l) (hg:W.grownBy W' (some q)) (hn:l≠[]→∀p,a=some p→p.block≠q):LkAt W' a cap l:=by
 refine ⟨⟨h.1.1,?_⟩,h.2⟩
 rcases h.1.2 with h2|⟨b2,o2,rfl,hb,hc⟩
 ·exact .inl h2
 ·by_cases hl:l=[]
  ·exact .inl hl
  have hbl:=hg.block b2 hb (fun e=>hn hl _ rfl (Option.some.inj e))
  exact .inr ⟨b2,o2,rfl,Nat.lt_of_lt_of_le hb hg.size,fun i hi=>by rw [←hc i hi];simp only [World.cell?,hbl]⟩
theorem LkAt.lt {W:World} {p:Addr} {cap:Nat} {l:List Int} (h:LkAt W (some p) cap l) (hl:l≠[]):p.block<W.heap.size:=by
 rcases h.1.2 with h2|⟨b,o,e,hb,-⟩
 ·exact absurd h2 hl
 ·cases e;exact hb
theorem vlk_grown (W:World) (m i:Nat) (v:Value):W.grownBy (W.setCell ⟨m,i,none⟩ v) (some m) :=
 ⟨rfl,rfl,rfl,by simp [World.setCell],fun b _ hne=>Below.heap_setCell W _ v b (fun e=>hne (by rw [e]))⟩
theorem vgrown_both {W W1 W2:World} {r:Option Nat} (h:W.grownBy W1 r) (k:W1.grownBy W2 r):W.grownBy W2 r :=
 ⟨k.os.trans h.os,k.tape.trans h.tape,k.output.trans h.output,Nat.le_trans h.size k.size,fun b hb hne=>(k.block b (Nat.lt_of_lt_of_le hb h.size) hne).trans (h.block b hb hne)⟩
theorem verKeeps_no (a:Option Addr) (cap:Nat) (l:List Int) (p:Int) (w:World) (h:LkAt w a cap l) (hm:mayV l=false):Calls prog 5 #[.slice a l.length cap,.int .i64 p] w fun e w'=>e=.returned (.bool true)∧Below w.heap.size w w':=by
 have B_0:=hid (Below.refl w.heap.size w)
 have L_0:=hid h
 have HM:=hid hm
 clear hm h
 go_enter func5,ntmps5
 go_wp2_with fail
 refine (awake17_any _).mono ?_
 rintro e u1 ⟨rfl,b1⟩
 have B_1:=hid (bl B_0.out b1)
 have L_1:=hid (L_0.out.call b1)
 clear b1 B_0 L_0
 go_wp2_with fail
 refine (refmay17_any _ _ _ _ L_1.out.1).mono ?_
 rintro e u2 ⟨rfl,b2⟩
 rw [HM.out]
 have B_2:=hid (bl B_1.out b2)
 have L_2:=hid (L_1.out.call b2)
 clear b2 B_1 L_1
 go_wp2_with fail
 refine (awake17_any _).mono ?_
 rintro e u3 ⟨rfl,b3⟩
 have B_3:=hid (bl B_2.out b3)
 have L_3:=hid (L_2.out.call b3)
 clear b3 B_2 L_2
 go_wp2_with fail
 go_ret
 exact ⟨rfl,B_3.out⟩
theorem verKeeps_out (a:Option Addr) (cap:Nat) (l:List Int) (p:Int) (w:World) (h:LkAt w a cap l) (hm:mayV l=true) (hp:mplB l.length p=false):Calls prog 5 #[.slice a l.length cap,.int .i64 p] w fun e w'=>e=.returned (.bool true)∧Below w.heap.size w w':=by
 have B_0:=hid (Below.refl w.heap.size w)
 have L_0:=hid h
 have HM:=hid hm
 have HP:=hid hp
 clear hp
 have HV:=hid (mayV_vers hm)
 have HL1:=hid (mayV_len hm)
 have hlm:=h.1.len
 clear hm h
 go_enter func5,ntmps5
 go_wp2_with fail
 refine (awake17_any _).mono ?_
 rintro e u1 ⟨rfl,b1⟩
 have B_1:=hid (bl B_0.out b1)
 have L_1:=hid (L_0.out.call b1)
 clear b1 B_0 L_0
 go_wp2_with fail
 refine (refmay17_any _ _ _ _ L_1.out.1).mono ?_
 rintro e u2 ⟨rfl,b2⟩
 rw [HM.out]
 have B_2:=hid (bl B_1.out b2)
 have L_2:=hid (L_1.out.call b2)
 clear b2 B_1 L_1
 obtain ⟨v3,W3,hr3,hg3,hb3⟩:=(vrow_empty u2).app (c:=cap) (L_2.out.call (b_a (.cells #[] 3))).1 (.inl (by simp)) (by have:=HL1.out;simp;omega) (by simp)
 rw [List.nil_append] at hg3
 have g3:Below u2.heap.size u2 W3:=(vrow_empty u2).below (b_a (.cells #[] 3)) (Nat.le_refl _) (by simp) hb3
 obtain ⟨a3,c3,rfl,hx3,-,-⟩:=hg3.own
 have HR3:=hid hr3
 have O_3:=hid hx3
 have B_3:=hid (bl B_2.out g3)
 have L_3:=hid (L_2.out.call g3)
 clear hr3 hg3 hb3 g3 hx3 B_2 L_2
 go_wp2_with (at_builtin;refine Bb rfl (.tmp 17) (.tmp 18) 22 rfl _ _ _ W3 rfl rfl HR3.out ?_)
 clear HR3
 refine (up_as rfl O_3.out HV.out rfl HP.out).mono ?_
 rintro e u3 ⟨ga,gac,rfl,hga,-,b3⟩
 have B_4:=hid (bl B_3.out b3)
 have L_4:=hid (L_3.out.call b3)
 have O_4:=hid (O_3.out.call b3)
 clear b3 B_3 L_3 O_3 hga
 go_wp2_with fail
 refine (msame_as rfl O_4.out L_4.out).mono ?_
 rintro e u4 ⟨rfl,b4⟩
 have B_5:=hid (bl B_4.out b4)
 have L_5:=hid (L_4.out.call b4)
 have O_5:=hid (O_4.out.call b4)
 clear b4 B_4 L_4 O_4
 go_wp2_with fail
 go_ret
 exact ⟨rfl,B_5.out⟩
theorem verKeeps_in (a:Option Addr) (cap:Nat) (l:List Int) (k:Nat) (w:World) (h:LkAt w a cap l) (hm:mayV l=true) (hk:k<l.length):Calls prog 5 #[.slice a l.length cap,.int .i64 (k:Int)] w fun e w'=>e=.returned (.bool true)∧Below w.heap.size w w':=by
 have B_0:=hid (Below.refl w.heap.size w)
 have L_0:=hid h
 have HM:=hid hm
 have HK:=hid hk
 have HV:=hid (mayV_vers hm)
 have HL1:=hid (mayV_len hm)
 have hlm:=h.1.len
 clear hm h
 go_enter func5,ntmps5
 go_wp2_with fail
 refine (awake17_any _).mono ?_
 rintro e u1 ⟨rfl,b1⟩
 have B_1:=hid (bl B_0.out b1)
 have L_1:=hid (L_0.out.call b1)
 clear b1 B_0 L_0
 go_wp2_with fail
 refine (refmay17_any _ _ _ _ L_1.out.1).mono ?_
 rintro e u2 ⟨rfl,b2⟩
 rw [HM.out]
 have B_2:=hid (bl B_1.out b2)
 have L_2:=hid (L_1.out.call b2)
 clear b2 B_1 L_1
 obtain ⟨v3,W3,hr3,hg3,hb3⟩:=(vrow_empty u2).app (c:=cap) (L_2.out.call (b_a (.cells #[] 3))).1 (.inl (by simp)) (by have:=HL1.out;simp;omega) (by simp)
 rw [List.nil_append] at hg3
 have g3:Below u2.heap.size u2 W3:=(vrow_empty u2).below (b_a (.cells #[] 3)) (Nat.le_refl _) (by simp) hb3
 obtain ⟨a3,c3,rfl,hx3,-,-⟩:=hg3.own
 have HR3:=hid hr3
 have O_3:=hid hx3
 have B_3:=hid (bl B_2.out g3)
 have L_3:=hid (L_2.out.call g3)
 clear hr3 hg3 hb3 g3 hx3 B_2 L_2
 go_wp2_with (at_builtin;refine Bb rfl (.tmp 17) (.tmp 18) 22 rfl _ _ _ W3 rfl rfl HR3.out ?_)
 clear HR3
 have HNE:=hid (show l≠[] from fun e=>by subst e;exact absurd HK.out (by simp))
 obtain ⟨pa,hpa⟩:∃p,a=some p:=by obtain ⟨b,o,h,-⟩:=L_3.out.1.at_ HK.out;exact ⟨_,h⟩
 subst hpa
 obtain ⟨po,hpo⟩:∃p,a3=some p:=by obtain ⟨b,o,h,-⟩:=O_3.out.1.at_ HK.out;exact ⟨_,h⟩
 subst hpo
 have HLA:=hid (L_3.out.lt HNE.out)
 have HLO:=hid (O_3.out.lt HNE.out)
 have HWS:=hid B_3.out.size
 refine (vup_own _ _ _ _ _ O_3.out HV.out HK.out).mono ?_
 rintro e u3 ⟨g,rfl,hq,hgn,b3⟩
 have B_4:=hid (bl B_3.out b3)
 have L_4:=hid (L_3.out.call b3)
 have O_4:=hid (O_3.out.call b3)
 clear b3 B_3 L_3 O_3
 have HGO:=hid (show ∀p,some po=some p→p.block≠g from fun p e=>by cases e;have:=HLO.out;omega)
 have HGA:=hid (show ∀p,some pa=some p→p.block≠g from fun p e=>by cases e;have:=HLA.out;omega)
 have HGW:=hid (show w.heap.size≤g from Nat.le_trans HWS.out hgn)
 have hqs:l.length≤((inV (upV l (k:Int))).toArray).size:=by simp [inV_len,Ha2]
 have HQ:=hid hq
 have HQS:=hid hqs
 clear hq hqs hgn HLO HLA HWS
 generalize (inV (upV l (k:Int))).toArray=cur at *
 go_wp2_with fail
 go_loopw [8] (fun i wr=>∃(j:Nat) (cs:Array Value),j≤l.length∧i=.int .i64 j∧Blk wr g 3 cs∧l.length≤cs.size∧u3.grownBy wr (some g)) (fun i _=>l.length-(intOf i).toNat)
 case atStart=>exact ⟨0,cur,Nat.zero_le _,rfl,HQ.out,HQS.out,⟨rfl,rfl,rfl,Nat.le_refl _,fun _ _ _=>rfl⟩⟩
 case round =>
  obtain ⟨j,cs,hj,rfl,hB2,hz2,hgr⟩:=hrel
  have HGR:=hid hgr
  have HB2:=hid hB2
  clear hgr hB2 HQ HQS
  by_cases hlt:j<l.length
  ·have hl2:=HB2.out.lt
   have c0:wr.cell? ⟨g,j,none⟩=some (cs[j]'(by omega)):=by rw [HB2.out.cell,Array.getElem?_eq_getElem]
   have f0:∀i,wr.frozen? ⟨g,i,none⟩=false:=HB2.out.frozen
   have hw:IntKind.i64.wrap ((j:Int)+1)=(j:Int)+1:=IntWalk.i64_in _ (by have:=HL1.out;omega)
   generalize cs[j]=v0 at *
   go_wp2_with fail
   go_roundw
   case rel=>exact ⟨j+1,_,by omega,by go_num,HB2.out.set_ _ _,by simpa using hz2,vgrown_both HGR.out (vlk_grown wr g _ _)⟩
   case measure=>simp [intOf];omega
  ·have hke:j=l.length:=by omega
   subst hke
   have B_60:=hid (B_4.out.grown HGR.out B_4.out.size (fun r hr=>by cases hr;exact HGW.out))
   have O_60:=hid (O_4.out.vgrown HGR.out (fun _=>HGO.out))
   have L_60:=hid (L_4.out.vgrown HGR.out (fun _=>HGA.out))
   clear HGR HB2 B_4 O_4 L_4
   go_wp2_with fail
   refine (msame_as rfl O_60.out L_60.out).mono ?_
   rintro e u4 ⟨rfl,b4⟩
   have B_61:=hid (bl B_60.out b4)
   have L_61:=hid (L_60.out.call b4)
   have O_61:=hid (O_60.out.call b4)
   clear b4 B_60 L_60 O_60
   go_wp2_with fail
   go_ret
   exact ⟨rfl,B_61.out⟩
theorem walk_verKeeps (a:Option Addr) (cap:Nat) (l:List Int) (p:Int) (w:World) (_hp:(Lit.int .i64 p).wf=true) (h:LkAt w a cap l) (_hi:InL l):Calls prog 5 #[.slice a l.length cap,.int .i64 p] w fun e w'=>e=.returned (.bool true)∧Below w.heap.size w w':=by
 cases hm:mayV l
 ·exact verKeeps_no a cap l p w h hm
 cases hp:mplB l.length p
 ·exact verKeeps_out a cap l p w h hm hp
 ·obtain ⟨k,rfl,hk⟩:=Ea9 hp
  exact verKeeps_in a cap l k w h hm hk
theorem lifted_verKeeps (os:Os) (started:os.Started) (H:Type) (enc:TypeId × Value→H) :
 ReturnsInHanded {} Try.checked os 5 .any (Rows.verKeepsSpec.pre6 enc prog Try.f5 Rows.verKeepsRow.domain false) (Rows.verKeepsSpec.post enc prog Try.f5 false true false false):=by
 refine returnsInHanded_of_change (C:=Try.checked) (by kernel_rfl) started (by kernel_rfl) func5
  (ChangeSpec.witness6 (enc:=enc) (C:=Try.checked) false ⟨#[],#[.slice none 0 0,.int .i64 0],[]⟩ 8 (by kernel_rfl) (by kernel_rfl) (by kernel_rfl) (by kernel_rfl)) ?_
 intro W base args ds gs before hval0 hW hcnd _
 have hval:∀(j:Nat) t v,Try.f5.params[j]?=some t→args[j]?=some v→Value.okWide prog W .any base t v:=hval0
 have hW':=hW
 obtain ⟨p,q,hA0,hV,rfl,hfz,hnd⟩:=hW
 have hA:DataW.TrodAll enc prog W 0 (fun _=>true) true Try.f5.params.toList args.toList ds p:=hA0
 rw [Try.params5] at hA hval
 obtain ⟨v0,vs0,d0,ds0,p0,q0,hargs,rfl,rfl,h0,r0⟩:=trodAll_cons hA
 obtain ⟨v1,vs1,d1,ds1,p1,q1,rfl,rfl,rfl,h1,r1⟩:=trodAll_cons r0
 obtain ⟨rfl,rfl,rfl⟩:=trodAll_nil r1
 obtain rfl:args=#[v0,v1]:=by cases args;simp_all
 obtain ⟨rfl,rfl⟩:=trodVars_none hV
 obtain ⟨a0,cap0,xs0,rfl,c0,i0⟩:=read_lks (hval 0 22 v0 rfl rfl) h0
 obtain ⟨a1,rfl,rfl,rfl,w1⟩:=open_int underlying3 (hval 1 3 v1 rfl rfl) h1
 clear hA0 hval0
 simp only [List.append_nil] at hW'
 refine (walk_verKeeps a0 cap0 xs0 a1 W w1 c0 i0).mono fun e W' ⟨he,hg⟩=>?_
 subst he
 exact ⟨_,rfl,Iy (by kernel_rfl) rfl (by rw [Try.params5];decide +kernel) rfl rfl underlying4 hW' hg⟩
theorem proved_verKeeps:Rows.VerKeepsSaid :=
 OpenClaim.holds_of_wide 5 Try.f5 rfl rfl rfl rfl rfl rfl rfl ⟨rfl,rfl,rfl,rfl,rfl⟩ rfl rfl rfl rfl rfl (by kernel_rfl) func5 (by kernel_rfl)
  (of_decide_eq_true (by kernel_rfl)) (by unfold Func.isWrapper;first|(rw [if_pos (by decide +kernel)];kernel_rfl)|(rw [if_neg (by decide +kernel)];exact ⟨rfl,rfl⟩))
  (fun os started H enc _=>lifted_verKeeps os started H enc)
#print axioms proved_verKeeps
end Go.Proofs.Ytchmbmkdceaboaa
