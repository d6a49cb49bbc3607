/- The document's own Of of layer 16. -/
import Derived.Test.YtenpcndoilcjcaaKeysE
import Derived.Test.YtenpcndoilcjcaaGFootC
namespace Go.Proofs.Ytenpcndoilcjcaa
open Go.ChangeShapes Go.WideShapes Go.ChangeAt Go.RowKit Go.Proofs.Try
open Lib (hid)
set_option linter.unusedVariables false
open Go.RowKit Go
set_option maxRecDepth 100000 in
set_option maxHeartbeats 4000000 in
theorem rof_any (x:Wd) (p:Wp) (i:Nat) (c:Cm) (ga wa:Option Addr) (gc wc:Nat) (w:World) (hx:Ai x=true) (h:Ab w p x) (hi:i<x.at_.length) (hd:0≤c.dir∧c.dir<4) (h0:0≤c.who) :
 Calls prog 12 #[.agg (wC x p),.int .i64 (i:Int),.agg (cC c ga gc wa wc)] w fun e w'=>∃(fb:Option Addr) (cp:Nat) (s:List Pl),e=.returned (.slice fb s.length cp)∧Lm (Yb x i c) s∧OwnR 2 47 plC w.heap.size w' fb s∧Below w.heap.size w w':=by
 have hink:=foot_short x i c
 obtain ⟨b,o,hbo,hb,hc⟩:=h.at_.at_ hi
 have c1:=hc i hi
 rw [(Bn hx hi).1] at c1
 have hr:=(Bn hx hi).2
 obtain ⟨eb,eo,hxe,hlb,hce⟩:=h.d.ex.at_ hr
 have hme:=h.d.ex.len
 obtain ⟨ck,cd,ci,cb,cw,cg,cp,cn,cf⟩:=c
 dsimp only at hd h0
 obtain ⟨d,rfl⟩:∃d:Nat,cd=d:=⟨cd.toNat,by omega⟩
 have hd4:d<4:=by omega
 have hdi:(d:Int)<4:=by omega
 have c0:=hce (Ah x i) hr d hd4
 rw [Au1 _ hd4,Tv hr] at c0
 have HFL:=hid (footL_cases x i ⟨ck,(d:Int),ci,cb,cw,cg,cp,cn,cf⟩)
 dsimp only at HFL
 rw [show ((d:Int)).toNat=d by omega] at HFL
 have HSH:=hid hink
 have C1:=hid c1
 have C0:=hid c0
 have HBB:=hid hb
 have HLB:=hid hlb
 clear hink hc hx c1 c0 hb hce hd h hlb
 generalize Ah x i=rm at *
 generalize toW x rm d=T at *
 obtain ⟨⟨dex,exc,dpl,dplc,dco,dcoc,dit,ditc,dbo,dboc⟩,pa,pac,pk,pkc,pw,pwc⟩:=p
 dsimp only at hbo hxe
 subst hbo hxe
 have HP0:=hid (Ac.pair w (wC x ⟨⟨some ⟨eb,eo,none⟩,exc,dpl,dplc,dco,dcoc,dit,ditc,dbo,dboc⟩,some ⟨b,o,none⟩,pac,pk,pkc,pw,pwc⟩) #[.int .i64 ck,.int .i64 (d:Int),.int .i64 ci,.int .i64 cb,.int .i64 cw,.slice ga cg.length gc,.int .i64 cp,.slice wa cn.length wc,.int .i64 cf] 29 31)
 have ca:=C1.out
 have ce:=C0.out
 have lb:=HBB.out
 have le:=HLB.out
 have hWC:=@wC.eq_1
 have hCC:=@cC.eq_1
 go_enter func12,ntmps12
 go_wp2_with fail
 clear ca ce lb le
 have z0:((w.alloc (.cells (wC x ⟨⟨some ⟨eb,eo,none⟩,exc,dpl,dplc,dco,dcoc,dit,ditc,dbo,dboc⟩,some ⟨b,o,none⟩,pac,pk,pkc,pw,pwc⟩) 29)).alloc (.cells #[.int .i64 ck,.int .i64 (d:Int),.int .i64 ci,.int .i64 cb,.int .i64 cw,.slice ga cg.length gc,.int .i64 cp,.slice wa cn.length wc,.int .i64 cf] 31)).heap.size=w.heap.size+1+1:=by simp
 generalize (w.alloc (.cells (wC x ⟨⟨some ⟨eb,eo,none⟩,exc,dpl,dplc,dco,dcoc,dit,ditc,dbo,dboc⟩,some ⟨b,o,none⟩,pac,pk,pkc,pw,pwc⟩) 29)).alloc (.cells #[.int .i64 ck,.int .i64 (d:Int),.int .i64 ci,.int .i64 cb,.int .i64 cw,.slice ga cg.length gc,.int .i64 cp,.slice wa cn.length wc,.int .i64 cf] 31)=V0 at *
 have H_0:=hid HP0.out.1
 have C_0:=hid HP0.out.2
 have B_0:=hid H_0.out.1
 clear HP0
 have g0:Dt 2 47 plC (w.heap.size+2) (V0.alloc (.cells #[.int .i64 0,.int .i64 (rm:Int),.int .i64 1,.int .i64 (i:Int)] 47)) (.slice (some ⟨V0.heap.size,0,none⟩) 2 2) [⟨0,(rm:Int)⟩,⟨1,(i:Int)⟩]:=World.ownsRow_lit V0 #[.int .i64 0,.int .i64 (rm:Int),.int .i64 1,.int .i64 (i:Int)] 2 (by have:=C_0.out.2.1;omega) (by unfold maxLen;omega) rfl
 rw [z0] at g0
 have B_1:=hid (bl B_0.out (b_a (.cells #[.int .i64 0,.int .i64 (rm:Int),.int .i64 1,.int .i64 (i:Int)] 47)))
 have H_1:=hid (H_0.out.call (b_a (.cells #[.int .i64 0,.int .i64 (rm:Int),.int .i64 1,.int .i64 (i:Int)] 47)))
 have C_1:=hid (C_0.out.call (b_a (.cells #[.int .i64 0,.int .i64 (rm:Int),.int .i64 1,.int .i64 (i:Int)] 47)))
 have G_1:=hid g0
 clear g0 z0 B_0 H_0 C_0
 generalize V0.alloc (.cells #[.int .i64 0,.int .i64 (rm:Int),.int .i64 1,.int .i64 (i:Int)] 47)=V1 at *
 generalize Value.slice (some ⟨w.heap.size+1+1,0,none⟩) 2 2=v0 at *
 have KS:Hid (∀w',Ac w w.heap.size (wC x ⟨⟨some ⟨eb,eo,none⟩,exc,dpl,dplc,dco,dcoc,dit,ditc,dbo,dboc⟩,some ⟨b,o,none⟩,pac,pk,pkc,pw,pwc⟩) w'→Ac w (w.heap.size+1) #[.int .i64 ck,.int .i64 (d:Int),.int .i64 ci,.int .i64 cb,.int .i64 cw,.slice ga cg.length gc,.int .i64 cp,.slice wa cn.length wc,.int .i64 cf] w'→(∀ii,w'.cell? ⟨w.heap.size,ii,none⟩=((wC x ⟨⟨some ⟨eb,eo,none⟩,exc,dpl,dplc,dco,dcoc,dit,ditc,dbo,dboc⟩,some ⟨b,o,none⟩,pac,pk,pkc,pw,pwc⟩)[ii]?:Option Value))∧(∀ii,w'.cell? ⟨w.heap.size+1,ii,none⟩=(#[.int .i64 ck,.int .i64 (d:Int),.int .i64 ci,.int .i64 cb,.int .i64 cw,.slice ga cg.length gc,.int .i64 cp,.slice wa cn.length wc,.int .i64 cf][ii]?:Option Value))∧w'.cell? ⟨b,o+i,none⟩=some (.int .i64 (rm:Int))∧w'.cell? ⟨eb,eo+rm*4+d,none⟩=some (.int .i64 T)):=hid (fun w' hH hC=>⟨hH.2.2,hC.2.2,(hH.1.cell (p:=⟨b,o+i,none⟩) HBB.out).trans C1.out,(hH.1.cell (p:=⟨eb,eo+rm*4+d,none⟩) HLB.out).trans C0.out⟩)
 by_cases hk1:ck=1
 ·skip
  by_cases ht:T=-1
  ·have HFI:=hid ((HFL.out [] [] (by rw [if_neg (fun h=>h.2 ht)]) (by rw [if_neg (fun h=>by have:=h.1;omega)])).trans (show _=[⟨0,(rm:Int)⟩,⟨1,(i:Int)⟩] by simp))
   have j1:(ck==1)=true:=by simpa using hk1
   have j2:(ck==2)=false:=by simp;omega
   have j7:(ck==7)=false:=by simp;omega
   have j8:(ck==8)=false:=by simp;omega
   have jt:(T != -1)=false:=by simpa using ht
   clear hk1 ht
   have hcH:=H_1.out.2.2
   have hlH:=H_1.out.2.1
   have hcC:=C_1.out.2.2
   have hlC:=C_1.out.2.1
   have ca:V1.cell? ⟨b,o+i,none⟩=some (.int .i64 (rm:Int)):=(B_1.out.cell (p:=⟨b,o+i,none⟩) HBB.out).trans C1.out
   have ce:V1.cell? ⟨eb,eo+rm*4+d,none⟩=some (.int .i64 T):=(B_1.out.cell (p:=⟨eb,eo+rm*4+d,none⟩) HLB.out).trans C0.out
   go_wp2_with fail
   go_quiet (fail)
   clear hcH hlH hcC hlC ca ce
   have B_2:=hid (bl B_1.out (Ib (Below.refl _ _) nq))
   have H_2:=hid (H_1.out.call (Ib (Below.refl _ _) nq))
   have C_2:=hid (C_1.out.call (Ib (Below.refl _ _) nq))
   have G_2:=hid (G_1.out.call (Ib (Below.refl _ _) nq))
   clear B_1 H_1 C_1 G_1
   generalize V1.drewN nq=V2 at *
   have hcH:=H_2.out.2.2
   have hlH:=H_2.out.2.1
   have hcC:=C_2.out.2.2
   have hlC:=C_2.out.2.1
   go_wp2_with fail
   clear hcH hlH hcC hlC
   obtain ⟨la,lc,hv,hO⟩:=G_2.out.own Ni
   subst hv
   have HO:=hid hO
   clear hO
   refine (Ei9 la lc _ _ HO.out.row (by rw [←HFI.out];have:=HSH.out;omega)).mono ?_
   rintro e z1 ⟨fb,fc,s,rfl,hs,hO2,hb2⟩
   have HB9:=hid (bl B_2.out hb2)
   have HS9:=hid hs
   have HO9:=hid (Gb3 hO2 B_2.out.size)
   clear hs hO2 hb2
   go_wp2_with fail
   go_ret
   exact ⟨fb,fc,s,rfl,by rw [HFI.out];exact HS9.out,HO9.out,HB9.out⟩
  ·have HFI:=hid ((HFL.out [⟨0,T⟩] [] (by rw [if_pos ⟨.inl hk1,ht⟩]) (by rw [if_neg (fun h=>by have:=h.1;omega)])).trans (show _=([⟨0,(rm:Int)⟩,⟨1,(i:Int)⟩]++[⟨0,T⟩]) by simp))
   have j1:(ck==1)=true:=by simpa using hk1
   have j2:(ck==2)=false:=by simp;omega
   have j7:(ck==7)=false:=by simp;omega
   have j8:(ck==8)=false:=by simp;omega
   have jt:(T != -1)=true:=by simpa using ht
   clear hk1 ht
   have hcH:=H_1.out.2.2
   have hlH:=H_1.out.2.1
   have hcC:=C_1.out.2.2
   have hlC:=C_1.out.2.1
   have ca:V1.cell? ⟨b,o+i,none⟩=some (.int .i64 (rm:Int)):=(B_1.out.cell (p:=⟨b,o+i,none⟩) HBB.out).trans C1.out
   have ce:V1.cell? ⟨eb,eo+rm*4+d,none⟩=some (.int .i64 T):=(B_1.out.cell (p:=⟨eb,eo+rm*4+d,none⟩) HLB.out).trans C0.out
   go_wp2_with fail
   go_quiet (fail)
   clear hcH hlH hcC hlC ca ce
   have B_2:=hid (bl B_1.out (Ib (Below.refl _ _) nq))
   have H_2:=hid (H_1.out.call (Ib (Below.refl _ _) nq))
   have C_2:=hid (C_1.out.call (Ib (Below.refl _ _) nq))
   have G_2:=hid (G_1.out.call (Ib (Below.refl _ _) nq))
   clear B_1 H_1 C_1 G_1
   generalize V1.drewN nq=V2 at *
   have hcH:=H_2.out.2.2
   have hlH:=H_2.out.2.1
   have hcC:=C_2.out.2.2
   have hlC:=C_2.out.2.1
   go_wp2_with fail
   clear hcH hlH hcC hlC
   have DR:=hid (Af (Below.refl V2.heap.size V2))
   have HH:=hid (H_2.out.call DR.out)
   have CH:=hid (C_2.out.call DR.out)
   have GH:=hid (G_2.out.call DR.out)
   have BH:=hid (bl B_2.out DR.out)
   refine tkS (S:=(fun w'=>(∀ii,w'.cell? ⟨w.heap.size,ii,none⟩=((wC x ⟨⟨some ⟨eb,eo,none⟩,exc,dpl,dplc,dco,dcoc,dit,ditc,dbo,dboc⟩,some ⟨b,o,none⟩,pac,pk,pkc,pw,pwc⟩)[ii]?:Option Value))∧(∀ii,w'.cell? ⟨w.heap.size+1,ii,none⟩=(#[.int .i64 ck,.int .i64 (d:Int),.int .i64 ci,.int .i64 cb,.int .i64 cw,.slice ga cg.length gc,.int .i64 cp,.slice wa cn.length wc,.int .i64 cf][ii]?:Option Value))∧w'.cell? ⟨b,o+i,none⟩=some (.int .i64 (rm:Int))∧w'.cell? ⟨eb,eo+rm*4+d,none⟩=some (.int .i64 T))) (by (first|(exact KS.out _ HH.out CH.out))) (fun hHeld=>?_)
   generalize V2.drew=Y at *
   refine tkl [0,1,2,3,4,5,6,7,8,9,10,11,12,13,14] ?_
   iterate 15
    refine tW ?_
    try go_frame
   obtain ⟨v',W2,hr9,hG,hg⟩:=GH.out.one (t:=32) underlying32 keyF_info rfl (by decide) (by decide) Ni plC_one' (⟨0,T⟩:Pl) (by simp) (by have:=CH.out.2.1;omega)
   have HR9:=hid (show (Builtin.append_ #[32,32] 32 #[v0,.slice (some ⟨Y.heap.size,0,none⟩) 1 1]).run prog (Y.alloc (.cells #[.int .i64 0,.int .i64 T] 47))=.ok v' W2 by simpa [plC] using hr9)
   have H2:=hid (GH.out.holds HH.out hg (by omega) (by omega))
   have C2:=hid (GH.out.holds CH.out hg (by omega) (by omega))
   have G2:=hid hG
   have B2:=hid H2.out.1
   clear hr9 hG hg
   refine rdy1 15 (fun K hK=>?_)
   go_simp
   try go_wp2_with fail
   refine hK.out _ _ (by (first|(exact KS.out _ (HH.out.alloc _) (CH.out.alloc _)))) (fun hHeld=>?_)
   clear hK K
   try go_frame
   refine rdy1 16 (fun K hK=>?_)
   refine fstep_append rfl (.tmp 42) (.tmp 57) 32 rfl _ _ _ W2 rfl rfl HR9.out ?_
   refine hK.out _ _ (by (first|(exact KS.out _ H2.out C2.out))) (fun hHeld=>?_)
   clear hK K
   try go_frame
   refine tkl [17] (tW ?_)
   try go_frame
   refine tkD ?_
   clear hHeld HH CH GH BH DR HR9 B_2 H_2 C_2 G_2
   have B_3:=B2
   have H_3:=H2
   have C_3:=C2
   have G_3:=G2
   clear B2 H2 C2 G2
   have hcH:=H_3.out.2.2
   have hlH:=H_3.out.2.1
   have hcC:=C_3.out.2.2
   have hlC:=C_3.out.2.1
   go_wp2_with fail
   clear hcH hlH hcC hlC
   obtain ⟨la,lc,hv,hO⟩:=G_3.out.own Ni
   subst hv
   have HO:=hid hO
   clear hO
   refine (Ei9 la lc _ _ HO.out.row (by rw [←HFI.out];have:=HSH.out;omega)).mono ?_
   rintro e z1 ⟨fb,fc,s,rfl,hs,hO2,hb2⟩
   have HB9:=hid (bl B_3.out hb2)
   have HS9:=hid hs
   have HO9:=hid (Gb3 hO2 B_3.out.size)
   clear hs hO2 hb2
   go_wp2_with fail
   go_ret
   exact ⟨fb,fc,s,rfl,by rw [HFI.out];exact HS9.out,HO9.out,HB9.out⟩
 ·skip
  by_cases hk2:ck=2
  ·clear hk1
   cases hq:inB cw x.at_.length
   ·by_cases ht:T=-1
    ·have HFI:=hid ((HFL.out [] [] (by rw [if_neg (fun h=>h.2 ht)]) (by rw [if_neg (fun h=>by rw [h.2] at hq;cases hq)])).trans (show _=[⟨0,(rm:Int)⟩,⟨1,(i:Int)⟩] by simp))
     have j1:(ck==1)=false:=by simp;omega
     have j2:(ck==2)=true:=by simpa using hk2
     have j7:(ck==7)=false:=by simp;omega
     have j8:(ck==8)=false:=by simp;omega
     have jt:(T != -1)=false:=by simpa using ht
     have jw:decide (0≤cw)=true:=decide_eq_true h0
     have jl:decide (cw<(x.at_.length:Int))=false:=by simp only [inB,Bool.and_eq_false_iff,decide_eq_false_iff_not] at hq;simp;omega
     clear hk2 ht hq
     have hcH:=H_1.out.2.2
     have hlH:=H_1.out.2.1
     have hcC:=C_1.out.2.2
     have hlC:=C_1.out.2.1
     have ca:V1.cell? ⟨b,o+i,none⟩=some (.int .i64 (rm:Int)):=(B_1.out.cell (p:=⟨b,o+i,none⟩) HBB.out).trans C1.out
     have ce:V1.cell? ⟨eb,eo+rm*4+d,none⟩=some (.int .i64 T):=(B_1.out.cell (p:=⟨eb,eo+rm*4+d,none⟩) HLB.out).trans C0.out
     go_wp2_with fail
     go_quiet (fail)
     clear hcH hlH hcC hlC ca ce
     have B_2:=hid (bl B_1.out (Ib (Below.refl _ _) nq))
     have H_2:=hid (H_1.out.call (Ib (Below.refl _ _) nq))
     have C_2:=hid (C_1.out.call (Ib (Below.refl _ _) nq))
     have G_2:=hid (G_1.out.call (Ib (Below.refl _ _) nq))
     clear B_1 H_1 C_1 G_1
     generalize V1.drewN nq=V2 at *
     have hcH:=H_2.out.2.2
     have hlH:=H_2.out.2.1
     have hcC:=C_2.out.2.2
     have hlC:=C_2.out.2.1
     go_wp2_with fail
     clear hcH hlH hcC hlC
     obtain ⟨la,lc,hv,hO⟩:=G_2.out.own Ni
     subst hv
     have HO:=hid hO
     clear hO
     refine (Ei9 la lc _ _ HO.out.row (by rw [←HFI.out];have:=HSH.out;omega)).mono ?_
     rintro e z1 ⟨fb,fc,s,rfl,hs,hO2,hb2⟩
     have HB9:=hid (bl B_2.out hb2)
     have HS9:=hid hs
     have HO9:=hid (Gb3 hO2 B_2.out.size)
     clear hs hO2 hb2
     go_wp2_with fail
     go_ret
     exact ⟨fb,fc,s,rfl,by rw [HFI.out];exact HS9.out,HO9.out,HB9.out⟩
    ·have HFI:=hid ((HFL.out [⟨0,T⟩] [] (by rw [if_pos ⟨.inr hk2,ht⟩]) (by rw [if_neg (fun h=>by rw [h.2] at hq;cases hq)])).trans (show _=([⟨0,(rm:Int)⟩,⟨1,(i:Int)⟩]++[⟨0,T⟩]) by simp))
     have j1:(ck==1)=false:=by simp;omega
     have j2:(ck==2)=true:=by simpa using hk2
     have j7:(ck==7)=false:=by simp;omega
     have j8:(ck==8)=false:=by simp;omega
     have jt:(T != -1)=true:=by simpa using ht
     have jw:decide (0≤cw)=true:=decide_eq_true h0
     have jl:decide (cw<(x.at_.length:Int))=false:=by simp only [inB,Bool.and_eq_false_iff,decide_eq_false_iff_not] at hq;simp;omega
     clear hk2 ht hq
     have hcH:=H_1.out.2.2
     have hlH:=H_1.out.2.1
     have hcC:=C_1.out.2.2
     have hlC:=C_1.out.2.1
     have ca:V1.cell? ⟨b,o+i,none⟩=some (.int .i64 (rm:Int)):=(B_1.out.cell (p:=⟨b,o+i,none⟩) HBB.out).trans C1.out
     have ce:V1.cell? ⟨eb,eo+rm*4+d,none⟩=some (.int .i64 T):=(B_1.out.cell (p:=⟨eb,eo+rm*4+d,none⟩) HLB.out).trans C0.out
     go_wp2_with fail
     go_quiet (fail)
     clear hcH hlH hcC hlC ca ce
     have B_2:=hid (bl B_1.out (Ib (Below.refl _ _) nq))
     have H_2:=hid (H_1.out.call (Ib (Below.refl _ _) nq))
     have C_2:=hid (C_1.out.call (Ib (Below.refl _ _) nq))
     have G_2:=hid (G_1.out.call (Ib (Below.refl _ _) nq))
     clear B_1 H_1 C_1 G_1
     generalize V1.drewN nq=V2 at *
     have hcH:=H_2.out.2.2
     have hlH:=H_2.out.2.1
     have hcC:=C_2.out.2.2
     have hlC:=C_2.out.2.1
     go_wp2_with fail
     clear hcH hlH hcC hlC
     have DR:=hid (Af (Below.refl V2.heap.size V2))
     have HH:=hid (H_2.out.call DR.out)
     have CH:=hid (C_2.out.call DR.out)
     have GH:=hid (G_2.out.call DR.out)
     have BH:=hid (bl B_2.out DR.out)
     refine tkS (S:=(fun w'=>(∀ii,w'.cell? ⟨w.heap.size,ii,none⟩=((wC x ⟨⟨some ⟨eb,eo,none⟩,exc,dpl,dplc,dco,dcoc,dit,ditc,dbo,dboc⟩,some ⟨b,o,none⟩,pac,pk,pkc,pw,pwc⟩)[ii]?:Option Value))∧(∀ii,w'.cell? ⟨w.heap.size+1,ii,none⟩=(#[.int .i64 ck,.int .i64 (d:Int),.int .i64 ci,.int .i64 cb,.int .i64 cw,.slice ga cg.length gc,.int .i64 cp,.slice wa cn.length wc,.int .i64 cf][ii]?:Option Value))∧w'.cell? ⟨b,o+i,none⟩=some (.int .i64 (rm:Int))∧w'.cell? ⟨eb,eo+rm*4+d,none⟩=some (.int .i64 T))) (by (first|(exact KS.out _ HH.out CH.out))) (fun hHeld=>?_)
     generalize V2.drew=Y at *
     refine tkl [0,1,2,3,4,5,6,7,8,9,10,11,12,13,14] ?_
     iterate 15
      refine tW ?_
      try go_frame
     obtain ⟨v',W2,hr9,hG,hg⟩:=GH.out.one (t:=32) underlying32 keyF_info rfl (by decide) (by decide) Ni plC_one' (⟨0,T⟩:Pl) (by simp) (by have:=CH.out.2.1;omega)
     have HR9:=hid (show (Builtin.append_ #[32,32] 32 #[v0,.slice (some ⟨Y.heap.size,0,none⟩) 1 1]).run prog (Y.alloc (.cells #[.int .i64 0,.int .i64 T] 47))=.ok v' W2 by simpa [plC] using hr9)
     have H2:=hid (GH.out.holds HH.out hg (by omega) (by omega))
     have C2:=hid (GH.out.holds CH.out hg (by omega) (by omega))
     have G2:=hid hG
     have B2:=hid H2.out.1
     clear hr9 hG hg
     refine rdy1 15 (fun K hK=>?_)
     go_simp
     try go_wp2_with fail
     refine hK.out _ _ (by (first|(exact KS.out _ (HH.out.alloc _) (CH.out.alloc _)))) (fun hHeld=>?_)
     clear hK K
     try go_frame
     refine rdy1 16 (fun K hK=>?_)
     refine fstep_append rfl (.tmp 42) (.tmp 57) 32 rfl _ _ _ W2 rfl rfl HR9.out ?_
     refine hK.out _ _ (by (first|(exact KS.out _ H2.out C2.out))) (fun hHeld=>?_)
     clear hK K
     try go_frame
     refine tkl [17] (tW ?_)
     try go_frame
     refine tkD ?_
     clear hHeld HH CH GH BH DR HR9 B_2 H_2 C_2 G_2
     have B_3:=B2
     have H_3:=H2
     have C_3:=C2
     have G_3:=G2
     clear B2 H2 C2 G2
     have hcH:=H_3.out.2.2
     have hlH:=H_3.out.2.1
     have hcC:=C_3.out.2.2
     have hlC:=C_3.out.2.1
     go_wp2_with fail
     clear hcH hlH hcC hlC
     obtain ⟨la,lc,hv,hO⟩:=G_3.out.own Ni
     subst hv
     have HO:=hid hO
     clear hO
     refine (Ei9 la lc _ _ HO.out.row (by rw [←HFI.out];have:=HSH.out;omega)).mono ?_
     rintro e z1 ⟨fb,fc,s,rfl,hs,hO2,hb2⟩
     have HB9:=hid (bl B_3.out hb2)
     have HS9:=hid hs
     have HO9:=hid (Gb3 hO2 B_3.out.size)
     clear hs hO2 hb2
     go_wp2_with fail
     go_ret
     exact ⟨fb,fc,s,rfl,by rw [HFI.out];exact HS9.out,HO9.out,HB9.out⟩
   ·by_cases ht:T=-1
    ·have HFI:=hid ((HFL.out [] [⟨1,cw⟩] (by rw [if_neg (fun h=>h.2 ht)]) (by rw [if_pos ⟨.inl hk2,hq⟩])).trans (show _=([⟨0,(rm:Int)⟩,⟨1,(i:Int)⟩]++[⟨1,cw⟩]) by simp))
     have j1:(ck==1)=false:=by simp;omega
     have j2:(ck==2)=true:=by simpa using hk2
     have j7:(ck==7)=false:=by simp;omega
     have j8:(ck==8)=false:=by simp;omega
     have jt:(T != -1)=false:=by simpa using ht
     have jw:decide (0≤cw)=true:=decide_eq_true h0
     have jl:decide (cw<(x.at_.length:Int))=true:=by simp only [inB,Bool.and_eq_true,decide_eq_true_eq] at hq;simp;omega
     clear hk2 ht hq
     have hcH:=H_1.out.2.2
     have hlH:=H_1.out.2.1
     have hcC:=C_1.out.2.2
     have hlC:=C_1.out.2.1
     have ca:V1.cell? ⟨b,o+i,none⟩=some (.int .i64 (rm:Int)):=(B_1.out.cell (p:=⟨b,o+i,none⟩) HBB.out).trans C1.out
     have ce:V1.cell? ⟨eb,eo+rm*4+d,none⟩=some (.int .i64 T):=(B_1.out.cell (p:=⟨eb,eo+rm*4+d,none⟩) HLB.out).trans C0.out
     go_wp2_with fail
     go_quiet (fail)
     clear hcH hlH hcC hlC ca ce
     have B_2:=hid (bl B_1.out (Ib (Below.refl _ _) nq))
     have H_2:=hid (H_1.out.call (Ib (Below.refl _ _) nq))
     have C_2:=hid (C_1.out.call (Ib (Below.refl _ _) nq))
     have G_2:=hid (G_1.out.call (Ib (Below.refl _ _) nq))
     clear B_1 H_1 C_1 G_1
     generalize V1.drewN nq=V2 at *
     have hcH:=H_2.out.2.2
     have hlH:=H_2.out.2.1
     have hcC:=C_2.out.2.2
     have hlC:=C_2.out.2.1
     clear hcH hlH hcC hlC
     obtain ⟨v3,W3,hr9,hG,hg⟩:=G_2.out.one (t:=32) underlying32 keyF_info rfl (by decide) (by decide) Ni plC_one' (⟨1,cw⟩:Pl) (by simp) (by have:=C_2.out.2.1;omega)
     have HR9:=hid (show (Builtin.append_ #[32,32] 32 #[v0,.slice (some ⟨V2.heap.size,0,none⟩) 1 1]).run prog (V2.alloc (.cells #[.int .i64 1,.int .i64 cw] 47))=.ok v3 W3 by simpa [plC] using hr9)
     have B_3:=hid (G_2.out.below B_2.out hg (by omega))
     have H_3:=hid (G_2.out.holds H_2.out hg (by omega) (by omega))
     have C_3:=hid (G_2.out.holds C_2.out hg (by omega) (by omega))
     have G_3:=hid hG
     clear hr9 hG hg
     have hcH:=H_2.out.2.2
     have hlH:=H_2.out.2.1
     have hcC:=C_2.out.2.2
     have hlC:=C_2.out.2.1
     go_wp2_with (at_builtin;refine Bb rfl (.tmp 82) (.tmp 86) 32 rfl _ _ _ _ rfl rfl HR9.out ?_)
     clear hcH hlH hcC hlC
     clear B_2 H_2 C_2 G_2
     obtain ⟨la,lc,hv,hO⟩:=G_3.out.own Ni
     subst hv
     have HO:=hid hO
     clear hO
     refine (Ei9 la lc _ _ HO.out.row (by rw [←HFI.out];have:=HSH.out;omega)).mono ?_
     rintro e z1 ⟨fb,fc,s,rfl,hs,hO2,hb2⟩
     have HB9:=hid (bl B_3.out hb2)
     have HS9:=hid hs
     have HO9:=hid (Gb3 hO2 B_3.out.size)
     clear hs hO2 hb2
     go_wp2_with fail
     go_ret
     exact ⟨fb,fc,s,rfl,by rw [HFI.out];exact HS9.out,HO9.out,HB9.out⟩
    ·have HFI:=hid ((HFL.out [⟨0,T⟩] [⟨1,cw⟩] (by rw [if_pos ⟨.inr hk2,ht⟩]) (by rw [if_pos ⟨.inl hk2,hq⟩])).trans (show _=(([⟨0,(rm:Int)⟩,⟨1,(i:Int)⟩]++[⟨0,T⟩])++[⟨1,cw⟩]) by simp))
     have j1:(ck==1)=false:=by simp;omega
     have j2:(ck==2)=true:=by simpa using hk2
     have j7:(ck==7)=false:=by simp;omega
     have j8:(ck==8)=false:=by simp;omega
     have jt:(T != -1)=true:=by simpa using ht
     have jw:decide (0≤cw)=true:=decide_eq_true h0
     have jl:decide (cw<(x.at_.length:Int))=true:=by simp only [inB,Bool.and_eq_true,decide_eq_true_eq] at hq;simp;omega
     clear hk2 ht hq
     have hcH:=H_1.out.2.2
     have hlH:=H_1.out.2.1
     have hcC:=C_1.out.2.2
     have hlC:=C_1.out.2.1
     have ca:V1.cell? ⟨b,o+i,none⟩=some (.int .i64 (rm:Int)):=(B_1.out.cell (p:=⟨b,o+i,none⟩) HBB.out).trans C1.out
     have ce:V1.cell? ⟨eb,eo+rm*4+d,none⟩=some (.int .i64 T):=(B_1.out.cell (p:=⟨eb,eo+rm*4+d,none⟩) HLB.out).trans C0.out
     go_wp2_with fail
     go_quiet (fail)
     clear hcH hlH hcC hlC ca ce
     have B_2:=hid (bl B_1.out (Ib (Below.refl _ _) nq))
     have H_2:=hid (H_1.out.call (Ib (Below.refl _ _) nq))
     have C_2:=hid (C_1.out.call (Ib (Below.refl _ _) nq))
     have G_2:=hid (G_1.out.call (Ib (Below.refl _ _) nq))
     clear B_1 H_1 C_1 G_1
     generalize V1.drewN nq=V2 at *
     have hcH:=H_2.out.2.2
     have hlH:=H_2.out.2.1
     have hcC:=C_2.out.2.2
     have hlC:=C_2.out.2.1
     go_wp2_with fail
     clear hcH hlH hcC hlC
     have DR:=hid (Af (Below.refl V2.heap.size V2))
     have HH:=hid (H_2.out.call DR.out)
     have CH:=hid (C_2.out.call DR.out)
     have GH:=hid (G_2.out.call DR.out)
     have BH:=hid (bl B_2.out DR.out)
     refine tkS (S:=(fun w'=>(∀ii,w'.cell? ⟨w.heap.size,ii,none⟩=((wC x ⟨⟨some ⟨eb,eo,none⟩,exc,dpl,dplc,dco,dcoc,dit,ditc,dbo,dboc⟩,some ⟨b,o,none⟩,pac,pk,pkc,pw,pwc⟩)[ii]?:Option Value))∧(∀ii,w'.cell? ⟨w.heap.size+1,ii,none⟩=(#[.int .i64 ck,.int .i64 (d:Int),.int .i64 ci,.int .i64 cb,.int .i64 cw,.slice ga cg.length gc,.int .i64 cp,.slice wa cn.length wc,.int .i64 cf][ii]?:Option Value))∧w'.cell? ⟨b,o+i,none⟩=some (.int .i64 (rm:Int))∧w'.cell? ⟨eb,eo+rm*4+d,none⟩=some (.int .i64 T))) (by (first|(exact KS.out _ HH.out CH.out))) (fun hHeld=>?_)
     generalize V2.drew=Y at *
     refine tkl [0,1,2,3,4,5,6,7,8,9,10,11,12,13,14] ?_
     iterate 15
      refine tW ?_
      try go_frame
     obtain ⟨v',W2,hr9,hG,hg⟩:=GH.out.one (t:=32) underlying32 keyF_info rfl (by decide) (by decide) Ni plC_one' (⟨0,T⟩:Pl) (by simp) (by have:=CH.out.2.1;omega)
     have HR9:=hid (show (Builtin.append_ #[32,32] 32 #[v0,.slice (some ⟨Y.heap.size,0,none⟩) 1 1]).run prog (Y.alloc (.cells #[.int .i64 0,.int .i64 T] 47))=.ok v' W2 by simpa [plC] using hr9)
     have H2:=hid (GH.out.holds HH.out hg (by omega) (by omega))
     have C2:=hid (GH.out.holds CH.out hg (by omega) (by omega))
     have G2:=hid hG
     have B2:=hid H2.out.1
     clear hr9 hG hg
     refine rdy1 15 (fun K hK=>?_)
     go_simp
     try go_wp2_with fail
     refine hK.out _ _ (by (first|(exact KS.out _ (HH.out.alloc _) (CH.out.alloc _)))) (fun hHeld=>?_)
     clear hK K
     try go_frame
     refine rdy1 16 (fun K hK=>?_)
     refine fstep_append rfl (.tmp 42) (.tmp 57) 32 rfl _ _ _ W2 rfl rfl HR9.out ?_
     refine hK.out _ _ (by (first|(exact KS.out _ H2.out C2.out))) (fun hHeld=>?_)
     clear hK K
     try go_frame
     refine tkl [17] (tW ?_)
     try go_frame
     refine tkD ?_
     clear hHeld HH CH GH BH DR HR9 B_2 H_2 C_2 G_2
     have B_3:=B2
     have H_3:=H2
     have C_3:=C2
     have G_3:=G2
     clear B2 H2 C2 G2
     have hcH:=H_3.out.2.2
     have hlH:=H_3.out.2.1
     have hcC:=C_3.out.2.2
     have hlC:=C_3.out.2.1
     clear hcH hlH hcC hlC
     obtain ⟨v3,W3,hr9,hG,hg⟩:=G_3.out.one (t:=32) underlying32 keyF_info rfl (by decide) (by decide) Ni plC_one' (⟨1,cw⟩:Pl) (by simp) (by have:=C_3.out.2.1;omega)
     have HR9:=hid (show (Builtin.append_ #[32,32] 32 #[v',.slice (some ⟨W2.heap.size,0,none⟩) 1 1]).run prog (W2.alloc (.cells #[.int .i64 1,.int .i64 cw] 47))=.ok v3 W3 by simpa [plC] using hr9)
     have B_4:=hid (G_3.out.below B_3.out hg (by omega))
     have H_4:=hid (G_3.out.holds H_3.out hg (by omega) (by omega))
     have C_4:=hid (G_3.out.holds C_3.out hg (by omega) (by omega))
     have G_4:=hid hG
     clear hr9 hG hg
     have hcH:=H_3.out.2.2
     have hlH:=H_3.out.2.1
     have hcC:=C_3.out.2.2
     have hlC:=C_3.out.2.1
     go_wp2_with (at_builtin;refine Bb rfl (.tmp 82) (.tmp 86) 32 rfl _ _ _ _ rfl rfl HR9.out ?_)
     clear hcH hlH hcC hlC
     clear B_3 H_3 C_3 G_3
     obtain ⟨la,lc,hv,hO⟩:=G_4.out.own Ni
     subst hv
     have HO:=hid hO
     clear hO
     refine (Ei9 la lc _ _ HO.out.row (by rw [←HFI.out];have:=HSH.out;omega)).mono ?_
     rintro e z1 ⟨fb,fc,s,rfl,hs,hO2,hb2⟩
     have HB9:=hid (bl B_4.out hb2)
     have HS9:=hid hs
     have HO9:=hid (Gb3 hO2 B_4.out.size)
     clear hs hO2 hb2
     go_wp2_with fail
     go_ret
     exact ⟨fb,fc,s,rfl,by rw [HFI.out];exact HS9.out,HO9.out,HB9.out⟩
  ·skip
   by_cases hk7:ck=7
   ·clear hk1 hk2
    cases hq:inB cw x.at_.length
    ·have HFI:=hid ((HFL.out [] [] (by rw [if_neg (fun h=>by have:=h.1;omega)]) (by rw [if_neg (fun h=>by rw [h.2] at hq;cases hq)])).trans (show _=[⟨0,(rm:Int)⟩,⟨1,(i:Int)⟩] by simp))
     have j1:(ck==1)=false:=by simp;omega
     have j2:(ck==2)=false:=by simp;omega
     have j7:(ck==7)=true:=by simpa using hk7
     have j8:(ck==8)=false:=by simp;omega
     have jw:decide (0≤cw)=true:=decide_eq_true h0
     have jl:decide (cw<(x.at_.length:Int))=false:=by simp only [inB,Bool.and_eq_false_iff,decide_eq_false_iff_not] at hq;simp;omega
     clear hk7 hq
     have hcH:=H_1.out.2.2
     have hlH:=H_1.out.2.1
     have hcC:=C_1.out.2.2
     have hlC:=C_1.out.2.1
     have ca:V1.cell? ⟨b,o+i,none⟩=some (.int .i64 (rm:Int)):=(B_1.out.cell (p:=⟨b,o+i,none⟩) HBB.out).trans C1.out
     have ce:V1.cell? ⟨eb,eo+rm*4+d,none⟩=some (.int .i64 T):=(B_1.out.cell (p:=⟨eb,eo+rm*4+d,none⟩) HLB.out).trans C0.out
     go_wp2_with fail
     go_quiet (fail)
     clear hcH hlH hcC hlC ca ce
     have B_2:=hid (bl B_1.out (Ib (Below.refl _ _) nq))
     have H_2:=hid (H_1.out.call (Ib (Below.refl _ _) nq))
     have C_2:=hid (C_1.out.call (Ib (Below.refl _ _) nq))
     have G_2:=hid (G_1.out.call (Ib (Below.refl _ _) nq))
     clear B_1 H_1 C_1 G_1
     generalize V1.drewN nq=V2 at *
     have hcH:=H_2.out.2.2
     have hlH:=H_2.out.2.1
     have hcC:=C_2.out.2.2
     have hlC:=C_2.out.2.1
     go_wp2_with fail
     clear hcH hlH hcC hlC
     obtain ⟨la,lc,hv,hO⟩:=G_2.out.own Ni
     subst hv
     have HO:=hid hO
     clear hO
     refine (Ei9 la lc _ _ HO.out.row (by rw [←HFI.out];have:=HSH.out;omega)).mono ?_
     rintro e z1 ⟨fb,fc,s,rfl,hs,hO2,hb2⟩
     have HB9:=hid (bl B_2.out hb2)
     have HS9:=hid hs
     have HO9:=hid (Gb3 hO2 B_2.out.size)
     clear hs hO2 hb2
     go_wp2_with fail
     go_ret
     exact ⟨fb,fc,s,rfl,by rw [HFI.out];exact HS9.out,HO9.out,HB9.out⟩
    ·have HFI:=hid ((HFL.out [] [⟨1,cw⟩] (by rw [if_neg (fun h=>by have:=h.1;omega)]) (by rw [if_pos ⟨.inr (.inl hk7),hq⟩])).trans (show _=([⟨0,(rm:Int)⟩,⟨1,(i:Int)⟩]++[⟨1,cw⟩]) by simp))
     have j1:(ck==1)=false:=by simp;omega
     have j2:(ck==2)=false:=by simp;omega
     have j7:(ck==7)=true:=by simpa using hk7
     have j8:(ck==8)=false:=by simp;omega
     have jw:decide (0≤cw)=true:=decide_eq_true h0
     have jl:decide (cw<(x.at_.length:Int))=true:=by simp only [inB,Bool.and_eq_true,decide_eq_true_eq] at hq;simp;omega
     clear hk7 hq
     have hcH:=H_1.out.2.2
     have hlH:=H_1.out.2.1
     have hcC:=C_1.out.2.2
     have hlC:=C_1.out.2.1
     have ca:V1.cell? ⟨b,o+i,none⟩=some (.int .i64 (rm:Int)):=(B_1.out.cell (p:=⟨b,o+i,none⟩) HBB.out).trans C1.out
     have ce:V1.cell? ⟨eb,eo+rm*4+d,none⟩=some (.int .i64 T):=(B_1.out.cell (p:=⟨eb,eo+rm*4+d,none⟩) HLB.out).trans C0.out
     go_wp2_with fail
     go_quiet (fail)
     clear hcH hlH hcC hlC ca ce
     have B_2:=hid (bl B_1.out (Ib (Below.refl _ _) nq))
     have H_2:=hid (H_1.out.call (Ib (Below.refl _ _) nq))
     have C_2:=hid (C_1.out.call (Ib (Below.refl _ _) nq))
     have G_2:=hid (G_1.out.call (Ib (Below.refl _ _) nq))
     clear B_1 H_1 C_1 G_1
     generalize V1.drewN nq=V2 at *
     have hcH:=H_2.out.2.2
     have hlH:=H_2.out.2.1
     have hcC:=C_2.out.2.2
     have hlC:=C_2.out.2.1
     clear hcH hlH hcC hlC
     obtain ⟨v3,W3,hr9,hG,hg⟩:=G_2.out.one (t:=32) underlying32 keyF_info rfl (by decide) (by decide) Ni plC_one' (⟨1,cw⟩:Pl) (by simp) (by have:=C_2.out.2.1;omega)
     have HR9:=hid (show (Builtin.append_ #[32,32] 32 #[v0,.slice (some ⟨V2.heap.size,0,none⟩) 1 1]).run prog (V2.alloc (.cells #[.int .i64 1,.int .i64 cw] 47))=.ok v3 W3 by simpa [plC] using hr9)
     have B_3:=hid (G_2.out.below B_2.out hg (by omega))
     have H_3:=hid (G_2.out.holds H_2.out hg (by omega) (by omega))
     have C_3:=hid (G_2.out.holds C_2.out hg (by omega) (by omega))
     have G_3:=hid hG
     clear hr9 hG hg
     have hcH:=H_2.out.2.2
     have hlH:=H_2.out.2.1
     have hcC:=C_2.out.2.2
     have hlC:=C_2.out.2.1
     go_wp2_with (at_builtin;refine Bb rfl (.tmp 82) (.tmp 86) 32 rfl _ _ _ _ rfl rfl HR9.out ?_)
     clear hcH hlH hcC hlC
     clear B_2 H_2 C_2 G_2
     obtain ⟨la,lc,hv,hO⟩:=G_3.out.own Ni
     subst hv
     have HO:=hid hO
     clear hO
     refine (Ei9 la lc _ _ HO.out.row (by rw [←HFI.out];have:=HSH.out;omega)).mono ?_
     rintro e z1 ⟨fb,fc,s,rfl,hs,hO2,hb2⟩
     have HB9:=hid (bl B_3.out hb2)
     have HS9:=hid hs
     have HO9:=hid (Gb3 hO2 B_3.out.size)
     clear hs hO2 hb2
     go_wp2_with fail
     go_ret
     exact ⟨fb,fc,s,rfl,by rw [HFI.out];exact HS9.out,HO9.out,HB9.out⟩
   ·skip
    by_cases hk8:ck=8
    ·clear hk1 hk2 hk7
     cases hq:inB cw x.at_.length
     ·have HFI:=hid ((HFL.out [] [] (by rw [if_neg (fun h=>by have:=h.1;omega)]) (by rw [if_neg (fun h=>by rw [h.2] at hq;cases hq)])).trans (show _=[⟨0,(rm:Int)⟩,⟨1,(i:Int)⟩] by simp))
      have j1:(ck==1)=false:=by simp;omega
      have j2:(ck==2)=false:=by simp;omega
      have j7:(ck==7)=false:=by simp;omega
      have j8:(ck==8)=true:=by simpa using hk8
      have jw:decide (0≤cw)=true:=decide_eq_true h0
      have jl:decide (cw<(x.at_.length:Int))=false:=by simp only [inB,Bool.and_eq_false_iff,decide_eq_false_iff_not] at hq;simp;omega
      clear hk8 hq
      have hcH:=H_1.out.2.2
      have hlH:=H_1.out.2.1
      have hcC:=C_1.out.2.2
      have hlC:=C_1.out.2.1
      have ca:V1.cell? ⟨b,o+i,none⟩=some (.int .i64 (rm:Int)):=(B_1.out.cell (p:=⟨b,o+i,none⟩) HBB.out).trans C1.out
      have ce:V1.cell? ⟨eb,eo+rm*4+d,none⟩=some (.int .i64 T):=(B_1.out.cell (p:=⟨eb,eo+rm*4+d,none⟩) HLB.out).trans C0.out
      go_wp2_with fail
      go_quiet (fail)
      clear hcH hlH hcC hlC ca ce
      have B_2:=hid (bl B_1.out (Ib (Below.refl _ _) nq))
      have H_2:=hid (H_1.out.call (Ib (Below.refl _ _) nq))
      have C_2:=hid (C_1.out.call (Ib (Below.refl _ _) nq))
      have G_2:=hid (G_1.out.call (Ib (Below.refl _ _) nq))
      clear B_1 H_1 C_1 G_1
      generalize V1.drewN nq=V2 at *
      have hcH:=H_2.out.2.2
      have hlH:=H_2.out.2.1
      have hcC:=C_2.out.2.2
      have hlC:=C_2.out.2.1
      go_wp2_with fail
      clear hcH hlH hcC hlC
      obtain ⟨la,lc,hv,hO⟩:=G_2.out.own Ni
      subst hv
      have HO:=hid hO
      clear hO
      refine (Ei9 la lc _ _ HO.out.row (by rw [←HFI.out];have:=HSH.out;omega)).mono ?_
      rintro e z1 ⟨fb,fc,s,rfl,hs,hO2,hb2⟩
      have HB9:=hid (bl B_2.out hb2)
      have HS9:=hid hs
      have HO9:=hid (Gb3 hO2 B_2.out.size)
      clear hs hO2 hb2
      go_wp2_with fail
      go_ret
      exact ⟨fb,fc,s,rfl,by rw [HFI.out];exact HS9.out,HO9.out,HB9.out⟩
     ·have HFI:=hid ((HFL.out [] [⟨1,cw⟩] (by rw [if_neg (fun h=>by have:=h.1;omega)]) (by rw [if_pos ⟨.inr (.inr hk8),hq⟩])).trans (show _=([⟨0,(rm:Int)⟩,⟨1,(i:Int)⟩]++[⟨1,cw⟩]) by simp))
      have j1:(ck==1)=false:=by simp;omega
      have j2:(ck==2)=false:=by simp;omega
      have j7:(ck==7)=false:=by simp;omega
      have j8:(ck==8)=true:=by simpa using hk8
      have jw:decide (0≤cw)=true:=decide_eq_true h0
      have jl:decide (cw<(x.at_.length:Int))=true:=by simp only [inB,Bool.and_eq_true,decide_eq_true_eq] at hq;simp;omega
      clear hk8 hq
      have hcH:=H_1.out.2.2
      have hlH:=H_1.out.2.1
      have hcC:=C_1.out.2.2
      have hlC:=C_1.out.2.1
      have ca:V1.cell? ⟨b,o+i,none⟩=some (.int .i64 (rm:Int)):=(B_1.out.cell (p:=⟨b,o+i,none⟩) HBB.out).trans C1.out
      have ce:V1.cell? ⟨eb,eo+rm*4+d,none⟩=some (.int .i64 T):=(B_1.out.cell (p:=⟨eb,eo+rm*4+d,none⟩) HLB.out).trans C0.out
      go_wp2_with fail
      go_quiet (fail)
      clear hcH hlH hcC hlC ca ce
      have B_2:=hid (bl B_1.out (Ib (Below.refl _ _) nq))
      have H_2:=hid (H_1.out.call (Ib (Below.refl _ _) nq))
      have C_2:=hid (C_1.out.call (Ib (Below.refl _ _) nq))
      have G_2:=hid (G_1.out.call (Ib (Below.refl _ _) nq))
      clear B_1 H_1 C_1 G_1
      generalize V1.drewN nq=V2 at *
      have hcH:=H_2.out.2.2
      have hlH:=H_2.out.2.1
      have hcC:=C_2.out.2.2
      have hlC:=C_2.out.2.1
      clear hcH hlH hcC hlC
      obtain ⟨v3,W3,hr9,hG,hg⟩:=G_2.out.one (t:=32) underlying32 keyF_info rfl (by decide) (by decide) Ni plC_one' (⟨1,cw⟩:Pl) (by simp) (by have:=C_2.out.2.1;omega)
      have HR9:=hid (show (Builtin.append_ #[32,32] 32 #[v0,.slice (some ⟨V2.heap.size,0,none⟩) 1 1]).run prog (V2.alloc (.cells #[.int .i64 1,.int .i64 cw] 47))=.ok v3 W3 by simpa [plC] using hr9)
      have B_3:=hid (G_2.out.below B_2.out hg (by omega))
      have H_3:=hid (G_2.out.holds H_2.out hg (by omega) (by omega))
      have C_3:=hid (G_2.out.holds C_2.out hg (by omega) (by omega))
      have G_3:=hid hG
      clear hr9 hG hg
      have hcH:=H_2.out.2.2
      have hlH:=H_2.out.2.1
      have hcC:=C_2.out.2.2
      have hlC:=C_2.out.2.1
      go_wp2_with (at_builtin;refine Bb rfl (.tmp 82) (.tmp 86) 32 rfl _ _ _ _ rfl rfl HR9.out ?_)
      clear hcH hlH hcC hlC
      clear B_2 H_2 C_2 G_2
      obtain ⟨la,lc,hv,hO⟩:=G_3.out.own Ni
      subst hv
      have HO:=hid hO
      clear hO
      refine (Ei9 la lc _ _ HO.out.row (by rw [←HFI.out];have:=HSH.out;omega)).mono ?_
      rintro e z1 ⟨fb,fc,s,rfl,hs,hO2,hb2⟩
      have HB9:=hid (bl B_3.out hb2)
      have HS9:=hid hs
      have HO9:=hid (Gb3 hO2 B_3.out.size)
      clear hs hO2 hb2
      go_wp2_with fail
      go_ret
      exact ⟨fb,fc,s,rfl,by rw [HFI.out];exact HS9.out,HO9.out,HB9.out⟩
    ·skip
     have HFI:=hid ((HFL.out [] [] (by rw [if_neg (fun h=>by have:=h.1;omega)]) (by rw [if_neg (fun h=>by have:=h.1;omega)])).trans (show _=[⟨0,(rm:Int)⟩,⟨1,(i:Int)⟩] by simp))
     have j1:(ck==1)=false:=by simpa using hk1
     have j2:(ck==2)=false:=by simpa using hk2
     have j7:(ck==7)=false:=by simpa using hk7
     have j8:(ck==8)=false:=by simpa using hk8
     clear hk1 hk2 hk7 hk8
     have hcH:=H_1.out.2.2
     have hlH:=H_1.out.2.1
     have hcC:=C_1.out.2.2
     have hlC:=C_1.out.2.1
     have ca:V1.cell? ⟨b,o+i,none⟩=some (.int .i64 (rm:Int)):=(B_1.out.cell (p:=⟨b,o+i,none⟩) HBB.out).trans C1.out
     have ce:V1.cell? ⟨eb,eo+rm*4+d,none⟩=some (.int .i64 T):=(B_1.out.cell (p:=⟨eb,eo+rm*4+d,none⟩) HLB.out).trans C0.out
     go_wp2_with fail
     go_quiet (fail)
     clear hcH hlH hcC hlC ca ce
     have B_2:=hid (bl B_1.out (Ib (Below.refl _ _) nq))
     have H_2:=hid (H_1.out.call (Ib (Below.refl _ _) nq))
     have C_2:=hid (C_1.out.call (Ib (Below.refl _ _) nq))
     have G_2:=hid (G_1.out.call (Ib (Below.refl _ _) nq))
     clear B_1 H_1 C_1 G_1
     generalize V1.drewN nq=V2 at *
     have hcH:=H_2.out.2.2
     have hlH:=H_2.out.2.1
     have hcC:=C_2.out.2.2
     have hlC:=C_2.out.2.1
     go_wp2_with fail
     clear hcH hlH hcC hlC
     obtain ⟨la,lc,hv,hO⟩:=G_2.out.own Ni
     subst hv
     have HO:=hid hO
     clear hO
     refine (Ei9 la lc _ _ HO.out.row (by rw [←HFI.out];have:=HSH.out;omega)).mono ?_
     rintro e z1 ⟨fb,fc,s,rfl,hs,hO2,hb2⟩
     have HB9:=hid (bl B_2.out hb2)
     have HS9:=hid hs
     have HO9:=hid (Gb3 hO2 B_2.out.size)
     clear hs hO2 hb2
     go_wp2_with fail
     go_ret
     exact ⟨fb,fc,s,rfl,by rw [HFI.out];exact HS9.out,HO9.out,HB9.out⟩
end Go.Proofs.Ytenpcndoilcjcaa
