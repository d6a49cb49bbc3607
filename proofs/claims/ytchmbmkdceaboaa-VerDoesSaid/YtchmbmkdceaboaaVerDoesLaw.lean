/- VerDoes: up, read, calm, as the document has it. -/
import Derived.Test.YtchmbmkdceaboaaVerAw
namespace Go.Proofs.Ytchmbmkdceaboaa
open Go.ChangeShapes Go.WideShapes Go.ChangeAt Go.RowKit Go.Proofs.Try
open Lib (hid)
set_option linter.unusedVariables false
set_option maxHeartbeats 1000000
set_option maxRecDepth 100000
open Go.RowKit Go Go.Joins
theorem vodd_as {v:Int} {o:Bool} (h:0≤v) (ho:decide (v%2=1)=o) (W:World):Calls prog 13 #[.int .i64 v] W fun e w'=>e=.returned (.bool o)∧W=w':=by
 subst ho;exact vodd_any v W h
theorem vcalm_as {x y:Int} {c:Bool} (h:0≤y) (hc:calmB x y=c) (W:World):Calls prog 14 #[.int .i64 x,.int .i64 y] W fun e w'=>e=.returned (.bool c)∧W=w':=by
 subst hc;exact vcalm_any x y W h
theorem rcalm_as {x y:Int} {c:Bool} (h:0≤x) (hc:calmB x y=c) (W:World):Calls prog 15 #[.int .i64 x,.int .i64 y] W fun e w'=>e=.returned (.bool c)∧W=w':=by
 subst hc;exact refcalm_any x y W h
theorem verDoes_no (a:Option Addr) (cap:Nat) (l:List Int) (p x y:Int) (w:World) (h:LkAt w a cap l) (hm:mayV l=false):Calls prog 3 #[.slice a l.length cap,.int .i64 p,.int .u32 x,.int .u32 y] w fun e w'=>e=.returned (.bool true)∧Below w.heap.size w w':=by
 have B_0:=hid (Below.refl w.heap.size w)
 have L_0:=hid h
 have HM:=hid hm
 clear hm h
 go_enter func3,ntmps3
 go_wp2_with fail
 refine (awake17_any _).mono ?_
 rintro e u1 ⟨rfl,b1⟩
 have B_1:=hid (bl B_0.out b1)
 have L_1:=hid (L_0.out.call b1)
 clear b1 B_0 L_0
 go_wp2_with fail
 refine (refmay17_any _ _ _ _ L_1.out.1).mono ?_
 rintro e u2 ⟨rfl,b2⟩
 rw [HM.out]
 have B_2:=hid (bl B_1.out b2)
 have L_2:=hid (L_1.out.call b2)
 clear b2 B_1 L_1
 go_wp2_with fail
 refine (awake17_any _).mono ?_
 rintro e u3 ⟨rfl,b3⟩
 have B_3:=hid (bl B_2.out b3)
 have L_3:=hid (L_2.out.call b3)
 clear b3 B_2 L_2
 go_wp2_with fail
 go_ret
 exact ⟨rfl,B_3.out⟩
theorem verDoes_low (a:Option Addr) (cap:Nat) (l:List Int) (p x y:Int) (w:World) (h:LkAt w a cap l) (hm:mayV l=true) (hx:0≤x∧x≤4294967295) (hy:0≤y∧y≤4294967295) (hp:p<0):Calls prog 3 #[.slice a l.length cap,.int .i64 p,.int .u32 x,.int .u32 y] w fun e w'=>e=.returned (.bool true)∧Below w.heap.size w w':=by
 have B_0:=hid (Below.refl w.heap.size w)
 have L_0:=hid h
 have HM:=hid hm
 have HV:=hid (mayV_vers hm)
 have hpb:mplB l.length p=false:=by simp [mplB];omega
 have HP:=hid hpb
 have HR:=hid (show readV l p=0 by simp [readV,hpb])
 clear hpb
 obtain ⟨u2,hu2⟩:∃q,upV l p=q:=⟨_,rfl⟩
 obtain ⟨c,hc⟩:∃q,calmB x y=q:=⟨_,rfl⟩
 have HU:=hid hu2
 have HC:=hid hc
 have HUL:=hid (show u2.length=l.length by rw [←hu2,Ha2])
 have hwx:IntKind.i64.wrap x=x:=IntWalk.i64_in _ (by omega)
 have hwy:IntKind.i64.wrap y=y:=IntWalk.i64_in _ (by omega)
 have HX0:=hid hx.1
 have HY0:=hid hy.1
 have hx0:=hx.1
 have hlm:=h.1.len
 obtain ⟨o,ho⟩:∃o,decide (x%2=1)=o:=⟨_,rfl⟩
 have HO:=hid ho
 have qo:(x%2==1)=o:=by rw [←ho];cases hd:decide (x%2=1)<;>simp_all
 clear hu2 hc hm h hx hy ho
 go_enter func3,ntmps3
 go_wp2_with fail
 refine (awake17_any _).mono ?_
 rintro e u1 ⟨rfl,b1⟩
 have B_1:=hid (bl B_0.out b1)
 have L_1:=hid (L_0.out.call b1)
 clear b1 B_0 L_0
 go_wp2_with fail
 refine (refmay17_any _ _ _ _ L_1.out.1).mono ?_
 rintro e u2 ⟨rfl,b2⟩
 rw [HM.out]
 have B_2:=hid (bl B_1.out b2)
 have L_2:=hid (L_1.out.call b2)
 clear b2 B_1 L_1
 go_wp2_with fail
 refine (up_as rfl L_2.out HV.out HU.out HP.out).mono ?_
 rintro e u3 ⟨ga,gac,rfl,hga,-,b3⟩
 have B_3:=hid (bl B_2.out b3)
 have L_3:=hid (L_2.out.call b3)
 have A_3:=hid hga
 clear hga
 clear b3 B_2 L_2
 go_wp2_with fail
 refine (rup_as rfl L_3.out HV.out HU.out HP.out).mono ?_
 rintro e u4 ⟨gb,gbc,rfl,hgb,-,b4⟩
 have B_4:=hid (bl B_3.out b4)
 have L_4:=hid (L_3.out.call b4)
 have A_4:=hid (A_3.out.call b4)
 have AA_4:=hid hgb
 clear hgb
 clear b4 B_3 L_3 A_3
 go_wp2_with fail
 refine (vrd_as rfl L_4.out HR.out HP.out).mono ?_
 rintro e w9 ⟨rfl,rfl⟩
 go_wp2_with fail
 refine (msame_as HUL.out A_4.out AA_4.out).mono ?_
 rintro e u5 ⟨rfl,b5⟩
 have B_5:=hid (bl B_4.out b5)
 have L_5:=hid (L_4.out.call b5)
 have A_5:=hid (A_4.out.call b5)
 have AA_5:=hid (AA_4.out.call b5)
 clear b5 B_4 L_4 A_4 AA_4
 go_wp2_with fail
 refine (vodd_as HX0.out HO.out _).mono ?_
 rintro e w9 ⟨rfl,rfl⟩
 go_wp2_with fail
 refine (vcalm_as HY0.out HC.out _).mono ?_
 rintro e w9 ⟨rfl,rfl⟩
 go_wp2_with fail
 refine (rcalm_as HX0.out HC.out _).mono ?_
 rintro e w9 ⟨rfl,rfl⟩
 go_wp2_with fail
 go_ret
 exact ⟨rfl,B_5.out⟩
theorem verDoes_high (a:Option Addr) (cap:Nat) (l:List Int) (p x y:Int) (w:World) (h:LkAt w a cap l) (hm:mayV l=true) (hx:0≤x∧x≤4294967295) (hy:0≤y∧y≤4294967295) (hp:0≤p) (hp2:(l.length:Int)≤p):Calls prog 3 #[.slice a l.length cap,.int .i64 p,.int .u32 x,.int .u32 y] w fun e w'=>e=.returned (.bool true)∧Below w.heap.size w w':=by
 have B_0:=hid (Below.refl w.heap.size w)
 have L_0:=hid h
 have HM:=hid hm
 have HV:=hid (mayV_vers hm)
 have hpb:mplB l.length p=false:=by simp [mplB];omega
 have HP:=hid hpb
 have HR:=hid (show readV l p=0 by simp [readV,hpb])
 clear hpb
 obtain ⟨u2,hu2⟩:∃q,upV l p=q:=⟨_,rfl⟩
 obtain ⟨c,hc⟩:∃q,calmB x y=q:=⟨_,rfl⟩
 have HU:=hid hu2
 have HC:=hid hc
 have HUL:=hid (show u2.length=l.length by rw [←hu2,Ha2])
 have hwx:IntKind.i64.wrap x=x:=IntWalk.i64_in _ (by omega)
 have hwy:IntKind.i64.wrap y=y:=IntWalk.i64_in _ (by omega)
 have HX0:=hid hx.1
 have HY0:=hid hy.1
 have hx0:=hx.1
 have hlm:=h.1.len
 obtain ⟨o,ho⟩:∃o,decide (x%2=1)=o:=⟨_,rfl⟩
 have HO:=hid ho
 have qo:(x%2==1)=o:=by rw [←ho];cases hd:decide (x%2=1)<;>simp_all
 clear hu2 hc hm h hx hy ho
 go_enter func3,ntmps3
 go_wp2_with fail
 refine (awake17_any _).mono ?_
 rintro e u1 ⟨rfl,b1⟩
 have B_1:=hid (bl B_0.out b1)
 have L_1:=hid (L_0.out.call b1)
 clear b1 B_0 L_0
 go_wp2_with fail
 refine (refmay17_any _ _ _ _ L_1.out.1).mono ?_
 rintro e u2 ⟨rfl,b2⟩
 rw [HM.out]
 have B_2:=hid (bl B_1.out b2)
 have L_2:=hid (L_1.out.call b2)
 clear b2 B_1 L_1
 go_wp2_with fail
 refine (up_as rfl L_2.out HV.out HU.out HP.out).mono ?_
 rintro e u3 ⟨ga,gac,rfl,hga,-,b3⟩
 have B_3:=hid (bl B_2.out b3)
 have L_3:=hid (L_2.out.call b3)
 have A_3:=hid hga
 clear hga
 clear b3 B_2 L_2
 go_wp2_with fail
 refine (rup_as rfl L_3.out HV.out HU.out HP.out).mono ?_
 rintro e u4 ⟨gb,gbc,rfl,hgb,-,b4⟩
 have B_4:=hid (bl B_3.out b4)
 have L_4:=hid (L_3.out.call b4)
 have A_4:=hid (A_3.out.call b4)
 have AA_4:=hid hgb
 clear hgb
 clear b4 B_3 L_3 A_3
 go_wp2_with fail
 refine (vrd_as rfl L_4.out HR.out HP.out).mono ?_
 rintro e w9 ⟨rfl,rfl⟩
 go_wp2_with fail
 refine (msame_as HUL.out A_4.out AA_4.out).mono ?_
 rintro e u5 ⟨rfl,b5⟩
 have B_5:=hid (bl B_4.out b5)
 have L_5:=hid (L_4.out.call b5)
 have A_5:=hid (A_4.out.call b5)
 have AA_5:=hid (AA_4.out.call b5)
 clear b5 B_4 L_4 A_4 AA_4
 go_wp2_with fail
 refine (vodd_as HX0.out HO.out _).mono ?_
 rintro e w9 ⟨rfl,rfl⟩
 go_wp2_with fail
 refine (vcalm_as HY0.out HC.out _).mono ?_
 rintro e w9 ⟨rfl,rfl⟩
 go_wp2_with fail
 refine (rcalm_as HX0.out HC.out _).mono ?_
 rintro e w9 ⟨rfl,rfl⟩
 go_wp2_with fail
 go_ret
 exact ⟨rfl,B_5.out⟩
theorem verDoes_in (b o0:Nat) (cap:Nat) (l:List Int) (k:Nat) (x y:Int) (w:World) (h:LkAt w (some ⟨b,o0,none⟩) cap l) (hm:mayV l=true) (hx:0≤x∧x≤4294967295) (hy:0≤y∧y≤4294967295) (hk:k<l.length):Calls prog 3 #[.slice (some ⟨b,o0,none⟩) l.length cap,.int .i64 (k:Int),.int .u32 x,.int .u32 y] w fun e w'=>e=.returned (.bool true)∧Below w.heap.size w w':=by
 have B_0:=hid (Below.refl w.heap.size w)
 have L_0:=hid h
 have HM:=hid hm
 have HV:=hid (mayV_vers hm)
 have HP:=hid (show mplB l.length (k:Int)=true from Al6 hk)
 obtain ⟨v,hv⟩:∃v,l[k]=v:=⟨_,rfl⟩
 have HR:=hid (show readV l (k:Int)=v by simp [readV,Al6 hk,Ju hk,hv])
 have HE:=hid hv
 have HKL:=hid hk
 clear hv
 obtain ⟨u2,hu2⟩:∃q,upV l (k:Int)=q:=⟨_,rfl⟩
 obtain ⟨c,hc⟩:∃q,calmB x y=q:=⟨_,rfl⟩
 have HU:=hid hu2
 have HC:=hid hc
 have HUL:=hid (show u2.length=l.length by rw [←hu2,Ha2])
 have hwx:IntKind.i64.wrap x=x:=IntWalk.i64_in _ (by omega)
 have hwy:IntKind.i64.wrap y=y:=IntWalk.i64_in _ (by omega)
 have HX0:=hid hx.1
 have HY0:=hid hy.1
 have hx0:=hx.1
 have hlm:=h.1.len
 obtain ⟨o,ho⟩:∃o,decide (x%2=1)=o:=⟨_,rfl⟩
 have HO:=hid ho
 have qo:(x%2==1)=o:=by rw [←ho];cases hd:decide (x%2=1)<;>simp_all
 clear hu2 hc hm h hx hy ho
 go_enter func3,ntmps3
 go_wp2_with fail
 refine (awake17_any _).mono ?_
 rintro e u1 ⟨rfl,b1⟩
 have B_1:=hid (bl B_0.out b1)
 have L_1:=hid (L_0.out.call b1)
 clear b1 B_0 L_0
 go_wp2_with fail
 refine (refmay17_any _ _ _ _ L_1.out.1).mono ?_
 rintro e u2 ⟨rfl,b2⟩
 rw [HM.out]
 have B_2:=hid (bl B_1.out b2)
 have L_2:=hid (L_1.out.call b2)
 clear b2 B_1 L_1
 go_wp2_with fail
 refine (up_as rfl L_2.out HV.out HU.out HP.out).mono ?_
 rintro e u3 ⟨ga,gac,rfl,hga,-,b3⟩
 have B_3:=hid (bl B_2.out b3)
 have L_3:=hid (L_2.out.call b3)
 have A_3:=hid hga
 clear hga
 clear b3 B_2 L_2
 go_wp2_with fail
 refine (rup_as rfl L_3.out HV.out HU.out HP.out).mono ?_
 rintro e u4 ⟨gb,gbc,rfl,hgb,-,b4⟩
 have B_4:=hid (bl B_3.out b4)
 have L_4:=hid (L_3.out.call b4)
 have A_4:=hid (A_3.out.call b4)
 have AA_4:=hid hgb
 clear hgb
 clear b4 B_3 L_3 A_3
 go_wp2_with fail
 have hck:=L_4.out.cell HKL.out
 rw [HE.out] at hck
 refine (vrd_as rfl L_4.out HR.out HP.out).mono ?_
 rintro e w9 ⟨rfl,rfl⟩
 go_wp2_with fail
 clear hck
 refine (msame_as HUL.out A_4.out AA_4.out).mono ?_
 rintro e u5 ⟨rfl,b5⟩
 have B_5:=hid (bl B_4.out b5)
 have L_5:=hid (L_4.out.call b5)
 have A_5:=hid (A_4.out.call b5)
 have AA_5:=hid (AA_4.out.call b5)
 clear b5 B_4 L_4 A_4 AA_4
 have hck:=L_5.out.cell HKL.out
 rw [HE.out] at hck
 go_wp2_with fail
 refine (vodd_as HX0.out HO.out _).mono ?_
 rintro e w9 ⟨rfl,rfl⟩
 go_wp2_with fail
 refine (vcalm_as HY0.out HC.out _).mono ?_
 rintro e w9 ⟨rfl,rfl⟩
 go_wp2_with fail
 refine (rcalm_as HX0.out HC.out _).mono ?_
 rintro e w9 ⟨rfl,rfl⟩
 go_wp2_with fail
 go_ret
 exact ⟨rfl,B_5.out⟩
theorem walk_verDoes (a:Option Addr) (cap:Nat) (l:List Int) (p x y:Int) (w:World) (_hp:(Lit.int .i64 p).wf=true) (hx:(Lit.int .u32 x).wf=true) (hy:(Lit.int .u32 y).wf=true) (h:LkAt w a cap l) (_hi:InL l):Calls prog 3 #[.slice a l.length cap,.int .i64 p,.int .u32 x,.int .u32 y] w fun e w'=>e=.returned (.bool true)∧Below w.heap.size w w':=by
 have hx2:=Ae7 hx
 have hy2:=Ae7 hy
 cases hm:mayV l
 ·exact verDoes_no a cap l p x y w h hm
 by_cases hp:p<0
 ·exact verDoes_low a cap l p x y w h hm (by omega) (by omega) hp
 ·by_cases hp2:(l.length:Int)≤p
  ·exact verDoes_high a cap l p x y w h hm (by omega) (by omega) (by omega) hp2
  ·obtain ⟨k,rfl⟩:∃k:Nat,p=k:=⟨p.toNat,by omega⟩
   have hk:k<l.length:=by omega
   obtain ⟨b,o,rfl,-,-⟩:=h.1.at_ hk
   exact verDoes_in b o cap l k x y w h hm (by omega) (by omega) hk
theorem lifted_verDoes (os:Os) (started:os.Started) (H:Type) (enc:TypeId × Value→H) :
 ReturnsInHanded {} Try.checked os 3 .any (Rows.verDoesSpec.pre6 enc prog Try.f3 Rows.verDoesRow.domain false) (Rows.verDoesSpec.post enc prog Try.f3 false true false false):=by
 refine returnsInHanded_of_change (C:=Try.checked) (by kernel_rfl) started (by kernel_rfl) func3
  (ChangeSpec.witness6 (enc:=enc) (C:=Try.checked) false ⟨#[],#[.slice none 0 0,.int .i64 0,.int .u32 0,.int .u32 0],[]⟩ 8 (by kernel_rfl) (by kernel_rfl) (by kernel_rfl) (by kernel_rfl)) ?_
 intro W base args ds gs before hval0 hW hcnd _
 have hval:∀(j:Nat) t v,Try.f3.params[j]?=some t→args[j]?=some v→Value.okWide prog W .any base t v:=hval0
 have hW':=hW
 obtain ⟨p,q,hA0,hV,rfl,hfz,hnd⟩:=hW
 have hA:DataW.TrodAll enc prog W 0 (fun _=>true) true Try.f3.params.toList args.toList ds p:=hA0
 rw [Try.params3] at hA hval
 obtain ⟨v0,vs0,d0,ds0,p0,q0,hargs,rfl,rfl,h0,r0⟩:=trodAll_cons hA
 obtain ⟨v1,vs1,d1,ds1,p1,q1,rfl,rfl,rfl,h1,r1⟩:=trodAll_cons r0
 obtain ⟨v2,vs2,d2,ds2,p2,q2,rfl,rfl,rfl,h2,r2⟩:=trodAll_cons r1
 obtain ⟨v3,vs3,d3,ds3,p3,q3,rfl,rfl,rfl,h3,r3⟩:=trodAll_cons r2
 obtain ⟨rfl,rfl,rfl⟩:=trodAll_nil r3
 obtain rfl:args=#[v0,v1,v2,v3]:=by cases args;simp_all
 obtain ⟨rfl,rfl⟩:=trodVars_none hV
 obtain ⟨a0,cap0,xs0,rfl,c0,i0⟩:=read_lks (hval 0 22 v0 rfl rfl) h0
 obtain ⟨a1,rfl,rfl,rfl,w1⟩:=open_int underlying3 (hval 1 3 v1 rfl rfl) h1
 obtain ⟨a2,rfl,rfl,rfl,w2⟩:=open_int underlying23 (hval 2 23 v2 rfl rfl) h2
 obtain ⟨a3,rfl,rfl,rfl,w3⟩:=open_int underlying23 (hval 3 23 v3 rfl rfl) h3
 clear hA0 hval0
 simp only [List.append_nil] at hW'
 refine (walk_verDoes a0 cap0 xs0 a1 a2 a3 W w1 w2 w3 c0 i0).mono fun e W' ⟨he,hg⟩=>?_
 subst he
 exact ⟨_,rfl,Iy (by kernel_rfl) rfl (by rw [Try.params3];decide +kernel) rfl rfl underlying4 hW' hg⟩
theorem proved_verDoes:Rows.VerDoesSaid :=
 OpenClaim.holds_of_wide 3 Try.f3 rfl rfl rfl rfl rfl rfl rfl ⟨rfl,rfl,rfl,rfl,rfl⟩ rfl rfl rfl rfl rfl (by kernel_rfl) func3 (by kernel_rfl)
  (of_decide_eq_true (by kernel_rfl)) (by unfold Func.isWrapper;first|(rw [if_pos (by decide +kernel)];kernel_rfl)|(rw [if_neg (by decide +kernel)];exact ⟨rfl,rfl⟩))
  (fun os started H enc _=>lifted_verDoes os started H enc)
#print axioms proved_verDoes
end Go.Proofs.Ytchmbmkdceaboaa
