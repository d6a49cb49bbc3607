/- PlanKeeps: what is handed in stays. -/
import Derived.Test.YtnhkojpbbdaedaaPlanAw
namespace Go.Proofs.Ytnhkojpbbdaedaa
open Go.ChangeShapes Go.WideShapes Go.ChangeAt Go.RowKit Go.Proofs.Try
open Lib (hid)
set_option linter.unusedVariables false
set_option maxRecDepth 100000
open Go.RowKit
theorem two_desc {V w:World} {n:Nat} {x y:Wd} {p q:Wp} (hY:Blk V n 29 (wC y q)) (hb:Below w.heap.size w V) (hn:w.heap.size≤n) (hx:Ab w p x) (hy:Ab w q y) (ha:y.at_.length=x.at_.length) (hc:y.coins.length=x.coins.length) (hw:y.wher.length=x.wher.length) :
 ∃(qz:Wp) (z:Wd),z=⟨x.d,y.at_,y.coins,y.wher⟩∧Blk (((((((((V.setCell ⟨n,0,none⟩ (.slice p.d.ex x.d.exits.length p.d.exc)).setCell ⟨n,1,none⟩ (.slice p.d.pl x.d.players.length p.d.plc)).setCell ⟨n,2,none⟩ (.slice p.d.co x.d.coins.length p.d.coc)).setCell ⟨n,3,none⟩ (.slice p.d.it x.d.items.length p.d.itc)).setCell ⟨n,4,none⟩ (.slice p.d.bo x.d.boxes.length p.d.boc)).setCell ⟨n,5,none⟩ (.int .i64 x.d.room)).setCell ⟨n,6,none⟩ (.int .i64 x.d.player)).setCell ⟨n,7,none⟩ (.int .i64 x.d.box))) n 29 (wC x qz)∧Ab (((((((((V.setCell ⟨n,0,none⟩ (.slice p.d.ex x.d.exits.length p.d.exc)).setCell ⟨n,1,none⟩ (.slice p.d.pl x.d.players.length p.d.plc)).setCell ⟨n,2,none⟩ (.slice p.d.co x.d.coins.length p.d.coc)).setCell ⟨n,3,none⟩ (.slice p.d.it x.d.items.length p.d.itc)).setCell ⟨n,4,none⟩ (.slice p.d.bo x.d.boxes.length p.d.boc)).setCell ⟨n,5,none⟩ (.int .i64 x.d.room)).setCell ⟨n,6,none⟩ (.int .i64 x.d.player)).setCell ⟨n,7,none⟩ (.int .i64 x.d.box))) qz z∧Like x z∧Below w.heap.size w (((((((((V.setCell ⟨n,0,none⟩ (.slice p.d.ex x.d.exits.length p.d.exc)).setCell ⟨n,1,none⟩ (.slice p.d.pl x.d.players.length p.d.plc)).setCell ⟨n,2,none⟩ (.slice p.d.co x.d.coins.length p.d.coc)).setCell ⟨n,3,none⟩ (.slice p.d.it x.d.items.length p.d.itc)).setCell ⟨n,4,none⟩ (.slice p.d.bo x.d.boxes.length p.d.boc)).setCell ⟨n,5,none⟩ (.int .i64 x.d.room)).setCell ⟨n,6,none⟩ (.int .i64 x.d.player)).setCell ⟨n,7,none⟩ (.int .i64 x.d.box))):=by
 have hB:Below w.heap.size w (((((((((V.setCell ⟨n,0,none⟩ (.slice p.d.ex x.d.exits.length p.d.exc)).setCell ⟨n,1,none⟩ (.slice p.d.pl x.d.players.length p.d.plc)).setCell ⟨n,2,none⟩ (.slice p.d.co x.d.coins.length p.d.coc)).setCell ⟨n,3,none⟩ (.slice p.d.it x.d.items.length p.d.itc)).setCell ⟨n,4,none⟩ (.slice p.d.bo x.d.boxes.length p.d.boc)).setCell ⟨n,5,none⟩ (.int .i64 x.d.room)).setCell ⟨n,6,none⟩ (.int .i64 x.d.player)).setCell ⟨n,7,none⟩ (.int .i64 x.d.box))):=by
  iterate 8 refine Below.setCell ?_ hn _
  exact hb
 refine ⟨⟨p.d,q.at_,q.atc,q.co,q.coc,q.wh,q.whc⟩,_,rfl,?_,⟨hx.d.below hB (Nat.le_refl _),hy.at_.below hB (Nat.le_refl _),hy.co.below hB (Nat.le_refl _),Ar.below hy.wh hB (Nat.le_refl _)⟩,⟨rfl,ha,hc,hw⟩,hB⟩
 have h2:=((((((((hY.set_ 0 (.slice p.d.ex x.d.exits.length p.d.exc)).set_ 1 (.slice p.d.pl x.d.players.length p.d.plc)).set_ 2 (.slice p.d.co x.d.coins.length p.d.coc)).set_ 3 (.slice p.d.it x.d.items.length p.d.itc)).set_ 4 (.slice p.d.bo x.d.boxes.length p.d.boc)).set_ 5 (.int .i64 x.d.room)).set_ 6 (.int .i64 x.d.player)).set_ 7 (.int .i64 x.d.box))
 simp only [List.setIfInBounds_toArray,List.set_cons_zero,List.set_cons_succ,ha,hc,hw] at h2
 exact h2
theorem Blk.holdsp {w W:World} {n:Nat} {t:TypeId} {A:Array Value} (h:Blk W n t A) (hb:Below w.heap.size w W):Ac w n A W:=⟨hb,h.lt,h.cell⟩
theorem full_eqs {x:Wd} (h:fullB x=true):x.at_.length=x.d.players.length∧x.coins.length=x.d.players.length∧x.wher.length=x.d.items.length:=by
 simp [fullB] at h;exact h
theorem few_lens {x:Wd} (h:fewB x=true):x.at_.length≤40∧x.coins.length≤40∧x.wher.length≤40:=by
 simp [fewB] at h;omega
structure Kp (N:Nat) (e:TypeId) (V W:World):Prop where
 b:Below N V W
 t:∀(b:Nat) (t:TypeId) (cs:Array Value),t≠e→Blk V b t cs→Blk W b t cs
theorem Kp.refl (N:Nat) (e:TypeId) (V:World):Kp N e V V:=⟨Below.refl _ _,fun _ _ _ _ h=>h⟩
theorem Kp.set {N g:Nat} {e:TypeId} {V W:World} {cs:Array Value} (h:Kp N e V W) (hg:Blk W g e cs) (hN:N≤g) (i:Nat) (u:Value):Kp N e V (W.setCell ⟨g,i,none⟩ u) :=
 ⟨h.b.setCell hN _,fun b t cs2 ht hb=>(h.t b t cs2 ht hb).far (fun (e1:b=g)=>by
   subst e1
   have h2:=(h.t b t cs2 ht hb).symm.trans hg
   simp at h2
   exact ht h2.2) _⟩
def BelV (V W:World):Prop:=Below V.heap.size V W
theorem BelV.size {V W:World} (h:BelV V W):V.heap.size≤W.heap.size:=Below.size h
theorem BelV.call {V W W':World} (h:BelV V W) (hb:Below W.heap.size W W'):BelV V W':=bl h hb
def PRow (e:TypeId) (k N:Nat) (W:World) (a:Option Addr) (n:Nat):Prop:=n=0∨∃g cs,a=some ⟨g,0,none⟩∧N≤g∧Blk W g e cs∧n*k≤cs.size
theorem PRow.set {e:TypeId} {k N g n:Nat} {W:World} {a:Option Addr} {cs:Array Value} (h:PRow e k N W a n) (hg:Blk W g e cs) (i:Nat) (u:Value):PRow e k N (W.setCell ⟨g,i,none⟩ u) a n:=by
 rcases h with h|⟨g2,cs2,h1,h2,h3,h4⟩
 ·exact .inl h
 ·by_cases e1:g2=g
  ·subst e1;exact .inr ⟨g2,_,h1,h2,h3.set_ i u,by simpa using h4⟩
  ·exact .inr ⟨g2,cs2,h1,h2,h3.far e1 _,h4⟩
theorem PRow.kp {e e2:TypeId} {k N n:Nat} {V W:World} {a:Option Addr} (h:PRow e k N V a n) (hk:Kp N e2 V W) (hne:e≠e2):PRow e k N W a n:=by
 rcases h with h|⟨g2,cs2,h1,h2,h3,h4⟩
 ·exact .inl h
 ·exact .inr ⟨g2,cs2,h1,h2,hk.t _ _ _ hne h3,h4⟩
theorem PRow.call {e:TypeId} {k N n:Nat} {V W:World} {a:Option Addr} (h:PRow e k N V a n) (hb:Below V.heap.size V W):PRow e k N W a n:=by
 rcases h with h|⟨g2,cs2,h1,h2,h3,h4⟩
 ·exact .inl h
 ·exact .inr ⟨g2,cs2,h1,h2,h3.call hb,h4⟩
theorem OwnR.prow {α:Type} {k:Nat} {e:TypeId} {enc:α→List Value} {n N m:Nat} {W:World} {a:Option Addr} {xs:List α} (h:OwnR k e enc n W a xs) (hN:N≤n) (hm:xs.length=m) (hk:0<k) (hl:∀x,(enc x).length=k):PRow e k N W a m:=by
 subst hm
 rcases h.2 with ⟨h1,h2⟩|⟨g,cs,h1,h2,h3,h4⟩
 ·exact .inl (by rw [h1];rfl)
 ·by_cases h0:xs.length=0
  ·exact .inl h0
  refine .inr ⟨g,cs,h1,by omega,h3,?_⟩
  have h5:=h4 (xs.length-1) (by omega) (k-1) (by omega)
  rw [List.getElem?_eq_getElem (by rw [hl];omega)] at h5
  obtain ⟨h6,-⟩:=Array.getElem?_eq_some_iff.1 h5
  have h7:(xs.length-1)*k+k=xs.length*k:=by rw [←Nat.succ_mul];congr 1;omega
  omega
def kS18 (la:Option Addr) (lc:Nat) (l:List Wr):Sl:=⟨0,[],none,0,0,5,0,⟨0,0,0,0,0,[],0,[],0⟩,none,0,none,0,[],none,0,0,l,la,lc,⟨0,0,0,[],[],0⟩,none,0,none,0,false,0,0,0,[],none,0,[],none,0,0⟩
theorem kS18_set (x:Wd) (la:Option Addr) (lc:Nat) (l:List Wr):setW x [kS18 la lc l]=allP x l:=by rfl
theorem kS18_may (x:Wd) (la:Option Addr) (lc:Nat) (l:List Wr) (h:∀c∈l,mayX x c=true):∀s∈[kS18 la lc l],MayS x s:=by
 intro s hs
 rw [List.mem_singleton.1 hs]
 exact fun _=>⟨Int.le_refl _,(show (0:Int)≤(l.length:Nat) by omega),h⟩
set_option maxHeartbeats 2000000 in
theorem walk_planKeeps (x:Wd) (p:Wp) (la:Option Addr) (lc:Nat) (l:List Wr) (w:World) (h:Ab w p x) (hl:WrcAt w la lc l):Calls prog 5 #[.agg (wC x p),.slice la l.length lc] w fun e w'=>e=.returned (.bool true)∧Below w.heap.size w w':=by
 have HW:=hid h
 have HL:=hid hl
 have hln:=Ar.len hl.1
 clear hl
 obtain ⟨f1,hf1⟩:∃b,fewB x=b:=⟨_,rfl⟩
 obtain ⟨f3,hf3⟩:∃b,fullB x=b:=⟨_,rfl⟩
 have HF1:=hid hf1
 have HF3:=hid hf3
 clear hf1 hf3
 have hlx1:=h.at_.len
 have hlx2:=h.co.len
 have hlx3:=h.wh.len
 have X_0:=hid (Ac.new w (wC x p) 29)
 have XB_0:=hid (Blk.new w 29 (wC x p))
 clear h
 have hWC:=@wC.eq_1
 have hZC:=@zC.eq_1
 go_enter func5,ntmps5
 go_wp2_with fail
 generalize w.alloc (.cells (wC x p) 29)=V0 at *
 have B_0:=hid X_0.out.1
 refine (awake18_any _).mono ?_
 rintro e u1 ⟨rfl,b1⟩
 have B_1:=hid (bl B_0.out b1)
 have X_1:=hid (X_0.out.call b1)
 have XB_1:=hid (XB_0.out.call b1)
 clear b1 B_0 X_0 XB_0
 have hcX:=X_1.out.2.2
 have hlX:=X_1.out.2.1
 go_wp2_with fail
 refine (El x p _).mono ?_
 rintro e u2 ⟨rfl,b2⟩
 rw [HF1.out]
 clear hcX hlX
 have B_2:=hid (bl B_1.out b2)
 have X_2:=hid (X_1.out.call b2)
 have XB_2:=hid (XB_1.out.call b2)
 clear b2 B_1 X_1 XB_1
 have hcX:=X_2.out.2.2
 have hlX:=X_2.out.2.1
 cases f1
 ·
  go_wp2_with fail
  refine (awake18_any _).mono ?_
  rintro e u3 ⟨rfl,b3⟩
  clear hcX hlX
  have B_3:=hid (bl B_2.out b3)
  have X_3:=hid (X_2.out.call b3)
  have XB_3:=hid (XB_2.out.call b3)
  clear b3 B_2 X_2 XB_2
  have hcX:=X_3.out.2.2
  have hlX:=X_3.out.2.1
  go_wp2_with fail
  go_ret
  exact ⟨rfl,B_3.out⟩
 go_wp2_with fail
 refine (rfull_any x p _).mono ?_
 rintro e u3 ⟨rfl,b3⟩
 rw [HF3.out]
 clear hcX hlX
 have B_3:=hid (bl B_2.out b3)
 have X_3:=hid (X_2.out.call b3)
 have XB_3:=hid (XB_2.out.call b3)
 clear b3 B_2 X_2 XB_2
 have hcX:=X_3.out.2.2
 have hlX:=X_3.out.2.1
 cases f3
 ·
  go_wp2_with fail
  refine (awake18_any _).mono ?_
  rintro e u4 ⟨rfl,b4⟩
  clear hcX hlX
  have B_4:=hid (bl B_3.out b4)
  have X_4:=hid (X_3.out.call b4)
  have XB_4:=hid (XB_3.out.call b4)
  clear b4 B_3 X_3 XB_3
  have hcX:=X_4.out.2.2
  have hlX:=X_4.out.2.1
  go_wp2_with fail
  go_ret
  exact ⟨rfl,B_4.out⟩
 by_cases el:l.length≤40
 rotate_left
 ·have ql:(40:Int)<(l.length:Int):=by omega
  clear el
  go_wp2_with fail
  refine (awake18_any _).mono ?_
  rintro e u4 ⟨rfl,b4⟩
  clear hcX hlX
  have B_4:=hid (bl B_3.out b4)
  have X_4:=hid (X_3.out.call b4)
  have XB_4:=hid (XB_3.out.call b4)
  clear b4 B_3 X_3 XB_3
  have hcX:=X_4.out.2.2
  have hlX:=X_4.out.2.1
  go_wp2_with fail
  go_ret
  exact ⟨rfl,B_4.out⟩
 have ql:(l.length:Int)≤40:=by omega
 have WX_3:=hid (HW.out.below B_3.out (Nat.le_refl _))
 have HFW:=hid (Vu HF1.out)
 have N3:=hid (few_lens HF1.out)
 go_wp2_with fail
 clear hcX hlX
 go_loopw [5] (fun i wr=>∃k:Nat,k≤l.length∧i=.int .i64 k∧(∀c∈l.take k,mayX x c=true)∧Below u3.heap.size u3 wr) (fun i _=>l.length-(intOf i).toNat)
 case atStart=>exact ⟨0,Nat.zero_le _,rfl,by simp,Below.refl _ _⟩
 case round =>
  obtain ⟨k,hk,rfl,hm,hb⟩:=hrel
  have HM:=hid hm
  have HB:=hid hb
  clear hm hb
  by_cases hlt:k<l.length
  ·obtain ⟨b,o,rfl,hbb,c0,c1,c2,c3,c4⟩:=WrsAt.cells HL.out.1 hlt
   have BW:=hid (bl B_3.out HB.out)
   have d0:=(BW.out.cell (p:=⟨b,o+k*5,none⟩) hbb).trans c0
   have d1:=(BW.out.cell (p:=⟨b,o+k*5+1,none⟩) hbb).trans c1
   have d2:=(BW.out.cell (p:=⟨b,o+k*5+2,none⟩) hbb).trans c2
   have d3:=(BW.out.cell (p:=⟨b,o+k*5+3,none⟩) hbb).trans c3
   have d4:=(BW.out.cell (p:=⟨b,o+k*5+4,none⟩) hbb).trans c4
   have HMO:=hid (List.take_succ_eq_append_getElem hlt)
   have HKL:=hid hlt
   have wk:IntKind.i64.wrap ((k:Int)+1)=(k:Int)+1:=IntWalk.i64_in _ (by omega)
   have hcX:=(X_3.out.call HB.out).2.2
   have hlX:=(X_3.out.call HB.out).2.1
   clear c0 c1 c2 c3 c4 hbb
   generalize l[k]=c at *
   obtain ⟨ck,ci,cn,⟨cpk,cpi⟩⟩:=c
   simp only at d0 d1 d2 d3 d4
   go_upto_region 6 with fail
   go_still_tail 5,(by kernel_rfl)
   change wpList _ _ _ _ _ wr.drew
   have HB1:=hid (Af HB.out)
   clear d0 d1 d2 d3 d4 hcX hlX
   generalize wr.drew=w2 at *
   go_wp2_with fail
   refine (rpmay_any x p ⟨ck,ci,cn,⟨cpk,cpi⟩⟩ _).mono ?_
   rintro e w3 ⟨rfl,b3⟩
   have HB3:=hid (bl HB1.out b3)
   clear b3 HB HB1 BW
   cases hmc:mayX x ⟨ck,ci,cn,⟨cpk,cpi⟩⟩
   ·clear hmc
    go_wp2_with fail
    go_ret
    exact ⟨rfl,bl B_3.out HB3.out⟩
   ·have HMC:=hid hmc
    clear hmc
    go_wp2_with fail
    go_roundw
    case rel=>exact ⟨k+1,HKL.out,by go_num,by rw [HMO.out];exact fun c hc=>by rcases List.mem_append.1 hc with h|h;exact HM.out c h;rw [List.mem_singleton.1 h];exact HMC.out,HB3.out⟩
    case measure=>have:=HKL.out;simp [intOf];omega
  ·have hke:k=l.length:=by omega
   subst hke
   have HMA:=hid (show ∀c∈l,mayX x c=true from fun c hc=>HM.out c (by rw [List.take_length];exact hc))
   clear HM hlt hk
   have X_4:=hid (X_3.out.call HB.out)
   have XB_4:=hid (XB_3.out.call HB.out)
   have WX_4:=hid (WX_3.out.call HB.out)
   have B_4:=hid (bl B_3.out HB.out)
   have WL_4:=hid (HL.out.below B_4.out (Nat.le_refl _))
   clear HB B_3 X_3 XB_3 WX_3
   obtain ⟨A,hA⟩:∃A,allP x l=A:=⟨_,rfl⟩
   have HA:=hid hA
   have HLA:=hid (show Like x A from hA ▸ Gw8 l x)
   clear hA
   have hcX:=X_4.out.2.2
   have hlX:=X_4.out.2.1
   go_wp2_with fail
   refine (Ak8 x p _ WX_4.out HFW.out).mono ?_
   rintro e u104 ⟨q0,rfl,h0,b104⟩
   clear hcX hlX
   have B_5:=hid (bl B_4.out b104)
   have X_5:=hid (X_4.out.call b104)
   have XB_5:=hid (XB_4.out.call b104)
   have WX_5:=hid (WX_4.out.call b104)
   have WL_5:=hid (WL_4.out.call b104)
   have W0_5:=hid h0
   clear h0
   clear b104 B_4 X_4 XB_4 WX_4 WL_4
   have hcX:=X_5.out.2.2
   have hlX:=X_5.out.2.1
   have W1:=hid W0_5.out
   have HNW:=hid B_5.out.size
   have D_5:=hid (show BelV u104 u104 from Below.refl _ _)
   go_wp2_with fail
   clear hcX hlX
   obtain ⟨nO,hnO⟩:∃m,u104.heap.size=m:=⟨_,rfl⟩
   have Ob:=hid (Blk.newn u104 29 (wC x q0) hnO)
   have s6:(u104.alloc (.cells (wC x q0) 29)).heap.size=u104.heap.size+1:=by simp
   have zb6:Below u104.heap.size u104 (u104.alloc (.cells (wC x q0) 29)):=b_a _
   have B_6:=hid (bl B_5.out zb6)
   have X_6:=hid (X_5.out.call zb6)
   have XB_6:=hid (XB_5.out.call zb6)
   have WX_6:=hid (WX_5.out.call zb6)
   have WL_6:=hid (WL_5.out.call zb6)
   have W0_6:=hid (W0_5.out.call zb6)
   have D_6:=hid (D_5.out.call zb6)
   have O_6:=hid (Ac.newb (w:=w) (A:=(wC x q0)) (t:=29) (n:=nO) B_5.out hnO)
   clear zb6 B_5 X_5 XB_5 WX_5 WL_5 W0_5 D_5
   generalize u104.alloc (.cells (wC x q0) 29)=V105 at *
   have OB_6:=Ob
   simp only [hnO]
   clear hnO s6 Ob
   have hcX:=X_6.out.2.2
   have hlX:=X_6.out.2.1
   have hcO:=O_6.out.2.2
   have hlO:=O_6.out.2.1
   go_wp2_with fail
   have DS:=hid D_6.out.size
   have DS1:=hid D_6.out
   refine (pall_as (Like.refl x) rfl W0_6.out HFW.out WL_6.out.1 HMA.out HA.out).mono ?_
   rintro e u106 ⟨⟨d1,a1,ac1,k1,kc1,w1,wc1⟩,rfl,hp,b106⟩
   clear hcX hlX hcO hlO
   have B_7:=hid (bl B_6.out b106)
   have X_7:=hid (X_6.out.call b106)
   have O_7:=hid (O_6.out.call b106)
   have XB_7:=hid (XB_6.out.call b106)
   have WX_7:=hid (WX_6.out.call b106)
   have WL_7:=hid (WL_6.out.call b106)
   have W0_7:=hid (W0_6.out.call b106)
   have D_7:=hid (D_6.out.call b106)
   have OB_7:=hid (OB_6.out.call b106)
   have R1_7:=hid (hp.at_.prow (N:=u104.heap.size) DS1.out.size HLA.out.al (by decide) (fun _=>rfl))
   have S1_7:=hid (hp.wh.prow (N:=u104.heap.size) DS1.out.size HLA.out.wl (by decide) (fun _=>rfl))
   clear hp
   clear b106 B_6 X_6 O_6 XB_6 WX_6 WL_6 W0_6 D_6 OB_6
   have hcX:=X_7.out.2.2
   have hlX:=X_7.out.2.1
   have hcO:=O_7.out.2.2
   have hlO:=O_7.out.2.1
   clear DS1
   go_wp2_with fail
   clear hcX hlX hcO hlO
   obtain ⟨nA,hnA⟩:∃m,u106.heap.size=m:=⟨_,rfl⟩
   have Ab:=hid (Blk.newn u106 29 (wC x ⟨d1,a1,ac1,k1,kc1,w1,wc1⟩) hnA)
   have s8:(u106.alloc (.cells (wC x ⟨d1,a1,ac1,k1,kc1,w1,wc1⟩) 29)).heap.size=u106.heap.size+1:=by simp
   have zb8:Below u106.heap.size u106 (u106.alloc (.cells (wC x ⟨d1,a1,ac1,k1,kc1,w1,wc1⟩) 29)):=b_a _
   have B_8:=hid (bl B_7.out zb8)
   have X_8:=hid (X_7.out.call zb8)
   have O_8:=hid (O_7.out.call zb8)
   have XB_8:=hid (XB_7.out.call zb8)
   have WX_8:=hid (WX_7.out.call zb8)
   have WL_8:=hid (WL_7.out.call zb8)
   have W0_8:=hid (W0_7.out.call zb8)
   have D_8:=hid (D_7.out.call zb8)
   have OB_8:=hid (OB_7.out.call zb8)
   have R1_8:=hid (R1_7.out.call zb8)
   have S1_8:=hid (S1_7.out.call zb8)
   have A_8:=hid (Ac.newb (w:=w) (A:=(wC x ⟨d1,a1,ac1,k1,kc1,w1,wc1⟩)) (t:=29) (n:=nA) B_7.out hnA)
   clear zb8 B_7 X_7 O_7 XB_7 WX_7 WL_7 W0_7 D_7 OB_7 R1_7 S1_7
   generalize u106.alloc (.cells (wC x ⟨d1,a1,ac1,k1,kc1,w1,wc1⟩) 29)=V107 at *
   have AB_8:=Ab
   have hg:V107.heap.size=nA+1:=by rw [s8,hnA]
   simp only [hnA]
   clear hnA s8 Ab
   have ca:=(Below.refl V107.heap.size V107).alloc (Nat.le_refl _) (.cells #[.int .i64 0,.slice none 0 0,.int .i64 0,.int .i64 5,.int .i64 0,.int .i64 0,.int .i64 0,.int .i64 0,.int .i64 0,.int .i64 0,.slice none 0 0,.int .i64 0,.slice none 0 0,.int .i64 0,.slice none 0 0,.int .i64 0,.slice la l.length lc,.int .i64 0,.int .i64 0,.int .i64 0,.slice none 0 0,.slice none 0 0,.int .i64 0,.bool false,.int .i64 0,.int .i64 0,.int .i64 0,.slice none 0 0,.slice none 0 0,.int .i64 0] 55)
   have SR:=hid (flat18 slC_len [kS18 la lc l] (Blk.newn V107 55 #[.int .i64 0,.slice none 0 0,.int .i64 0,.int .i64 5,.int .i64 0,.int .i64 0,.int .i64 0,.int .i64 0,.int .i64 0,.int .i64 0,.slice none 0 0,.int .i64 0,.slice none 0 0,.int .i64 0,.slice none 0 0,.int .i64 0,.slice la l.length lc,.int .i64 0,.int .i64 0,.int .i64 0,.slice none 0 0,.slice none 0 0,.int .i64 0,.bool false,.int .i64 0,.int .i64 0,.int .i64 0,.slice none 0 0,.slice none 0 0,.int .i64 0] hg) (by simp [maxLen]) rfl)
   have B_9:=hid (bl B_8.out ca)
   have X_9:=hid (X_8.out.call ca)
   have O_9:=hid (O_8.out.call ca)
   have A_9:=hid (A_8.out.call ca)
   have XB_9:=hid (XB_8.out.call ca)
   have WX_9:=hid (WX_8.out.call ca)
   have WL_9:=hid (WL_8.out.call ca)
   have W0_9:=hid (W0_8.out.call ca)
   have D_9:=hid (D_8.out.call ca)
   have OB_9:=hid (OB_8.out.call ca)
   have R1_9:=hid (R1_8.out.call ca)
   have S1_9:=hid (S1_8.out.call ca)
   have AB_9:=hid (AB_8.out.call ca)
   have P_9:=hid (show PlansAt _ (some ⟨nA+1,0,none⟩) [kS18 la lc l] from ⟨SR.out,fun s hs=>by rw [List.mem_singleton.1 hs];exact WL_9.out⟩)
   clear SR ca B_8 X_8 O_8 A_8 XB_8 WX_8 WL_8 W0_8 D_8 OB_8 R1_8 S1_8 AB_8
   clear hg
   generalize V107.alloc (.cells #[.int .i64 0,.slice none 0 0,.int .i64 0,.int .i64 5,.int .i64 0,.int .i64 0,.int .i64 0,.int .i64 0,.int .i64 0,.int .i64 0,.slice none 0 0,.int .i64 0,.slice none 0 0,.int .i64 0,.slice none 0 0,.int .i64 0,.slice la l.length lc,.int .i64 0,.int .i64 0,.int .i64 0,.slice none 0 0,.slice none 0 0,.int .i64 0,.bool false,.int .i64 0,.int .i64 0,.int .i64 0,.slice none 0 0,.slice none 0 0,.int .i64 0] 55)=V7 at *
   have DS2:=hid D_9.out
   refine (pset_as (n:=1) (l:=[kS18 la lc l]) (z:=A) (Like.refl x) rfl W0_9.out HFW.out P_9.out (kS18_may x la lc l HMA.out) ((kS18_set x la lc l).trans HA.out)).mono ?_
   rintro e u109 ⟨⟨d2,a2,ac2,k2,kc2,w2,wc2⟩,rfl,hp,b109⟩
   have B_10:=hid (bl B_9.out b109)
   have X_10:=hid (X_9.out.call b109)
   have O_10:=hid (O_9.out.call b109)
   have A_10:=hid (A_9.out.call b109)
   have XB_10:=hid (XB_9.out.call b109)
   have WX_10:=hid (WX_9.out.call b109)
   have WL_10:=hid (WL_9.out.call b109)
   have W0_10:=hid (W0_9.out.call b109)
   have D_10:=hid (D_9.out.call b109)
   have OB_10:=hid (OB_9.out.call b109)
   have R1_10:=hid (R1_9.out.call b109)
   have S1_10:=hid (S1_9.out.call b109)
   have AB_10:=hid (AB_9.out.call b109)
   have P_10:=hid (P_9.out.call b109)
   have R2_10:=hid (hp.at_.prow (N:=u104.heap.size) DS2.out.size HLA.out.al (by decide) (fun _=>rfl))
   have S2_10:=hid (hp.wh.prow (N:=u104.heap.size) DS2.out.size HLA.out.wl (by decide) (fun _=>rfl))
   clear hp
   clear b109 B_9 X_9 O_9 A_9 XB_9 WX_9 WL_9 W0_9 D_9 OB_9 R1_9 S1_9 AB_9 P_9
   have hcX:=X_10.out.2.2
   have hlX:=X_10.out.2.1
   have hcO:=O_10.out.2.2
   have hlO:=O_10.out.2.1
   have hcA:=A_10.out.2.2
   have hlA:=A_10.out.2.1
   clear DS2
   go_wp2_with fail
   clear hcX hlX hcO hlO hcA hlA
   obtain ⟨nQ,hnQ⟩:∃m,u109.heap.size=m:=⟨_,rfl⟩
   have Qb:=hid (Blk.newn u109 29 (wC x ⟨d2,a2,ac2,k2,kc2,w2,wc2⟩) hnQ)
   have s11:(u109.alloc (.cells (wC x ⟨d2,a2,ac2,k2,kc2,w2,wc2⟩) 29)).heap.size=u109.heap.size+1:=by simp
   have zb11:Below u109.heap.size u109 (u109.alloc (.cells (wC x ⟨d2,a2,ac2,k2,kc2,w2,wc2⟩) 29)):=b_a _
   have B_11:=hid (bl B_10.out zb11)
   have X_11:=hid (X_10.out.call zb11)
   have O_11:=hid (O_10.out.call zb11)
   have A_11:=hid (A_10.out.call zb11)
   have XB_11:=hid (XB_10.out.call zb11)
   have WX_11:=hid (WX_10.out.call zb11)
   have WL_11:=hid (WL_10.out.call zb11)
   have W0_11:=hid (W0_10.out.call zb11)
   have D_11:=hid (D_10.out.call zb11)
   have OB_11:=hid (OB_10.out.call zb11)
   have R1_11:=hid (R1_10.out.call zb11)
   have S1_11:=hid (S1_10.out.call zb11)
   have AB_11:=hid (AB_10.out.call zb11)
   have P_11:=hid (P_10.out.call zb11)
   have R2_11:=hid (R2_10.out.call zb11)
   have S2_11:=hid (S2_10.out.call zb11)
   have Q_11:=hid (Ac.newb (w:=w) (A:=(wC x ⟨d2,a2,ac2,k2,kc2,w2,wc2⟩)) (t:=29) (n:=nQ) B_10.out hnQ)
   clear zb11 B_10 X_10 O_10 A_10 XB_10 WX_10 WL_10 W0_10 D_10 OB_10 R1_10 S1_10 AB_10 P_10 R2_10 S2_10
   generalize u109.alloc (.cells (wC x ⟨d2,a2,ac2,k2,kc2,w2,wc2⟩) 29)=V110 at *
   have QB_11:=Qb
   simp only [hnQ]
   clear hnQ s11 Qb
   go_wp2_with fail
   go_loopw [9] (fun i wr=>∃j:Nat,j≤x.at_.length∧i=.int .i64 j∧Kp u104.heap.size 3 V110 wr∧PRow 3 1 u104.heap.size wr a1 x.at_.length∧PRow 3 1 u104.heap.size wr a2 x.at_.length) (fun i _=>x.at_.length-(intOf i).toNat)
   case atStart=>exact ⟨0,Nat.zero_le _,rfl,Kp.refl _ _ _,R1_11.out,R2_11.out⟩
   case round =>
    obtain ⟨j,hj,rfl,hK,hR1,hR2⟩:=hrel
    have HK:=hid hK
    have H1:=hid hR1
    have H2:=hid hR2
    clear hK hR1 hR2
    have AB:=hid (HK.out.t _ _ _ (show 29≠3 by decide) AB_11.out)
    have QB:=hid (HK.out.t _ _ _ (show 29≠3 by decide) QB_11.out)
    obtain ⟨hcA,-,hlA⟩:=AB.out.all
    by_cases hlt:j<x.at_.length
    ·rcases H1.out with h0|⟨g1,cs1,rfl,hN1,hb1,hs1⟩
     ·omega
     rcases H2.out with h0|⟨g2,cs2,rfl,-,-,-⟩
     ·omega
     have wk:IntKind.i64.wrap ((j:Int)+1)=(j:Int)+1:=IntWalk.i64_in _ (by omega)
     have HKL:=hid hlt
     have c1:wr.cell? ⟨g1,j,none⟩=some (cs1[j]'(by omega)):=by rw [hb1.cell,Array.getElem?_eq_getElem]
     have f1:=hb1.frozen
     have HB1:=hid hb1
     have HN1:=hid hN1
     clear hb1 hN1
     generalize cs1[j]=z1 at *
     go_upto_region 15 with fail
     clear c1 f1 hcA hlA
     have K1:=hid (HK.out.set HB1.out HN1.out (j) (.int .i64 77))
     have G1:=hid (H1.out.set HB1.out (j) (.int .i64 77))
     have G2:=hid (H2.out.set HB1.out (j) (.int .i64 77))
     clear HK H1 H2 AB QB HB1 HN1 hs1
     generalize wr.setCell ⟨g1,j,none⟩ (.int .i64 77)=W1 at *
     have QB:=hid (K1.out.t _ _ _ (show 29≠3 by decide) QB_11.out)
     obtain ⟨hcQ,-,hlQ⟩:=QB.out.all
     rcases G2.out with h0|⟨g3,cs3,e3,hN3,hb3,hs3⟩
     ·omega
     obtain rfl:g2=g3:=by simpa using e3
     have c3:W1.cell? ⟨g2,j,none⟩=some (cs3[j]'(by omega)):=by rw [hb3.cell,Array.getElem?_eq_getElem]
     have f3:=hb3.frozen
     have HB3:=hid hb3
     have HN3:=hid hN3
     clear hb3 hN3 e3
     generalize cs3[j]=z3 at *
     go_wp2_with fail
     go_roundw
     case rel=>exact ⟨j+1,HKL.out,by go_num,K1.out.set HB3.out HN3.out _ _,G1.out.set HB3.out _ _,G2.out.set HB3.out _ _⟩
     case measure=>have:=HKL.out;simp [intOf];omega
    ·have hje:j=x.at_.length:=by omega
     subst hje
     go_wp2_with fail
     clear hcA hlA hlt hj
     obtain ⟨W2,hW2⟩:∃z,z=wr:=⟨_,rfl⟩
     subst hW2
     have S1:=hid (S1_11.out.kp HK.out (show 37≠3 by decide))
     have S2:=hid (S2_11.out.kp HK.out (show 37≠3 by decide))
     have K0:=HK
     clear H1 H2 HK R1_11 R2_11 S1_11 S2_11
     have AB0:=AB
     have QB0:=QB
     clear AB QB
     go_loopw [10] (fun i wr=>∃j:Nat,j≤x.wher.length∧i=.int .i64 j∧Kp u104.heap.size 37 W2 wr∧PRow 37 2 u104.heap.size wr w1 x.wher.length∧PRow 37 2 u104.heap.size wr w2 x.wher.length) (fun i _=>x.wher.length-(intOf i).toNat)
     case atStart=>exact ⟨0,Nat.zero_le _,rfl,Kp.refl _ _ _,S1.out,S2.out⟩
     case round =>
      obtain ⟨j,hj,rfl,hK,hR1,hR2⟩:=hrel
      have HK:=hid hK
      have H1:=hid hR1
      have H2:=hid hR2
      clear hK hR1 hR2
      have AB:=hid (HK.out.t _ _ _ (show 29≠37 by decide) AB0.out)
      have QB:=hid (HK.out.t _ _ _ (show 29≠37 by decide) QB0.out)
      obtain ⟨hcA,-,hlA⟩:=AB.out.all
      by_cases hlt:j<x.wher.length
      ·rcases H1.out with h0|⟨g1,cs1,rfl,hN1,hb1,hs1⟩
       ·omega
       rcases H2.out with h0|⟨g2,cs2,rfl,-,-,-⟩
       ·omega
       have wk:IntKind.i64.wrap ((j:Int)+1)=(j:Int)+1:=IntWalk.i64_in _ (by omega)
       have HKL:=hid hlt
       have c1:wr.cell? ⟨g1,j*2+1,none⟩=some (cs1[j*2+1]'(by omega)):=by rw [hb1.cell,Array.getElem?_eq_getElem]
       have f1:=hb1.frozen
       have HB1:=hid hb1
       have HN1:=hid hN1
       clear hb1 hN1
       generalize cs1[j*2+1]=z1 at *
       go_upto_region 20 with fail
       clear c1 f1 hcA hlA
       have K1:=hid (HK.out.set HB1.out HN1.out (j*2+1) (.int .i64 77))
       have G1:=hid (H1.out.set HB1.out (j*2+1) (.int .i64 77))
       have G2:=hid (H2.out.set HB1.out (j*2+1) (.int .i64 77))
       clear HK H1 H2 AB QB HB1 HN1 hs1
       generalize wr.setCell ⟨g1,j*2+1,none⟩ (.int .i64 77)=W1 at *
       have QB:=hid (K1.out.t _ _ _ (show 29≠37 by decide) QB0.out)
       obtain ⟨hcQ,-,hlQ⟩:=QB.out.all
       rcases G2.out with h0|⟨g3,cs3,e3,hN3,hb3,hs3⟩
       ·omega
       obtain rfl:g2=g3:=by simpa using e3
       have c3:W1.cell? ⟨g2,j*2+1,none⟩=some (cs3[j*2+1]'(by omega)):=by rw [hb3.cell,Array.getElem?_eq_getElem]
       have f3:=hb3.frozen
       have HB3:=hid hb3
       have HN3:=hid hN3
       clear hb3 hN3 e3
       generalize cs3[j*2+1]=z3 at *
       go_wp2_with fail
       go_roundw
       case rel=>exact ⟨j+1,HKL.out,by go_num,K1.out.set HB3.out HN3.out _ _,G1.out.set HB3.out _ _,G2.out.set HB3.out _ _⟩
       case measure=>have:=HKL.out;simp [intOf];omega
      ·have hje:j=x.wher.length:=by omega
       subst hje
       have XB:=hid (HK.out.t _ _ _ (show 29≠37 by decide) (K0.out.t _ _ _ (show 29≠3 by decide) XB_11.out))
       have OB:=hid (HK.out.t _ _ _ (show 29≠37 by decide) (K0.out.t _ _ _ (show 29≠3 by decide) OB_11.out))
       obtain ⟨hcX,-,hlX⟩:=XB.out.all
       obtain ⟨hcO,-,hlO⟩:=OB.out.all
       have DD:=hid ((show Below u104.heap.size u104 V110 from D_11.out).trans (K0.out.b.trans HK.out.b))
       have BB:=hid (B_11.out.trans ((K0.out.b.trans HK.out.b).mono HNW.out))
       go_wp2_with fail
       refine (psame_as (Like.refl x) (Like.refl x) (W1.out.below DD.out (Nat.le_refl _)) (HW.out.below BB.out (Nat.le_refl _)) (decide_eq_true rfl)).mono ?_
       rintro e w9 ⟨rfl,b9⟩
       go_wp2_with fail
       go_ret
       exact ⟨rfl,bl BB.out b9⟩
theorem lifted_planKeeps (os:Os) (started:os.Started) (H:Type) (enc:TypeId × Value→H) :
 ReturnsInHanded {} Try.checked os 5 .any (Rows.planKeepsSpec.pre6 enc prog Try.f5 Rows.planKeepsRow.domain false) (Rows.planKeepsSpec.post enc prog Try.f5 false true false false):=by
 refine returnsInHanded_of_change (C:=Try.checked) (by kernel_rfl) started (by kernel_rfl) func5
  (ChangeSpec.witness6 (enc:=enc) (C:=Try.checked) false ⟨#[],#[.agg zC,.slice none 0 0],[]⟩ 8 (by kernel_rfl) (by kernel_rfl) (by kernel_rfl) (by kernel_rfl)) ?_
 intro W base args ds gs before hval0 hW hcnd _
 have hval:∀(j:Nat) t v,Try.f5.params[j]?=some t→args[j]?=some v→Value.okWide prog W .any base t v:=hval0
 have hW':=hW
 obtain ⟨p,q,hA0,hV,rfl,hfz,hnd⟩:=hW
 have hA:DataW.TrodAll enc prog W 0 (fun _=>true) true Try.f5.params.toList args.toList ds p:=hA0
 rw [Try.params5] at hA hval
 obtain ⟨v0,vs0,d0,ds0,p0,q0,hargs,rfl,rfl,h0,r0⟩:=trodAll_cons hA
 obtain ⟨v1,vs1,d1,ds1,p1,q1,rfl,rfl,rfl,h1,r1⟩:=trodAll_cons r0
 obtain ⟨rfl,rfl,rfl⟩:=trodAll_nil r1
 obtain rfl:args=#[v0,v1]:=by cases args;simp_all
 obtain ⟨rfl,rfl⟩:=trodVars_none hV
 obtain ⟨wx0,wp0,rfl,m0⟩:=Qz (hval 0 29 v0 rfl rfl) h0
 obtain ⟨a1,cap1,ls1,rfl,m1,n1⟩:=read_wrs (hval 1 30 v1 rfl rfl) h1
 clear hA0 hval0
 simp only [List.append_nil] at hW'
 refine (walk_planKeeps wx0 wp0 a1 cap1 ls1 W m0 ⟨m1,n1⟩).mono fun e W' ⟨he,hg⟩=>?_
 subst he
 exact ⟨_,rfl,Iy (by kernel_rfl) rfl (by rw [Try.params5];decide +kernel) rfl rfl underlying4 hW' hg⟩
theorem proved_planKeeps:Rows.PlanKeepsSaid :=
 OpenClaim.holds_of_wide 5 Try.f5 rfl rfl rfl rfl rfl rfl rfl ⟨rfl,rfl,rfl,rfl,rfl⟩ rfl rfl rfl rfl rfl (by kernel_rfl) func5 (by kernel_rfl)
  (of_decide_eq_true (by kernel_rfl)) (by unfold Func.isWrapper;first|(rw [if_pos (by decide +kernel)];kernel_rfl)|(rw [if_neg (by decide +kernel)];exact ⟨rfl,rfl⟩))
  (fun os started H enc _=>lifted_planKeeps os started H enc)
#print axioms proved_planKeeps
end Go.Proofs.Ytnhkojpbbdaedaa
