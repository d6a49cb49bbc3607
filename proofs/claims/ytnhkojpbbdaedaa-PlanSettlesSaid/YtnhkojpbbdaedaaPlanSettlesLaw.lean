/- PlanSettles: the settled world is what all that is left of the sessions makes. -/
import Derived.Test.YtnhkojpbbdaedaaSlices
import Derived.Test.YtnhkojpbbdaedaaPlanAw
import Derived.Test.YtnhkojpbbdaedaaSessRow
namespace Go.Proofs.Ytnhkojpbbdaedaa
open Go.ChangeShapes Go.WideShapes Go.ChangeAt Go.RowKit Go.Proofs.Try
open Lib (hid)
set_option linter.unusedVariables false
set_option maxRecDepth 100000
open Go.RowKit
theorem two_desc {V w:World} {n:Nat} {x y:Wd} {p q:Wp} (hY:Blk V n 29 (wC y q)) (hb:Below w.heap.size w V) (hn:w.heap.size≤n) (hx:Ab w p x) (hy:Ab w q y) (ha:y.at_.length=x.at_.length) (hc:y.coins.length=x.coins.length) (hw:y.wher.length=x.wher.length) :
 ∃(qz:Wp) (z:Wd),z=⟨x.d,y.at_,y.coins,y.wher⟩∧Blk (((((((((V.setCell ⟨n,0,none⟩ (.slice p.d.ex x.d.exits.length p.d.exc)).setCell ⟨n,1,none⟩ (.slice p.d.pl x.d.players.length p.d.plc)).setCell ⟨n,2,none⟩ (.slice p.d.co x.d.coins.length p.d.coc)).setCell ⟨n,3,none⟩ (.slice p.d.it x.d.items.length p.d.itc)).setCell ⟨n,4,none⟩ (.slice p.d.bo x.d.boxes.length p.d.boc)).setCell ⟨n,5,none⟩ (.int .i64 x.d.room)).setCell ⟨n,6,none⟩ (.int .i64 x.d.player)).setCell ⟨n,7,none⟩ (.int .i64 x.d.box))) n 29 (wC x qz)∧Ab (((((((((V.setCell ⟨n,0,none⟩ (.slice p.d.ex x.d.exits.length p.d.exc)).setCell ⟨n,1,none⟩ (.slice p.d.pl x.d.players.length p.d.plc)).setCell ⟨n,2,none⟩ (.slice p.d.co x.d.coins.length p.d.coc)).setCell ⟨n,3,none⟩ (.slice p.d.it x.d.items.length p.d.itc)).setCell ⟨n,4,none⟩ (.slice p.d.bo x.d.boxes.length p.d.boc)).setCell ⟨n,5,none⟩ (.int .i64 x.d.room)).setCell ⟨n,6,none⟩ (.int .i64 x.d.player)).setCell ⟨n,7,none⟩ (.int .i64 x.d.box))) qz z∧Like x z∧Below w.heap.size w (((((((((V.setCell ⟨n,0,none⟩ (.slice p.d.ex x.d.exits.length p.d.exc)).setCell ⟨n,1,none⟩ (.slice p.d.pl x.d.players.length p.d.plc)).setCell ⟨n,2,none⟩ (.slice p.d.co x.d.coins.length p.d.coc)).setCell ⟨n,3,none⟩ (.slice p.d.it x.d.items.length p.d.itc)).setCell ⟨n,4,none⟩ (.slice p.d.bo x.d.boxes.length p.d.boc)).setCell ⟨n,5,none⟩ (.int .i64 x.d.room)).setCell ⟨n,6,none⟩ (.int .i64 x.d.player)).setCell ⟨n,7,none⟩ (.int .i64 x.d.box))):=by
 have hB:Below w.heap.size w (((((((((V.setCell ⟨n,0,none⟩ (.slice p.d.ex x.d.exits.length p.d.exc)).setCell ⟨n,1,none⟩ (.slice p.d.pl x.d.players.length p.d.plc)).setCell ⟨n,2,none⟩ (.slice p.d.co x.d.coins.length p.d.coc)).setCell ⟨n,3,none⟩ (.slice p.d.it x.d.items.length p.d.itc)).setCell ⟨n,4,none⟩ (.slice p.d.bo x.d.boxes.length p.d.boc)).setCell ⟨n,5,none⟩ (.int .i64 x.d.room)).setCell ⟨n,6,none⟩ (.int .i64 x.d.player)).setCell ⟨n,7,none⟩ (.int .i64 x.d.box))):=by
  iterate 8 refine Below.setCell ?_ hn _
  exact hb
 refine ⟨⟨p.d,q.at_,q.atc,q.co,q.coc,q.wh,q.whc⟩,_,rfl,?_,⟨hx.d.below hB (Nat.le_refl _),hy.at_.below hB (Nat.le_refl _),hy.co.below hB (Nat.le_refl _),Ar.below hy.wh hB (Nat.le_refl _)⟩,⟨rfl,ha,hc,hw⟩,hB⟩
 have h2:=((((((((hY.set_ 0 (.slice p.d.ex x.d.exits.length p.d.exc)).set_ 1 (.slice p.d.pl x.d.players.length p.d.plc)).set_ 2 (.slice p.d.co x.d.coins.length p.d.coc)).set_ 3 (.slice p.d.it x.d.items.length p.d.itc)).set_ 4 (.slice p.d.bo x.d.boxes.length p.d.boc)).set_ 5 (.int .i64 x.d.room)).set_ 6 (.int .i64 x.d.player)).set_ 7 (.int .i64 x.d.box))
 simp only [List.setIfInBounds_toArray,List.set_cons_zero,List.set_cons_succ,ha,hc,hw] at h2
 exact h2
theorem Blk.holdsp {w W:World} {n:Nat} {t:TypeId} {A:Array Value} (h:Blk W n t A) (hb:Below w.heap.size w W):Ac w n A W:=⟨hb,h.lt,h.cell⟩
theorem full_eqs {x:Wd} (h:fullB x=true):x.at_.length=x.d.players.length∧x.coins.length=x.d.players.length∧x.wher.length=x.d.items.length:=by
 simp [fullB] at h;exact h
theorem few_lens {x:Wd} (h:fewB x=true):x.at_.length≤40∧x.coins.length≤40∧x.wher.length≤40:=by
 simp [fewB] at h;omega
def sS (la:Option Addr) (lc:Nat) (l:List Wr) (ph st:Int):Sl:=⟨0,[],none,0,0,ph,st,⟨0,0,0,0,0,[],0,[],0⟩,none,0,none,0,[],none,0,0,l,la,lc,⟨0,0,0,[],[],0⟩,none,0,none,0,false,0,0,0,[],none,0,[],none,0,0⟩
def OkS (x:Wd) (la:Option Addr) (lc:Nat) (l:List Wr) (s:Sl):Prop:=s.pa=la∧s.pc=lc∧s.plan=l∧MayS x s
structure StR (x:Wd) (p:Wp) (la:Option Addr) (lc:Nat) (l:List Wr) (N:Nat) (sv:Value) (S:List Sl) (q:Wp) (z:Wd) (W:World):Prop where
 g:Dt 30 55 slC N W sv S
 s:∀s∈S,OkS x la lc l s
 b:Blk W N 29 (wC x q)
 r:(q=p∧z=x)∨PRows N W p.d q z
section
variable {x:Wd} {p:Wp} {la:Option Addr} {lc:Nat} {l:List Wr} {N:Nat} {sv:Value} {S:List Sl} {q q2:Wp} {z z2:Wd} {W W':World}
theorem StR.call (h:StR x p la lc l N sv S q z W) (hb:Below W.heap.size W W'):StR x p la lc l N sv S q z W':=⟨h.g.call hb,h.s,h.b.call hb,h.r.imp id fun h2=>h2.call hb⟩
theorem StR.app (h:StR x p la lc l N sv S q z W) {v3:Value} {s:Sl} (hs:OkS x la lc l s) (hg:W.grownBy W' sv.ownBlock) (hG:Dt 30 55 slC N W' v3 (S++[s])):StR x p la lc l N v3 (S++[s]) q z W':=by
 have t1:55≠29:=by decide
 exact ⟨hG,fun s2 h2=>by rcases List.mem_append.1 h2 with h3|h3;exact h.s s2 h3;rw [List.mem_singleton.1 h3];exact hs,
  h.b.keepg hg fun r e=>(h.g.ownb e).2.elim fun ds hd=>⟨_,ds,t1,hd⟩,h.r.imp id fun h2=>h2.keepg hg fun r e=>(h.g.ownb e).2⟩
theorem StR.world (h:StR x p la lc l N sv S q z W) (hw:Ab W p x) (hl:z.d=x.d):Ab W q z:=by
 rcases h.r with ⟨h1,h2⟩|h2
 ·rw [h1,h2];exact hw
 ·exact h2.world (by rw [hl];exact hw.d)
theorem StR.put (h:StR x p la lc l N sv S q z W) (hr:PRows N W p.d q2 z2):StR x p la lc l N sv S q2 z2 (((((((((((W.setCell ⟨N,0,none⟩ (.slice q2.d.ex x.d.exits.length q2.d.exc)).setCell ⟨N,1,none⟩ (.slice q2.d.pl x.d.players.length q2.d.plc)).setCell ⟨N,2,none⟩ (.slice q2.d.co x.d.coins.length q2.d.coc)).setCell ⟨N,3,none⟩ (.slice q2.d.it x.d.items.length q2.d.itc)).setCell ⟨N,4,none⟩ (.slice q2.d.bo x.d.boxes.length q2.d.boc)).setCell ⟨N,5,none⟩ (.int .i64 x.d.room)).setCell ⟨N,6,none⟩ (.int .i64 x.d.player)).setCell ⟨N,7,none⟩ (.int .i64 x.d.box)).setCell ⟨N,8,none⟩ (.slice q2.at_ x.at_.length q2.atc)).setCell ⟨N,9,none⟩ (.slice q2.co x.coins.length q2.coc)).setCell ⟨N,10,none⟩ (.slice q2.wh x.wher.length q2.whc)):=by
 have t1:29≠55:=by decide
 exact ⟨(((((((((((h.g.tys h.b t1 0 _).tys (h.b.set_ 0 _) t1 1 _).tys ((h.b.set_ 0 _).set_ 1 _) t1 2 _).tys (((h.b.set_ 0 _).set_ 1 _).set_ 2 _) t1 3 _).tys ((((h.b.set_ 0 _).set_ 1 _).set_ 2 _).set_ 3 _) t1 4 _).tys (((((h.b.set_ 0 _).set_ 1 _).set_ 2 _).set_ 3 _).set_ 4 _) t1 5 _).tys ((((((h.b.set_ 0 _).set_ 1 _).set_ 2 _).set_ 3 _).set_ 4 _).set_ 5 _) t1 6 _).tys (((((((h.b.set_ 0 _).set_ 1 _).set_ 2 _).set_ 3 _).set_ 4 _).set_ 5 _).set_ 6 _) t1 7 _).tys ((((((((h.b.set_ 0 _).set_ 1 _).set_ 2 _).set_ 3 _).set_ 4 _).set_ 5 _).set_ 6 _).set_ 7 _) t1 8 _).tys (((((((((h.b.set_ 0 _).set_ 1 _).set_ 2 _).set_ 3 _).set_ 4 _).set_ 5 _).set_ 6 _).set_ 7 _).set_ 8 _) t1 9 _).tys ((((((((((h.b.set_ 0 _).set_ 1 _).set_ 2 _).set_ 3 _).set_ 4 _).set_ 5 _).set_ 6 _).set_ 7 _).set_ 8 _).set_ 9 _) t1 10 _),h.s,blk_world h.b (by simp) _ _ _ _ _ _ _ _ _ _ _,.inr (((((((((((hr.tyw h.b 0 _).tyw (h.b.set_ 0 _) 1 _).tyw ((h.b.set_ 0 _).set_ 1 _) 2 _).tyw (((h.b.set_ 0 _).set_ 1 _).set_ 2 _) 3 _).tyw ((((h.b.set_ 0 _).set_ 1 _).set_ 2 _).set_ 3 _) 4 _).tyw (((((h.b.set_ 0 _).set_ 1 _).set_ 2 _).set_ 3 _).set_ 4 _) 5 _).tyw ((((((h.b.set_ 0 _).set_ 1 _).set_ 2 _).set_ 3 _).set_ 4 _).set_ 5 _) 6 _).tyw (((((((h.b.set_ 0 _).set_ 1 _).set_ 2 _).set_ 3 _).set_ 4 _).set_ 5 _).set_ 6 _) 7 _).tyw ((((((((h.b.set_ 0 _).set_ 1 _).set_ 2 _).set_ 3 _).set_ 4 _).set_ 5 _).set_ 6 _).set_ 7 _) 8 _).tyw (((((((((h.b.set_ 0 _).set_ 1 _).set_ 2 _).set_ 3 _).set_ 4 _).set_ 5 _).set_ 6 _).set_ 7 _).set_ 8 _) 9 _).tyw ((((((((((h.b.set_ 0 _).set_ 1 _).set_ 2 _).set_ 3 _).set_ 4 _).set_ 5 _).set_ 6 _).set_ 7 _).set_ 8 _).set_ 9 _) 10 _)⟩
theorem put_below {V:World} (hb:Below N V W):Below N V (((((((((((W.setCell ⟨N,0,none⟩ (.slice q2.d.ex x.d.exits.length q2.d.exc)).setCell ⟨N,1,none⟩ (.slice q2.d.pl x.d.players.length q2.d.plc)).setCell ⟨N,2,none⟩ (.slice q2.d.co x.d.coins.length q2.d.coc)).setCell ⟨N,3,none⟩ (.slice q2.d.it x.d.items.length q2.d.itc)).setCell ⟨N,4,none⟩ (.slice q2.d.bo x.d.boxes.length q2.d.boc)).setCell ⟨N,5,none⟩ (.int .i64 x.d.room)).setCell ⟨N,6,none⟩ (.int .i64 x.d.player)).setCell ⟨N,7,none⟩ (.int .i64 x.d.box)).setCell ⟨N,8,none⟩ (.slice q2.at_ x.at_.length q2.atc)).setCell ⟨N,9,none⟩ (.slice q2.co x.coins.length q2.coc)).setCell ⟨N,10,none⟩ (.slice q2.wh x.wher.length q2.whc)):=by
 iterate 11 refine Below.setCell ?_ (by show N≤N;exact Nat.le_refl _) _
 exact hb
theorem StR.plans (h:StR x p la lc l N sv S q z W) (hl:WrcAt W la lc l):∃sa sc,sv=.slice sa S.length sc∧PlansAt W sa S:=by
 obtain ⟨a,c,e,ho⟩:=h.g.own slC_len
 exact ⟨a,c,e,ho.row,fun s hs=>by obtain ⟨h1,h2,h3,-⟩:=h.s s hs;rw [h1,h2,h3];exact hl⟩
end
theorem bdB {m:Nat} {V W W':World} (h:Below m V W) (hm:m≤W.heap.size) (hb:Below W.heap.size W W'):Below m V W':=h.trans (hb.mono hm)
theorem setW_one (x:Wd) (S:List Sl) (s:Sl):setW x (S++[s])=setP (setW x S) s:=by unfold setW;rw [List.foldl_append];rfl
set_option maxHeartbeats 2000000 in
theorem planSettles_go (x:Wd) (p:Wp) (la:Option Addr) (lc:Nat) (l:List Wr) (a2:Option Addr) (cap2:Nat) (ds:List Int) (on:Nat) (w:World) (hon:on≤255) (hwf:∀d∈ds,(Lit.int .u8 d).wf=true) (h:Ab w p x) (hl:WrcAt w la lc l) (hml:ds.length≤maxLen) (h2:(ds=[]∨∃b off,a2=some ⟨b,off,none⟩∧b<w.heap.size∧∀i (hi:i<ds.length),w.cell? ⟨b,off+i,none⟩=some (.int .u8 ds[i]))):Calls prog 4 #[.agg (wC x p),.slice la l.length lc,.slice a2 ds.length cap2,.int .u8 (on:Int)] w fun e w'=>e=.returned (.bool true)∧Below w.heap.size w w':=by
 have HW:=hid h
 have HL:=hid hl
 have HD:=hid h2
 have HWF:=hid hwf
 have HON:=hid hon
 have hln:=Ar.len hl.1
 have hdm:ds.length≤9223372036854775807:=by unfold maxLen at hml;omega
 clear hl h2 hwf hml hon
 obtain ⟨f1,hf1⟩:∃b,fewB x=b:=⟨_,rfl⟩
 obtain ⟨f3,hf3⟩:∃b,fullB x=b:=⟨_,rfl⟩
 have HF1:=hid hf1
 have HF3:=hid hf3
 clear hf1 hf3
 have hlx1:=h.at_.len
 have hlx2:=h.co.len
 have hlx3:=h.wh.len
 have X_0:=hid (Ac.new w (wC x p) 29)
 have XB_0:=hid (Blk.new w 29 (wC x p))
 clear h
 have hWC:=@wC.eq_1
 have hZC:=@zC.eq_1
 go_enter func4,ntmps4
 go_wp2_with fail
 generalize w.alloc (.cells (wC x p) 29)=V0 at *
 have B_0:=hid X_0.out.1
 refine (awake18_any _).mono ?_
 rintro e u1 ⟨rfl,b1⟩
 have B_1:=hid (bl B_0.out b1)
 have X_1:=hid (X_0.out.call b1)
 have XB_1:=hid (XB_0.out.call b1)
 clear b1 B_0 X_0 XB_0
 have hcX:=X_1.out.2.2
 have hlX:=X_1.out.2.1
 go_wp2_with fail
 refine (El x p _).mono ?_
 rintro e u2 ⟨rfl,b2⟩
 rw [HF1.out]
 clear hcX hlX
 have B_2:=hid (bl B_1.out b2)
 have X_2:=hid (X_1.out.call b2)
 have XB_2:=hid (XB_1.out.call b2)
 clear b2 B_1 X_1 XB_1
 have hcX:=X_2.out.2.2
 have hlX:=X_2.out.2.1
 cases f1
 ·
  go_wp2_with fail
  refine (awake18_any _).mono ?_
  rintro e u3 ⟨rfl,b3⟩
  clear hcX hlX
  have B_3:=hid (bl B_2.out b3)
  have X_3:=hid (X_2.out.call b3)
  have XB_3:=hid (XB_2.out.call b3)
  clear b3 B_2 X_2 XB_2
  have hcX:=X_3.out.2.2
  have hlX:=X_3.out.2.1
  go_wp2_with fail
  go_ret
  exact ⟨rfl,B_3.out⟩
 go_wp2_with fail
 refine (rfull_any x p _).mono ?_
 rintro e u3 ⟨rfl,b3⟩
 rw [HF3.out]
 clear hcX hlX
 have B_3:=hid (bl B_2.out b3)
 have X_3:=hid (X_2.out.call b3)
 have XB_3:=hid (XB_2.out.call b3)
 clear b3 B_2 X_2 XB_2
 have hcX:=X_3.out.2.2
 have hlX:=X_3.out.2.1
 cases f3
 ·
  go_wp2_with fail
  refine (awake18_any _).mono ?_
  rintro e u4 ⟨rfl,b4⟩
  clear hcX hlX
  have B_4:=hid (bl B_3.out b4)
  have X_4:=hid (X_3.out.call b4)
  have XB_4:=hid (XB_3.out.call b4)
  clear b4 B_3 X_3 XB_3
  have hcX:=X_4.out.2.2
  have hlX:=X_4.out.2.1
  go_wp2_with fail
  go_ret
  exact ⟨rfl,B_4.out⟩
 by_cases el:l.length≤40
 rotate_left
 ·have qlel:(40:Int)<(l.length:Int):=by omega
  clear el
  go_wp2_with fail
  refine (awake18_any _).mono ?_
  rintro e u4 ⟨rfl,b4⟩
  clear hcX hlX
  have B_4:=hid (bl B_3.out b4)
  have X_4:=hid (X_3.out.call b4)
  have XB_4:=hid (XB_3.out.call b4)
  clear b4 B_3 X_3 XB_3
  have hcX:=X_4.out.2.2
  have hlX:=X_4.out.2.1
  go_wp2_with fail
  go_ret
  exact ⟨rfl,B_4.out⟩
 have qlel:(l.length:Int)≤40:=by omega
 by_cases ed:ds.length≤6
 rotate_left
 ·have qled:(6:Int)<(ds.length:Int):=by omega
  clear ed
  go_wp2_with fail
  refine (awake18_any _).mono ?_
  rintro e u4 ⟨rfl,b4⟩
  clear hcX hlX
  have B_4:=hid (bl B_3.out b4)
  have X_4:=hid (X_3.out.call b4)
  have XB_4:=hid (XB_3.out.call b4)
  clear b4 B_3 X_3 XB_3
  have hcX:=X_4.out.2.2
  have hlX:=X_4.out.2.1
  go_wp2_with fail
  go_ret
  exact ⟨rfl,B_4.out⟩
 have qled:(ds.length:Int)≤6:=by omega
 have WX_3:=hid (HW.out.below B_3.out (Nat.le_refl _))
 have HFW:=hid (Vu HF1.out)
 have N3:=hid (few_lens HF1.out)
 go_wp2_with fail
 clear hcX hlX
 go_loopw [9] (fun i wr=>∃k:Nat,k≤l.length∧i=.int .i64 k∧(∀c∈l.take k,mayX x c=true)∧Below u3.heap.size u3 wr) (fun i _=>l.length-(intOf i).toNat)
 case atStart=>exact ⟨0,Nat.zero_le _,rfl,by simp,Below.refl _ _⟩
 case round =>
  obtain ⟨k,hk,rfl,hm,hb⟩:=hrel
  have HM:=hid hm
  have HB:=hid hb
  clear hm hb
  by_cases hlt:k<l.length
  ·obtain ⟨b,o,rfl,hbb,c0,c1,c2,c3,c4⟩:=WrsAt.cells HL.out.1 hlt
   have BW:=hid (bl B_3.out HB.out)
   have d0:=(BW.out.cell (p:=⟨b,o+k*5,none⟩) hbb).trans c0
   have d1:=(BW.out.cell (p:=⟨b,o+k*5+1,none⟩) hbb).trans c1
   have d2:=(BW.out.cell (p:=⟨b,o+k*5+2,none⟩) hbb).trans c2
   have d3:=(BW.out.cell (p:=⟨b,o+k*5+3,none⟩) hbb).trans c3
   have d4:=(BW.out.cell (p:=⟨b,o+k*5+4,none⟩) hbb).trans c4
   have HMO:=hid (List.take_succ_eq_append_getElem hlt)
   have HKL:=hid hlt
   have wk:IntKind.i64.wrap ((k:Int)+1)=(k:Int)+1:=IntWalk.i64_in _ (by omega)
   have hcX:=(X_3.out.call HB.out).2.2
   have hlX:=(X_3.out.call HB.out).2.1
   clear c0 c1 c2 c3 c4 hbb
   generalize l[k]=c at *
   obtain ⟨ck,ci,cn,⟨cpk,cpi⟩⟩:=c
   simp only at d0 d1 d2 d3 d4
   go_upto_region 6 with fail
   go_still_tail 5,(by kernel_rfl)
   change wpList _ _ _ _ _ wr.drew
   have HB1:=hid (Af HB.out)
   clear d0 d1 d2 d3 d4 hcX hlX
   generalize wr.drew=w2 at *
   go_wp2_with fail
   refine (rpmay_any x p ⟨ck,ci,cn,⟨cpk,cpi⟩⟩ _).mono ?_
   rintro e w3 ⟨rfl,b3⟩
   have HB3:=hid (bl HB1.out b3)
   clear b3 HB HB1 BW
   cases hmc:mayX x ⟨ck,ci,cn,⟨cpk,cpi⟩⟩
   ·clear hmc
    go_wp2_with fail
    go_ret
    exact ⟨rfl,bl B_3.out HB3.out⟩
   ·have HMC:=hid hmc
    clear hmc
    go_wp2_with fail
    go_roundw
    case rel=>exact ⟨k+1,HKL.out,by go_num,by rw [HMO.out];exact fun c hc=>by rcases List.mem_append.1 hc with h|h;exact HM.out c h;rw [List.mem_singleton.1 h];exact HMC.out,HB3.out⟩
    case measure=>have:=HKL.out;simp [intOf];omega
  ·have hke:k=l.length:=by omega
   subst hke
   have HMA:=hid (show ∀c∈l,mayX x c=true from fun c hc=>HM.out c (by rw [List.take_length];exact hc))
   clear HM hlt hk
   have X_4:=hid (X_3.out.call HB.out)
   have XB_4:=hid (XB_3.out.call HB.out)
   have WX_4:=hid (WX_3.out.call HB.out)
   have B_4:=hid (bl B_3.out HB.out)
   have WL_4:=hid (HL.out.below B_4.out (Nat.le_refl _))
   clear HB B_3 X_3 XB_3 WX_3
   obtain ⟨VV,hVV⟩:∃z,z=wr:=⟨_,rfl⟩
   subst hVV
   have hcX:=X_4.out.2.2
   have hlX:=X_4.out.2.1
   obtain ⟨m,hm⟩:∃m,VV.heap.size=m:=⟨_,rfl⟩
   have EL:=hid el
   have ED:=hid ed
   go_wp2_with fail
   clear hcX hlX
   have ca:=(Below.refl VV.heap.size VV).alloc (Nat.le_refl _) (.cells (wC x p) 29)
   have R0:=hid (show StR x p la lc l m (.slice none 0 0) [] p x (VV.alloc (.cells (wC x p) 29)) from ⟨Dt.nil _,by simp,Blk.newn _ _ _ hm,.inl ⟨rfl,rfl⟩⟩)
   have C0:=hid (show Below m VV (VV.alloc (.cells (wC x p) 29)) from hm ▸ ca)
   have HM:=hid hm
   clear ca hm
   generalize VV.alloc (.cells (wC x p) 29)=V8 at *
   go_loopw [10,12] (fun sv iv wr=>∃(i:Nat) (S:List Sl) (q:Wp) (z:Wd),i≤ds.length∧iv=.int .i64 i∧S.length≤2*i∧setW x S=z∧StR x p la lc l m sv S q z wr∧Below m VV wr) (fun _ iv _=>ds.length-(intOf iv).toNat)
   case atStart=>exact ⟨0,[],p,x,Nat.zero_le _,rfl,Nat.zero_le _,rfl,R0.out,C0.out⟩
   case round =>
    obtain ⟨i,S,q,z,hi,rfl,hsl,hz,hR,hB⟩:=hrel
    have HR:=hid hR
    have HB:=hid hB
    have HZ:=hid hz
    have HSL:=hid hsl
    have HLZ:=hid (show Like x z from hz ▸ setW_like S x)
    clear hR hB hz hsl R0 C0
    have BW:=hid (B_4.out.trans (HB.out.mono (by have:=B_4.out.size;have:=HM.out;omega)))
    by_cases hlt:i<ds.length
    ·obtain ⟨b2,o2,rfl,hb2,hc2⟩:∃b off,a2=some ⟨b,off,none⟩∧b<w.heap.size∧∀i (hi:i<ds.length),w.cell? ⟨b,off+i,none⟩=some (.int .u8 ds[i]):=by
      rcases HD.out with h|h
      ·subst h;simp at hlt
      ·exact h
     have hcd:=(BW.out.cell (p:=⟨b2,o2+i,none⟩) hb2).trans (hc2 i hlt)
     have hdr:=Ed (HWF.out ds[i] (List.getElem_mem hlt))
     clear hc2 hb2 HD
     obtain ⟨dn,hdn⟩:∃m:Nat,ds[i]=m:=⟨ds[i].toNat,by omega⟩
     rw [hdn] at hcd hdr
     clear hdn HWF
     have hon:=HON.out
     have hel:=EL.out
     have hed:=ED.out
     have HI:=hid hlt
     have w1:IntKind.i64.wrap (dn:Int)=(dn:Int):=IntWalk.i64_in _ (by omega)
     have w2:IntKind.i64.wrap ((l.length:Int)+1)=(l.length:Int)+1:=IntWalk.i64_in _ (by omega)
     have w3:IntKind.i64.wrap (on:Int)=(on:Int):=IntWalk.i64_in _ (by omega)
     have w4:IntKind.i64.wrap ((i:Int)+1)=(i:Int)+1:=IntWalk.i64_in _ (by omega)
     obtain ⟨k,hk⟩:∃k,dn%(l.length+1)=k:=⟨_,rfl⟩
     have hkl:k≤l.length:=by have:=Nat.mod_lt dn (show 0<l.length+1 by omega);omega
     have m1:(dn:Int).tmod ((l.length:Int)+1)=(k:Int):=by rw [←hk];rfl
     have m2:(dn:Int)%((l.length:Int)+1)=(k:Int):=by rw [←hk];rfl
     have m3:(((l.length:Int)+1)==0)=false:=by rw [beq_eq_false_iff_ne];omega
     obtain ⟨ph,hph⟩:∃k,on%13=k:=⟨_,rfl⟩
     have o1:(on:Int).tmod 13=(ph:Int):=by rw [←hph];rfl
     have o2:(on:Int)%13=(ph:Int):=by rw [←hph];rfl
     have hcut:=fun W=>wr_cut W la l.length lc k hkl
     have HK:=hid hkl
     clear hk hph hdr hon
     have OK1:=hid (show OkS x la lc l (sS la lc l 5 (k:Int)) from ⟨rfl,rfl,rfl,fun _=>⟨(show (0:Int)≤(k:Int) by omega),(show (k:Int)≤((l.length:Nat):Int) by omega),HMA.out⟩⟩)
     obtain ⟨v3,W3,hr3,hg3,hb3⟩:=HR.out.g.big underlying45 sess_info rfl (by decide) (by decide) slC_len slC_one (sS la lc l 5 (k:Int)) (by have:=HSL.out;have:=HI.out;omega) (by have:=HB.out.size;have:=HM.out;have h9:=HR.out.b.lt;omega)
     have HR3:=hid hr3
     have R3:=hid (HR.out.app OK1.out hb3 hg3)
     have B3:=hid (HB.out.grown hb3 (by have h9:=HR.out.b.lt;omega) (fun r e=>(HR.out.g.ownb e).1))
     clear hr3 hg3 hb3
     have HST:=hid (show setW x (S++[sS la lc l 5 (k:Int)])=allP z (l.drop k) by rw [setW_one,HZ.out,setP,if_pos (show (sS la lc l 5 (k:Int)).phase=5 from rfl)];rfl)
     by_cases hp5:ph=5
     ·have q5:((ph:Int) != 5)=false:=by simp [hp5]
      obtain ⟨hcm,hfm,hlm⟩:=R3.out.b.all
      clear hp5 HR HB BW
      go_upto_region 18 with (at_builtin;refine Bb rfl (.tmp 67) (.tmp 71) 45 rfl _ _ _ W3 rfl rfl HR3.out ?_)
      go_still_tail 4,(by kernel_rfl)
      change wpList _ _ _ _ _ (World.drew W3)
      have RD:=hid (show StR x p la lc l m v3 (S++[sS la lc l 5 (k:Int)]) q z (World.drew W3) from R3.out.call (Af (Below.refl _ _)))
      have BD:=hid (show Below m VV (World.drew W3) from Af B3.out)
      clear hcm hfm hlm hcut R3 B3
      generalize World.drew W3=W5 at *
      go_wp2_with fail
      have BW5:=hid (B_4.out.trans (BD.out.mono (by have:=B_4.out.size;have:=HM.out;omega)))
      refine (pall_as HLZ.out (by simp) (RD.out.world (HW.out.below BW5.out (Nat.le_refl _)) HLZ.out.d) (HLZ.out.few HFW.out) ((HL.out.below BW5.out (Nat.le_refl _)).drop HK.out).1 (fun c hc=>by rw [HLZ.out.may];exact HMA.out c (List.mem_of_mem_drop hc)) rfl).mono ?_
      rintro e W6 ⟨q2,rfl,hp,b6⟩
      have R6:=hid (RD.out.call b6)
      have B6:=hid (bdB BD.out (show m≤W5.heap.size by have h9:=RD.out.b.lt;omega) b6)
      have P6:=hid (PRows.step (n:=m) (pd:=p.d) (q0:=q) (y0:=z) (by rcases RD.out.r with h|h;exact .inr (by rw [h.1]);exact .inl (h.call b6)) (by rw [(Gw8 (l.drop k) z).d]) (hp.rows (show m≤W5.heap.size by have h9:=RD.out.b.lt;omega)))
      obtain ⟨hcm,hfm,hlm⟩:=R6.out.b.all
      clear hp b6 RD BD
      go_wp2_with fail
      go_roundw
      case rel=>exact ⟨i+1,_,q2,allP z (l.drop k),HI.out,by go_num,by have:=HSL.out;simp;omega,HST.out,R6.out.put P6.out,put_below B6.out⟩
      case measure=>have:=HI.out;simp [intOf];omega
     ·have q5:((ph:Int) != 5)=true:=by simp;omega
      have OK2:=hid (show OkS x la lc l (sS la lc l (ph:Int) 0) from ⟨rfl,rfl,rfl,fun h=>absurd h (show ¬(ph:Int)=5 by omega)⟩)
      obtain ⟨v4,W4,hr4,hg4,hb4⟩:=R3.out.g.big underlying45 sess_info rfl (by decide) (by decide) slC_len slC_one (sS la lc l (ph:Int) 0) (by have:=HSL.out;have:=HI.out;simp;omega) (by have h9:=R3.out.b.lt;omega)
      have HR4:=hid hr4
      have R4:=hid (R3.out.app OK2.out hb4 hg4)
      have B4:=hid (B3.out.grown hb4 (by have h9:=R3.out.b.lt;omega) (fun r e=>(R3.out.g.ownb e).1))
      clear hr4 hg4 hb4
      have HST2:=hid (show setW x (S++[sS la lc l 5 (k:Int)]++[sS la lc l (ph:Int) 0])=allP z (l.drop k) by rw [setW_one,HST.out,setP,if_neg (show ¬(sS la lc l (ph:Int) 0).phase=5 from show ¬(ph:Int)=5 by omega)])
      obtain ⟨hcm,hfm,hlm⟩:=R4.out.b.all
      clear hp5 HR HB BW R3 B3
      go_upto_region 18 with (at_builtin;first|refine Bb rfl (.tmp 67) (.tmp 71) 45 rfl _ _ _ W3 rfl rfl HR3.out ?_|refine Bb rfl (.tmp 78) (.tmp 82) 45 rfl _ _ _ W4 rfl rfl HR4.out ?_)
      go_still_tail 4,(by kernel_rfl)
      change wpList _ _ _ _ _ (World.drew W4)
      have RD:=hid (show StR x p la lc l m v4 (S++[sS la lc l 5 (k:Int)]++[sS la lc l (ph:Int) 0]) q z (World.drew W4) from R4.out.call (Af (Below.refl _ _)))
      have BD:=hid (show Below m VV (World.drew W4) from Af B4.out)
      clear hcm hfm hlm hcut R4 B4
      generalize World.drew W4=W5 at *
      go_wp2_with fail
      have BW5:=hid (B_4.out.trans (BD.out.mono (by have:=B_4.out.size;have:=HM.out;omega)))
      refine (pall_as HLZ.out (by simp) (RD.out.world (HW.out.below BW5.out (Nat.le_refl _)) HLZ.out.d) (HLZ.out.few HFW.out) ((HL.out.below BW5.out (Nat.le_refl _)).drop HK.out).1 (fun c hc=>by rw [HLZ.out.may];exact HMA.out c (List.mem_of_mem_drop hc)) rfl).mono ?_
      rintro e W6 ⟨q2,rfl,hp,b6⟩
      have R6:=hid (RD.out.call b6)
      have B6:=hid (bdB BD.out (show m≤W5.heap.size by have h9:=RD.out.b.lt;omega) b6)
      have P6:=hid (PRows.step (n:=m) (pd:=p.d) (q0:=q) (y0:=z) (by rcases RD.out.r with h|h;exact .inr (by rw [h.1]);exact .inl (h.call b6)) (by rw [(Gw8 (l.drop k) z).d]) (hp.rows (show m≤W5.heap.size by have h9:=RD.out.b.lt;omega)))
      obtain ⟨hcm,hfm,hlm⟩:=R6.out.b.all
      clear hp b6 RD BD
      go_wp2_with fail
      go_roundw
      case rel=>exact ⟨i+1,_,q2,allP z (l.drop k),HI.out,by go_num,by have:=HSL.out;simp;omega,HST2.out,R6.out.put P6.out,put_below B6.out⟩
      case measure=>have:=HI.out;simp [intOf];omega
    ·have hie:i=ds.length:=by omega
     subst hie
     obtain ⟨sa,sc,rfl,hP⟩:=HR.out.plans (HL.out.below BW.out (Nat.le_refl _))
     have HSM:=hid (show ∀s∈S,MayS x s from fun s hs=>(HR.out.s s hs).2.2.2)
     have DD:=hid (show Below VV.heap.size VV wr from HM.out ▸ HB.out)
     have X_5:=hid (X_4.out.call DD.out)
     have Y_5:=hid (show Ac w m (wC x q) wr from HR.out.b.holdsp BW.out)
     have B_5:=BW
     have WX_5:=hid (HW.out.below BW.out (Nat.le_refl _))
     have WZ_5:=hid (HR.out.world WX_5.out HLZ.out.d)
     have PS_5:=hid hP
     clear hP hlt hi HR HB BW DD X_4
     have hcX:=X_5.out.2.2
     have hlX:=X_5.out.2.1
     have hcY:=Y_5.out.2.2
     have hlY:=Y_5.out.2.1
     go_upto_region 19 with fail
     clear hcX hlX hcY hlY
     have KS:Hid (∀w',Below wr.heap.size wr w'→Below wr.heap.size wr w'∧(∀ii,w'.cell? ⟨w.heap.size,ii,none⟩=((wC x p)[ii]?:Option Value))∧(∀ii,w'.cell? ⟨m,ii,none⟩=((wC x q)[ii]?:Option Value))):=hid (fun w' hb=>⟨hb,fun ii=>(hb.cell (p:=⟨w.heap.size,ii,none⟩) X_5.out.2.1).trans (X_5.out.2.2 ii),fun ii=>(hb.cell (p:=⟨m,ii,none⟩) Y_5.out.2.1).trans (Y_5.out.2.2 ii)⟩)
     have D0:=hid (Af (Below.refl wr.heap.size wr))
     refine tkS (S:=(fun w'=>Below wr.heap.size wr w'∧(∀ii,w'.cell? ⟨w.heap.size,ii,none⟩=((wC x p)[ii]?:Option Value))∧(∀ii,w'.cell? ⟨m,ii,none⟩=((wC x q)[ii]?:Option Value)))) (by (first|(with_reducible exact KS.out _ D0.out))) (fun hHeld=>?_)
     generalize wr.drew=x0 at *
     refine tkl [0,1,3] ?_
     iterate 3
      refine tW ?_
      try go_frame
     refine rdy1 2 (fun K hK=>?_)
     go_simp
     refine (pset_as (Like.refl x) rfl (WX_5.out.call D0.out) HFW.out (PS_5.out.call D0.out) HSM.out HZ.out).mono ?_;rintro e x1 ⟨q1,rfl,g1,hb9⟩;have D1:=hid (Aa D0.out D0.out.size hb9);have R11:=hid g1;clear hb9 g1
     try go_wp2_with fail
     refine hK.out _ _ (by (first|(with_reducible exact KS.out _ D1.out))) (fun hHeld=>?_)
     clear hK K
     try go_frame
     refine rdy1 4 (fun K hK=>?_)
     go_simp
     refine (psame_as HLZ.out HLZ.out R11.out.w (WZ_5.out.call D1.out) (decide_eq_true rfl)).mono ?_;rintro e x2 ⟨rfl,hb9⟩;have D2:=hid (Aa D1.out D1.out.size hb9);have R12:=hid (R11.out.call hb9);clear hb9 R11
     try go_wp2_with fail
     refine hK.out _ _ (by (first|(with_reducible exact KS.out _ D2.out))) (fun hHeld=>?_)
     clear hK K
     try go_frame
     refine tkl [5,6,7,9,10] ?_
     iterate 5
      refine tW ?_
      try go_frame
     refine rdy1 8 (fun K hK=>?_)
     go_simp
     refine (pset_as (Like.refl x) rfl (WX_5.out.call D2.out) HFW.out (PS_5.out.call D2.out) HSM.out HZ.out).mono ?_;rintro e x3 ⟨q2,rfl,g2,hb9⟩;have D3:=hid (Aa D2.out D2.out.size hb9);have R13:=hid (R12.out.call hb9);have R23:=hid g2;clear hb9 R12 g2
     try go_wp2_with fail
     refine hK.out _ _ (by (first|(with_reducible exact KS.out _ D3.out))) (fun hHeld=>?_)
     clear hK K
     try go_frame
     refine rdy1 11 (fun K hK=>?_)
     go_simp
     refine (qset_as (Like.refl x) rfl (WX_5.out.call D3.out) HFW.out (PS_5.out.call D3.out) HSM.out HZ.out).mono ?_;rintro e x4 ⟨q3,rfl,g3,hb9⟩;have D4:=hid (Aa D3.out D3.out.size hb9);have R14:=hid (R13.out.call hb9);have R24:=hid (R23.out.call hb9);have R34:=hid g3;clear hb9 R13 R23 g3
     try go_wp2_with fail
     refine hK.out _ _ (by (first|(with_reducible exact KS.out _ D4.out))) (fun hHeld=>?_)
     clear hK K
     try go_frame
     refine rdy1 12 (fun K hK=>?_)
     go_simp
     refine (psame_as HLZ.out HLZ.out R24.out.w R34.out.w (decide_eq_true rfl)).mono ?_;rintro e x5 ⟨rfl,hb9⟩;have D5:=hid (Aa D4.out D4.out.size hb9);have R15:=hid (R14.out.call hb9);have R25:=hid (R24.out.call hb9);have R35:=hid (R34.out.call hb9);clear hb9 R14 R24 R34
     try go_wp2_with fail
     refine hK.out _ _ (by (first|(with_reducible exact KS.out _ D5.out))) (fun hHeld=>?_)
     clear hK K
     try go_frame
     refine tkl [13,14,15,17] ?_
     iterate 4
      refine tW ?_
      try go_frame
     refine rdy1 16 (fun K hK=>?_)
     go_simp
     refine (pset_as (n:=0) (l:=[]) (z:=x) (Like.refl x) rfl (WX_5.out.call D5.out) HFW.out ⟨Ar.nil _ _,by simp⟩ (by simp) rfl).mono ?_;rintro e x6 ⟨q4,rfl,g4,hb9⟩;have D6:=hid (Aa D5.out D5.out.size hb9);have R16:=hid (R15.out.call hb9);have R26:=hid (R25.out.call hb9);have R36:=hid (R35.out.call hb9);have R46:=hid g4;clear hb9 R15 R25 R35 g4
     try go_wp2_with fail
     refine hK.out _ _ (by (first|(with_reducible exact KS.out _ D6.out))) (fun hHeld=>?_)
     clear hK K
     try go_frame
     refine rdy1 18 (fun K hK=>?_)
     go_simp
     refine (psame_as (Like.refl x) (Like.refl x) R46.out.w (WX_5.out.call D6.out) (decide_eq_true rfl)).mono ?_;rintro e x7 ⟨rfl,hb9⟩;have D7:=hid (Aa D6.out D6.out.size hb9);have R17:=hid (R16.out.call hb9);have R27:=hid (R26.out.call hb9);have R37:=hid (R36.out.call hb9);have R47:=hid (R46.out.call hb9);clear hb9 R16 R26 R36 R46
     try go_wp2_with fail
     refine hK.out _ _ (by (first|(with_reducible exact KS.out _ D7.out))) (fun hHeld=>?_)
     clear hK K
     try go_frame
     refine tkl [19,20] ?_
     iterate 2
      refine tW ?_
      try go_frame
     refine tkD ?_
     clear hHeld KS
     have B_6:=hid (bl B_5.out D7.out)
     have X_6:=hid (X_5.out.call D7.out)
     have Y_6:=hid (Y_5.out.call D7.out)
     have WX_6:=hid (WX_5.out.call D7.out)
     have WZ_6:=hid (WZ_5.out.call D7.out)
     have PS_6:=hid (PS_5.out.call D7.out)
     clear B_5 X_5 Y_5 WX_5 WZ_5 PS_5 D0 D1 D2 D3 D4 D5 D6 D7 R17 R27 R37 R47
     go_wp2_with fail
     go_ret
     exact ⟨rfl,B_6.out⟩
theorem walk_planSettles (x:Wd) (p:Wp) (la:Option Addr) (lc:Nat) (l:List Wr) (a2:Option Addr) (cap2:Nat) (ds:List Int) (ot:Int) (w:World) (hwf:∀d∈ds,(Lit.int .u8 d).wf=true) (hot:(Lit.int .u8 ot).wf=true) (h:Ab w p x) (hl:WrcAt w la lc l) (hml:ds.length≤maxLen) (h2:(ds=[]∨∃b off,a2=some ⟨b,off,none⟩∧b<w.heap.size∧∀i (hi:i<ds.length),w.cell? ⟨b,off+i,none⟩=some (.int .u8 ds[i]))):Calls prog 4 #[.agg (wC x p),.slice la l.length lc,.slice a2 ds.length cap2,.int .u8 ot] w fun e w'=>e=.returned (.bool true)∧Below w.heap.size w w':=by
 have h3:=Ed hot
 obtain ⟨n,rfl⟩:∃n:Nat,ot=n:=⟨ot.toNat,by omega⟩
 exact planSettles_go x p la lc l a2 cap2 ds n w (by omega) hwf h hl hml h2
theorem lifted_planSettles (os:Os) (started:os.Started) (H:Type) (enc:TypeId × Value→H) :
 ReturnsInHanded {} Try.checked os 4 .any (Rows.planSettlesSpec.pre6 enc prog Try.f4 Rows.planSettlesRow.domain false) (Rows.planSettlesSpec.post enc prog Try.f4 false true false false):=by
 refine returnsInHanded_of_change (C:=Try.checked) (by kernel_rfl) started (by kernel_rfl) func4
  (ChangeSpec.witness6 (enc:=enc) (C:=Try.checked) false ⟨#[],#[.agg zC,.slice none 0 0,.slice none 0 0,.int .u8 0],[]⟩ 8 (by kernel_rfl) (by kernel_rfl) (by kernel_rfl) (by kernel_rfl)) ?_
 intro W base args ds gs before hval0 hW hcnd _
 have hval:∀(j:Nat) t v,Try.f4.params[j]?=some t→args[j]?=some v→Value.okWide prog W .any base t v:=hval0
 have hW':=hW
 obtain ⟨p,q,hA0,hV,rfl,hfz,hnd⟩:=hW
 have hA:DataW.TrodAll enc prog W 0 (fun _=>true) true Try.f4.params.toList args.toList ds p:=hA0
 rw [Try.params4] at hA hval
 obtain ⟨v0,vs0,d0,ds0,p0,q0,hargs,rfl,rfl,h0,r0⟩:=trodAll_cons hA
 obtain ⟨v1,vs1,d1,ds1,p1,q1,rfl,rfl,rfl,h1,r1⟩:=trodAll_cons r0
 obtain ⟨v2,vs2,d2,ds2,p2,q2,rfl,rfl,rfl,h2,r2⟩:=trodAll_cons r1
 obtain ⟨v3,vs3,d3,ds3,p3,q3,rfl,rfl,rfl,h3,r3⟩:=trodAll_cons r2
 obtain ⟨rfl,rfl,rfl⟩:=trodAll_nil r3
 obtain rfl:args=#[v0,v1,v2,v3]:=by cases args;simp_all
 obtain ⟨rfl,rfl⟩:=trodVars_none hV
 obtain ⟨wx0,wp0,rfl,m0⟩:=Qz (hval 0 29 v0 rfl rfl) h0
 obtain ⟨a1,cap1,ls1,rfl,m1,n1⟩:=read_wrs (hval 1 30 v1 rfl rfl) h1
 obtain ⟨a2,cap2,xs2,rfl,m2,wf2,c2⟩:=Cv5 underlying44 underlying5 (by kernel_rfl) (hval 2 44 v2 rfl rfl) h2
 obtain ⟨a3,rfl,rfl,rfl,w3⟩:=open_int underlying5 (hval 3 5 v3 rfl rfl) h3
 clear hA0 hval0
 simp only [List.append_nil] at hW'
 refine (walk_planSettles wx0 wp0 a1 cap1 ls1 a2 cap2 xs2 a3 W wf2 w3 m0 ⟨m1,n1⟩ m2 c2).mono fun e W' ⟨he,hg⟩=>?_
 subst he
 exact ⟨_,rfl,Iy (by kernel_rfl) rfl (by rw [Try.params4];decide +kernel) rfl rfl underlying4 hW' hg⟩
theorem proved_planSettles:Rows.PlanSettlesSaid :=
 OpenClaim.holds_of_wide 4 Try.f4 rfl rfl rfl rfl rfl rfl rfl ⟨rfl,rfl,rfl,rfl,rfl⟩ rfl rfl rfl rfl rfl (by kernel_rfl) func4 (by kernel_rfl)
  (of_decide_eq_true (by kernel_rfl)) (by unfold Func.isWrapper;first|(rw [if_pos (by decide +kernel)];kernel_rfl)|(rw [if_neg (by decide +kernel)];exact ⟨rfl,rfl⟩))
  (fun os started H enc _=>lifted_planSettles os started H enc)
#print axioms proved_planSettles
end Go.Proofs.Ytnhkojpbbdaedaa
