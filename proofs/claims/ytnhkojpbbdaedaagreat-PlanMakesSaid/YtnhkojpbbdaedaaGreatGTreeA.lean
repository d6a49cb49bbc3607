/- tree: the iterator over the places above an item: what it hands out, and what it asks of a round. -/
import Derived.RangeFuncNested
import Derived.RangeFuncBound
import Derived.RangeFuncBox
import Derived.RangeFuncCalls
import Derived.RangeFuncLeaves
import Derived.Shelf.Abstract
import Derived.Shelf.RegionOpen
import Derived.OwnWalkIn
import Derived.TacticsInMore
import Derived.LoopNIn
import Derived.LoopIn
import Derived.Test.YtnhkojpbbdaedaaGreatGAs
namespace Go.Proofs.YtnhkojpbbdaedaaGreat
open Go.ChangeShapes Go.WideShapes Go.ChangeAt Go.RowKit Go.Proofs.Tryz
open Lib (hid)
set_option linter.unusedVariables false
set_option maxHeartbeats 2000000
set_option maxRecDepth 100000
section
open Go.RowKit Go.Shelf
attribute [local go_sem] Oper.semAt_some
def Kq (bS:Nat) (W W':World):Prop:=W.heap.size≤W'.heap.size∧∀b cs t f,b≠bS→W.heap[b]?=some (.cells cs t f)→W'.heap[b]?=some (.cells cs t f)
theorem Kq.refl (bS:Nat) (W:World):Kq bS W W:=⟨Nat.le_refl _,fun _ _ _ _ _ h=>h⟩
theorem Kq.trans {bS:Nat} {A B C:World} (h:Kq bS A B) (k:Kq bS B C):Kq bS A C:=⟨Nat.le_trans h.1 k.1,fun b cs t f hn hb=>k.2 b cs t f hn (h.2 b cs t f hn hb)⟩
theorem Kq.alloc {bS:Nat} {A B:World} (h:Kq bS A B) (o:Obj):Kq bS A (B.alloc o) :=
 ⟨by have:=h.1;simp;omega,fun b cs t f hn hb=>by have h2:=h.2 b cs t f hn hb;exact (Below.heap_alloc B o b (Array.getElem?_eq_some_iff.1 h2).1).trans h2⟩
theorem Kq.set {bS:Nat} {A B:World} (h:Kq bS A B) (i:Nat) (v:Value):Kq bS A (B.setCell ⟨bS,i,none⟩ v) :=
 ⟨by have:=h.1;simp [World.setCell];omega,fun b cs t f hn hb=>(Below.heap_setCell B ⟨bS,i,none⟩ v b hn).trans (h.2 b cs t f hn hb)⟩
theorem Kq.put (bS:Nat) (W:World) (l:Nat) (o o':Obj) (h:W.heap[l]?=some o) (hc:o.isCells=false):Kq bS W (W.putObj l o') :=
 ⟨by simp [World.putObj],fun b cs t f _ hb=>by
   have:b≠l:=fun e=>by subst e;rw [h] at hb;cases hb;cases hc
   exact (World.putObj_heap_other this).trans hb⟩
theorem Kq.below {bS:Nat} {A B:World} (h:Below A.heap.size A B):Kq bS A B:=⟨h.size,fun b cs t f _ hb=>(h.block b (Array.getElem?_eq_some_iff.1 hb).1).trans hb⟩
theorem Kq.cell {bS:Nat} {A B:World} (h:Kq bS A B) {p:Addr} {v:Value} (hp:p.block≠bS) (hs:p.spot=none) (hc:A.cell? p=some v):B.cell? p=some v:=by
 obtain ⟨b,o,s⟩:=p
 simp only at hs hp
 subst hs
 unfold World.cell? at hc ⊢
 simp only at hc ⊢
 cases hb:A.heap[b]? with
 | none=>rw [hb] at hc;cases hc
 | some ob =>
   rw [hb] at hc
   cases ob with
   | cells cs t f=>rw [h.2 b cs t f hp hb];exact hc
   | _=>cases hc
theorem Kq.blk {bS:Nat} {A B:World} (h:Kq bS A B) {g:Nat} {t:TypeId} {cs:Array Value} (hg:g≠bS) (hb:Blk A g t cs):Blk B g t cs:=h.2 g cs t (0,0) hg hb
theorem Kq.pls {bS:Nat} {A B:World} (h:Kq bS A B) {a:Option Addr} {xs:List Pl} (hx:Au A a xs) (ha:∀q,a=some q→q.block≠bS):Au B a xs:=by
 obtain ⟨hl,hx⟩:=hx
 refine ⟨hl,?_⟩
 rcases hx with hx|⟨b,off,rfl,hb,hc⟩
 ·exact .inl hx
 ·refine .inr ⟨b,off,rfl,Nat.lt_of_lt_of_le hb h.1,fun i hi j hj=>?_⟩
  have h1:=hc i hi j hj
  have h2:j<(plC xs[i]).length:=by simp [plC];omega
  rw [List.getElem?_eq_getElem h2] at h1 ⊢
  exact h.cell (p:=⟨b,off+i*2+j,none⟩) (ha ⟨b,off,none⟩ rfl) rfl h1
theorem Bg9 {W:World} {a:Option Addr} {xs:List Pl} (h:Au W a xs) {i:Nat} (hi:i<xs.length):∀q,a=some q→q.block<W.heap.size:=fun q hq=>by
 obtain ⟨b,o,hbo,hb,-⟩:=h.at_ hi
 rw [hbo] at hq;cases hq;exact hb
theorem Mk {β:Type} (B g:Nat) (t:TypeId) (f:β→Array Value):OwnFrom B (fun s W=>Blk W g t (f s)):=fun s X Y row hs hg hr =>
 hs.grown hg (fun e=>by
  obtain ⟨_,o,ho,hc⟩:=hr g e.symm
  rw [show X.heap[g]?=_ from hs] at ho
  cases ho;cases hc)
theorem Blk.put_ {W:World} {g:Nat} {t:TypeId} {cs:Array Value} (h:Blk W g t cs) {l:Nat} {o:Obj} (o':Obj) (hl:W.heap[l]?=some o) (hc:o.isCells=false):Blk (W.putObj l o') g t cs :=
 h.grown (grownBy_putObj' W l o') (fun e=>by cases e;rw [show W.heap[g]?=_ from h] at hl;cases hl;cases hc)
def Rx (x:Wd) (p:Wp) (i:Int) (w:World):World:=(w.alloc (.cells (wC x p) 29)).alloc (.cells #[.int .i64 i] 3)
theorem Ye (x:Wd) (p:Wp) (i:Int) (w:World):Calls prog 131 #[.agg (wC x p),.int .i64 i] w fun e w'=>e=.returned (.func (.func 132) #[] #[.pointer (some ⟨w.heap.size+1,0,none⟩),.pointer (some ⟨w.heap.size,0,none⟩)])∧w'=Rx x p i w:=by
 have hWC:=@wC.eq_1
 go_enter func131,ntmps131
 go_wp2
 go_ret
 exact ⟨rfl,rfl⟩
theorem Su (x:Wd) (p:Wp) (i:Int) (w:World):(Rx x p i w).heap.size=w.heap.size+2:=by simp [Rx]
theorem Fp (x:Wd) (p:Wp) (i:Int) (w:World):Below w.heap.size w (Rx x p i w):=((Below.refl _ w).alloc (Nat.le_refl _) _).alloc (by simp) _
theorem Ac7 (x:Wd) (p:Wp) (i:Int) (w:World):Blk (Rx x p i w) w.heap.size 29 (wC x p):=(Blk.new w _ _).alloc _
theorem Ac8 (x:Wd) (p:Wp) (i:Int) (w:World):Blk (Rx x p i w) (w.heap.size+1) 3 #[.int .i64 i]:=Blk.newn _ _ _ (by simp)
theorem Sr (n:Nat) (hn:1≤n) (x:Wd) (p:Wp) (hT:Tr x.wher) (i:Nat) (hi:i<x.wher.length) (bW bI bS:Nat) (w:World) (hbW:Blk w bW 29 (wC x p)) (hbI:Blk w bI 3 #[.int .i64 i])
 (hW:bW≠bS) (hI:bI≠bS) (hS:bS<w.heap.size) (hr:Au w p.wh x.wher) (hf:∀q,p.wh=some q→q.block≠bS) :
 SeqStopsK Fence.wide n prog 132 #[.pointer (some ⟨bI,0,none⟩),.pointer (some ⟨bW,0,none⟩)] (fun z:Pl=>#[.agg #[.int .i64 z.kind,.int .i64 z.id]]) (Kq bS) (fun ys=>ys=upI x.wher i) (fun pre=>pre <+: upI x.wher i) (upI x.wher i).length w:=by
 intro l J Jx W hWB hJ hJx hY h0
 have hlen:=hr.len
 have hsW:=hWB.size
 have hW1:=hbW.below hWB (by have:=hbW.lt;omega)
 have hI1:=hbI.below hWB (by have:=hbI.lt;omega)
 have hr1:=hr.below hWB (Nat.le_refl _)
 obtain ⟨b,o,hbo,-,-⟩:=Au.cells hr1 hi
 have HW:=hid hW1
 have HI:=hid hI1
 have HR:=hid hr1
 have HT:=hid hT
 have HJ:=hid hJ
 have HY:=hid hY
 have H0:=hid h0
 have HF:=hid hf
 have c1:=hW1.cell
 have c2:=hI1.cell
 have l1:=hW1.lt
 have l2:=hI1.lt
 clear hWB hJ hJx hY h0 hr hT hf hr1 hbW hbI hW1 hI1
 refine callsIn_of_wp func132 rfl trivial ?_ rfl
 simp only [ntmps132,List.size_toArray,List.length_cons,List.length_nil,Nat.reduceAdd,Nat.reduceSub,Array.replicate_succ,Array.replicate_zero,List.push_toArray,List.append_toArray,List.nil_append,List.cons_append]
 gi_wp2
 gi_loopw [4,10] (fun nx k wr=>∃(m j:Nat) (pre:List Pl),nx=.int .i64 j∧k=.int .i64 m∧j<x.wher.length∧pre.length=m∧upI x.wher i=pre++upI x.wher j∧J pre wr∧Kq bS W wr) (fun _ k _=>x.wher.length-(intOf k).toNat)
 case atStart=>exact ⟨0,i,[],rfl,rfl,hi,rfl,rfl,H0.out,Kq.refl _ _⟩
 case round =>
  obtain ⟨m,j,pre,rfl,rfl,hj,hm,hu,hJp,hk⟩:=hrel
  have hb1:=hk.blk hW HW.out
  have hb2:=hk.blk hI HI.out
  have d1:=hb1.cell
  have e1:=hb1.lt
  obtain ⟨b',o',hbo',hb,a0,a1⟩:=Au.cells (hk.pls HR.out HF.out) hj
  rw [hbo] at hbo'
  obtain ⟨rfl,rfl⟩:b=b'∧o=o':=by simpa using hbo'
  clear hbo'
  have hml:m<x.wher.length:=by
   have q1:=HT.out.len hi
   have q2:=Nn x.wher j
   rw [hu,List.length_append] at q1;omega
  have q0:¬(j:Int)<0:=by omega
  have q1:¬(x.wher.length:Int)≤(j:Int):=by omega
  have q2:(m:Int)<(x.wher.length:Int):=by omega
  have hw:IntKind.i64.wrap ((m:Int)+1)=(m:Int)+1:=IntWalk.i64_in _ (by omega)
  have HKQ:=hid hk
  have HU:=hid hu
  have HM:=hid hm
  have HJP:=hid hJp
  have PG:=hid (Bo hj)
  have hbS:bS<wr.heap.size:=by have:=hk.1;omega
  clear c1 c2 hk hu hm hJp hb1 hb2 l1 l2
  have YV:=hid (HY.out pre x.wher[j] (wr.alloc (.cells #[.int .i64 x.wher[j].kind,.int .i64 x.wher[j].id] 48)) (HJ.out _ _ _ none HJP.out (World.grownBy_alloc _ _ _) (fun r e=>by cases e)) (by
   have:=congrArg List.length HU.out
   have:=Nn x.wher j
   rw [List.length_append] at *;omega))
  have hBP:=hid (Blk.new wr 48 #[.int .i64 x.wher[j].kind,.int .i64 x.wher[j].id])
  generalize hz:x.wher[j]=z at *
  obtain ⟨zk,zi⟩:=z
  simp only at a0 a1
  obtain ⟨fn,tmps,assign,body,hy,hR⟩:=YV.out
  have HRR:=hid hR
  clear hR
  gi_wp2
  refine HRR.out.mono ?_
  have hne:wr.heap.size≠bS:=by omega
  rintro e W3 (⟨rfl,hJ3,hk3⟩|⟨rfl,hJx3⟩)
  ·have d3:=(hk3.blk hne hBP.out).cell
   have l3:=(hk3.blk hne hBP.out).lt
   have HK3:=hid hk3
   have HJ3:=hid hJ3
   clear hk3 hJ3 HRR YV hy
   by_cases h2:zk=2
   ·obtain ⟨j2,hj2,hp2,hu2⟩:=HT.out.box hj (by rw [PG.out];exact h2)
    rw [PG.out] at hp2
    simp only [box,Pl.mk.injEq] at hp2
    obtain ⟨rfl,rfl⟩:=hp2
    have HU2:=hid hu2
    clear hu2
    gi_wp2
    go_roundw
    case rel=>exact ⟨m+1,j2,pre++[⟨2,(j2:Int)⟩],rfl,by go_num,hj2,by simp [HM.out],by rw [HU.out,HU2.out];simp [box],HJ3.out,(HKQ.out.alloc _).trans HK3.out⟩
    case measure=>simp [intOf];omega
   ·have q5:(zk != 2)=true:=by simpa using h2
    have HE:=hid (Nc (ps:=x.wher) (i:=j) (by rw [PG.out];exact h2))
    clear h2
    gi_wp2
    refine bodyPost_ret (results_none rfl _ _ _) rfl ?_
    exact ⟨⟨_,rfl⟩,.inl ⟨pre++[⟨zk,zi⟩],by rw [HU.out,HE.out,PG.out],HJ3.out⟩⟩
  ·have HJX:=hid hJx3
   clear hJx3 HRR YV hy
   gi_wp2
   refine bodyPost_ret (results_none rfl _ _ _) rfl ?_
   refine ⟨⟨_,rfl⟩,.inr ⟨pre++[⟨zk,zi⟩],?_,HJX.out⟩⟩
   rw [HU.out]
   by_cases h2:zk=2
   ·obtain ⟨j2,hj2,hp2,hu2⟩:=HT.out.box hj (by rw [PG.out];exact h2)
    rw [hu2,←hp2,PG.out]
    exact ⟨upI x.wher j2,by simp⟩
   ·rw [Nc (ps:=x.wher) (i:=j) (by rw [PG.out];exact h2),PG.out]
    exact List.prefix_refl _
end
section
open Go.RowKit Go.Shelf
attribute [local go_sem] Oper.semAt_some
theorem Gr (x:Wd) (p:Wp) (hT:Tr x.wher) (i:Nat) (hi:i<x.wher.length) (w:World) (hr:Au w p.wh x.wher):Calls prog 126 #[.agg (wC x p),.int .i64 (i:Int)] w fun e w'=>e=.returned (.agg #[.int .i64 (Bh x.wher i).kind,.int .i64 (Bh x.wher i).id])∧Below w.heap.size w w':=by
 refine (callsIn_wide (n:=6)).1 ?_
 refine callsIn_of_wp_marks func126 rfl trivial ?_ rfl
 simp only [ntmps126,List.size_toArray,List.length_cons,List.length_nil,Nat.reduceAdd,Nat.reduceSub,Array.replicate_succ,Array.replicate_zero,List.push_toArray,List.append_toArray,List.nil_append,List.cons_append]
 gi_wp2_with (refine ⟨trivial,?_⟩;gi_at_call 131;refine (callsIn_wide.2 (Ye _ _ _ _)).mono ?_;rintro e w' ⟨rfl,rfl⟩)
 have hb0:Below w.heap.size w (((w.alloc (.cells (wC x p) 29)).alloc (.cells #[.int .i64 0,.int .i64 0] 48)).alloc (.cells #[.int .i64 0,.int .i64 0] 48)):=(((Below.refl _ w).alloc (Nat.le_refl _) _).alloc (by simp) _).alloc (by simp;omega) _
 have r0:=((Blk.newn (w.alloc (.cells (wC x p) 29)) 48 #[.int .i64 0,.int .i64 0] (n:=w.heap.size+1) (by simp)).alloc (.cells #[.int .i64 0,.int .i64 0] 48)).call (Fp x p i _)
 have k0:=(Blk.newn ((w.alloc (.cells (wC x p) 29)).alloc (.cells #[.int .i64 0,.int .i64 0] 48)) 48 #[.int .i64 0,.int .i64 0] (n:=w.heap.size+1+1) (by simp)).call (Fp x p i _)
 have y0:(((w.alloc (.cells (wC x p) 29)).alloc (.cells #[.int .i64 0,.int .i64 0] 48)).alloc (.cells #[.int .i64 0,.int .i64 0] 48)).heap.size=w.heap.size+1+1+1:=by simp
 generalize (((w.alloc (.cells (wC x p) 29)).alloc (.cells #[.int .i64 0,.int .i64 0] 48)).alloc (.cells #[.int .i64 0,.int .i64 0] 48))=V0 at *
 have hbV:=hb0.trans ((Fp x p i V0).mono hb0.size)
 have hw1:=Ac7 x p i V0
 have hi1:=Ac8 x p i V0
 have y1:=Su x p i V0
 rw [y0] at hw1 hi1 y1
 generalize Rx x p i V0=V at *
 clear hb0 y0
 refine wpIn_rangeFunc_ownH rfl (by omega) (gf:=132) (lb:=#[.pointer (some ⟨w.heap.size+1+1+1+1,0,none⟩),.pointer (some ⟨w.heap.size+1+1+1,0,none⟩)]) rfl trivial (enters_of func132 (by kernel_rfl) rfl)
  (Sr (6-1) (by omega) x p hT i hi (w.heap.size+1+1+1) (w.heap.size+1+1+1+1) (w.heap.size+1+1) V hw1 hi1 (by omega) (by omega) (by omega) (hr.below hbV (Nat.le_refl _)) (fun q hq=>by have:=Bg9 hr hi q hq;omega)) Kq.trans (fun W l o o' _ hl hc _=>Kq.put _ W l o o' hl hc) (Below.refl _ _) (fun _=>rfl)
  (fun pre W=>(Blk W (w.heap.size+1+1) 48 #[.int .i64 (Nw pre).kind,.int .i64 (Nw pre).id]∧Blk W (w.heap.size+1) 48 #[.int .i64 0,.int .i64 0])∧Below w.heap.size w W)
  (fun _ _ _=>False)
  (OwnFrom.and (OwnFrom.and (Mk _ _ _ _) (Mk _ _ _ (fun _=>#[.int .i64 0,.int .i64 0]))) (ownFrom_below (Nat.le_refl _) (by omega)))
  (fun _ _ _ _ _ hs _ _=>hs)
  ⟨⟨k0,r0⟩,hbV⟩
  (fun z a' W=>∃Bx,w.heap.size+1+1<Bx∧Blk W Bx 48 #[.int .i64 z.kind,.int .i64 z.id]∧a'={ tmps:=#[.agg (wC x p),.int .i64 (i:Int),.pointer (some ⟨w.heap.size,0,none⟩),undef,.pointer (some ⟨w.heap.size+1,0,none⟩),.pointer (some ⟨w.heap.size+1+1,0,none⟩),.pointer (some ⟨Bx,0,none⟩),.agg (wC x p),.int .i64 (i:Int),.func (.func 132) #[] #[.pointer (some ⟨w.heap.size+1+1+1+1,0,none⟩),.pointer (some ⟨w.heap.size+1+1+1,0,none⟩)],.agg #[.int .i64 z.kind,.int .i64 z.id],undef,undef],defers:=[] })
  (fun z a' _ X Y row hs hg hr=>by obtain ⟨Bx,h1,h2,h3⟩:=hs;exact ⟨Bx,h1,Mk V.heap.size Bx 48 (fun (_:Unit)=>#[.int .i64 z.kind,.int .i64 z.id]) () X Y row h2 hg hr,h3⟩)
  ?assign ?body ?done ?stop
 case assign =>
  rintro l pre z W K ⟨⟨hk1,hr1⟩,hB1⟩ hK
  gi_wp2
  exact hK _ _ ((KeepsOthers.alloc _ _).from _) ((Kq.refl _ W).alloc _) ⟨⟨hk1.alloc _,hr1.alloc _⟩,hB1.alloc hB1.size _⟩ ⟨W.heap.size,hk1.lt,Blk.new W _ _,rfl⟩
 case body =>
  rintro l pre z a' W hl _ ⟨⟨hk1,hr1⟩,hB1⟩ ⟨Bx,hBx,bX,rfl⟩ hlt
  have cX:=bX.cell
  have lX:=bX.lt
  have cK:=hk1.cell
  have fK:=hk1.frozen
  have lK:=hk1.lt
  have HK:=hid hk1
  have HR:=hid hr1
  have HB:=hid hB1
  clear hk1 hr1 hB1 bX
  gi_wp2
  refine ⟨((KeepsOthers.setCell _ _ _).trans (KeepsOthers.setCell _ _ _)).from _,((Kq.refl _ W).set _ _).set _ _,⟨⟨?_,(HR.out.far (by show w.heap.size+1≠w.heap.size+1+1;omega) _).far (by show w.heap.size+1≠w.heap.size+1+1;omega) _⟩,(HB.out.setCell (by show w.heap.size≤w.heap.size+1+1;omega) _).setCell (by show w.heap.size≤w.heap.size+1+1;omega) _⟩⟩
  rw [Be8]
  exact (HK.out.set_ 0 _).set_ 1 _
 case done =>
  rintro D ys W hD rfl ⟨⟨hk1,hr1⟩,hB1⟩ hK
  have cK:=hk1.cell
  have lK:=hk1.lt
  have fR:=hr1.frozen
  have cR:=hr1.cell
  have lR:=hr1.lt
  have HR:=hid hr1
  have HB:=hid hB1
  clear hk1 hr1 hB1
  gi_wp2
  have hK1:=((KeepsOthers.setCell W ⟨w.heap.size+1,0,none⟩ (.int .i64 (Nw (upI x.wher i)).kind)).trans (KeepsOthers.setCell _ ⟨w.heap.size+1,1,none⟩ (.int .i64 (Nw (upI x.wher i)).id))).same D _ hK rfl
  have hR2:=((HR.out.set_ 0 (.int .i64 (Nw (upI x.wher i)).kind)).set_ 1 (.int .i64 (Nw (upI x.wher i)).id)).put_ (.deferred none) hK1 rfl
  have cR2:=hR2.cell
  have lR2:=hR2.lt
  have hB2:=(HB.out.setCell (p:=⟨w.heap.size+1,0,none⟩) (by show w.heap.size≤w.heap.size+1;omega) (.int .i64 (Nw (upI x.wher i)).kind)).setCell (p:=⟨w.heap.size+1,1,none⟩) (by show w.heap.size≤w.heap.size+1;omega) (.int .i64 (Nw (upI x.wher i)).id)
  refine ⟨by simp,.inl ⟨_,_,rfl,run_takeDeferred hK1,?_⟩⟩
  refine ⟨.agg #[.int .i64 (Nw (upI x.wher i)).kind,.int .i64 (Nw (upI x.wher i)).id],?_,rfl,hB2.trans (belowK_b (w:=w) (Nat.le_refl _) _ D _ _ (by omega) hK1 rfl rfl)⟩
  clear hB2 hK1 hK
  generalize World.putObj _ D _=Z at *
  simp [results,Tryz.f126,go_sem,cR2]
 case stop =>
  rintro D c pre W _ _ h _
  exact h.elim
end
section
open Go.RowKit Go.Shelf
attribute [local go_sem] Oper.semAt_some
theorem Ag2 (x:Wd) (p:Wp) (i:Nat) (w:World):Calls prog 115 #[.agg (wC x p),.int .i64 (i:Int),.int .i64 (i:Int)] w fun e w'=>e=.returned (.bool true)∧Below w.heap.size w w':=by
 have HB:=hid ((((Below.refl w.heap.size w).alloc (Nat.le_refl _) (.cells (wC x p) 29)).alloc (by simp) (.cells #[.int .i64 (i:Int)] 3)).alloc (by simp;omega) (.cells #[.bool true] 4))
 have hWC:=@wC.eq_1
 go_enter func115,ntmps115
 go_wp2_with fail
 refine bodyPost_ret (v:=.bool true) (by simp [results,results115,go_sem]) rfl ?_
 exact ⟨rfl,HB.out⟩
theorem Aw7 (x:Wd) (p:Wp) (hT:Tr x.wher) (i j:Nat) (hi:i<x.wher.length) (hij:¬i=j) (w:World) (hr:Au w p.wh x.wher):Calls prog 115 #[.agg (wC x p),.int .i64 (i:Int),.int .i64 (j:Int)] w fun e w'=>e=.returned (.bool (wB x.wher i j))∧Below w.heap.size w w':=by
 refine (callsIn_wide (n:=6)).1 ?_
 refine callsIn_of_wp_marks func115 rfl trivial ?_ rfl
 simp only [ntmps115,List.size_toArray,List.length_cons,List.length_nil,Nat.reduceAdd,Nat.reduceSub,Array.replicate_succ,Array.replicate_zero,List.push_toArray,List.append_toArray,List.nil_append,List.cons_append]
 have q0:((i:Int)==(j:Int))=false:=by simp;omega
 gi_wp2_with (refine ⟨trivial,?_⟩;gi_at_call 131;refine (callsIn_wide.2 (Ye _ _ _ _)).mono ?_;rintro e w' ⟨rfl,rfl⟩)
 have hb0:Below w.heap.size w (((w.alloc (.cells (wC x p) 29)).alloc (.cells #[.int .i64 (j:Int)] 3)).alloc (.cells #[.bool false] 4)):=(((Below.refl _ w).alloc (Nat.le_refl _) _).alloc (by simp) _).alloc (by simp;omega) _
 have j0:=((Blk.newn (w.alloc (.cells (wC x p) 29)) 3 #[.int .i64 (j:Int)] (n:=w.heap.size+1) (by simp)).alloc (.cells #[.bool false] 4)).call (Fp x p i _)
 have r0:=(Blk.newn ((w.alloc (.cells (wC x p) 29)).alloc (.cells #[.int .i64 (j:Int)] 3)) 4 #[.bool false] (n:=w.heap.size+1+1) (by simp)).call (Fp x p i _)
 have y0:(((w.alloc (.cells (wC x p) 29)).alloc (.cells #[.int .i64 (j:Int)] 3)).alloc (.cells #[.bool false] 4)).heap.size=w.heap.size+1+1+1:=by simp
 generalize (((w.alloc (.cells (wC x p) 29)).alloc (.cells #[.int .i64 (j:Int)] 3)).alloc (.cells #[.bool false] 4))=V0 at *
 have hbV:=hb0.trans ((Fp x p i V0).mono hb0.size)
 have hw1:=Ac7 x p i V0
 have hi1:=Ac8 x p i V0
 have y1:=Su x p i V0
 rw [y0] at hw1 hi1 y1
 generalize Rx x p i V0=V at *
 clear hb0 y0
 refine wpIn_rangeFunc_ownH rfl (by omega) (gf:=132) (lb:=#[.pointer (some ⟨w.heap.size+1+1+1+1,0,none⟩),.pointer (some ⟨w.heap.size+1+1+1,0,none⟩)]) rfl trivial (enters_of func132 (by kernel_rfl) rfl)
  (Sr (6-1) (by omega) x p hT i hi (w.heap.size+1+1+1) (w.heap.size+1+1+1+1) (w.heap.size+1+1) V hw1 hi1 (by omega) (by omega) (by omega) (hr.below hbV (Nat.le_refl _)) (fun q hq=>by have:=Bg9 hr hi q hq;omega)) Kq.trans (fun W l o o' _ hl hc _=>Kq.put _ W l o o' hl hc) (Below.refl _ _) (fun _=>rfl)
  (fun pre W=>((Blk W (w.heap.size+1) 3 #[.int .i64 (j:Int)]∧Blk W (w.heap.size+1+1) 4 #[.bool false])∧∀q∈pre,¬q=box j)∧Below w.heap.size w W)
  (fun c pre W=>(Blk W (w.heap.size+1+1) 4 #[.bool true]∧(c=.ret∧box j∈pre))∧Below w.heap.size w W)
  (OwnFrom.and (OwnFrom.and (OwnFrom.and (Mk _ _ _ (fun _=>#[.int .i64 (j:Int)])) (Mk _ _ _ (fun _=>#[.bool false]))) (ownFrom_pure _ (fun pre=>∀q∈pre,¬q=box j))) (ownFrom_below (Nat.le_refl _) (by omega)))
  (fun c=>OwnFrom.and (OwnFrom.and (Mk _ _ _ (fun _=>#[.bool true])) (ownFrom_pure _ (fun pre=>c=.ret∧box j∈pre))) (ownFrom_below (Nat.le_refl _) (by omega)))
  ⟨⟨⟨j0,r0⟩,fun q hq=>by cases hq⟩,hbV⟩
  (fun z a' W=>∃Bx,w.heap.size+1+1<Bx∧Blk W Bx 48 #[.int .i64 z.kind,.int .i64 z.id]∧a'={ tmps:=#[.agg (wC x p),.int .i64 (i:Int),.int .i64 (j:Int),.pointer (some ⟨w.heap.size,0,none⟩),undef,.pointer (some ⟨w.heap.size+1,0,none⟩),.pointer (some ⟨w.heap.size+1+1,0,none⟩),.pointer (some ⟨Bx,0,none⟩),.int .i64 (i:Int),.int .i64 (j:Int),.bool false,.agg (wC x p),.int .i64 (i:Int),.func (.func 132) #[] #[.pointer (some ⟨w.heap.size+1+1+1+1,0,none⟩),.pointer (some ⟨w.heap.size+1+1+1,0,none⟩)],.agg #[.int .i64 z.kind,.int .i64 z.id],undef,undef,undef,undef],defers:=[] })
  (fun z a' _ X Y row hs hg hr=>by obtain ⟨Bx,h1,h2,h3⟩:=hs;exact ⟨Bx,h1,Mk V.heap.size Bx 48 (fun (_:Unit)=>#[.int .i64 z.kind,.int .i64 z.id]) () X Y row h2 hg hr,h3⟩)
  ?assign ?body ?done ?stop
 case assign =>
  rintro l pre z W K ⟨⟨⟨hj1,hr1⟩,hn1⟩,hB1⟩ hK
  gi_wp2
  exact hK _ _ ((KeepsOthers.alloc _ _).from _) ((Kq.refl _ W).alloc _) ⟨⟨⟨hj1.alloc _,hr1.alloc _⟩,hn1⟩,hB1.alloc hB1.size _⟩ ⟨W.heap.size,hr1.lt,Blk.new W _ _,rfl⟩
 case body =>
  rintro l pre ⟨zk,zi⟩ a' W hl _ ⟨⟨⟨hj1,hr1⟩,hn1⟩,hB1⟩ ⟨Bx,hBx,bX,rfl⟩ hlt
  have cX:=bX.cell
  have lX:=bX.lt
  have cJ:=hj1.cell
  have lJ:=hj1.lt
  have cR:=hr1.cell
  have fR:=hr1.frozen
  have lR:=hr1.lt
  have HJ:=hid hj1
  have HR:=hid hr1
  have HB:=hid hB1
  have HN:=hid hn1
  have hrun:=Ey zk zi 2 (j:Int)
  clear hj1 hr1 hn1 hB1 bX hlt
  by_cases he:(⟨zk,zi⟩:Pl)=⟨2,(j:Int)⟩
  ·have HE:=hid he
   simp only [he,decide_true] at hrun
   clear he
   gi_wp2
   exact ⟨(KeepsOthers.setCell _ _ _).from _,⟨HR.out.set_ 0 _,rfl,by rw [HE.out];simp [box]⟩,HB.out.setCell (by show w.heap.size≤w.heap.size+1+1;omega) _⟩
  ·have HE:=hid he
   simp only [he,decide_false] at hrun
   clear he
   gi_wp2
   refine ⟨KeepsFrom.refl _ _,Kq.refl _ _,⟨⟨HJ.out,HR.out⟩,fun q hq=>?_⟩,HB.out⟩
   rcases List.mem_append.1 hq with h|h
   ·exact HN.out q h
   ·rw [List.mem_singleton.1 h];exact HE.out
 case done =>
  rintro D ys W hD rfl ⟨⟨⟨hj1,hr1⟩,hn1⟩,hB1⟩ hK
  have HE:=hid (show wB x.wher i j=false by
   simp only [wB,Bool.or_eq_false_iff,decide_eq_false_iff_not,List.any_eq_false,decide_eq_true_eq]
   exact ⟨hij,hn1⟩)
  have fR:=hr1.frozen
  have cR:=hr1.cell
  have lR:=hr1.lt
  have HR:=hid hr1
  have HB:=hid hB1
  clear hj1 hr1 hn1 hB1 hij
  gi_wp2
  have hK1:=(KeepsOthers.setCell W ⟨w.heap.size+1+1,0,none⟩ (.bool false)).same D _ hK rfl
  have hR2:=(HR.out.set_ 0 (.bool false)).put_ (.deferred none) hK1 rfl
  have cR2:=hR2.cell
  have hB2:=HB.out.setCell (p:=⟨w.heap.size+1+1,0,none⟩) (by show w.heap.size≤w.heap.size+1+1;omega) (.bool false)
  refine ⟨by simp,.inl ⟨_,_,rfl,run_takeDeferred hK1,?_⟩⟩
  refine ⟨.bool false,?_,by rw [HE.out],hB2.trans (belowK_b (w:=w) (Nat.le_refl _) _ D _ _ (by omega) hK1 rfl rfl)⟩
  clear hB2 hK1 hK
  generalize World.putObj _ D _=Z at *
  simp [results,Tryz.f115,go_sem,cR2]
 case stop =>
  rintro D c pre W hD hpre ⟨⟨hr1,rfl,hin⟩,hB1⟩ hK
  have HE:=hid (show wB x.wher i j=true by
   simp only [wB,Bool.or_eq_true,decide_eq_true_eq,List.any_eq_true]
   exact .inr ⟨_,hpre.subset hin,rfl⟩)
  gi_wp2
  refine ⟨by simp,.inl ⟨_,_,rfl,run_takeDeferred hK,?_⟩⟩
  have hR2:=hr1.put_ (.deferred none) hK rfl
  have cR2:=hR2.cell
  refine ⟨.bool true,?_,by rw [HE.out],hB1.trans (belowK_b (w:=w) (Nat.le_refl _) _ D _ _ (by omega) hK rfl rfl)⟩
  clear hR2
  generalize World.putObj _ D _=Z at *
  simp [results,Tryz.f115,go_sem,cR2]
theorem Cv (x:Wd) (p:Wp) (hT:Tr x.wher) (i j:Nat) (hi:i<x.wher.length) (w:World) (hr:Au w p.wh x.wher):Calls prog 115 #[.agg (wC x p),.int .i64 (i:Int),.int .i64 (j:Int)] w fun e w'=>e=.returned (.bool (wB x.wher i j))∧Below w.heap.size w w':=by
 by_cases h:i=j
 ·subst h;rw [Eh];exact Ag2 x p i w
 ·exact Aw7 x p hT i j hi h w hr
end
section
open Go.RowKit Go.Shelf
attribute [local go_sem] Oper.semAt_some
theorem Cr (x:Wd) (p:Wp) (hT:Tr x.wher) (i:Nat) (hi:i<x.wher.length) (w:World) (hr:Au w p.wh x.wher):Calls prog 117 #[.agg (wC x p),.int .i64 (i:Int)] w fun e w'=>e=.returned (.int .i64 (dep x.wher i:Nat))∧Below w.heap.size w w':=by
 refine (callsIn_wide (n:=6)).1 ?_
 refine callsIn_of_wp_marks func117 rfl trivial ?_ rfl
 simp only [ntmps117,List.size_toArray,List.length_cons,List.length_nil,Nat.reduceAdd,Nat.reduceSub,Array.replicate_succ,Array.replicate_zero,List.push_toArray,List.append_toArray,List.nil_append,List.cons_append]
 gi_wp2_with (refine ⟨trivial,?_⟩;gi_at_call 131;refine (callsIn_wide.2 (Ye _ _ _ _)).mono ?_;rintro e w' ⟨rfl,rfl⟩)
 have hb0:Below w.heap.size w ((w.alloc (.cells (wC x p) 29)).alloc (.cells #[.int .i64 0] 3)):=((Below.refl _ w).alloc (Nat.le_refl _) _).alloc (by simp) _
 have k0:=(Blk.newn (w.alloc (.cells (wC x p) 29)) 3 #[.int .i64 0] (n:=w.heap.size+1) (by simp)).call (Fp x p i _)
 have y0:((w.alloc (.cells (wC x p) 29)).alloc (.cells #[.int .i64 0] 3)).heap.size=w.heap.size+1+1:=by simp
 generalize ((w.alloc (.cells (wC x p) 29)).alloc (.cells #[.int .i64 0] 3))=V0 at *
 have hbV:=hb0.trans ((Fp x p i V0).mono hb0.size)
 have hw1:=Ac7 x p i V0
 have hi1:=Ac8 x p i V0
 have y1:=Su x p i V0
 rw [y0] at hw1 hi1 y1
 generalize Rx x p i V0=V at *
 clear hb0 y0
 have hd4:=hT.dep4 hi
 refine wpIn_rangeFunc_ownH rfl (by omega) (gf:=132) (lb:=#[.pointer (some ⟨w.heap.size+1+1+1,0,none⟩),.pointer (some ⟨w.heap.size+1+1,0,none⟩)]) rfl trivial (enters_of func132 (by kernel_rfl) rfl)
  (Sr (6-1) (by omega) x p hT i hi (w.heap.size+1+1) (w.heap.size+1+1+1) (w.heap.size+1) V hw1 hi1 (by omega) (by omega) (by omega) (hr.below hbV (Nat.le_refl _)) (fun q hq=>by have:=Bg9 hr hi q hq;omega)) Kq.trans (fun W l o o' _ hl hc _=>Kq.put _ W l o o' hl hc) (Below.refl _ _) (fun _=>rfl)
  (fun pre W=>Blk W (w.heap.size+1) 3 #[.int .i64 (cnt2 pre:Nat)]∧Below w.heap.size w W)
  (fun _ _ _=>False)
  (OwnFrom.and (Mk _ _ _ _) (ownFrom_below (Nat.le_refl _) (by omega)))
  (fun _ _ _ _ _ hs _ _=>hs)
  ⟨k0,hbV⟩
  (fun z a' W=>∃Bx,w.heap.size+1<Bx∧Blk W Bx 48 #[.int .i64 z.kind,.int .i64 z.id]∧a'={ tmps:=#[.agg (wC x p),.int .i64 (i:Int),.pointer (some ⟨w.heap.size,0,none⟩),undef,.int .i64 0,.pointer (some ⟨w.heap.size+1,0,none⟩),.pointer (some ⟨Bx,0,none⟩),.agg (wC x p),.int .i64 (i:Int),.func (.func 132) #[] #[.pointer (some ⟨w.heap.size+1+1+1,0,none⟩),.pointer (some ⟨w.heap.size+1+1,0,none⟩)],.agg #[.int .i64 z.kind,.int .i64 z.id],undef,undef,undef,undef,undef,undef],defers:=[] })
  (fun z a' _ X Y row hs hg hr=>by obtain ⟨Bx,h1,h2,h3⟩:=hs;exact ⟨Bx,h1,Mk V.heap.size Bx 48 (fun (_:Unit)=>#[.int .i64 z.kind,.int .i64 z.id]) () X Y row h2 hg hr,h3⟩)
  ?assign ?body ?done ?stop
 case assign =>
  rintro l pre z W K ⟨hk1,hB1⟩ hK
  gi_wp2
  exact hK _ _ ((KeepsOthers.alloc _ _).from _) ((Kq.refl _ W).alloc _) ⟨hk1.alloc _,hB1.alloc hB1.size _⟩ ⟨W.heap.size,hk1.lt,Blk.new W _ _,rfl⟩
 case body =>
  rintro l pre ⟨zk,zi⟩ a' W hl _ ⟨hk1,hB1⟩ ⟨Bx,hBx,bX,rfl⟩ hlt
  have cX:=bX.cell
  have lX:=bX.lt
  have cK:=hk1.cell
  have fK:=hk1.frozen
  have lK:=hk1.lt
  have HK:=hid hk1
  have HB:=hid hB1
  have hcn:cnt2 pre≤pre.length:=List.countP_le_length
  rw [Bb3] at hlt
  clear hk1 hB1 bX
  by_cases h2:zk=2
  ·subst h2
   have hw:IntKind.i64.wrap ((cnt2 pre:Int)+1)=(cnt2 pre:Int)+1:=IntWalk.i64_in _ (by omega)
   gi_wp2
   refine ⟨(KeepsOthers.setCell _ _ _).from _,(Kq.refl _ W).set _ _,?_,HB.out.setCell (by show w.heap.size≤w.heap.size+1;omega) _⟩
   rw [show cnt2 (pre++[⟨2,zi⟩])=cnt2 pre+1 by rw [Ai8];rfl]
   exact HK.out.set_ 0 _
  ·have q5:(zk==2)=false:=by simpa using h2
   have HN2:=hid (show cnt2 (pre++[⟨zk,zi⟩])=cnt2 pre by rw [Ai8,if_neg h2];rfl)
   clear h2
   gi_wp2
   exact ⟨KeepsFrom.refl _ _,Kq.refl _ _,by rw [HN2.out];exact HK.out,HB.out⟩
 case done =>
  rintro D ys W hD rfl ⟨hk1,hB1⟩ hK
  rw [hT.cnt i hi] at hk1
  have cK:=hk1.cell
  have lK:=hk1.lt
  have HB:=hid hB1
  clear hk1 hB1
  gi_wp2
  refine ⟨by simp,.inl ⟨_,_,rfl,run_takeDeferred hK,?_⟩⟩
  exact ⟨_,results_tmp rfl _ _ _,rfl,HB.out.trans (belowK_b (w:=w) (Nat.le_refl _) W D _ _ (by omega) hK rfl rfl)⟩
 case stop =>
  rintro D c pre W _ _ h _
  exact h.elim
end
section
theorem Bm9 (a b:Nat) (W:World):(Builtin.max_ #[3,3] 3 #[.int .i64 (a:Int),.int .i64 (b:Int)]).run prog W=.ok (.int .i64 ((max a b:Nat):Int)) W:=by
 by_cases h:a<b
 ·have h1:(a:Int)<(b:Int):=by omega
  rw [show max a b=b by omega];clear h;go_simp
 ·have h1:¬(a:Int)<(b:Int):=by omega
  rw [show max a b=a by omega];clear h;go_simp
theorem Ip (x:Wd) (p:Wp) (hT:Tr x.wher) (j:Nat) (hj:j<x.wher.length) (w:World) (h:Au w p.wh x.wher):Calls prog 118 #[.agg (wC x p),.int .i64 (j:Int)] w fun e w'=>e=.returned (.int .i64 (hgt x.wher j:Nat))∧Below w.heap.size w w':=by
 have hm:=h.len
 have H:=hid h
 have HT:=hid hT
 clear h hT
 have HP:=hid (Ac.new w (wC x p) 29)
 have hWC:=@wC.eq_1
 go_enter func118,ntmps118
 go_wp2_with fail
 go_loopw [5,10] (fun v i wr=>∃k:Nat,k≤x.wher.length∧i=.int .i64 k∧v=.int .i64 (hgtN x.wher k j:Nat)∧Ac w w.heap.size (wC x p) wr) (fun _ i _=>x.wher.length-(intOf i).toNat)
 case atStart=>exact ⟨0,Nat.zero_le _,rfl,rfl,HP.out⟩
 case round =>
  obtain ⟨k,hk,rfl,rfl,h1⟩:=hrel
  have hc1:=h1.2.2
  have hl1:=h1.2.1
  by_cases hlt:k<x.wher.length
  ·have hw:IntKind.i64.wrap ((k:Int)+1)=(k:Int)+1:=IntWalk.i64_in _ (by omega)
   have H1:=hid h1
   have HY:=hid (show hgtN x.wher (k+1) j=max (hgtN x.wher k j) (if wB x.wher k j then dep x.wher k-dep x.wher j else 0) from rfl)
   clear h1
   generalize hgtN x.wher k j=hh at *
   go_wp2_with fail
   refine (Cv x p HT.out k j hlt _ (H.out.below H1.out.1 (Nat.le_refl _))).mono ?_
   rintro e w1 ⟨rfl,b1⟩
   have K1:=hid (H1.out.call b1)
   have hc2:=K1.out.2.2
   have hl2:=K1.out.2.1
   clear b1 H1 hc1 hl1
   cases hwb:wB x.wher k j
   ·have HX:=hid (show hgtN x.wher (k+1) j=hh by rw [HY.out,hwb];simp)
    clear hwb HY
    go_wp2_with fail
    go_roundw
    case rel=>exact ⟨k+1,by omega,by go_num,by rw [HX.out],K1.out⟩
    case measure=>simp [intOf];omega
   ·have HX:=hid (show hgtN x.wher (k+1) j=max hh (dep x.wher k-dep x.wher j) by rw [HY.out,hwb];simp)
    have hle:=(HT.out.within j k hlt hwb).2.1
    have hd4:=HT.out.dep4 hlt
    have D1:=hid (Cr x p HT.out k hlt)
    have D2:=hid (Cr x p HT.out j hj)
    clear hwb HY
    obtain ⟨dk,hdk⟩:∃n,dep x.wher k=n:=⟨_,rfl⟩
    obtain ⟨dj,hdj⟩:∃n,dep x.wher j=n:=⟨_,rfl⟩
    rw [hdk,hdj] at hle HX
    rw [hdk] at D1 hd4
    rw [hdj] at D2
    have hsub:IntKind.i64.wrap ((dk:Int)-(dj:Int))=((dk-dj:Nat):Int):=by rw [IntWalk.i64_in _ (by omega)];omega
    have hmax:=Bm9 hh (dk-dj)
    have HXX:=hid HX.out
    clear HX hdk hdj
    generalize dk-dj=ee at *
    have HV:=hid (H.out.below K1.out.1 (Nat.le_refl _))
    have KS:Hid (∀w',Below w1.heap.size w1 w'→Below w1.heap.size w1 w'∧(∀i,w'.cell? ⟨w.heap.size,i,none⟩=((wC x p)[i]?:Option Value))):=hid (fun w' hb=>⟨hb,fun i=>(hb.cell (p:=⟨w.heap.size,i,none⟩) K1.out.2.1).trans (K1.out.2.2 i)⟩)
    go_wp2_with fail
    refine tkS (S:=(fun w'=>Below w1.heap.size w1 w'∧(∀i,w'.cell? ⟨w.heap.size,i,none⟩=((wC x p)[i]?:Option Value)))) (by (with_reducible exact KS.out _ (Af (Below.refl _ _)))) (fun hHeld=>?_)
    refine tkl [0,1,2,4,5] ?_
    iterate 5
     first|refine tW ?_|refine tN ?_
     try go_frame
    refine rdy1 3 (fun K hK=>?_)
    go_simp;refine (D1.out _ (HV.out.below hHeld.1 (Nat.le_refl _))).mono ?_;rintro e w9 ⟨rfl,hb9⟩;try go_wp2_with fail
    refine hK.out _ _ (by (with_reducible exact KS.out _ (Aa hHeld.1 hHeld.1.size hb9))) (fun hHeld=>?_)
    clear hK K
    try go_frame
    refine rdy1 6 (fun K hK=>?_)
    go_simp;refine (D2.out _ (HV.out.below hHeld.1 (Nat.le_refl _))).mono ?_;rintro e w9 ⟨rfl,hb9⟩;try go_wp2_with fail
    refine hK.out _ _ (by (with_reducible exact KS.out _ (Aa hHeld.1 hHeld.1.size hb9))) (fun hHeld=>?_)
    clear hK K
    try go_frame
    refine tkl [7,8,9] ?_
    iterate 3
     first|refine tW ?_|refine tN ?_
     try go_frame
    refine tkD ?_
    have K2:=hid (K1.out.call hHeld.1)
    clear hHeld
    go_wp2_with fail
    go_roundw
    case rel=>exact ⟨k+1,by omega,by go_num,by rw [HXX.out],K2.out⟩
    case measure=>simp [intOf];omega
  ·have hke:k=x.wher.length:=by omega
   subst hke
   have H1:=hid h1
   clear H h1
   go_wp2_with fail
   go_ret
   exact ⟨rfl,H1.out.1⟩
end
end Go.Proofs.YtnhkojpbbdaedaaGreat
