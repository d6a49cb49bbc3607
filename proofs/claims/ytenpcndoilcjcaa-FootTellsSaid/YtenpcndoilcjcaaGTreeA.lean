/- tree: the iterator over the places above an item: what it hands out, and what it asks of a round. -/
import Derived.RangeFuncNested
import Derived.RangeFuncBound
import Derived.RangeFuncBox
import Derived.RangeFuncCalls
import Derived.RangeFuncLeaves
import Derived.Shelf.Abstract
import Derived.Shelf.RegionOpen
import Derived.OwnWalkIn
import Derived.TacticsInMore
import Derived.LoopNIn
import Derived.LoopIn
import Derived.Test.YtenpcndoilcjcaaGAs
namespace Go.Proofs.Ytenpcndoilcjcaa
open Go.ChangeShapes Go.WideShapes Go.ChangeAt Go.RowKit Go.Proofs.Try
open Lib (hid)
set_option linter.unusedVariables false
set_option maxHeartbeats 1000000
set_option maxRecDepth 100000
section
open Go.RowKit Go.Shelf
attribute [local go_sem] Oper.semAt_some
def Kq (bS:Nat) (W W':World):Prop:=W.heap.size≤W'.heap.size∧∀b cs t f,b≠bS→W.heap[b]?=some (.cells cs t f)→W'.heap[b]?=some (.cells cs t f)
theorem Kq.refl (bS:Nat) (W:World):Kq bS W W:=⟨Nat.le_refl _,fun _ _ _ _ _ h=>h⟩
theorem Kq.trans {bS:Nat} {A B C:World} (h:Kq bS A B) (k:Kq bS B C):Kq bS A C:=⟨Nat.le_trans h.1 k.1,fun b cs t f hn hb=>k.2 b cs t f hn (h.2 b cs t f hn hb)⟩
theorem Kq.alloc {bS:Nat} {A B:World} (h:Kq bS A B) (o:Obj):Kq bS A (B.alloc o) :=
 ⟨by have:=h.1;simp;omega,fun b cs t f hn hb=>by have h2:=h.2 b cs t f hn hb;exact (Below.heap_alloc B o b (Array.getElem?_eq_some_iff.1 h2).1).trans h2⟩
theorem Kq.set {bS:Nat} {A B:World} (h:Kq bS A B) (i:Nat) (v:Value):Kq bS A (B.setCell ⟨bS,i,none⟩ v) :=
 ⟨by have:=h.1;simp [World.setCell];omega,fun b cs t f hn hb=>(Below.heap_setCell B ⟨bS,i,none⟩ v b hn).trans (h.2 b cs t f hn hb)⟩
theorem Kq.put (bS:Nat) (W:World) (l:Nat) (o o':Obj) (h:W.heap[l]?=some o) (hc:o.isCells=false):Kq bS W (W.putObj l o') :=
 ⟨by simp [World.putObj],fun b cs t f _ hb=>by
   have:b≠l:=fun e=>by subst e;rw [h] at hb;cases hb;cases hc
   exact (World.putObj_heap_other this).trans hb⟩
theorem Kq.below {bS:Nat} {A B:World} (h:Below A.heap.size A B):Kq bS A B:=⟨h.size,fun b cs t f _ hb=>(h.block b (Array.getElem?_eq_some_iff.1 hb).1).trans hb⟩
theorem Kq.cell {bS:Nat} {A B:World} (h:Kq bS A B) {p:Addr} {v:Value} (hp:p.block≠bS) (hs:p.spot=none) (hc:A.cell? p=some v):B.cell? p=some v:=by
 obtain ⟨b,o,s⟩:=p
 simp only at hs hp
 subst hs
 unfold World.cell? at hc ⊢
 simp only at hc ⊢
 cases hb:A.heap[b]? with
 | none=>rw [hb] at hc;cases hc
 | some ob =>
   rw [hb] at hc
   cases ob with
   | cells cs t f=>rw [h.2 b cs t f hp hb];exact hc
   | _=>cases hc
theorem Kq.blk {bS:Nat} {A B:World} (h:Kq bS A B) {g:Nat} {t:TypeId} {cs:Array Value} (hg:g≠bS) (hb:Blk A g t cs):Blk B g t cs:=h.2 g cs t (0,0) hg hb
theorem Kq.pls {bS:Nat} {A B:World} (h:Kq bS A B) {a:Option Addr} {xs:List Pl} (hx:Au A a xs) (ha:∀q,a=some q→q.block≠bS):Au B a xs:=by
 obtain ⟨hl,hx⟩:=hx
 refine ⟨hl,?_⟩
 rcases hx with hx|⟨b,off,rfl,hb,hc⟩
 ·exact .inl hx
 ·refine .inr ⟨b,off,rfl,Nat.lt_of_lt_of_le hb h.1,fun i hi j hj=>?_⟩
  have h1:=hc i hi j hj
  have h2:j<(plC xs[i]).length:=by simp [plC];omega
  rw [List.getElem?_eq_getElem h2] at h1 ⊢
  exact h.cell (p:=⟨b,off+i*2+j,none⟩) (ha ⟨b,off,none⟩ rfl) rfl h1
theorem Bg9 {W:World} {a:Option Addr} {xs:List Pl} (h:Au W a xs) {i:Nat} (hi:i<xs.length):∀q,a=some q→q.block<W.heap.size:=fun q hq=>by
 obtain ⟨b,o,hbo,hb,-⟩:=h.at_ hi
 rw [hbo] at hq;cases hq;exact hb
theorem Mk {β:Type} (B g:Nat) (t:TypeId) (f:β→Array Value):OwnFrom B (fun s W=>Blk W g t (f s)):=fun s X Y row hs hg hr =>
 hs.grown hg (fun e=>by
  obtain ⟨_,o,ho,hc⟩:=hr g e.symm
  rw [show X.heap[g]?=_ from hs] at ho
  cases ho;cases hc)
theorem Blk.put_ {W:World} {g:Nat} {t:TypeId} {cs:Array Value} (h:Blk W g t cs) {l:Nat} {o:Obj} (o':Obj) (hl:W.heap[l]?=some o) (hc:o.isCells=false):Blk (W.putObj l o') g t cs :=
 h.grown (grownBy_putObj' W l o') (fun e=>by cases e;rw [show W.heap[g]?=_ from h] at hl;cases hl;cases hc)
def Rx (x:Wd) (p:Wp) (i:Int) (w:World):World:=(w.alloc (.cells (wC x p) 29)).alloc (.cells #[.int .i64 i] 3)
theorem Ye (x:Wd) (p:Wp) (i:Int) (w:World):Calls prog 84 #[.agg (wC x p),.int .i64 i] w fun e w'=>e=.returned (.func (.func 90) #[] #[.pointer (some ⟨w.heap.size+1,0,none⟩),.pointer (some ⟨w.heap.size,0,none⟩)])∧w'=Rx x p i w:=by
 have hWC:=@wC.eq_1
 go_enter func84,ntmps84
 go_wp2
 go_ret
 exact ⟨rfl,rfl⟩
theorem Su (x:Wd) (p:Wp) (i:Int) (w:World):(Rx x p i w).heap.size=w.heap.size+2:=by simp [Rx]
theorem Fp (x:Wd) (p:Wp) (i:Int) (w:World):Below w.heap.size w (Rx x p i w):=((Below.refl _ w).alloc (Nat.le_refl _) _).alloc (by simp) _
theorem Ac7 (x:Wd) (p:Wp) (i:Int) (w:World):Blk (Rx x p i w) w.heap.size 29 (wC x p):=(Blk.new w _ _).alloc _
theorem Ac8 (x:Wd) (p:Wp) (i:Int) (w:World):Blk (Rx x p i w) (w.heap.size+1) 3 #[.int .i64 i]:=Blk.newn _ _ _ (by simp)
theorem Sr (n:Nat) (hn:1≤n) (x:Wd) (p:Wp) (hT:Tr x.wher) (i:Nat) (hi:i<x.wher.length) (bW bI bS:Nat) (w:World) (hbW:Blk w bW 29 (wC x p)) (hbI:Blk w bI 3 #[.int .i64 i])
 (hW:bW≠bS) (hI:bI≠bS) (hS:bS<w.heap.size) (hr:Au w p.wh x.wher) (hf:∀q,p.wh=some q→q.block≠bS) :
 SeqStopsK Fence.wide n prog 90 #[.pointer (some ⟨bI,0,none⟩),.pointer (some ⟨bW,0,none⟩)] (fun z:Pl=>#[.agg #[.int .i64 z.kind,.int .i64 z.id]]) (Kq bS) (fun ys=>ys=upI x.wher i) (fun pre=>pre <+: upI x.wher i) (upI x.wher i).length w:=by
 intro l J Jx W hWB hJ hJx hY h0
 have hlen:=hr.len
 have hsW:=hWB.size
 have hW1:=hbW.below hWB (by have:=hbW.lt;omega)
 have hI1:=hbI.below hWB (by have:=hbI.lt;omega)
 have hr1:=hr.below hWB (Nat.le_refl _)
 obtain ⟨b,o,hbo,-,-⟩:=Au.cells hr1 hi
 have HW:=hid hW1
 have HI:=hid hI1
 have HR:=hid hr1
 have HT:=hid hT
 have HJ:=hid hJ
 have HY:=hid hY
 have H0:=hid h0
 have HF:=hid hf
 have c1:=hW1.cell
 have c2:=hI1.cell
 have l1:=hW1.lt
 have l2:=hI1.lt
 clear hWB hJ hJx hY h0 hr hT hf hr1 hbW hbI hW1 hI1
 refine callsIn_of_wp func90 rfl trivial ?_ rfl
 simp only [ntmps90,List.size_toArray,List.length_cons,List.length_nil,Nat.reduceAdd,Nat.reduceSub,Array.replicate_succ,Array.replicate_zero,List.push_toArray,List.append_toArray,List.nil_append,List.cons_append]
 gi_wp2
 gi_loopw [4,10] (fun nx k wr=>∃(m j:Nat) (pre:List Pl),nx=.int .i64 j∧k=.int .i64 m∧j<x.wher.length∧pre.length=m∧upI x.wher i=pre++upI x.wher j∧J pre wr∧Kq bS W wr) (fun _ k _=>x.wher.length-(intOf k).toNat)
 case atStart=>exact ⟨0,i,[],rfl,rfl,hi,rfl,rfl,H0.out,Kq.refl _ _⟩
 case round =>
  obtain ⟨m,j,pre,rfl,rfl,hj,hm,hu,hJp,hk⟩:=hrel
  have hb1:=hk.blk hW HW.out
  have hb2:=hk.blk hI HI.out
  have d1:=hb1.cell
  have e1:=hb1.lt
  obtain ⟨b',o',hbo',hb,a0,a1⟩:=Au.cells (hk.pls HR.out HF.out) hj
  rw [hbo] at hbo'
  obtain ⟨rfl,rfl⟩:b=b'∧o=o':=by simpa using hbo'
  clear hbo'
  have hml:m<x.wher.length:=by
   have q1:=HT.out.len hi
   have q2:=Nn x.wher j
   rw [hu,List.length_append] at q1;omega
  have q0:¬(j:Int)<0:=by omega
  have q1:¬(x.wher.length:Int)≤(j:Int):=by omega
  have q2:(m:Int)<(x.wher.length:Int):=by omega
  have hw:IntKind.i64.wrap ((m:Int)+1)=(m:Int)+1:=IntWalk.i64_in _ (by omega)
  have HKQ:=hid hk
  have HU:=hid hu
  have HM:=hid hm
  have HJP:=hid hJp
  have PG:=hid (Bo hj)
  have hbS:bS<wr.heap.size:=by have:=hk.1;omega
  clear c1 c2 hk hu hm hJp hb1 hb2 l1 l2
  have YV:=hid (HY.out pre x.wher[j] (wr.alloc (.cells #[.int .i64 x.wher[j].kind,.int .i64 x.wher[j].id] 52)) (HJ.out _ _ _ none HJP.out (World.grownBy_alloc _ _ _) (fun r e=>by cases e)) (by
   have:=congrArg List.length HU.out
   have:=Nn x.wher j
   rw [List.length_append] at *;omega))
  have hBP:=hid (Blk.new wr 52 #[.int .i64 x.wher[j].kind,.int .i64 x.wher[j].id])
  generalize hz:x.wher[j]=z at *
  obtain ⟨zk,zi⟩:=z
  simp only at a0 a1
  obtain ⟨fn,tmps,assign,body,hy,hR⟩:=YV.out
  have HRR:=hid hR
  clear hR
  gi_wp2
  refine HRR.out.mono ?_
  have hne:wr.heap.size≠bS:=by omega
  rintro e W3 (⟨rfl,hJ3,hk3⟩|⟨rfl,hJx3⟩)
  ·have d3:=(hk3.blk hne hBP.out).cell
   have l3:=(hk3.blk hne hBP.out).lt
   have HK3:=hid hk3
   have HJ3:=hid hJ3
   clear hk3 hJ3 HRR YV hy
   by_cases h2:zk=2
   ·obtain ⟨j2,hj2,hp2,hu2⟩:=HT.out.box hj (by rw [PG.out];exact h2)
    rw [PG.out] at hp2
    simp only [box,Pl.mk.injEq] at hp2
    obtain ⟨rfl,rfl⟩:=hp2
    have HU2:=hid hu2
    clear hu2
    gi_wp2
    go_roundw
    case rel=>exact ⟨m+1,j2,pre++[⟨2,(j2:Int)⟩],rfl,by go_num,hj2,by simp [HM.out],by rw [HU.out,HU2.out];simp [box],HJ3.out,(HKQ.out.alloc _).trans HK3.out⟩
    case measure=>simp [intOf];omega
   ·have q5:(zk != 2)=true:=by simpa using h2
    have HE:=hid (Nc (ps:=x.wher) (i:=j) (by rw [PG.out];exact h2))
    clear h2
    gi_wp2
    refine bodyPost_ret (results_none rfl _ _ _) rfl ?_
    exact ⟨⟨_,rfl⟩,.inl ⟨pre++[⟨zk,zi⟩],by rw [HU.out,HE.out,PG.out],HJ3.out⟩⟩
  ·have HJX:=hid hJx3
   clear hJx3 HRR YV hy
   gi_wp2
   refine bodyPost_ret (results_none rfl _ _ _) rfl ?_
   refine ⟨⟨_,rfl⟩,.inr ⟨pre++[⟨zk,zi⟩],?_,HJX.out⟩⟩
   rw [HU.out]
   by_cases h2:zk=2
   ·obtain ⟨j2,hj2,hp2,hu2⟩:=HT.out.box hj (by rw [PG.out];exact h2)
    rw [hu2,←hp2,PG.out]
    exact ⟨upI x.wher j2,by simp⟩
   ·rw [Nc (ps:=x.wher) (i:=j) (by rw [PG.out];exact h2),PG.out]
    exact List.prefix_refl _
end
section
open Go.RowKit Go.Shelf
attribute [local go_sem] Oper.semAt_some
theorem Gr (x:Wd) (p:Wp) (hT:Tr x.wher) (i:Nat) (hi:i<x.wher.length) (w:World) (hr:Au w p.wh x.wher):Calls prog 72 #[.agg (wC x p),.int .i64 (i:Int)] w fun e w'=>e=.returned (.agg #[.int .i64 (Bh x.wher i).kind,.int .i64 (Bh x.wher i).id])∧Below w.heap.size w w':=by
 refine (callsIn_wide (n:=6)).1 ?_
 refine callsIn_of_wp_marks func72 rfl trivial ?_ rfl
 simp only [ntmps72,List.size_toArray,List.length_cons,List.length_nil,Nat.reduceAdd,Nat.reduceSub,Array.replicate_succ,Array.replicate_zero,List.push_toArray,List.append_toArray,List.nil_append,List.cons_append]
 gi_wp2_with (refine ⟨trivial,?_⟩;gi_at_call 84;refine (callsIn_wide.2 (Ye _ _ _ _)).mono ?_;rintro e w' ⟨rfl,rfl⟩)
 have hb0:Below w.heap.size w (((w.alloc (.cells (wC x p) 29)).alloc (.cells #[.int .i64 0,.int .i64 0] 52)).alloc (.cells #[.int .i64 0,.int .i64 0] 52)):=(((Below.refl _ w).alloc (Nat.le_refl _) _).alloc (by simp) _).alloc (by simp;omega) _
 have r0:=((Blk.newn (w.alloc (.cells (wC x p) 29)) 52 #[.int .i64 0,.int .i64 0] (n:=w.heap.size+1) (by simp)).alloc (.cells #[.int .i64 0,.int .i64 0] 52)).call (Fp x p i _)
 have k0:=(Blk.newn ((w.alloc (.cells (wC x p) 29)).alloc (.cells #[.int .i64 0,.int .i64 0] 52)) 52 #[.int .i64 0,.int .i64 0] (n:=w.heap.size+1+1) (by simp)).call (Fp x p i _)
 have y0:(((w.alloc (.cells (wC x p) 29)).alloc (.cells #[.int .i64 0,.int .i64 0] 52)).alloc (.cells #[.int .i64 0,.int .i64 0] 52)).heap.size=w.heap.size+1+1+1:=by simp
 generalize (((w.alloc (.cells (wC x p) 29)).alloc (.cells #[.int .i64 0,.int .i64 0] 52)).alloc (.cells #[.int .i64 0,.int .i64 0] 52))=V0 at *
 have hbV:=hb0.trans ((Fp x p i V0).mono hb0.size)
 have hw1:=Ac7 x p i V0
 have hi1:=Ac8 x p i V0
 have y1:=Su x p i V0
 rw [y0] at hw1 hi1 y1
 generalize Rx x p i V0=V at *
 clear hb0 y0
 refine wpIn_rangeFunc_ownH rfl (by omega) (gf:=90) (lb:=#[.pointer (some ⟨w.heap.size+1+1+1+1,0,none⟩),.pointer (some ⟨w.heap.size+1+1+1,0,none⟩)]) rfl trivial (enters_of func90 (by kernel_rfl) rfl)
  (Sr (6-1) (by omega) x p hT i hi (w.heap.size+1+1+1) (w.heap.size+1+1+1+1) (w.heap.size+1+1) V hw1 hi1 (by omega) (by omega) (by omega) (hr.below hbV (Nat.le_refl _)) (fun q hq=>by have:=Bg9 hr hi q hq;omega)) Kq.trans (fun W l o o' _ hl hc _=>Kq.put _ W l o o' hl hc) (Below.refl _ _) (fun _=>rfl)
  (fun pre W=>(Blk W (w.heap.size+1+1) 52 #[.int .i64 (Nw pre).kind,.int .i64 (Nw pre).id]∧Blk W (w.heap.size+1) 52 #[.int .i64 0,.int .i64 0])∧Below w.heap.size w W)
  (fun _ _ _=>False)
  (OwnFrom.and (OwnFrom.and (Mk _ _ _ _) (Mk _ _ _ (fun _=>#[.int .i64 0,.int .i64 0]))) (ownFrom_below (Nat.le_refl _) (by omega)))
  (fun _ _ _ _ _ hs _ _=>hs)
  ⟨⟨k0,r0⟩,hbV⟩
  (fun z a' W=>∃Bx,w.heap.size+1+1<Bx∧Blk W Bx 52 #[.int .i64 z.kind,.int .i64 z.id]∧a'={ tmps:=#[.agg (wC x p),.int .i64 (i:Int),.pointer (some ⟨w.heap.size,0,none⟩),undef,.pointer (some ⟨w.heap.size+1,0,none⟩),.pointer (some ⟨w.heap.size+1+1,0,none⟩),.pointer (some ⟨Bx,0,none⟩),.agg (wC x p),.int .i64 (i:Int),.func (.func 90) #[] #[.pointer (some ⟨w.heap.size+1+1+1+1,0,none⟩),.pointer (some ⟨w.heap.size+1+1+1,0,none⟩)],.agg #[.int .i64 z.kind,.int .i64 z.id],undef,undef],defers:=[] })
  (fun z a' _ X Y row hs hg hr=>by obtain ⟨Bx,h1,h2,h3⟩:=hs;exact ⟨Bx,h1,Mk V.heap.size Bx 52 (fun (_:Unit)=>#[.int .i64 z.kind,.int .i64 z.id]) () X Y row h2 hg hr,h3⟩)
  ?assign ?body ?done ?stop
 case assign =>
  rintro l pre z W K ⟨⟨hk1,hr1⟩,hB1⟩ hK
  gi_wp2
  exact hK _ _ ((KeepsOthers.alloc _ _).from _) ((Kq.refl _ W).alloc _) ⟨⟨hk1.alloc _,hr1.alloc _⟩,hB1.alloc hB1.size _⟩ ⟨W.heap.size,hk1.lt,Blk.new W _ _,rfl⟩
 case body =>
  rintro l pre z a' W hl _ ⟨⟨hk1,hr1⟩,hB1⟩ ⟨Bx,hBx,bX,rfl⟩ hlt
  have cX:=bX.cell
  have lX:=bX.lt
  have cK:=hk1.cell
  have fK:=hk1.frozen
  have lK:=hk1.lt
  have HK:=hid hk1
  have HR:=hid hr1
  have HB:=hid hB1
  clear hk1 hr1 hB1 bX
  gi_wp2
  refine ⟨((KeepsOthers.setCell _ _ _).trans (KeepsOthers.setCell _ _ _)).from _,((Kq.refl _ W).set _ _).set _ _,⟨⟨?_,(HR.out.far (by show w.heap.size+1≠w.heap.size+1+1;omega) _).far (by show w.heap.size+1≠w.heap.size+1+1;omega) _⟩,(HB.out.setCell (by show w.heap.size≤w.heap.size+1+1;omega) _).setCell (by show w.heap.size≤w.heap.size+1+1;omega) _⟩⟩
  rw [Be8]
  exact (HK.out.set_ 0 _).set_ 1 _
 case done =>
  rintro D ys W hD rfl ⟨⟨hk1,hr1⟩,hB1⟩ hK
  have cK:=hk1.cell
  have lK:=hk1.lt
  have fR:=hr1.frozen
  have cR:=hr1.cell
  have lR:=hr1.lt
  have HR:=hid hr1
  have HB:=hid hB1
  clear hk1 hr1 hB1
  gi_wp2
  have hK1:=((KeepsOthers.setCell W ⟨w.heap.size+1,0,none⟩ (.int .i64 (Nw (upI x.wher i)).kind)).trans (KeepsOthers.setCell _ ⟨w.heap.size+1,1,none⟩ (.int .i64 (Nw (upI x.wher i)).id))).same D _ hK rfl
  have hR2:=((HR.out.set_ 0 (.int .i64 (Nw (upI x.wher i)).kind)).set_ 1 (.int .i64 (Nw (upI x.wher i)).id)).put_ (.deferred none) hK1 rfl
  have cR2:=hR2.cell
  have lR2:=hR2.lt
  have hB2:=(HB.out.setCell (p:=⟨w.heap.size+1,0,none⟩) (by show w.heap.size≤w.heap.size+1;omega) (.int .i64 (Nw (upI x.wher i)).kind)).setCell (p:=⟨w.heap.size+1,1,none⟩) (by show w.heap.size≤w.heap.size+1;omega) (.int .i64 (Nw (upI x.wher i)).id)
  refine ⟨by simp,.inl ⟨_,_,rfl,run_takeDeferred hK1,?_⟩⟩
  refine ⟨.agg #[.int .i64 (Nw (upI x.wher i)).kind,.int .i64 (Nw (upI x.wher i)).id],?_,rfl,hB2.trans (belowK_b (w:=w) (Nat.le_refl _) _ D _ _ (by omega) hK1 rfl rfl)⟩
  clear hB2 hK1 hK
  generalize World.putObj _ D _=Z at *
  simp [results,Try.f72,go_sem,cR2]
 case stop =>
  rintro D c pre W _ _ h _
  exact h.elim
end
section
open Go.RowKit Go.Shelf
attribute [local go_sem] Oper.semAt_some
end
section
open Go.RowKit Go.Shelf
attribute [local go_sem] Oper.semAt_some
end
section
theorem Bm9 (a b:Nat) (W:World):(Builtin.max_ #[3,3] 3 #[.int .i64 (a:Int),.int .i64 (b:Int)]).run prog W=.ok (.int .i64 ((max a b:Nat):Int)) W:=by
 by_cases h:a<b
 ·have h1:(a:Int)<(b:Int):=by omega
  rw [show max a b=b by omega];clear h;go_simp
 ·have h1:¬(a:Int)<(b:Int):=by omega
  rw [show max a b=a by omega];clear h;go_simp
end
end Go.Proofs.Ytenpcndoilcjcaa
