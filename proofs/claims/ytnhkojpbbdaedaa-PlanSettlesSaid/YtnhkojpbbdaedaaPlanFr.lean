/- plan.From: the changes from a world to another one. -/
import Derived.Test.YtnhkojpbbdaedaaPlanN
import Derived.Test.YtnhkojpbbdaedaaPlanD
import Derived.Test.YtnhkojpbbdaedaaPlanO
import Derived.Shelf.Abstract
namespace Go.Proofs.Ytnhkojpbbdaedaa
open Go.ChangeShapes Go.WideShapes Go.ChangeAt Go.RowKit Go.Proofs.Try
open Lib (hid)
set_option linter.unusedVariables false
open Go.RowKit Go Go.Shelf
attribute [local go_sem] Oper.semAt_some
theorem np_ints {w:World} {a:Option Addr} {xs:List Int} (B:Nat) (h:Ae w a xs):xs=[]∨∀q,a=some q→NP w B q.block:=h.2.imp id (by
 rintro ⟨b,off,rfl,hb,_⟩ q hq
 cases hq
 exact .inl hb)
theorem np_pls {w:World} {a:Option Addr} {xs:List Pl} (B:Nat) (h:Au w a xs):xs=[]∨∀q,a=some q→NP w B q.block:=h.2.imp id (by
 rintro ⟨b,off,rfl,hb,_⟩ q hq
 cases hq
 exact .inl hb)
theorem append_stepI {F:Fence} {n:Nat} {P:Program} {ops:Array Oper} {rest:List Oper} {o:Oper} {a:Act} {Q:Exit→Act→World→Prop} {w:World} (hgd:o.guard=none) (s x:Operand) (t:TypeId)
 (ho:o.op=.call { callee:=.builtin .append,args:=#[s,x],argTypes:=#[t,t] }) (v u v':Value) (w':World) (hs:a.eval s=v) (hx:a.eval x=u)
 (hrun:(Builtin.append_ #[t,t] o.type #[v,u]).run P w=.ok v' w') (h:wpListIn F n P ops Q rest (a.put o.dst v') w'):wpListIn F n P ops Q (o :: rest) a w :=
 wpListIn_plain hgd fun K hK=>by
  unfold Oper.wpIn
  refine ⟨?_,?_⟩
  ·simp [Oper.about,ho,resolve,Target.leads,Sem.run_pure]
  ·rw [Oper.semAt_plain F _ _ (by rw [ho];intro c hc';cases hc')]
   simp [execOp,ho,resolve,invoke,builtin,hs,hx,hrun,Result.andThen]
   exact hK _ _ h
theorem blk_from {β:Type} (B g:Nat) (t:TypeId) (f:β→Array Value):OwnFrom B (fun s W=>Blk W g t (f s)):=fun s X Y row hs hg hr =>
 hs.grown hg (fun e=>by
  obtain ⟨_,o,ho,hc⟩:=hr g e.symm
  rw [show X.heap[g]?=_ from hs] at ho
  cases ho;cases hc)
def fA (y:Wd) (n:Nat):Wr:=⟨0,(n:Int),y.at_.getD n 0,⟨0,0⟩⟩
def fC (y:Wd) (n:Nat):Wr:=⟨1,(n:Int),y.coins.getD n 0,⟨0,0⟩⟩
def fW (y:Wd) (n:Nat):Wr:=⟨2,(n:Int),0,y.wher.getD n ⟨0,0⟩⟩
theorem dif_filter {α:Type} [DecidableEq α] (z:α) {xs ys:List α} (h:ys.length=xs.length):difL xs ys=(List.range xs.length).filter fun n=>!decide (xs.getD n z=ys.getD n z):=by
 unfold difL difTo
 refine List.filter_congr fun n hn=>?_
 have h1:n<xs.length:=List.mem_range.1 hn
 have h2:n<ys.length:=by omega
 simp only [List.getD_eq_getElem?_getD,List.getElem?_eq_getElem h1,List.getElem?_eq_getElem h2,Option.getD_some,Option.some.injEq,decide_not]
theorem from_dif {x y:Wd} (h1:y.at_.length=x.at_.length) (h2:y.coins.length=x.coins.length) (h3:y.wher.length=x.wher.length) :
 ((difL x.at_ y.at_).map (fA y)++(difL x.coins y.coins).map (fC y))++(difL x.wher y.wher).map (fW y)=Ao3 x y:=by
 rw [dif_filter 0 h1,dif_filter 0 h2,dif_filter ⟨0,0⟩ h3,List.append_assoc]
 rfl
theorem snocP {n:Nat} (f:Nat→Wr) (pre:List (Fin n)) (z:Fin n) (L:List Wr):L++((pre++[z]).map Fin.val).map f=(L++(pre.map Fin.val).map f)++[f z.1]:=by simp
set_option maxRecDepth 100000 in
set_option maxHeartbeats 4000000 in
theorem pfrom_any (x y:Wd) (p q:Wp) (w:World) (hp:Ab w p x) (hq:Ab w q y) (hL:Like x y) (n1:x.at_.length≤1000) (n2:x.coins.length≤1000) (n3:x.wher.length≤1000) :
 Calls prog 11 #[.agg (wC x p),.agg (wC y q)] w fun e w'=>FromQ w (Ao3 x y) e w':=by
 have HP:=hid hp
 have HQ:=hid hq
 have L1:=hid hL.al
 have L2:=hid hL.cl
 have L3:=hid hL.wl
 have N1:=hid n1
 have N2:=hid n2
 have N3:=hid n3
 clear hp hq hL n1 n2 n3
 unfold FromQ
 rw [←from_dif L1.out L2.out L3.out]
 refine (callsIn_wide (n:=6)).1 ?_
 refine callsIn_of_wp_marks func11 rfl trivial ?_ rfl
 simp only [ntmps11,List.size_toArray,List.length_cons,List.length_nil,Nat.reduceAdd,Nat.reduceSub,Array.replicate_succ,Array.replicate_zero,List.push_toArray,List.append_toArray,List.nil_append,List.cons_append]
 have hb0:Below w.heap.size w (((w.alloc (.cells (wC x p) 29)).alloc (.cells (wC y q) 29)).alloc (.cells #[.slice none 0 0] 30)):=(((Below.refl _ w).alloc (Nat.le_refl _) _).alloc (by simp) _).alloc (by simp;omega) _
 have k0:=((Blk.new w 29 (wC x p)).alloc (.cells (wC y q) 29)).alloc (.cells #[.slice none 0 0] 30)
 have k1:=(Blk.newn (w.alloc (.cells (wC x p) 29)) 29 (wC y q) (n:=w.heap.size+1) (by simp)).alloc (.cells #[.slice none 0 0] 30)
 have k2:=Blk.newn ((w.alloc (.cells (wC x p) 29)).alloc (.cells (wC y q) 29)) 30 #[.slice none 0 0] (n:=w.heap.size+1+1) (by simp)
 have y0:(((w.alloc (.cells (wC x p) 29)).alloc (.cells (wC y q) 29)).alloc (.cells #[.slice none 0 0] 30)).heap.size=w.heap.size+1+1+1:=by simp
 gi_wp2_with (refine ⟨trivial,?_⟩;gi_at_call 23;refine (callsIn_wide.2 (othi_any _ _ _ _ _ _ _)).mono ?_;rintro e w' ⟨rfl,rfl⟩)
 have cb:=chgW_below (.slice p.at_ x.at_.length p.atc) (.slice q.at_ y.at_.length q.atc) 23 (((w.alloc (.cells (wC x p) 29)).alloc (.cells (wC y q) 29)).alloc (.cells #[.slice none 0 0] 30))
 have ca:=chgW_a (.slice p.at_ x.at_.length p.atc) (.slice q.at_ y.at_.length q.atc) 23 (((w.alloc (.cells (wC x p) 29)).alloc (.cells (wC y q) 29)).alloc (.cells #[.slice none 0 0] 30))
 have cc:=chgW_b (.slice p.at_ x.at_.length p.atc) (.slice q.at_ y.at_.length q.atc) 23 (((w.alloc (.cells (wC x p) 29)).alloc (.cells (wC y q) 29)).alloc (.cells #[.slice none 0 0] 30))
 rw [y0] at ca cc
 have nd:Np w x p y q (w.heap.size+1+1+1) 23 (.slice p.at_ x.at_.length p.atc) (.slice q.at_ y.at_.length q.atc) [] (.slice none 0 0) [] (chgW (.slice p.at_ x.at_.length p.atc) (.slice q.at_ y.at_.length q.atc) 23 (((w.alloc (.cells (wC x p) 29)).alloc (.cells (wC y q) 29)).alloc (.cells #[.slice none 0 0] 30))):=⟨hb0.trans (cb.mono hb0.size),k0.call cb,k1.call cb,k2.call cb,Dt.nil _,ca,cc,by simp⟩
 have hB3:w.heap.size+3≤w.heap.size+1+1+1:=by omega
 generalize chgW (.slice p.at_ x.at_.length p.atc) (.slice q.at_ y.at_.length q.atc) 23 (((w.alloc (.cells (wC x p) 29)).alloc (.cells (wC y q) 29)).alloc (.cells #[.slice none 0 0] 30))=V1 at *
 clear hb0 k0 k1 k2 y0 ca cb cc
 have HB3:=hid hB3
 clear hB3
 have hD:∀D∈([]:List Nat),D<V1.heap.size:=fun D hD=>(Array.getElem?_eq_some_iff.1 (nd.ds D hD)).1
 have HD:=hid hD
 clear hD
 have hbw:=nd.b
 refine wpIn_rangeFunc_ownH rfl (by omega) (gf:=30) (lb:=#[.pointer (some ⟨w.heap.size+1+1+1,0,none⟩),.pointer (some ⟨w.heap.size+1+1+1+1,0,none⟩)]) rfl trivial (enters_of func30 (by kernel_rfl) rfl)
  (othi_stops (6-1) (by omega) (NP w (w.heap.size+1+1+1)) x.at_ y.at_ L1.out _ _ _ _ (w.heap.size+1+1+1) (w.heap.size+1+1+1+1) V1 nd.b1 nd.b2 (.inr (.inl rfl)) (.inr (.inr rfl)) (HP.out.at_.below hbw (Nat.le_refl _)) (HQ.out.at_.below hbw (Nat.le_refl _)) (np_ints _ HP.out.at_) (np_ints _ HQ.out.at_)) KP.trans (fun W l o o' _ hl hc _=>KP.put W l o o' hl hc) (Below.refl _ _) (fun _=>rfl)
  (fun pre W=>∃v,Np w x p y q (w.heap.size+1+1+1) 23 (.slice p.at_ x.at_.length p.atc) (.slice q.at_ y.at_.length q.atc) [] v (([]:List Wr)++(pre.map Fin.val).map (fA y)) W)
  (fun _ _ _=>False)
  (fun s X Y row hs hg hr=>hs.imp fun v h=>h.kept hg hr nd.b.size HD.out)
  (fun _ _ _ _ _ hs _ _=>hs)
  ⟨_,by simpa using nd⟩
  (fun z a' _=>a'={ tmps:=#[.agg (wC x p),.agg (wC y q),.pointer (some ⟨w.heap.size,0,none⟩),.pointer (some ⟨w.heap.size+1,0,none⟩),.slice none 0 0,.pointer (some ⟨w.heap.size+1+1,0,none⟩),.int .i64 (z.1:Int),.int .i64 (y.at_.getD z.1 0),undef,undef,undef,undef,.pointer (some ⟨w.heap.size,8,none⟩),.slice p.at_ x.at_.length p.atc,.pointer (some ⟨w.heap.size+1,8,none⟩),.slice q.at_ y.at_.length q.atc,.func (.func 30) #[] #[.pointer (some ⟨w.heap.size+1+1+1,0,none⟩),.pointer (some ⟨w.heap.size+1+1+1+1,0,none⟩)],.int .i64 (z.1:Int),.int .i64 (y.at_.getD z.1 0),undef,undef,undef,undef,undef,undef,undef,undef,undef,undef,undef,undef,undef,undef,undef,undef,undef,undef,undef,undef,undef,undef,undef,undef,undef,undef,undef,undef,undef,undef,undef,undef,undef],defers:=[] })
  (fun _ _ _ _ _ _ hs _ _=>hs)
  ?assign ?body ?done ?stop
 case assign =>
  rintro l pre z W K hI hK
  gi_wp2
  exact hK _ _ (KeepsFrom.refl _ _) (KP.refl _) hI rfl
 case body =>
  rintro l pre z a' W hl _ ⟨v,nd⟩ rfl hlt
  have ND:=hid nd
  have HLEN:=hid (show (([]:List Wr)++(pre.map Fin.val).map (fA y)).length+1≤1000000 by
   have u1:=difL_len x.at_ y.at_
   have u2:=difL_len x.coins y.coins
   have u3:=difL_len x.wher y.wher
   have u4:=N1.out
   have u5:=N2.out
   have u6:=N3.out
   simp only [List.length_append,List.length_map,List.length_nil] at *;omega)
  have cv:W.cell? ⟨w.heap.size+1+1,0,none⟩=some v:=(nd.hv.cell 0).trans rfl
  have lv:=nd.hv.lt
  obtain ⟨z,hz⟩:=z
  obtain ⟨v',W9,hr,hG,hg⟩:=ND.out.g.one (t:=30) underlying30 wr_info rfl (by decide) (by decide) wrC_len wrC_one (⟨0,(z:Int),y.at_.getD z 0,⟨0,0⟩⟩:Wr) HLEN.out (by have:=ND.out.b2.lt;have:=HB3.out;omega)
  have HR:=hid (show (Builtin.append_ #[30,30] 30 #[v,.slice (some ⟨W.heap.size,0,none⟩) 1 1]).run prog (W.alloc (.cells #[.int .i64 0,.int .i64 (z:Int),.int .i64 (y.at_.getD z 0),.int .i64 0,.int .i64 0] 39))=.ok v' W9 from hr)
  obtain ⟨va,vm,vc,rfl⟩:=hG.form
  have HG:=hid hG
  have HGR:=hid hg
  have cm:=(ND.out.mid HGR.out).cell
  have fm:=(ND.out.mid HGR.out).frozen
  have lm:=(ND.out.mid HGR.out).lt
  clear hr hG hg nd hlt hbw
  dsimp only
  gi_wp2_with (gi_at_builtin;refine append_stepI rfl (.tmp 19) (.tmp 23) 30 rfl _ _ _ W9 rfl rfl HR.out ?_)
  exact ⟨(ND.out.fin (Below.refl _ _) (by decide) HB3.out HGR.out HG.out).1,(ND.out.fin (B0:=0) (Below.refl _ _) (by decide) HB3.out HGR.out HG.out).2.1,.slice va vm vc,by rw [snocP];exact (ND.out.fin (B0:=0) (Below.refl _ _) (by decide) HB3.out HGR.out HG.out).2.2⟩
 case stop =>
  rintro D c pre W _ _ h _
  exact h.elim
 case done =>
  rintro D1 ys W1 hD1 hS ⟨v,nd⟩ hK
  rw [hS,List.nil_append] at nd
  have c0:=nd.h0.cell
  have c1:=nd.h1.cell
  have l0:=nd.h0.lt
  have l1:=nd.h1.lt
  have cv:W1.cell? ⟨w.heap.size+1+1,0,none⟩=some v:=(nd.hv.cell 0).trans rfl
  have lv:=nd.hv.lt
  have OD1:=hid (show w.heap.size≤D1 from Nat.le_trans hbw.size hD1)
  clear hbw
  gi_wp2_with (refine ⟨trivial,?_⟩;gi_at_call 23;refine (callsIn_wide.2 (othi_any _ _ _ _ _ _ _)).mono ?_;rintro e w' ⟨rfl,rfl⟩)
  have cb:=chgW_below (.slice p.co x.coins.length p.coc) (.slice q.co y.coins.length q.coc) 23 W1
  have ca:=chgW_a (.slice p.co x.coins.length p.coc) (.slice q.co y.coins.length q.coc) 23 W1
  have cc:=chgW_b (.slice p.co x.coins.length p.coc) (.slice q.co y.coins.length q.coc) 23 W1
  have hB3:w.heap.size+3≤W1.heap.size:=by have:=nd.b2.lt;have:=HB3.out;omega
  have nx:=nd.call cb
  have hds:∀D∈([D1]:List Nat),(chgW (.slice p.co x.coins.length p.coc) (.slice q.co y.coins.length q.coc) 23 W1).heap[D]?=some (.deferred (some [])):=fun D hD=>by
   rcases List.mem_cons.1 hD with rfl|hD
   ·exact (cb.block _ (Array.getElem?_eq_some_iff.1 hK).1).trans hK
   ·exact nx.ds _ hD
  replace nd:Np w x p y q (W1.heap.size) 23 (.slice p.co x.coins.length p.coc) (.slice q.co y.coins.length q.coc) [D1] v ((difL x.at_ y.at_).map (fA y)) (chgW (.slice p.co x.coins.length p.coc) (.slice q.co y.coins.length q.coc) 23 W1):=⟨nx.b,nx.h0,nx.h1,nx.hv,nx.g,ca,cc,hds⟩
  clear nx hds hK HB3 HD
  generalize chgW (.slice p.co x.coins.length p.coc) (.slice q.co y.coins.length q.coc) 23 W1=V2 at *
  clear ca cb cc c0 c1 l0 l1 cv lv
  have HB3:=hid hB3
  clear hB3
  have hD:∀D∈([D1]:List Nat),D<V2.heap.size:=fun D hD=>(Array.getElem?_eq_some_iff.1 (nd.ds D hD)).1
  have HD:=hid hD
  clear hD
  have hbw:=nd.b
  refine wpIn_rangeFunc_ownH rfl (by omega) (gf:=30) (lb:=#[.pointer (some ⟨W1.heap.size,0,none⟩),.pointer (some ⟨W1.heap.size+1,0,none⟩)]) rfl trivial (enters_of func30 (by kernel_rfl) rfl)
   (othi_stops (6-1) (by omega) (NP w (W1.heap.size)) x.coins y.coins L2.out _ _ _ _ (W1.heap.size) (W1.heap.size+1) V2 nd.b1 nd.b2 (.inr (.inl rfl)) (.inr (.inr rfl)) (HP.out.co.below hbw (Nat.le_refl _)) (HQ.out.co.below hbw (Nat.le_refl _)) (np_ints _ HP.out.co) (np_ints _ HQ.out.co)) KP.trans (fun W l o o' _ hl hc _=>KP.put W l o o' hl hc) (Below.refl _ _) (fun _=>rfl)
   (fun pre W=>∃v,Np w x p y q (W1.heap.size) 23 (.slice p.co x.coins.length p.coc) (.slice q.co y.coins.length q.coc) [D1] v (((difL x.at_ y.at_).map (fA y))++(pre.map Fin.val).map (fC y)) W)
   (fun _ _ _=>False)
   (fun s X Y row hs hg hr=>hs.imp fun v h=>h.kept hg hr nd.b.size HD.out)
   (fun _ _ _ _ _ hs _ _=>hs)
   ⟨_,by simpa using nd⟩
   (fun z a' _=>a'={ tmps:=#[.agg (wC x p),.agg (wC y q),.pointer (some ⟨w.heap.size,0,none⟩),.pointer (some ⟨w.heap.size+1,0,none⟩),.slice none 0 0,.pointer (some ⟨w.heap.size+1+1,0,none⟩),undef,undef,.int .i64 (z.1:Int),.int .i64 (y.coins.getD z.1 0),undef,undef,.pointer (some ⟨w.heap.size,8,none⟩),.slice p.at_ x.at_.length p.atc,.pointer (some ⟨w.heap.size+1,8,none⟩),.slice q.at_ y.at_.length q.atc,.func (.func 30) #[] #[.pointer (some ⟨w.heap.size+1+1+1,0,none⟩),.pointer (some ⟨w.heap.size+1+1+1+1,0,none⟩)],undef,undef,undef,undef,undef,undef,undef,undef,.pointer (some ⟨w.heap.size,9,none⟩),.slice p.co x.coins.length p.coc,.pointer (some ⟨w.heap.size+1,9,none⟩),.slice q.co y.coins.length q.coc,.func (.func 30) #[] #[.pointer (some ⟨W1.heap.size,0,none⟩),.pointer (some ⟨W1.heap.size+1,0,none⟩)],.int .i64 (z.1:Int),.int .i64 (y.coins.getD z.1 0),undef,undef,undef,undef,undef,undef,undef,undef,undef,undef,undef,undef,undef,undef,undef,undef,undef,undef,undef,undef],defers:=[] })
   (fun _ _ _ _ _ _ hs _ _=>hs)
   ?assign ?body ?done ?stop
  case assign =>
   rintro l pre z W K hI hK
   gi_wp2
   exact hK _ _ (KeepsFrom.refl _ _) (KP.refl _) hI rfl
  case body =>
   rintro l pre z a' W hl _ ⟨v,nd⟩ rfl hlt
   have ND:=hid nd
   have HLEN:=hid (show (((difL x.at_ y.at_).map (fA y))++(pre.map Fin.val).map (fC y)).length+1≤1000000 by
    have u1:=difL_len x.at_ y.at_
    have u2:=difL_len x.coins y.coins
    have u3:=difL_len x.wher y.wher
    have u4:=N1.out
    have u5:=N2.out
    have u6:=N3.out
    simp only [List.length_append,List.length_map] at *;omega)
   have cv:W.cell? ⟨w.heap.size+1+1,0,none⟩=some v:=(nd.hv.cell 0).trans rfl
   have lv:=nd.hv.lt
   obtain ⟨z,hz⟩:=z
   obtain ⟨v',W9,hr,hG,hg⟩:=ND.out.g.one (t:=30) underlying30 wr_info rfl (by decide) (by decide) wrC_len wrC_one (⟨1,(z:Int),y.coins.getD z 0,⟨0,0⟩⟩:Wr) HLEN.out (by have:=ND.out.b2.lt;have:=HB3.out;omega)
   have HR:=hid (show (Builtin.append_ #[30,30] 30 #[v,.slice (some ⟨W.heap.size,0,none⟩) 1 1]).run prog (W.alloc (.cells #[.int .i64 1,.int .i64 (z:Int),.int .i64 (y.coins.getD z 0),.int .i64 0,.int .i64 0] 39))=.ok v' W9 from hr)
   obtain ⟨va,vm,vc,rfl⟩:=hG.form
   have HG:=hid hG
   have HGR:=hid hg
   have cm:=(ND.out.mid HGR.out).cell
   have fm:=(ND.out.mid HGR.out).frozen
   have lm:=(ND.out.mid HGR.out).lt
   clear hr hG hg nd hlt hbw
   dsimp only
   gi_wp2_with (gi_at_builtin;refine append_stepI rfl (.tmp 32) (.tmp 36) 30 rfl _ _ _ W9 rfl rfl HR.out ?_)
   exact ⟨(ND.out.fin (Below.refl _ _) (by decide) HB3.out HGR.out HG.out).1,(ND.out.fin (B0:=0) (Below.refl _ _) (by decide) HB3.out HGR.out HG.out).2.1,.slice va vm vc,by rw [snocP];exact (ND.out.fin (B0:=0) (Below.refl _ _) (by decide) HB3.out HGR.out HG.out).2.2⟩
  case stop =>
   rintro D c pre W _ _ h _
   exact h.elim
  case done =>
   rintro D2 ys W2 hD2 hS ⟨v,nd⟩ hK
   rw [hS] at nd
   have c0:=nd.h0.cell
   have c1:=nd.h1.cell
   have l0:=nd.h0.lt
   have l1:=nd.h1.lt
   have cv:W2.cell? ⟨w.heap.size+1+1,0,none⟩=some v:=(nd.hv.cell 0).trans rfl
   have lv:=nd.hv.lt
   have OD2:=hid (show D1<D2 from Nat.lt_of_lt_of_le (HD.out D1 (by simp)) hD2)
   clear hbw
   gi_wp2_with (refine ⟨trivial,?_⟩;gi_at_call 24;refine (callsIn_wide.2 (othp_any _ _ _ _ _ _ _)).mono ?_;rintro e w' ⟨rfl,rfl⟩)
   have cb:=chgW_below (.slice p.wh x.wher.length p.whc) (.slice q.wh y.wher.length q.whc) 27 W2
   have ca:=chgW_a (.slice p.wh x.wher.length p.whc) (.slice q.wh y.wher.length q.whc) 27 W2
   have cc:=chgW_b (.slice p.wh x.wher.length p.whc) (.slice q.wh y.wher.length q.whc) 27 W2
   have hB3:w.heap.size+3≤W2.heap.size:=by have:=nd.b2.lt;have:=HB3.out;omega
   have nx:=nd.call cb
   have hds:∀D∈([D2,D1]:List Nat),(chgW (.slice p.wh x.wher.length p.whc) (.slice q.wh y.wher.length q.whc) 27 W2).heap[D]?=some (.deferred (some [])):=fun D hD=>by
    rcases List.mem_cons.1 hD with rfl|hD
    ·exact (cb.block _ (Array.getElem?_eq_some_iff.1 hK).1).trans hK
    ·exact nx.ds _ hD
   replace nd:Np w x p y q (W2.heap.size) 27 (.slice p.wh x.wher.length p.whc) (.slice q.wh y.wher.length q.whc) [D2,D1] v ((difL x.at_ y.at_).map (fA y)++(difL x.coins y.coins).map (fC y)) (chgW (.slice p.wh x.wher.length p.whc) (.slice q.wh y.wher.length q.whc) 27 W2):=⟨nx.b,nx.h0,nx.h1,nx.hv,nx.g,ca,cc,hds⟩
   clear nx hds hK HB3 HD
   generalize chgW (.slice p.wh x.wher.length p.whc) (.slice q.wh y.wher.length q.whc) 27 W2=V3 at *
   clear ca cb cc c0 c1 l0 l1 cv lv
   have HB3:=hid hB3
   clear hB3
   have hD:∀D∈([D2,D1]:List Nat),D<V3.heap.size:=fun D hD=>(Array.getElem?_eq_some_iff.1 (nd.ds D hD)).1
   have HD:=hid hD
   clear hD
   have hbw:=nd.b
   refine wpIn_rangeFunc_ownH rfl (by omega) (gf:=31) (lb:=#[.pointer (some ⟨W2.heap.size,0,none⟩),.pointer (some ⟨W2.heap.size+1,0,none⟩)]) rfl trivial (enters_of func31 (by kernel_rfl) rfl)
    (othp_stops (6-1) (by omega) (NP w (W2.heap.size)) x.wher y.wher L3.out _ _ _ _ (W2.heap.size) (W2.heap.size+1) V3 nd.b1 nd.b2 (.inr (.inl rfl)) (.inr (.inr rfl)) (HP.out.wh.below hbw (Nat.le_refl _)) (HQ.out.wh.below hbw (Nat.le_refl _)) (np_pls _ HP.out.wh) (np_pls _ HQ.out.wh)) KP.trans (fun W l o o' _ hl hc _=>KP.put W l o o' hl hc) (Below.refl _ _) (fun _=>rfl)
    (fun pre W=>∃v,Np w x p y q (W2.heap.size) 27 (.slice p.wh x.wher.length p.whc) (.slice q.wh y.wher.length q.whc) [D2,D1] v (((difL x.at_ y.at_).map (fA y)++(difL x.coins y.coins).map (fC y))++(pre.map Fin.val).map (fW y)) W)
    (fun _ _ _=>False)
    (fun s X Y row hs hg hr=>hs.imp fun v h=>h.kept hg hr nd.b.size HD.out)
    (fun _ _ _ _ _ hs _ _=>hs)
    ⟨_,by simpa using nd⟩
    (fun z a' W=>∃Bx,W2.heap.size+1<Bx∧Blk W Bx 37 #[.int .i64 (y.wher.getD z.1 ⟨0,0⟩).kind,.int .i64 (y.wher.getD z.1 ⟨0,0⟩).id]∧a'={ tmps:=#[.agg (wC x p),.agg (wC y q),.pointer (some ⟨w.heap.size,0,none⟩),.pointer (some ⟨w.heap.size+1,0,none⟩),.slice none 0 0,.pointer (some ⟨w.heap.size+1+1,0,none⟩),undef,undef,undef,undef,.int .i64 (z.1:Int),.pointer (some ⟨Bx,0,none⟩),.pointer (some ⟨w.heap.size,8,none⟩),.slice p.at_ x.at_.length p.atc,.pointer (some ⟨w.heap.size+1,8,none⟩),.slice q.at_ y.at_.length q.atc,.func (.func 30) #[] #[.pointer (some ⟨w.heap.size+1+1+1,0,none⟩),.pointer (some ⟨w.heap.size+1+1+1+1,0,none⟩)],undef,undef,undef,undef,undef,undef,undef,undef,.pointer (some ⟨w.heap.size,9,none⟩),.slice p.co x.coins.length p.coc,.pointer (some ⟨w.heap.size+1,9,none⟩),.slice q.co y.coins.length q.coc,.func (.func 30) #[] #[.pointer (some ⟨W1.heap.size,0,none⟩),.pointer (some ⟨W1.heap.size+1,0,none⟩)],undef,undef,undef,undef,undef,undef,undef,undef,.pointer (some ⟨w.heap.size,10,none⟩),.slice p.wh x.wher.length p.whc,.pointer (some ⟨w.heap.size+1,10,none⟩),.slice q.wh y.wher.length q.whc,.func (.func 31) #[] #[.pointer (some ⟨W2.heap.size,0,none⟩),.pointer (some ⟨W2.heap.size+1,0,none⟩)],.int .i64 (z.1:Int),.agg #[.int .i64 (y.wher.getD z.1 ⟨0,0⟩).kind,.int .i64 (y.wher.getD z.1 ⟨0,0⟩).id],undef,undef,undef,undef,undef,undef,undef],defers:=[] })
    (fun z a' _ X Y row hs hg hr=>by obtain ⟨Bx,h1,h2,h3⟩:=hs;exact ⟨Bx,h1,blk_from V3.heap.size Bx 37 (fun (_:Unit)=>#[.int .i64 (y.wher.getD z.1 ⟨0,0⟩).kind,.int .i64 (y.wher.getD z.1 ⟨0,0⟩).id]) () X Y row h2 hg hr,h3⟩)
    ?assign ?body ?done ?stop
   case assign =>
    rintro l pre z W K ⟨v,nd⟩ hK
    gi_wp2
    have cb:=(Below.refl W.heap.size W).alloc (Nat.le_refl _) (.cells #[.int .i64 (y.wher.getD z.1 ⟨0,0⟩).kind,.int .i64 (y.wher.getD z.1 ⟨0,0⟩).id] 37)
    exact hK _ _ ((KeepsOthers.alloc _ _).from _) ((KP.refl W).below cb) ⟨v,nd.call cb⟩ ⟨W.heap.size,nd.b2.lt,Blk.new W _ _,rfl⟩
   case body =>
    rintro l pre z a' W hl _ ⟨v,nd⟩ ⟨Bx,hBx,bX,rfl⟩ hlt
    have ND:=hid nd
    have HLEN:=hid (show (((difL x.at_ y.at_).map (fA y)++(difL x.coins y.coins).map (fC y))++(pre.map Fin.val).map (fW y)).length+1≤1000000 by
     have u1:=difL_len x.at_ y.at_
     have u2:=difL_len x.coins y.coins
     have u3:=difL_len x.wher y.wher
     have u4:=N1.out
     have u5:=N2.out
     have u6:=N3.out
     simp only [List.length_append,List.length_map] at *;omega)
    have cv:W.cell? ⟨w.heap.size+1+1,0,none⟩=some v:=(nd.hv.cell 0).trans rfl
    have lv:=nd.hv.lt
    have cX:=bX.cell
    have lX:=bX.lt
    obtain ⟨z,hz⟩:=z
    obtain ⟨v',W9,hr,hG,hg⟩:=ND.out.g.one (t:=30) underlying30 wr_info rfl (by decide) (by decide) wrC_len wrC_one (⟨2,(z:Int),0,y.wher.getD z ⟨0,0⟩⟩:Wr) HLEN.out (by have:=ND.out.b2.lt;have:=HB3.out;omega)
    have HR:=hid (show (Builtin.append_ #[30,30] 30 #[v,.slice (some ⟨W.heap.size,0,none⟩) 1 1]).run prog (W.alloc (.cells #[.int .i64 2,.int .i64 (z:Int),.int .i64 0,.int .i64 (y.wher.getD z ⟨0,0⟩).kind,.int .i64 (y.wher.getD z ⟨0,0⟩).id] 39))=.ok v' W9 from hr)
    obtain ⟨va,vm,vc,rfl⟩:=hG.form
    have HG:=hid hG
    have HGR:=hid hg
    have cm:=(ND.out.mid HGR.out).cell
    have fm:=(ND.out.mid HGR.out).frozen
    have lm:=(ND.out.mid HGR.out).lt
    clear hr hG hg nd hlt hbw bX
    dsimp only
    gi_wp2_with (gi_at_builtin;refine append_stepI rfl (.tmp 45) (.tmp 49) 30 rfl _ _ _ W9 rfl rfl HR.out ?_)
    exact ⟨(ND.out.fin (Below.refl _ _) (by decide) HB3.out HGR.out HG.out).1,(ND.out.fin (B0:=0) (Below.refl _ _) (by decide) HB3.out HGR.out HG.out).2.1,.slice va vm vc,by have h9:=(ND.out.fin (B0:=0) (Below.refl _ _) (by decide) HB3.out HGR.out HG.out).2.2;have e9:=snocP (fW y) pre ⟨z,hz⟩ ((difL x.at_ y.at_).map (fA y)++(difL x.coins y.coins).map (fC y));rw [show (((difL x.at_ y.at_).map (fA y)++(difL x.coins y.coins).map (fC y))++(pre.map Fin.val).map (fW y))++[(⟨2,(z:Int),0,y.wher.getD z ⟨0,0⟩⟩:Wr)]=_ from e9.symm] at h9;simpa using h9⟩
   case stop =>
    rintro D c pre W _ _ h _
    exact h.elim
   case done =>
    rintro D3 ys W3 hD3 hS ⟨v,nd⟩ hK
    rw [hS] at nd
    have OD3:=hid (show D2<D3 from Nat.lt_of_lt_of_le (HD.out D2 (by simp)) hD3)
    obtain ⟨k2,k1,a,c,rfl,hG,hB⟩:=nd.end3 hK OD1.out OD2.out OD3.out
    have HGW:=hid hG
    have HBW:=hid hB
    have cv:W3.cell? ⟨w.heap.size+1+1,0,none⟩=some (.slice a (((difL x.at_ y.at_).map (fA y)++(difL x.coins y.coins).map (fC y))++(difL x.wher y.wher).map (fW y)).length c):=(nd.hv.cell 0).trans rfl
    have lv:=nd.hv.lt
    clear nd hbw hG hB hS
    gi_wp2
    refine ⟨by simp,.inl ⟨_,_,rfl,run_takeDeferred hK,?_⟩⟩
    refine ⟨by simp,.inl ⟨_,_,rfl,run_takeDeferred k2,?_⟩⟩
    refine ⟨by simp,.inl ⟨_,_,rfl,run_takeDeferred k1,?_⟩⟩
    exact ⟨_,results_tmp rfl _ _ _,a,c,by show Ending.returned (.slice a ((difL x.at_ y.at_).length+((difL x.coins y.coins).length+(difL x.wher y.wher).length)) c)=_;simp,HGW.out.wrc,HBW.out⟩
end Go.Proofs.Ytnhkojpbbdaedaa
