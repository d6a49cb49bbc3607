/- token: Cut: a line's words, in new memory. -/
import Derived.Test.YtaeclpjofclbeaaDoorRange
import Derived.Test.YtaeclpjofclbeaaDoorGTokW
namespace Go.Proofs.YtaeclpjofclbeaaDoor
open Go.ChangeShapes Go.WideShapes Go.ChangeAt Go.RowKit Go.Shelf
set_option linter.unusedVariables false
attribute [local go_sem] Oper.semAt_some
def Ar9 (w:World) (s sep:ByteArray):World:=((w.alloc (.cells #[.string s] 9)).alloc (.cells #[.string sep] 9)).alloc (.cells #[.int .i64 0] 3)
theorem Dz1 (s sep:ByteArray) (w:World) :
 Calls Tryd.prog 46 #[.string s,.string sep] w fun e w'=>e=.returned (.func (.func 72) #[] #[.pointer (some ⟨w.heap.size+1,0,none⟩),.pointer (some ⟨w.heap.size,0,none⟩),.pointer (some ⟨w.heap.size+2,0,none⟩)])∧w'=Ar9 w s sep:=by
 go_enter Tryd.func46,Tryd.ntmps46
 go_wp2
 go_ret
 exact ⟨rfl,rfl⟩
theorem Mid.refl (n1 n0:Nat) (W:World):Mid n1 n0 W W:=fun _ _ _=>rfl
def CutI (w:World) (pre:List (List UInt8)) (W:World):Prop :=
 (∃v,Boxed W w.heap.size 22 v∧W.ownsRow (w.heap.size+4) 9 1 v (pre.filter full).length ((pre.filter full).map str)∧True)∧Below w.heap.size w W∧w.heap.size+4≤W.heap.size
theorem Gv5 (w:World) (B:Nat) (hB:w.heap.size≤B):OwnFrom B (CutI w) :=
 (Own.from (holdsRow_own (w.heap.size+4) w.heap.size 22 9 1 (fun pre:List (List UInt8)=>(pre.filter full).length) (fun pre=>(pre.filter full).map str) (fun _ _=>True)) B).and
   ((ownFrom_below (n₀:=w.heap.size) (B:=B) (w₀:=w) lr0 hB).and (fun _ _ _ _ (hs:w.heap.size+4≤_) hg _=>Nat.le_trans hs hg.size))
theorem Gv4 (w:World) (pre:List (List UInt8)) (W:World) (v:Value) (h:CutI w pre W):CutI w pre (W.setCell ⟨w.heap.size+1,0,none⟩ v):=by
 obtain ⟨⟨u,hu,hrow,_⟩,hb,hs⟩:=h
 exact ⟨⟨u,Bj6 hu (by omega),ownsRow_setCell_below hrow (by show w.heap.size+1<_;omega) v,trivial⟩,hb.setCell (by show w.heap.size≤w.heap.size+1;omega) v,by rw [show (W.setCell ⟨w.heap.size+1,0,none⟩ v).heap.size=W.heap.size by simp];exact hs⟩
theorem Gd5 {x:List UInt8} (h:¬x=[]):full x=true:=by cases x with|nil=>exact absurd rfl h|cons a b=>rfl
theorem Cr3 {W w1:World} {B base n:Nat} {v:Value} {xs:List Value} (hv:Boxed W B 22 v) (hr:W.ownsRow base 9 1 v n xs) (b1:Below W.drew.heap.size W.drew w1) :
 Boxed w1 B 22 v∧w1.ownsRow base 9 1 v n xs∧Below W.heap.size W w1:=by
 have b2:Below W.heap.size W w1:=⟨b1.os,b1.tape,b1.output,b1.size,b1.block⟩
 refine ⟨(b2.block B hv.lt).trans hv,?_,b2⟩
 have hg:W.grownBy w1 none:=⟨b2.os,b2.tape,b2.output,b2.size,fun k hk _=>b2.block k hk⟩
 exact hr.kept hg (by cases v.ownBlock<;>simp)
theorem Dv6 {w W w1 w2:World} {pre:List (List UInt8)} {x:List UInt8} {v v':Value} {o:Obj} (hx:¬x=[]) (hv:Boxed W w.heap.size 22 v)
 (hr:W.ownsRow (w.heap.size+4) 9 1 v (pre.filter full).length ((pre.filter full).map str)) (hB:Below w.heap.size w W) (hs:w.heap.size+4≤W.heap.size) (b1:Below W.heap.size W w1)
 (hr1:w1.ownsRow (w.heap.size+4) 9 1 v (pre.filter full).length ((pre.filter full).map str)) (hv1:Boxed w1 w.heap.size 22 v)
 (hg:(w1.alloc o).grownBy w2 v.ownBlock) (hown:w2.ownsRow (w.heap.size+4) 9 1 v' ((pre.filter full).length+1) ((pre.filter full).map str++[.string ⟨x.toArray⟩])) :
 KeepsOthers W (w2.setCell ⟨w.heap.size,0,none⟩ v')∧Mid (w.heap.size+1) (w.heap.size+4) W (w2.setCell ⟨w.heap.size,0,none⟩ v')∧CutI w (pre++[x]) (w2.setCell ⟨w.heap.size,0,none⟩ v'):=by
 have hv2:Boxed w2 w.heap.size 22 v:=(hv1.alloc o).kept hg (hv1.not_row (by decide) hr1)
 have hlt:∀k,v.ownBlock=some k→w.heap.size+4≤k:=fun k e=>(hr1.lt k e).1
 have hb:b1.size=b1.size:=rfl
 have s1:=b1.size
 have s2:w1.heap.size+1≤w2.heap.size:=by have:=hg.size;simpa using this
 have e:(pre++[x]).filter full=pre.filter full++[x]:=by rw [List.filter_append];simp [Gd5 hx]
 refine ⟨?_,?_,⟨v',hv2.set v',?_,trivial⟩,?_,?_⟩
 ·have k1:KeepsOthers W w1:=⟨s1,fun k o' hk _=>(b1.block k (Array.getElem?_eq_some_iff.1 hk).1).trans hk⟩
  refine ((k1.trans (KeepsOthers.alloc w1 o)).trans (KeepsOthers.of_grownBy hg fun j o' ej hj=>?_)).trans (KeepsOthers.setCell _ _ _)
  rcases (hr1.alloc o).2 with ⟨rfl,_⟩|⟨g,cap,cur,rfl,_,hgb,_⟩
  ·simp [Value.ownBlock] at ej
  ·obtain rfl:g=j:=by simpa [Value.ownBlock] using ej
   rw [hgb] at hj;cases hj;rfl
 ·intro b h1 h2
  refine (Below.heap_setCell w2 ⟨w.heap.size,0,none⟩ v' b (by show b≠w.heap.size;omega)).trans ?_
  refine (hg.block b (by simp;omega) (fun e=>?_)).trans ?_
  ·have:=hlt b e.symm;omega
  ·exact (Below.heap_alloc w1 o b (by omega)).trans (b1.block b (by omega))
 ·rw [e]
  have h3:=hown.kept (grownBy_setCell' w2 w.heap.size v') (.inr (hv2.not_row (by decide) hown).symm)
  simpa [str] using h3
 ·refine ((((hB.trans (b1.mono (by omega))).alloc (by have:=hB.size;omega) o).grown hg (by simp;omega) (fun k e=>by have:=hlt k e;omega))).setCell lr0 v'
 ·simp;omega
theorem Ar7 {F:Fence} {n:Nat} {P:Program} {ops:Array Oper} {o:Oper} {a:Act} {w:World} {K:Act→World→Prop} {Q:Exit→Act→World→Prop} {E:Prop}
 (hg:o.guard=none) (s x:Operand) (t:TypeId) (hop:o.op=Op.call { callee:=Callee.builtin Builtin.append,args:=#[s,x],argTypes:=#[t,t] })
 (v v':Value) (w':World) (ad:Addr) (m c:Nat) (hs:a.eval s=v) (hx:a.eval x=.slice (some ad) m c) (hrun:(Builtin.append_ #[t,t] o.type #[v,.slice (some ad) m c]).run P w=.ok v' w')
 (hK:K (a.put o.dst v') w'):if Region.wanted o (yielded ops a.tmps)=true then Oper.wpIn F n P o a w K Q else E:=by
 rw [if_pos (by simp [Region.wanted,hg])]
 unfold Oper.wpIn
 refine ⟨?_,?_⟩
 ·simp [Oper.about,hop,resolve,Target.leads,Sem.run_pure]
 ·rw [Oper.semAt_plain F _ _ (by rw [hop];intro c hc';cases hc')]
  simp [execOp,hop,resolve,invoke,builtin,hs,hx,hrun,Result.andThen]
  exact hK
theorem full_yes2 {x:List UInt8} (h:x≠[]):full x=true:=by cases x with|nil=>exact absurd rfl h|cons a b=>rfl
set_option maxRecDepth 100000 in
set_option maxHeartbeats 2000000 in
theorem Ec9 (s:ByteArray) (w:World) (hs:s.size≤1000000):Calls Tryd.prog 42 #[.string s] w (Cj5 (Aq s.data.toList) w):=by
 refine (callsIn_wide (n:=6)).1 ?_
 refine callsIn_of_wp_marks Tryd.func42 rfl trivial ?_ rfl
 simp only [Tryd.ntmps42,List.size_toArray,List.length_cons,List.length_nil,Nat.reduceAdd,Nat.reduceSub,Array.replicate_succ,Array.replicate_zero,List.push_toArray,List.append_toArray,List.nil_append,List.cons_append]
 gi_wp2_with (refine ⟨trivial,?_⟩;gi_at_call 46;refine (callsIn_wide.2 (Dz1 _ _ _)).mono ?_;rintro e w' ⟨rfl,rfl⟩)
 obtain ⟨V,hV⟩:∃V,V=Ar9 (w.alloc (.cells #[.slice none 0 0] 22)) s ⟨#[32]⟩:=⟨_,rfl⟩
 have hsz:V.heap.size=w.heap.size+4:=by rw [hV];simp [Ar9]
 have hBel:Below w.heap.size w V:=by rw [hV];exact ((((Below.refl _ w).alloc lr0 _).alloc (by simp) _).alloc (by simp;omega) _).alloc (by simp;omega) _
 have bW:Boxed V w.heap.size 22 (.slice none 0 0):=by rw [hV];exact (((Boxed.new w _ _).alloc _).alloc _).alloc _
 have bS:Boxed V (w.heap.size+1) 9 (str s.data.toList):=by
  rw [hV,←Dm4];have:=((Boxed.new (w.alloc (.cells #[.slice none 0 0] 22)) 9 (.string s)).alloc (.cells #[.string ⟨#[32]⟩] 9)).alloc (.cells #[.int .i64 0] 3)
  simpa [Ar9] using this
 have bP:Boxed V (w.heap.size+1+1) 9 (.string ⟨#[32]⟩):=by
  rw [hV];have:=(Boxed.new ((w.alloc (.cells #[.slice none 0 0] 22)).alloc (.cells #[.string s] 9)) 9 (.string ⟨#[32]⟩)).alloc (.cells #[.int .i64 0] 3)
  simpa [Ar9] using this
 have bZ:Boxed V (w.heap.size+1+2) 3 (.int .i64 0):=by
  rw [hV];have:=Boxed.new (((w.alloc (.cells #[.slice none 0 0] 22)).alloc (.cells #[.string s] 9)).alloc (.cells #[.string ⟨#[32]⟩] 9)) 3 (.int .i64 0)
  simpa [Ar9,Nat.add_assoc] using this
 rw [←hV]
 clear hV
 obtain ⟨i0,hi0,hz0,hz1,hz2⟩:=info_parts Ab3
 refine Fg7 (by omega) (w.heap.size+1) (w.heap.size+4) s.data.toList.length (w.heap.size+1) (by omega) (by omega) (cuts s.data.toList) (gf:=72) (lb:=#[.pointer (some ⟨w.heap.size+1+1,0,none⟩),.pointer (some ⟨w.heap.size+1,0,none⟩),.pointer (some ⟨w.heap.size+1+2,0,none⟩)]) rfl (enters_of Tryd.func72 (by kernel_rfl) rfl) rfl
  (fun l J W hb hR hst h0=>Gk8 _ l (w.heap.size+1) (w.heap.size+4) (w.heap.size+1) (w.heap.size+1+1) (w.heap.size+1+2) s.data.toList J (by omega) (by rw [Fx];omega) hR hst (by omega) (by omega) (by omega) (by omega) (by omega) W
    ((hb.block _ (by omega)).trans bS) ((hb.block _ (by omega)).trans bP) ((hb.block _ (by omega)).trans bZ) h0)
  (CutI w) (Gv5 w V.heap.size (by omega)) (Gv4 w)
  ⟨⟨_,bW,World.ownsRow_nil _ _ _ _,trivial⟩,hBel,by omega⟩
  (fun x=>{ tmps:=#[.string s,undef,.slice none 0 0,.pointer (some ⟨w.heap.size,0,none⟩),str x,.string s,.func (.func 72) #[] #[.pointer (some ⟨w.heap.size+1+1,0,none⟩),.pointer (some ⟨w.heap.size+1,0,none⟩),.pointer (some ⟨w.heap.size+1+2,0,none⟩)],str x,undef,undef,undef,undef,undef,undef,undef,undef],defers:=[] }) ?assign ?body ?done
 case assign =>
  intro l x W K hK
  gi_wp2
  exact hK
 case body =>
  rintro l pre x W ⟨⟨v,hv,hrow,_⟩,hB,hW⟩ hN1 hN2
  rw [Fx] at hN1 hN2
  by_cases hx:x=[]
  ·subst hx
   unfold str
   gi_wp2
   exact ⟨KeepsOthers.refl _,Mid.refl _ _ _,⟨v,hv,by simpa [full] using hrow,trivial⟩,hB,hW⟩
  ·have hne:(x==[])=false:=by simpa using hx
   have hc:=hv.cell
   have hfr:=hv.frozen
   have HV:=hid hv
   have HROW:=hid hrow
   have HB:=hid hB
   have HW:=hid hW
   have HX:=hid hx
   clear hv hrow hB hW hx
   have hfl:(pre.filter full).length≤pre.length:=List.length_filter_le _ _
   have HL1:=hid (show (pre.filter full).length+1≤maxLen by unfold maxLen;omega)
   have HL2:=hid (show ((pre.filter full).length+1)*16≤140737488355328 by omega)
   have hmx:Tryd.prog.follows .mixedOrders=true:=by kernel_rfl
   unfold str
   gi_wp2
   refine wpIn_region_any hmx ?_
   change wpAnyIn _ _ _ _ _ _ _ _ _ (World.drew _)
   refine wpAnyIn_ready (rs:=[0,1]) (by kernel_rfl) (by simp) ?_
   refine AllReadyIn.cons rfl (fun K hK=>?_) (AllReadyIn.cons rfl (fun K hK=>?_) AllReadyIn.nil)
   ·
    go_simp
    refine hK _ _ ?_
    clear hK K
    refine wpAnyIn_ready (rs:=[1]) (by kernel_rfl) (by simp) ?_
    refine AllReadyIn.cons rfl (fun K hK=>?_) AllReadyIn.nil
    go_simp
    refine hK _ _ ?_
    clear hK K
    refine wpAnyIn_ready (rs:=[2]) (by kernel_rfl) (by simp) ?_
    refine AllReadyIn.cons rfl (fun K hK=>?_) AllReadyIn.nil
    go_simp
    refine ⟨trivial,?_⟩
    refine (CallsIn.inRound l (callsIn_wide.2 (Ba9 ⟨x.toArray⟩ _ (by simp [ByteArray.size];omega)))).mono ?_
    rintro e w1 ⟨rfl,b1⟩
    obtain ⟨hv1,hr1,b2⟩:=Cr3 HV.out HROW.out b1
    have hc1:=hv1.cell
    have hf1:=hv1.frozen
    have hcn:=(hv1.alloc (.cells #[.string ⟨x.toArray⟩] 9)).cell
    refine hK _ _ ?_
    clear hK K
    refine wpAnyIn_ready (rs:=[3]) (by kernel_rfl) (by simp) ?_
    refine AllReadyIn.cons rfl (fun K hK=>?_) AllReadyIn.nil
    go_simp
    refine hK _ _ ?_
    clear hK K
    refine wpAnyIn_ready (rs:=[4]) (by kernel_rfl) (by simp) ?_
    refine AllReadyIn.cons rfl (fun K hK=>?_) AllReadyIn.nil
    obtain ⟨v',w2,hrun,hown',hgrow,-⟩:=run_append_own (P:=Tryd.prog) (w1.alloc (.cells #[.string ⟨x.toArray⟩] 9)) (w.heap.size+4) 22 22 9 i0 (.string ⟨#[]⟩) 1 16 Tryd.underlying22 hi0 hz0 hz1 hz2 rfl (by decide) v _ _ (hr1.alloc _) ⟨w1.heap.size,0,none⟩ 1 1 [.string ⟨x.toArray⟩] rfl (Ck5 _ _ _) (Bn4 _ rfl) HL1.out HL2.out (by have:=b2.size;have:=HW.out;simp;omega)
    obtain ⟨g',cap',rfl⟩:=ownsRow_succ hown'
    refine Ar7 rfl (.tmp 10) (.tmp 13) 22 rfl v _ w2 ⟨w1.heap.size,0,none⟩ 1 1 rfl rfl hrun ?_
    have hv2:=(hv1.alloc (.cells #[.string ⟨x.toArray⟩] 9)).kept hgrow (hv1.not_row (by decide) hr1)
    have hc2:=hv2.cell
    have hf2:=hv2.frozen
    have hstep:=hid (Dv6 HX.out HV.out HROW.out HB.out HW.out b2 hr1 hv1 hgrow hown')
    clear hv1 hr1 b2 hown' hgrow hv2 b1 hrun
    refine hK _ _ ?_
    clear hK K
    refine wpAnyIn_ready (rs:=[5]) (by kernel_rfl) (by simp) ?_
    refine AllReadyIn.cons rfl (fun K hK=>?_) AllReadyIn.nil
    go_simp
    refine hK _ _ ?_
    clear hK K
    refine wpAnyIn_done (by kernel_rfl) ?_ _
    gi_wp2
    exact hstep.out
   ·
    go_simp
    refine hK _ _ ?_
    clear hK K
    refine wpAnyIn_ready (rs:=[0,2]) (by kernel_rfl) (by simp) ?_
    refine AllReadyIn.cons rfl (fun K hK=>?_) (AllReadyIn.cons rfl (fun K hK=>?_) AllReadyIn.nil)
    ·
     go_simp
     refine hK _ _ ?_
     clear hK K
     refine wpAnyIn_ready (rs:=[2]) (by kernel_rfl) (by simp) ?_
     refine AllReadyIn.cons rfl (fun K hK=>?_) AllReadyIn.nil
     go_simp
     refine ⟨trivial,?_⟩
     refine (CallsIn.inRound l (callsIn_wide.2 (Ba9 ⟨x.toArray⟩ _ (by simp [ByteArray.size];omega)))).mono ?_
     rintro e w1 ⟨rfl,b1⟩
     obtain ⟨hv1,hr1,b2⟩:=Cr3 HV.out HROW.out b1
     have hc1:=hv1.cell
     have hf1:=hv1.frozen
     have hcn:=(hv1.alloc (.cells #[.string ⟨x.toArray⟩] 9)).cell
     refine hK _ _ ?_
     clear hK K
     refine wpAnyIn_ready (rs:=[3]) (by kernel_rfl) (by simp) ?_
     refine AllReadyIn.cons rfl (fun K hK=>?_) AllReadyIn.nil
     go_simp
     refine hK _ _ ?_
     clear hK K
     refine wpAnyIn_ready (rs:=[4]) (by kernel_rfl) (by simp) ?_
     refine AllReadyIn.cons rfl (fun K hK=>?_) AllReadyIn.nil
     obtain ⟨v',w2,hrun,hown',hgrow,-⟩:=run_append_own (P:=Tryd.prog) (w1.alloc (.cells #[.string ⟨x.toArray⟩] 9)) (w.heap.size+4) 22 22 9 i0 (.string ⟨#[]⟩) 1 16 Tryd.underlying22 hi0 hz0 hz1 hz2 rfl (by decide) v _ _ (hr1.alloc _) ⟨w1.heap.size,0,none⟩ 1 1 [.string ⟨x.toArray⟩] rfl (Ck5 _ _ _) (Bn4 _ rfl) HL1.out HL2.out (by have:=b2.size;have:=HW.out;simp;omega)
     obtain ⟨g',cap',rfl⟩:=ownsRow_succ hown'
     refine Ar7 rfl (.tmp 10) (.tmp 13) 22 rfl v _ w2 ⟨w1.heap.size,0,none⟩ 1 1 rfl rfl hrun ?_
     have hv2:=(hv1.alloc (.cells #[.string ⟨x.toArray⟩] 9)).kept hgrow (hv1.not_row (by decide) hr1)
     have hc2:=hv2.cell
     have hf2:=hv2.frozen
     have hstep:=hid (Dv6 HX.out HV.out HROW.out HB.out HW.out b2 hr1 hv1 hgrow hown')
     clear hv1 hr1 b2 hown' hgrow hv2 b1 hrun
     refine hK _ _ ?_
     clear hK K
     refine wpAnyIn_ready (rs:=[5]) (by kernel_rfl) (by simp) ?_
     refine AllReadyIn.cons rfl (fun K hK=>?_) AllReadyIn.nil
     go_simp
     refine hK _ _ ?_
     clear hK K
     refine wpAnyIn_done (by kernel_rfl) ?_ _
     gi_wp2
     exact hstep.out
    ·
     go_simp
     refine ⟨trivial,?_⟩
     refine (CallsIn.inRound l (callsIn_wide.2 (Ba9 ⟨x.toArray⟩ _ (by simp [ByteArray.size];omega)))).mono ?_
     rintro e w1 ⟨rfl,b1⟩
     obtain ⟨hv1,hr1,b2⟩:=Cr3 HV.out HROW.out b1
     have hc1:=hv1.cell
     have hf1:=hv1.frozen
     have hcn:=(hv1.alloc (.cells #[.string ⟨x.toArray⟩] 9)).cell
     refine hK _ _ ?_
     clear hK K
     refine wpAnyIn_ready (rs:=[0,3]) (by kernel_rfl) (by simp) ?_
     refine AllReadyIn.cons rfl (fun K hK=>?_) (AllReadyIn.cons rfl (fun K hK=>?_) AllReadyIn.nil)
     ·
      go_simp
      refine hK _ _ ?_
      clear hK K
      refine wpAnyIn_ready (rs:=[3]) (by kernel_rfl) (by simp) ?_
      refine AllReadyIn.cons rfl (fun K hK=>?_) AllReadyIn.nil
      go_simp
      refine hK _ _ ?_
      clear hK K
      refine wpAnyIn_ready (rs:=[4]) (by kernel_rfl) (by simp) ?_
      refine AllReadyIn.cons rfl (fun K hK=>?_) AllReadyIn.nil
      obtain ⟨v',w2,hrun,hown',hgrow,-⟩:=run_append_own (P:=Tryd.prog) (w1.alloc (.cells #[.string ⟨x.toArray⟩] 9)) (w.heap.size+4) 22 22 9 i0 (.string ⟨#[]⟩) 1 16 Tryd.underlying22 hi0 hz0 hz1 hz2 rfl (by decide) v _ _ (hr1.alloc _) ⟨w1.heap.size,0,none⟩ 1 1 [.string ⟨x.toArray⟩] rfl (Ck5 _ _ _) (Bn4 _ rfl) HL1.out HL2.out (by have:=b2.size;have:=HW.out;simp;omega)
      obtain ⟨g',cap',rfl⟩:=ownsRow_succ hown'
      refine Ar7 rfl (.tmp 10) (.tmp 13) 22 rfl v _ w2 ⟨w1.heap.size,0,none⟩ 1 1 rfl rfl hrun ?_
      have hv2:=(hv1.alloc (.cells #[.string ⟨x.toArray⟩] 9)).kept hgrow (hv1.not_row (by decide) hr1)
      have hc2:=hv2.cell
      have hf2:=hv2.frozen
      have hstep:=hid (Dv6 HX.out HV.out HROW.out HB.out HW.out b2 hr1 hv1 hgrow hown')
      clear hv1 hr1 b2 hown' hgrow hv2 b1 hrun
      refine hK _ _ ?_
      clear hK K
      refine wpAnyIn_ready (rs:=[5]) (by kernel_rfl) (by simp) ?_
      refine AllReadyIn.cons rfl (fun K hK=>?_) AllReadyIn.nil
      go_simp
      refine hK _ _ ?_
      clear hK K
      refine wpAnyIn_done (by kernel_rfl) ?_ _
      gi_wp2
      exact hstep.out
     ·
      go_simp
      refine hK _ _ ?_
      clear hK K
      refine wpAnyIn_ready (rs:=[0]) (by kernel_rfl) (by simp) ?_
      refine AllReadyIn.cons rfl (fun K hK=>?_) AllReadyIn.nil
      go_simp
      refine hK _ _ ?_
      clear hK K
      refine wpAnyIn_ready (rs:=[4]) (by kernel_rfl) (by simp) ?_
      refine AllReadyIn.cons rfl (fun K hK=>?_) AllReadyIn.nil
      obtain ⟨v',w2,hrun,hown',hgrow,-⟩:=run_append_own (P:=Tryd.prog) (w1.alloc (.cells #[.string ⟨x.toArray⟩] 9)) (w.heap.size+4) 22 22 9 i0 (.string ⟨#[]⟩) 1 16 Tryd.underlying22 hi0 hz0 hz1 hz2 rfl (by decide) v _ _ (hr1.alloc _) ⟨w1.heap.size,0,none⟩ 1 1 [.string ⟨x.toArray⟩] rfl (Ck5 _ _ _) (Bn4 _ rfl) HL1.out HL2.out (by have:=b2.size;have:=HW.out;simp;omega)
      obtain ⟨g',cap',rfl⟩:=ownsRow_succ hown'
      refine Ar7 rfl (.tmp 10) (.tmp 13) 22 rfl v _ w2 ⟨w1.heap.size,0,none⟩ 1 1 rfl rfl hrun ?_
      have hv2:=(hv1.alloc (.cells #[.string ⟨x.toArray⟩] 9)).kept hgrow (hv1.not_row (by decide) hr1)
      have hc2:=hv2.cell
      have hf2:=hv2.frozen
      have hstep:=hid (Dv6 HX.out HV.out HROW.out HB.out HW.out b2 hr1 hv1 hgrow hown')
      clear hv1 hr1 b2 hown' hgrow hv2 b1 hrun
      refine hK _ _ ?_
      clear hK K
      refine wpAnyIn_ready (rs:=[5]) (by kernel_rfl) (by simp) ?_
      refine AllReadyIn.cons rfl (fun K hK=>?_) AllReadyIn.nil
      go_simp
      refine hK _ _ ?_
      clear hK K
      refine wpAnyIn_done (by kernel_rfl) ?_ _
      gi_wp2
      exact hstep.out
 case done =>
  rintro D W hD ⟨⟨v,hv,hrow,_⟩,hB,hW⟩ hK
  have hc:=hv.cell
  have HROW:=hid hrow
  have HB:=hid hB
  have HV:=hid hv
  clear hrow hB hv
  have hwl:=Xq s.data.toList
  rw [Fx] at hwl
  gi_wp2
  refine ⟨by simp,.inl ⟨_,_,rfl,run_takeDeferred hK,?_⟩⟩
  exact ⟨_,results_tmp rfl _ _ _,v,rfl,Dy9 (ownsRow_putObj HROW.out _ hK rfl) (by show (Aq s.data.toList).length≤maxLen;unfold maxLen;omega),HB.trans (belowK_b (w:=w) lr0 W D _ _ (by omega) hK rfl rfl)⟩
theorem Zd (s:ByteArray) (w:World) (hs:s.size≤1000000):Calls Tryd.prog 42 #[.string s] w (Jk (Aq s.data.toList) w):=(Ec9 s w hs).mono fun _ _ ⟨v,e,h,b⟩=>⟨v,e,h.1,b⟩
end Go.Proofs.YtaeclpjofclbeaaDoor
