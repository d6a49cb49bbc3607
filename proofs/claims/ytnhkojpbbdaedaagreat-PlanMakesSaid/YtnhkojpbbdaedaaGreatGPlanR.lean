/- What the rounds of a range over a function keep; two boxes of a closure. -/
import Derived.RangeFuncNested
import Derived.Test.YtnhkojpbbdaedaaGreatGTreeL
import Derived.StillTailTactics
import Derived.OrdersIn
import Derived.TacticsIn
namespace Go.Proofs.YtnhkojpbbdaedaaGreat
open Go.ChangeShapes Go.WideShapes Go.ChangeAt Go.RowKit
set_option linter.unusedVariables false
section
def KP (N:Nat→Prop) (W W':World):Prop:=W.heap.size≤W'.heap.size∧∀b cs t f,N b→W.heap[b]?=some (.cells cs t f)→W'.heap[b]?=some (.cells cs t f)
section
variable {N:Nat→Prop} {A B C:World}
theorem KP.refl (W:World):KP N W W:=⟨Nat.le_refl _,fun _ _ _ _ _ h=>h⟩
theorem KP.trans (h:KP N A B) (k:KP N B C):KP N A C:=⟨Nat.le_trans h.1 k.1,fun b cs t f hn hb=>k.2 b cs t f hn (h.2 b cs t f hn hb)⟩
theorem KP.grown {row:Option Nat} (h:KP N A B) (hg:B.grownBy C row) (hr:∀b,row=some b→¬N b):KP N A C :=
 ⟨Nat.le_trans h.1 hg.size,fun b cs t f hn hb=>by
   have h2:=h.2 b cs t f hn hb
   exact (hg.block b (Array.getElem?_eq_some_iff.1 h2).1 (fun e=>hr b e.symm hn)).trans h2⟩
theorem KP.set (h:KP N A B) {bS:Nat} (hS:¬N bS) (i:Nat) (v:Value):KP N A (B.setCell ⟨bS,i,none⟩ v) :=
 ⟨by have:=h.1;simp [World.setCell];omega,fun b cs t f hn hb=>(Below.heap_setCell B ⟨bS,i,none⟩ v b (fun e=>hS (by subst e;exact hn))).trans (h.2 b cs t f hn hb)⟩
theorem KP.put (W:World) (l:Nat) (o o':Obj) (h:W.heap[l]?=some o) (hc:o.isCells=false):KP N W (W.putObj l o') :=
 ⟨by simp [World.putObj],fun b cs t f _ hb=>by
   have:b≠l:=fun e=>by subst e;rw [h] at hb;cases hb;cases hc
   exact (World.putObj_heap_other this).trans hb⟩
theorem KP.below (h:KP N A B) (hb:Below B.heap.size B C):KP N A C:=⟨Nat.le_trans h.1 hb.size,fun b cs t f hn hh=>by have h2:=h.2 b cs t f hn hh;exact (hb.block b (Array.getElem?_eq_some_iff.1 h2).1).trans h2⟩
theorem KP.cell (h:KP N A B) {p:Addr} {v:Value} (hp:N p.block) (hs:p.spot=none) (hc:A.cell? p=some v):B.cell? p=some v:=by
 obtain ⟨b,o,s⟩:=p
 simp only at hs hp
 subst hs
 unfold World.cell? at hc ⊢
 simp only at hc ⊢
 cases hb:A.heap[b]? with
 | none=>rw [hb] at hc;cases hc
 | some ob =>
   rw [hb] at hc
   cases ob with
   | cells cs t f=>rw [h.2 b cs t f hp hb];exact hc
   | _=>cases hc
theorem KP.blk (h:KP N A B) {g:Nat} {t:TypeId} {cs:Array Value} (hg:N g) (hb:Blk A g t cs):Blk B g t cs:=h.2 g cs t (0,0) hg hb
theorem KP.ints (h:KP N A B) {a:Option Addr} {xs:List Int} (hx:Ae A a xs) (ha:xs=[]∨∀q,a=some q→N q.block):Ae B a xs:=by
 refine ⟨hx.1,?_⟩
 rcases ha with h0|ha
 ·exact .inl h0
 refine hx.2.imp id ?_
 rintro ⟨b,off,rfl,hb,hc⟩
 exact ⟨b,off,rfl,Nat.lt_of_lt_of_le hb h.1,fun i hi=>h.cell (p:=⟨b,off+i,none⟩) (ha ⟨b,off,none⟩ rfl) rfl (hc i hi)⟩
theorem KP.pls (h:KP N A B) {a:Option Addr} {xs:List Pl} (hx:Au A a xs) (ha:xs=[]∨∀q,a=some q→N q.block):Au B a xs:=by
 refine ⟨hx.1,?_⟩
 rcases ha with h0|ha
 ·exact .inl h0
 refine hx.2.imp id ?_
 rintro ⟨b,off,rfl,hb,hc⟩
 refine ⟨b,off,rfl,Nat.lt_of_lt_of_le hb h.1,fun i hi j hj=>?_⟩
 have h1:=hc i hi j hj
 have h2:j<(plC xs[i]).length:=by simp [plC];omega
 rw [List.getElem?_eq_getElem h2] at h1 ⊢
 exact h.cell (p:=⟨b,off+i*2+j,none⟩) (ha ⟨b,off,none⟩ rfl) rfl h1
end
def chgW (a b:Value) (t:TypeId) (w:World):World:=(w.alloc (.cells #[a] t)).alloc (.cells #[b] t)
theorem chgW_size (a b:Value) (t:TypeId) (w:World):(chgW a b t w).heap.size=w.heap.size+2:=by simp [chgW]
theorem chgW_below (a b:Value) (t:TypeId) (w:World):Below w.heap.size w (chgW a b t w):=((Below.refl _ w).alloc (Nat.le_refl _) _).alloc (by simp) _
theorem chgW_a (a b:Value) (t:TypeId) (w:World):Blk (chgW a b t w) w.heap.size t #[a]:=(Blk.new w _ _).alloc _
theorem chgW_b (a b:Value) (t:TypeId) (w:World):Blk (chgW a b t w) (w.heap.size+1) t #[b]:=Blk.newn _ _ _ (by simp)
theorem Cp7 (W:World) (n:Nat):W.grownBy (W.drewN n) none:=⟨rfl,rfl,rfl,Nat.le_refl _,fun _ _ _=>rfl⟩
end
section
open Go.RowKit Go
theorem fstep_append {P:Program} {ops:Array Oper} {o:Oper} {a:Act} {w:World} {K:Act→World→Prop} {Q:Exit→Act→World→Prop} {E:Prop}
 (hg:o.guard=none) (s x:Operand) (t:TypeId) (hop:o.op=Op.call { callee:=Callee.builtin Builtin.append,args:=#[s,x],argTypes:=#[t,t] })
 (v u v':Value) (w':World) (hs:a.eval s=v) (hx:a.eval x=u) (hrun:(Builtin.append_ #[t,t] o.type #[v,u]).run P w=.ok v' w')
 (hK:K (a.put o.dst v') w'):if Region.wanted o (yielded ops a.tmps)=true then Oper.wp P o a w K Q else E:=by
 rw [if_pos (by simp [Region.wanted,hg])]
 unfold Oper.wp
 simp [execOp,hop,resolve,invoke,builtin,hs,hx,hrun,Result.andThen]
 exact hK
theorem flat_size {α β:Type} {k:Nat} {enc:α→List β} (he:∀x,(enc x).length=k) (l:List α):(l.flatMap enc).length=l.length*k:=by
 induction l with
 | nil=>simp
 | cons a l ih=>rw [List.flatMap_cons,List.length_append,ih,he,List.length_cons,Nat.add_mul];omega
section
variable {α:Type} {P:Program} {W W':World} {k n:Nat} {e:TypeId} {enc:α→List Value} {v:Value} {xs:List α}
theorem Dt.many {t:TypeId} {bytes:Nat} {z:Value} (hu:P.underlying t=some (.slice e)) (hinfo:(P.info? e).map (fun i=>(i.zero,i.size,i.bytes))=some (some z,k,bytes))
 (hz:z.cells.size=k) (hk:0<k) (hby:bytes≤64) (he:∀x,(enc x).length=k) (hone:∀x,∀u∈enc x,u.oneCell'=true) (h:Dt k e enc n W v xs) (ys:List α) (hl:xs.length+ys.length≤1000000) (hb:n≤W.heap.size) :
 ∃v' W',(Builtin.append_ #[t,t] t #[v,.slice (some ⟨W.heap.size,0,none⟩) ys.length ys.length]).run P (W.alloc (.cells (ys.flatMap enc).toArray e))=.ok v' W'∧Dt k e enc n W' v' (xs++ys)∧W.grownBy W' v.ownBlock:=by
 obtain ⟨i0,hi0,hz0,hz1,hz2⟩:=info_parts hinfo
 obtain ⟨v',W',hr,h1,h2,-,h4⟩:=run_append_own_at (P:=P) (W.alloc (.cells (ys.flatMap enc).toArray e)) n t t e i0 z k bytes hu hi0 hz0 hz1 hz2 hz hk v xs.length (xs.flatMap enc) (World.ownsRow.kept h (World.grownBy_alloc W _ none) (by cases v.ownBlock<;>simp)) ⟨W.heap.size,0,none⟩ ys.length ys.length (ys.flatMap enc) (flat_size he ys)
  (fun j u hj=>by
    have e:((⟨W.heap.size,0,none⟩:Addr).add j)=⟨W.heap.size,j,none⟩:=by by_cases h0:j=0<;>simp [Addr.add,h0]
    rw [e,World.cell?_alloc_at _ _ _ _ rfl]
    simpa using hj) (fun u hu=>by rw [List.mem_flatMap] at hu;obtain ⟨x,_,hx⟩:=hu;exact hone x u hx) (by unfold maxLen;omega) (Nat.le_trans (Nat.mul_le_mul hl hby) (by decide)) (by simp;omega)
 refine ⟨v',W',hr,?_,Vs (World.grownBy_alloc W _ v.ownBlock) h2 (.inl rfl)⟩
 unfold Dt
 rw [List.length_append,List.flatMap_append]
 exact h1
theorem Dt.form (h:Dt k e enc n W v xs):∃a m c,v=.slice a m c:=by
 rcases h.2 with ⟨rfl,h0⟩|⟨q,c,cur,rfl,hq,hh,_⟩
 ·exact ⟨_,_,_,rfl⟩
 ·exact ⟨_,_,_,rfl⟩
theorem Dt.block (h:Dt k e enc n W v xs) {g:Nat} (hg:v.ownBlock=some g):n≤g∧∃cur,Blk W g e cur:=by
 rcases h.2 with ⟨rfl,h0⟩|⟨q,c,cur,rfl,hq,hh,_⟩
 ·simp [Value.ownBlock] at hg
 ·simp only [Value.ownBlock,Option.some.injEq] at hg
  subst hg
  exact ⟨hq,cur,hh⟩
theorem Dt.apart_ty (h:Dt k e enc n W v xs) {g:Nat} {t:TypeId} {cs:Array Value} (hb:Blk W g t cs) (ht:t≠e):some g≠v.ownBlock:=fun hc=>by
 obtain ⟨_,cur,hh⟩:=h.block hc.symm
 unfold Blk at hb hh
 rw [hb] at hh
 simp only [Option.some.injEq,Obj.cells.injEq] at hh
 exact ht hh.2.1
theorem Dt.apart_ob (h:Dt k e enc n W v xs) {g:Nat} {o:Obj} (hb:W.heap[g]?=some o) (ho:o.isCells=false):some g≠v.ownBlock:=fun hc=>by
 obtain ⟨_,cur,hh⟩:=h.block hc.symm
 unfold Blk at hh
 rw [hb] at hh
 cases hh
 cases ho
theorem Dt.grown (h:Dt k e enc n W v xs) {row:Option Nat} (hg:W.grownBy W' row) (hr:∀r,row=some r→v.ownBlock≠some r):Dt k e enc n W' v xs :=
 World.ownsRow.kept h hg (by
  cases hv:v.ownBlock with
  | none=>exact .inl rfl
  | some g=>exact .inr (fun e=>hr g e.symm hv))
end
theorem keeps_call {W W':World} (hb:Below W.heap.size W W'):KeepsOthers W W':=⟨hb.size,fun k o hk _=>(hb.block k (Array.getElem?_eq_some_iff.1 hk).1).trans hk⟩
theorem put_df {W:World} {D E:Nat} {o:Obj} (hE:W.heap[E]?=some (.deferred (some []))) (hn:E≠D):(W.putObj D o).heap[E]?=some (.deferred (some [])):=(World.putObj_heap_other hn).trans hE
end
section
open Go.RowKit Go
section
variable {P:Program} {ops:Array Oper} {md:Region.Mode} {n:Nat}
theorem wpOpIn_of_st {w:World} {i:Nat} {a:Act} {K:Act→Prop} {K':Act→World→Prop} {Q':Exit→Act→World→Prop} (h:∀a,K a→K' a w) (hh:stOp P ops w i K a):wpOpIn Fence.wide n P ops Q' i K' a w:=by
 unfold stOp at hh
 unfold wpOpIn
 split
 ·rename_i ho;simp only [ho] at hh;exact h _ hh
 ·rename_i o ho
  simp only [ho] at hh
  split
  ·rename_i hw
   simp only [hw,if_true] at hh
   unfold Oper.still at hh
   refine ⟨fun _ _=>trivial,?_⟩
   rw [show Fence.wide.round=none from rfl,Oper.semAt_none]
   generalize (execOp a.eval o).run P w=r at *
   cases r with
   | ok x w' =>
     cases x<;>simp only [Oper.stillUpon] at hh<;>simp only [Oper.uponIn]
     case enter f args =>
      obtain ⟨rfl,v,hc,hn⟩:=hh
      exact ⟨fun h=>by simp [Fence.wide] at h,(callsIn_wide.2 hc).mono fun e w'' ⟨he,hw⟩=>by subst he;subst hw;exact h _ hn⟩
     all_goals (obtain ⟨rfl,h2⟩:=hh;exact h _ h2)
   | halt x w'=>simp only [Oper.stillUpon] at hh
  ·rename_i hw;simp only [hw] at hh;exact ⟨fun _ _=>trivial,h _ hh⟩
theorem wpAnyIn_of_head {w:World} {k g:Nat} {L:Array Bool→Act→Prop} {Q':Exit→Act→World→Prop} (hL:∀listed a,L listed a→wpAnyIn Fence.wide n P md ops Q' g listed a w) :
 ∀(f:Nat) (listed:Array Bool) (a:Act),wpAnyL P md ops w k L f listed a→wpAnyIn Fence.wide n P md ops Q' (f+g) listed a w
 | 0,listed,a,h=>by rw [Nat.zero_add];exact hL _ _ h
 | f+1,listed,a,h=>by
   rw [show f+1+g=(f+g)+1 by omega]
   exact ⟨fun h0=>absurd h0 h.1,fun i hi=>wpOpIn_of_st (fun a' h'=>wpAnyIn_of_head hL f _ a' h') (h.2 i hi).2⟩
theorem wpAnyIn_of_seq {Q':Exit→Act→World→Prop}:∀(l:List Oper) (k:Nat) (listed:Array Bool) (a:Act) (w:World),(∀j,l[j]?=ops[k+j]?) →
 Region.seqB md ops l.length k listed=true→wpListIn Fence.wide n P ops Q' l a w→wpAnyIn Fence.wide n P md ops Q' l.length listed a w
 | [],k,listed,a,w,_,hB,h=>⟨by simpa [Region.seqB] using hB,h⟩
 | o :: l,k,listed,a,w,hl,hB,h=>by
   have h0:ops[k]?=some o:=by simpa using (hl 0).symm
   simp only [List.length_cons,Region.seqB,Bool.and_eq_true,decide_eq_true_eq] at hB
   refine ⟨fun h1=>(by rw [hB.1] at h1;cases h1),fun i hi=>?_⟩
   rw [hB.1] at hi
   have hik:i=k:=by simpa using hi
   subst hik
   have hw:wpOpIn Fence.wide n P ops Q' i (wpListIn Fence.wide n P ops Q' l) a w:=by unfold wpOpIn;simp only [h0];exact h
   exact wpOpIn_mono (fun a' w' h'=>wpAnyIn_of_seq l (i+1) _ a' w' (fun j=>by have:=hl (j+1);simpa [Nat.add_assoc,Nat.add_comm 1 j] using this) hB.2 h') hw
theorem still_tail_in {id:Nat} {Q:Exit→Act→World→Prop} {a:Act} {w:World} {l:List Oper} (k:Nat) (hm:P.follows .mixedOrders=true) (hB:Region.lexTailB .any l.toArray k=true)
 (h:wpStill P l.toArray w.drew (fun a'=>wpListIn Fence.wide n P l.toArray Q (l.drop k) a' w.drew) (l.take k) a):(Code.region id l.toArray true).wpIn Fence.wide n P Q a w:=by
 simp only [Region.lexTailB,Bool.and_eq_true,decide_eq_true_eq] at hB
 obtain ⟨⟨⟨⟨hsel,hn⟩,hs⟩,hc⟩,hlex⟩:=hB
 have hn':k<l.length:=by simpa using hn
 have htl:(l.take k).length=k:=by simp;omega
 have hdl:(l.drop k).length=l.toArray.size-k:=by simp
 have inv0:HeadInv .any l.toArray k (Array.replicate l.toArray.size false) :=
  ⟨by simp,fun j oj _ hl=>(by rw [getD_replicate_false] at hl;cases hl),fun t _ ht=>getD_in (by simpa using ht) (getD_replicate_false _ _)⟩
 have H:=wpAnyL_lex (md:=.any) (g:=l.toArray.size-k) hsel hs hc hn (l.take k) 0 _ a (fun j hj=>by
  have hj':j<k:=by rw [htl] at hj;exact hj
  simp [hj']) (by simpa using htl) inv0 (by rw [htl];exact hlex) h
 refine wpIn_region_any hm ?_
 have:=wpAnyIn_of_head (n:=n) (Q':=Q) (g:=l.toArray.size-k) (fun listed a' hL=>by
  have:=wpAnyIn_of_seq (n:=n) (md:=.any) (Q':=Q) (l.drop k) k listed a' w.drew (fun j=>by simp [List.getElem?_drop]) (by rw [hdl];exact hL.1) hL.2
  rwa [hdl] at this) _ _ _ H
 rw [htl,show k+(l.toArray.size-k)=l.toArray.size by omega] at this
 exact this
end
end
section
def difTo {α:Type} [DecidableEq α] (xs ys:List α) (n:Nat):List Nat:=(List.range n).filter fun i=>decide (¬xs[i]?=ys[i]?)
section
variable {α:Type} [DecidableEq α] {xs ys:List α} {n:Nat}
theorem difTo_same (h:xs[n]?=ys[n]?):difTo xs ys (n+1)=difTo xs ys n:=by simp [difTo,List.range_succ,List.filter_append,h]
theorem difTo_more (h:¬xs[n]?=ys[n]?):difTo xs ys (n+1)=difTo xs ys n++[n]:=by simp [difTo,List.range_succ,List.filter_append,h]
theorem difTo_step:difTo xs ys n <+: difTo xs ys (n+1):=by
 by_cases h:xs[n]?=ys[n]?
 ·rw [difTo_same h];exact List.prefix_refl _
 ·rw [difTo_more h];exact List.prefix_append _ _
theorem difTo_pre:∀{m:Nat},n≤m→difTo xs ys n <+: difTo xs ys m
 | 0,h=>by rw [Nat.le_zero.1 h];exact List.prefix_refl _
 | m+1,h=>by
   by_cases e:n=m+1
   ·rw [e];exact List.prefix_refl _
   ·exact (difTo_pre (by omega)).trans difTo_step
theorem difTo_mem {k:Nat}:k∈difTo xs ys n↔k<n∧¬xs[k]?=ys[k]?:=by simp [difTo]
theorem difTo_len:(difTo xs ys n).length≤n:=by
 have:=List.length_filter_le (fun i=>decide (¬xs[i]?=ys[i]?)) (List.range n)
 simpa [difTo] using this
end
def difL {α:Type} [DecidableEq α] (xs ys:List α):List Nat:=difTo xs ys xs.length
theorem difL_len {α:Type} [DecidableEq α] (xs ys:List α):(difL xs ys).length≤xs.length:=difTo_len
theorem difL_mem {α:Type} [DecidableEq α] {xs ys:List α} {k:Nat}:k∈difL xs ys↔k<xs.length∧¬xs[k]?=ys[k]?:=difTo_mem
end
end Go.Proofs.YtnhkojpbbdaedaaGreat
