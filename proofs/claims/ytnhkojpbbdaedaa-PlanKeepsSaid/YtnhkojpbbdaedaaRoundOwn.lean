/- Rows of one's own that grow in the rounds of a range over a function. -/
import Derived.Test.YtnhkojpbbdaedaaGTreeL
import Derived.Test.YtnhkojpbbdaedaaKeepP
namespace Go.Proofs.Ytnhkojpbbdaedaa
open Go.ChangeShapes Go.WideShapes Go.ChangeAt Go.RowKit
set_option linter.unusedVariables false
open Go.RowKit Go
theorem fstep_append {P:Program} {ops:Array Oper} {o:Oper} {a:Act} {w:World} {K:Act→World→Prop} {Q:Exit→Act→World→Prop} {E:Prop}
 (hg:o.guard=none) (s x:Operand) (t:TypeId) (hop:o.op=Op.call { callee:=Callee.builtin Builtin.append,args:=#[s,x],argTypes:=#[t,t] })
 (v u v':Value) (w':World) (hs:a.eval s=v) (hx:a.eval x=u) (hrun:(Builtin.append_ #[t,t] o.type #[v,u]).run P w=.ok v' w')
 (hK:K (a.put o.dst v') w'):if Region.wanted o (yielded ops a.tmps)=true then Oper.wp P o a w K Q else E:=by
 rw [if_pos (by simp [Region.wanted,hg])]
 unfold Oper.wp
 simp [execOp,hop,resolve,invoke,builtin,hs,hx,hrun,Result.andThen]
 exact hK
theorem flat_size {α β:Type} {k:Nat} {enc:α→List β} (he:∀x,(enc x).length=k) (l:List α):(l.flatMap enc).length=l.length*k:=by
 induction l with
 | nil=>simp
 | cons a l ih=>rw [List.flatMap_cons,List.length_append,ih,he,List.length_cons,Nat.add_mul];omega
section
variable {α:Type} {P:Program} {W W':World} {k n:Nat} {e:TypeId} {enc:α→List Value} {v:Value} {xs:List α}
theorem Dt.many {t:TypeId} {bytes:Nat} {z:Value} (hu:P.underlying t=some (.slice e)) (hinfo:(P.info? e).map (fun i=>(i.zero,i.size,i.bytes))=some (some z,k,bytes))
 (hz:z.cells.size=k) (hk:0<k) (hby:bytes≤64) (he:∀x,(enc x).length=k) (hone:∀x,∀u∈enc x,u.oneCell'=true) (h:Dt k e enc n W v xs) (ys:List α) (hl:xs.length+ys.length≤1000000) (hb:n≤W.heap.size) :
 ∃v' W',(Builtin.append_ #[t,t] t #[v,.slice (some ⟨W.heap.size,0,none⟩) ys.length ys.length]).run P (W.alloc (.cells (ys.flatMap enc).toArray e))=.ok v' W'∧Dt k e enc n W' v' (xs++ys)∧W.grownBy W' v.ownBlock:=by
 obtain ⟨i0,hi0,hz0,hz1,hz2⟩:=info_parts hinfo
 obtain ⟨v',W',hr,h1,h2,-,h4⟩:=run_append_own_at (P:=P) (W.alloc (.cells (ys.flatMap enc).toArray e)) n t t e i0 z k bytes hu hi0 hz0 hz1 hz2 hz hk v xs.length (xs.flatMap enc) (World.ownsRow.kept h (World.grownBy_alloc W _ none) (by cases v.ownBlock<;>simp)) ⟨W.heap.size,0,none⟩ ys.length ys.length (ys.flatMap enc) (flat_size he ys)
  (fun j u hj=>by
    have e:((⟨W.heap.size,0,none⟩:Addr).add j)=⟨W.heap.size,j,none⟩:=by by_cases h0:j=0<;>simp [Addr.add,h0]
    rw [e,World.cell?_alloc_at _ _ _ _ rfl]
    simpa using hj) (fun u hu=>by rw [List.mem_flatMap] at hu;obtain ⟨x,_,hx⟩:=hu;exact hone x u hx) (by unfold maxLen;omega) (Nat.le_trans (Nat.mul_le_mul hl hby) (by decide)) (by simp;omega)
 refine ⟨v',W',hr,?_,Vs (World.grownBy_alloc W _ v.ownBlock) h2 (.inl rfl)⟩
 unfold Dt
 rw [List.length_append,List.flatMap_append]
 exact h1
theorem Dt.form (h:Dt k e enc n W v xs):∃a m c,v=.slice a m c:=by
 rcases h.2 with ⟨rfl,h0⟩|⟨q,c,cur,rfl,hq,hh,_⟩
 ·exact ⟨_,_,_,rfl⟩
 ·exact ⟨_,_,_,rfl⟩
theorem Dt.block (h:Dt k e enc n W v xs) {g:Nat} (hg:v.ownBlock=some g):n≤g∧∃cur,Blk W g e cur:=by
 rcases h.2 with ⟨rfl,h0⟩|⟨q,c,cur,rfl,hq,hh,_⟩
 ·simp [Value.ownBlock] at hg
 ·simp only [Value.ownBlock,Option.some.injEq] at hg
  subst hg
  exact ⟨hq,cur,hh⟩
theorem Dt.apart_ty (h:Dt k e enc n W v xs) {g:Nat} {t:TypeId} {cs:Array Value} (hb:Blk W g t cs) (ht:t≠e):some g≠v.ownBlock:=fun hc=>by
 obtain ⟨_,cur,hh⟩:=h.block hc.symm
 unfold Blk at hb hh
 rw [hb] at hh
 simp only [Option.some.injEq,Obj.cells.injEq] at hh
 exact ht hh.2.1
theorem Dt.apart_ob (h:Dt k e enc n W v xs) {g:Nat} {o:Obj} (hb:W.heap[g]?=some o) (ho:o.isCells=false):some g≠v.ownBlock:=fun hc=>by
 obtain ⟨_,cur,hh⟩:=h.block hc.symm
 unfold Blk at hh
 rw [hb] at hh
 cases hh
 cases ho
theorem Dt.grown (h:Dt k e enc n W v xs) {row:Option Nat} (hg:W.grownBy W' row) (hr:∀r,row=some r→v.ownBlock≠some r):Dt k e enc n W' v xs :=
 World.ownsRow.kept h hg (by
  cases hv:v.ownBlock with
  | none=>exact .inl rfl
  | some g=>exact .inr (fun e=>hr g e.symm hv))
end
theorem keeps_call {W W':World} (hb:Below W.heap.size W W'):KeepsOthers W W':=⟨hb.size,fun k o hk _=>(hb.block k (Array.getElem?_eq_some_iff.1 hk).1).trans hk⟩
theorem put_df {W:World} {D E:Nat} {o:Obj} (hE:W.heap[E]?=some (.deferred (some []))) (hn:E≠D):(W.putObj D o).heap[E]?=some (.deferred (some [])):=(World.putObj_heap_other hn).trans hE
end Go.Proofs.Ytnhkojpbbdaedaa
