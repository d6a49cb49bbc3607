/- Rows of sessions of one's own, and what stays while they grow. -/
import Derived.Test.YtnhkojpbbdaedaaGreatPlanD
namespace Go.Proofs.YtnhkojpbbdaedaaGreat
open Go.ChangeShapes Go.WideShapes Go.ChangeAt Go.RowKit
set_option linter.unusedVariables false
open Go.RowKit Go
theorem slC_one (s:Sl):∀u∈slC s,u.oneCell'=true:=by
 intro u hu
 simp only [slC,List.mem_cons,List.not_mem_nil,or_false] at hu
 rcases hu with rfl|rfl|rfl|rfl|rfl|rfl|rfl|rfl|rfl|rfl|rfl|rfl|rfl|rfl|rfl|rfl|rfl|rfl|rfl|rfl|rfl|rfl|rfl|rfl|rfl|rfl|rfl|rfl|rfl|rfl<;>rfl
theorem sess_info:(Tryz.prog.info? 57).map (fun i=>(i.zero,i.size,i.bytes))=some (some (.agg #[.int .i64 0,.slice none 0 0,.int .i64 0,.int .i64 0,.int .i64 0,.int .i64 0,.int .i64 0,.int .i64 0,.int .i64 0,.int .i64 0,.slice none 0 0,.int .i64 0,.slice none 0 0,.int .i64 0,.slice none 0 0,.int .i64 0,.slice none 0 0,.int .i64 0,.int .i64 0,.int .i64 0,.slice none 0 0,.slice none 0 0,.int .i64 0,.bool false,.int .i64 0,.int .i64 0,.int .i64 0,.slice none 0 0,.slice none 0 0,.int .i64 0]),30,384):=by kernel_rfl
section
variable {α:Type} {P:Program} {W W':World} {k n:Nat} {e:TypeId} {enc:α→List Value} {v:Value} {xs:List α}
theorem Dt.big {t:TypeId} {bytes:Nat} {z:Value} (hu:P.underlying t=some (.slice e)) (hinfo:(P.info? e).map (fun i=>(i.zero,i.size,i.bytes))=some (some z,k,bytes))
 (hz:z.cells.size=k) (hk:0<k) (hby:bytes≤6400) (he:∀x,(enc x).length=k) (hone:∀x,∀u∈enc x,u.oneCell'=true) (h:Dt k e enc n W v xs) (x:α) (hl:xs.length+1≤10000) (hb:n≤W.heap.size) :
 ∃v' W',(Builtin.append_ #[t,t] t #[v,.slice (some ⟨W.heap.size,0,none⟩) 1 1]).run P (W.alloc (.cells (enc x).toArray e))=.ok v' W'∧Dt k e enc n W' v' (xs++[x])∧W.grownBy W' v.ownBlock:=by
 obtain ⟨i0,hi0,hz0,hz1,hz2⟩:=info_parts hinfo
 obtain ⟨v',W',hr,h1,h2,-,h4⟩:=run_append_own_at (P:=P) (W.alloc (.cells (enc x).toArray e)) n t t e i0 z k bytes hu hi0 hz0 hz1 hz2 hz hk v xs.length (xs.flatMap enc) (World.ownsRow.kept h (World.grownBy_alloc W _ none) (by cases v.ownBlock<;>simp)) ⟨W.heap.size,0,none⟩ 1 1 (enc x) (by rw [he];omega)
  (fun j u hj=>by
    have e:((⟨W.heap.size,0,none⟩:Addr).add j)=⟨W.heap.size,j,none⟩:=by by_cases h0:j=0<;>simp [Addr.add,h0]
    rw [e,World.cell?_alloc_at _ _ _ _ rfl]
    simpa using hj) (hone x) (by unfold maxLen;omega) (Nat.le_trans (Nat.mul_le_mul hl hby) (by decide)) (by simp;omega)
 refine ⟨v',W',hr,?_,Vs (World.grownBy_alloc W _ v.ownBlock) h2 (.inl rfl)⟩
 unfold Dt
 rw [List.length_append,List.flatMap_append]
 simpa using h1
theorem Dt.ownb (h:Dt k e enc n W v xs) {g:Nat} (hg:v.ownBlock=some g):n≤g∧∃cur,Blk W g e cur:=by
 rcases h.2 with ⟨rfl,h0⟩|⟨q,c,cur,rfl,hq,hh,_⟩
 ·simp [Value.ownBlock] at hg
 ·simp only [Value.ownBlock,Option.some.injEq] at hg
  subst hg
  exact ⟨hq,cur,hh⟩
theorem blk_ty {W:World} {g:Nat} {t s:TypeId} {cs ds:Array Value} (h:Blk W g t cs) (k:Blk W g s ds):t=s:=by
 have h2:=h.symm.trans k
 simp at h2
 exact h2.2
theorem Dt.tys (h:Dt k e enc n W v xs) {g:Nat} {t:TypeId} {cs:Array Value} (hb:Blk W g t cs) (ht:t≠e) (i:Nat) (u:Value):Dt k e enc n (W.setCell ⟨g,i,none⟩ u) v xs :=
 World.ownsRow.kept h (⟨rfl,rfl,rfl,by simp [World.setCell],fun b _ hne=>Below.heap_setCell W _ u b (fun e=>hne (by rw [e]))⟩:W.grownBy (W.setCell ⟨g,i,none⟩ u) (some g)) (by
  cases hv:v.ownBlock with
  | none=>exact .inl rfl
  | some r=>exact .inr (fun e1=>by
     obtain ⟨_,cur,hh⟩:=h.ownb hv
     have e1:r=g:=by simpa using e1
     subst e1
     exact ht (blk_ty hb hh)))
theorem Blk.keepg {t:TypeId} {g:Nat} {cs:Array Value} {row:Option Nat} (h:Blk W g t cs) (hg:W.grownBy W' row) (hr:∀r,row=some r→∃s ds,s≠t∧Blk W r s ds):Blk W' g t cs :=
 (hg.block g h.lt (fun e1=>by
   obtain ⟨s,ds,hs,hb⟩:=hr g e1.symm
   exact hs (blk_ty hb h))).trans h
theorem OwnR.keepg {a:Option Addr} (h:OwnR k e enc n W a xs) {row:Option Nat} (hg:W.grownBy W' row) (hr:∀r,row=some r→∃s ds,s≠e∧Blk W r s ds):OwnR k e enc n W' a xs :=
 ⟨h.1,h.2.imp id fun ⟨b,cs,h1,h2,h3,h4⟩=>⟨b,cs,h1,h2,h3.keepg hg hr,h4⟩⟩
end
structure PRows (n:Nat) (W:World) (pd:Dp) (q:Wp) (y:Wd):Prop where
 d:q.d=pd∨Fz n W q.d y.d
 at_:OwnR 1 3 inC n W q.at_ y.at_
 co:OwnR 1 3 inC n W q.co y.coins
 wh:OwnR 2 48 plC n W q.wh y.wher
section
variable {n:Nat} {W W':World} {pd:Dp} {q:Wp} {y:Wd}
theorem PNew.rows (h:PNew n W pd q y) {m:Nat} (hm:m≤n):PRows m W pd q y:=⟨h.d.imp id fun h2=>h2.lessd hm,h.at_.less hm,h.co.less hm,h.wh.less hm⟩
theorem PRows.step {q0:Wp} {y0:Wd} (h0:PRows n W pd q0 y0∨q0.d=pd) (he:y0.d=y.d) (h:PRows n W q0.d q y):PRows n W pd q y:=by
 refine ⟨?_,h.at_,h.co,h.wh⟩
 rcases h.d with h1|h1
 ·rcases h0 with h2|h2
  ·exact h2.d.imp (fun e=>h1.trans e) fun e=>by rw [h1,←he];exact e
  ·exact .inl (h1.trans h2)
 ·exact .inr h1
theorem PRows.call (h:PRows n W pd q y) (hb:Below W.heap.size W W'):PRows n W' pd q y:=⟨h.d.imp id fun h2=>h2.call hb,h.at_.call hb,h.co.call hb,h.wh.call hb⟩
theorem PRows.less (h:PRows n W pd q y) {m:Nat} (hm:m≤n):PRows m W pd q y:=⟨h.d.imp id fun h2=>h2.lessd hm,h.at_.less hm,h.co.less hm,h.wh.less hm⟩
theorem PRows.set (h:PRows n W pd q y) {b:Nat} (hb:b<n) (i:Nat) (u:Value):PRows n (W.setCell ⟨b,i,none⟩ u) pd q y :=
 ⟨h.d.imp id fun h2=>⟨h2.ex.set hb i u,h2.pl.set hb i u,h2.co.set hb i u,h2.it.set hb i u,h2.bo.set hb i u⟩,h.at_.set hb i u,h.co.set hb i u,h.wh.set hb i u⟩
theorem PRows.tyw (h:PRows n W pd q y) {g:Nat} {cs:Array Value} (hb:Blk W g 29 cs) (i:Nat) (u:Value):PRows n (W.setCell ⟨g,i,none⟩ u) pd q y:=by
 have t1:3≠29:=by decide
 have t2:48≠29:=by decide
 have t3:75≠29:=by decide
 have t4:4≠29:=by decide
 exact ⟨h.d.imp id fun h2=>⟨h2.ex.ty hb t3 i u,h2.pl.ty hb t1 i u,h2.co.ty hb t1 i u,h2.it.ty hb t1 i u,h2.bo.ty hb t4 i u⟩,h.at_.ty hb t1 i u,h.co.ty hb t1 i u,h.wh.ty hb t2 i u⟩
theorem PRows.keepg (h:PRows n W pd q y) {row:Option Nat} (hg:W.grownBy W' row) (hr:∀r,row=some r→∃ds,Blk W r 57 ds):PRows n W' pd q y:=by
 have t1:57≠3:=by decide
 have t2:57≠48:=by decide
 have t3:57≠75:=by decide
 have t4:57≠4:=by decide
 have k:∀t:TypeId,57≠t→∀r,row=some r→∃s ds,s≠t∧Blk W r s ds:=fun t ht r e=>(hr r e).elim fun ds hd=>⟨_,ds,ht,hd⟩
 exact ⟨h.d.imp id fun h2=>⟨h2.ex.keepg hg (k _ t3),h2.pl.keepg hg (k _ t1),h2.co.keepg hg (k _ t1),h2.it.keepg hg (k _ t1),h2.bo.keepg hg (k _ t4)⟩,h.at_.keepg hg (k _ t1),h.co.keepg hg (k _ t1),h.wh.keepg hg (k _ t2)⟩
theorem PRows.world (h:PRows n W pd q y) (hd:Ce W pd y.d):Ab W q y:=by
 refine ⟨?_,Av.2 h.at_.row,Av.2 h.co.row,h.wh.row⟩
 rcases h.d with e|h2
 ·rw [e];exact hd
 ·exact h2.desc
end
end Go.Proofs.YtnhkojpbbdaedaaGreat
