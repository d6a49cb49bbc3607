/- A list of one's own that grows by one element at a time, of whatever cells. -/
import Derived.Test.YtnhkojpbbdaedaaGAs
namespace Go.Proofs.Ytnhkojpbbdaedaa
open Go.ChangeShapes Go.WideShapes Go.ChangeAt Go.RowKit
set_option linter.unusedVariables false
section
open Go.RowKit Go
section
variable {α:Type} {P:Program} {W W':World}
theorem Vs {W1 W2:World} {r r1:Option Nat} (h:W.grownBy W1 r) (k:W1.grownBy W2 r1) (hr:r1=r∨∃g,r1=some g∧W.heap.size≤g):W.grownBy W2 r :=
 ⟨k.os.trans h.os,k.tape.trans h.tape,k.output.trans h.output,Nat.le_trans h.size k.size,fun b hb hne=>(k.block b (Nat.lt_of_lt_of_le hb h.size) (fun e=>by
   rcases hr with hr|⟨g,hr,hg⟩
   ·exact hne (by rw [e,hr])
   ·rw [hr] at e;have:=Option.some.inj e;omega)).trans (h.block b hb hne)⟩
def Dt (k:Nat) (e:TypeId) (enc:α→List Value) (n:Nat) (W:World) (v:Value) (xs:List α):Prop:=W.ownsRow n e k v xs.length (xs.flatMap enc)
variable {k n:Nat} {e:TypeId} {enc:α→List Value} {v:Value} {xs:List α}
theorem Dt.nil (W:World):Dt k e enc n W (.slice none 0 0) ([]:List α):=World.ownsRow_nil _ _ _ _
theorem Dt.apart (h:Dt k e enc n W v xs) {g:Nat} (hg:g<n):v.ownBlock≠some g:=by
 rcases h.2 with ⟨rfl,h0⟩|⟨q,c,cur,rfl,hq,_⟩
 ·simp [Value.ownBlock]
 ·simp only [Value.ownBlock,ne_eq,Option.some.injEq];omega
theorem Dt.call (h:Dt k e enc n W v xs) (hb:Below W.heap.size W W'):Dt k e enc n W' v xs:=by
 have hg:W.grownBy W' none:=⟨hb.os,hb.tape,hb.output,hb.size,fun k hk _=>hb.block k hk⟩
 exact World.ownsRow.kept h hg (by cases v.ownBlock<;>simp)
theorem Dt.below (h:Dt k e enc n W v xs) {w:World} (hb:Below w.heap.size w W) (hg:W.grownBy W' v.ownBlock) (hn:w.heap.size≤n):Below w.heap.size w W' :=
 hb.grown hg hb.size (fun q hq=>by
  apply Decidable.byContradiction;intro hc
  exact h.apart (g:=q) (by omega) hq)
theorem Dt.holds (h:Dt k e enc n W v xs) {w:World} {m:Nat} {A:Array Value} (hh:Ac w m A W) (hg:W.grownBy W' v.ownBlock) (hm:m<n) (hn:w.heap.size≤n):Ac w m A W':=by
 refine ⟨h.below hh.1 hg hn,Nat.lt_of_lt_of_le hh.2.1 hg.size,fun i=>?_⟩
 rw [←hh.2.2 i]
 have:=hg.block m hh.2.1 (fun e=>h.apart hm e.symm)
 simp only [World.cell?,this]
theorem Dt.own (h:Dt k e enc n W v xs) (he:∀x,(enc x).length=k):∃a cap,v=.slice a xs.length cap∧OwnR k e enc n W a xs:=by
 rcases h.2 with ⟨rfl,h0⟩|⟨g,c,cur,rfl,hg,hh,hc,hm,hsz,htk⟩
 ·have:xs=[]:=List.eq_nil_of_length_eq_zero h0
  subst this
  exact ⟨none,0,rfl,by simp,.inl ⟨rfl,rfl⟩⟩
 ·refine ⟨_,c,rfl,by omega,.inr ⟨g,cur,rfl,hg,hh,fun i hi j hj=>?_⟩⟩
  have e:(cur.toList.take (xs.length*k))[i*k+j]?=(xs.flatMap enc)[i*k+j]?:=by rw [htk]
  have hlt2:i*k+j<xs.length*k:=by
   have:(i+1)*k≤xs.length*k:=Nat.mul_le_mul (by omega) (Nat.le_refl _)
   rw [Nat.add_mul,Nat.one_mul] at this
   omega
  rw [List.getElem?_take,if_pos hlt2,Ji he xs i hi j hj] at e
  simpa using e
theorem Dt.one {t:TypeId} {bytes:Nat} {z:Value} (hu:P.underlying t=some (.slice e)) (hinfo:(P.info? e).map (fun i=>(i.zero,i.size,i.bytes))=some (some z,k,bytes))
 (hz:z.cells.size=k) (hk:0<k) (hby:bytes≤64) (he:∀x,(enc x).length=k) (hone:∀x,∀u∈enc x,u.oneCell'=true) (h:Dt k e enc n W v xs) (x:α) (hl:xs.length+1≤1000000) (hb:n≤W.heap.size) :
 ∃v' W',(Builtin.append_ #[t,t] t #[v,.slice (some ⟨W.heap.size,0,none⟩) 1 1]).run P (W.alloc (.cells (enc x).toArray e))=.ok v' W'∧Dt k e enc n W' v' (xs++[x])∧W.grownBy W' v.ownBlock:=by
 obtain ⟨i0,hi0,hz0,hz1,hz2⟩:=info_parts hinfo
 obtain ⟨v',W',hr,h1,h2,-,h4⟩:=run_append_own_at (P:=P) (W.alloc (.cells (enc x).toArray e)) n t t e i0 z k bytes hu hi0 hz0 hz1 hz2 hz hk v xs.length (xs.flatMap enc) (World.ownsRow.kept h (World.grownBy_alloc W _ none) (by cases v.ownBlock<;>simp)) ⟨W.heap.size,0,none⟩ 1 1 (enc x) (by rw [he];omega)
  (fun j u hj=>by
    have e:((⟨W.heap.size,0,none⟩:Addr).add j)=⟨W.heap.size,j,none⟩:=by by_cases h0:j=0<;>simp [Addr.add,h0]
    rw [e,World.cell?_alloc_at _ _ _ _ rfl]
    simpa using hj) (hone x) (by unfold maxLen;omega) (Nat.le_trans (Nat.mul_le_mul hl hby) (by decide)) (by simp;omega)
 refine ⟨v',W',hr,?_,Vs (World.grownBy_alloc W _ v.ownBlock) h2 (.inl rfl)⟩
 unfold Dt
 rw [List.length_append,List.flatMap_append]
 simpa using h1
end
def lenV:Value→Nat
 | .slice _ n _=>n
 | _=>0
theorem Dt.len {α:Type} {k n:Nat} {e:TypeId} {enc:α→List Value} {W:World} {v:Value} {xs:List α} (h:Dt k e enc n W v xs):lenV v=xs.length:=by
 rcases h.2 with ⟨rfl,h0⟩|⟨q,c,cur,rfl,hq,_⟩
 ·simp [lenV,h0]
 ·rfl
def seC (s:Sn):List Value:=[.int .i64 s.item,.int .i64 s.kind,.int .i64 s.id]
theorem Rz (x:Sn):(seC x).length=3:=rfl
theorem Bb5 (x:Sn):∀u∈seC x,u.oneCell'=true:=by intro u hu;simp [seC] at hu;rcases hu with rfl|rfl|rfl<;>rfl
theorem Bk6:(Try.prog.info? 107).map (fun i=>(i.zero,i.size,i.bytes))=some (some (.agg #[.int .i64 0,.int .i64 0,.int .i64 0]),3,24):=by kernel_rfl
theorem Uw {w:World} {a:Option Addr} {xs:List Sn} (h:Ar 3 seC w a xs):Bd w a xs:=by
 refine ⟨h.1,h.2.imp id ?_⟩
 rintro ⟨b,off,rfl,hb,hc⟩
 exact ⟨b,off,rfl,hb,fun i hi=>⟨hc i hi 0 (by omega),hc i hi 1 (by omega),hc i hi 2 (by omega)⟩⟩
end
section
end
section
end
end Go.Proofs.Ytnhkojpbbdaedaa
