/- line: the document's own Get, of kinds 1 to 7. -/
import Derived.Test.YtaeclpjofclbeaaDoorGLineR1
namespace Go.Proofs.YtaeclpjofclbeaaDoor
open Go.ChangeShapes Go.WideShapes Go.ChangeAt Go.RowKit
set_option linter.unusedVariables false
section
open Go.RowKit Go
end
section
open Go.RowKit Go
end
section
open Go.RowKit Go
theorem Dz4 {ws:List (List UInt8)} {st j:Nat} (h:j<(Ew ws st).length):∃hi:st+j<ws.length,(Ew ws st)[j]=ws[st+j]∧¬ws[st+j]=Dc:=by
 have hp:Ew ws st <+: ws.drop st:=List.takeWhile_prefix _
 have hl:=hp.length_le
 rw [List.length_drop] at hl
 have hi:st+j<ws.length:=by omega
 have e:(Ew ws st)[j]=ws[st+j]:=by
  rw [hp.getElem h,List.getElem_drop]
 refine ⟨hi,e,?_⟩
 rw [←e]
 have:=List.all_takeWhile (p:=Xa) (l:=ws.drop st)
 have:=List.all_eq_true.1 this (Ew ws st)[j] (List.getElem_mem h)
 simpa [Xa] using this
theorem Xb (ws:List (List UInt8)) (st:Nat):(Ew ws st).length≤ws.length:=by
 have:=(List.takeWhile_prefix (p:=Xa) (l:=ws.drop st)).length_le
 rw [List.length_drop] at this
 unfold Ew;omega
theorem Dp4 {p:List UInt8→Bool}:∀(l:List (List UInt8)),(l.takeWhile p).length ≥ l.length∨∃h:(l.takeWhile p).length<l.length,p (l[(l.takeWhile p).length])=false
 | []=>.inl lr0
 | x :: l=>by
   cases hx:p x
   ·right;simp [hx]
   ·rcases Dp4 (p:=p) l with h|⟨h,e⟩
    ·left;simp [hx];exact h
    ·right;simp only [List.takeWhile_cons,hx,if_true,List.length_cons];exact ⟨by omega,by simpa using e⟩
theorem Bu1 (ws:List (List UInt8)) (st:Nat):¬st+(Ew ws st).length<ws.length∨∃h:st+(Ew ws st).length<ws.length,ws[st+(Ew ws st).length]=Dc:=by
 rcases Dp4 (p:=Xa) (ws.drop st) with h|⟨h,e⟩
 ·left;rw [List.length_drop] at h;unfold Ew;omega
 ·right
  have h2:=h
  rw [List.length_drop] at h2
  refine ⟨by unfold Ew;omega,?_⟩
  rw [List.getElem_drop] at e
  simpa [Xa,Ew] using e
def Zf (W0:World) (C o:Nat) (cs:Array Value) (L:List (List UInt8)) (j:Nat) (wr:World):Prop :=
 ∃lv,W0.grownBy wr (some C)∧Blk wr C 25 (cs.setIfInBounds o lv)∧wr.ownsRow W0.heap.size 3 1 lv j ((L.take j).map nv)∧(j=0→lv=.slice none 0 0)
theorem Gl3 {cs:Array Value} {o:Nat} {v:Value} (h:cs[o]?=some v):cs.setIfInBounds o v=cs:=by
 apply Array.ext_getElem?
 intro j
 rw [Array.getElem?_setIfInBounds]
 split
 ·rename_i e;subst e;rw [h];split
  ·rfl
  ·rename_i h2;exact absurd (Array.getElem?_eq_some_iff.1 h).1 h2
 ·rfl
theorem Zf.start {W0:World} {C o:Nat} {cs:Array Value} {L:List (List UInt8)} (hb:Blk W0 C 25 cs) (ho:cs[o]?=some (.slice none 0 0)):Zf W0 C o cs L 0 W0 :=
 ⟨.slice none 0 0,Xi _ _,by rw [Gl3 ho];exact hb,World.ownsRow_nil _ _ _ _,fun _=>rfl⟩
theorem Cf6 {W0 wr W2:World} {C o j:Nat} {cs:Array Value} {L:List (List UInt8)} {lv lv':Value} (hC:C<W0.heap.size) (hj:j<L.length) (h3:W0.grownBy wr (some C)) (h4:Blk wr C 25 (cs.setIfInBounds o lv)) (h5:wr.ownsRow W0.heap.size 3 1 lv j ((L.take j).map nv))
 (hown:W2.ownsRow W0.heap.size 3 1 lv' (j+1) ((L.take j).map nv++[nv L[j]])) (hg:wr.grownBy W2 lv.ownBlock):Zf W0 C o cs L (j+1) (W2.setCell ⟨C,o,none⟩ lv'):=by
 have b3:=(h4.grow hg (Ax2 h5 hC)).set_ o lv'
 rw [Dq0] at b3
 have hg2:W0.grownBy W2 (some C):=⟨hg.os.trans h3.os,hg.tape.trans h3.tape,hg.output.trans h3.output,Nat.le_trans h3.size hg.size,fun k hk hne=>(hg.block k (Nat.lt_of_lt_of_le hk h3.size) (fun e=>by have:=(h5.lt k e.symm).1;omega)).trans (h3.block k hk hne)⟩
 refine ⟨lv',Da hg2 (lgrown_set W2 ⟨C,o,none⟩ lv') (.inl rfl),b3,?_,fun e=>by omega⟩
 have:=hown.kept (w':=W2.setCell ⟨C,o,none⟩ lv') (row:=some C) (lgrown_set W2 ⟨C,o,none⟩ lv') (.inr (Ax2 hown hC).symm)
 rw [List.take_succ_eq_append_getElem hj,List.map_append]
 exact this
section
variable {w W W0 wr:World} {C:Nat} {c:Cm} {ga wa:Option Addr} {gc wc:Nat} {L:List (List UInt8)}
theorem GetW.grown (h:GetW w W) {W':World} (hg:W.grownBy W' (some C)) (hC:w.heap.size<C):GetW w W' :=
 ⟨h.1.grown hg (by have:=h.2.1;omega) (fun k e=>by have:=Option.some.inj e;omega),Nat.le_trans h.2.1 hg.size,h.2.2.grow hg (by intro e;have:=Option.some.inj e;omega)⟩
theorem TSt.setF_ (st:TSt W C c ga gc wa wc) (f:Fd) (n:Int):TSt (W.setCell ⟨C,f.off,none⟩ (.int .i64 n)) C (setF c n f) ga gc wa wc∧W.grownBy (W.setCell ⟨C,f.off,none⟩ (.int .i64 n)) (some C):=by
 have hg:=lgrown_set W ⟨C,f.off,none⟩ (.int .i64 n)
 have e1:(setF c n f).gives=c.gives:=by cases f<;>rfl
 have e2:(setF c n f).wants=c.wants:=by cases f<;>rfl
 refine ⟨⟨?_,?_,?_,?_,?_,?_,?_⟩,hg⟩
 ·have:=st.blk.set_ f.off (.int .i64 n)
  cases f<;>exact this
 ·rw [e1];exact st.gi.grown (v:=bv C) hg (st.go.off lr0)
 ·rw [e2];exact st.wi.grown (v:=bv C) hg (st.wo.off lr0)
 ·rw [e1];exact st.gn
 ·rw [e2];exact st.wn
 ·rw [e1];exact st.go
 ·rw [e2];exact st.wo
theorem GetG.setF_ (h:GetG w C c ga gc wa wc W) (f:Fd) (n:Int):GetG w C (setF c n f) ga gc wa wc (W.setCell ⟨C,f.off,none⟩ (.int .i64 n)):=by
 obtain ⟨h1,h2,h3⟩:=h
 obtain ⟨k1,k2⟩:=h3.setF_ f n
 exact ⟨GetW.grown h1 k2 h2,h2,k1⟩
theorem Bu2 (h:GetG w C c ga gc wa wc W0) (g:Bool) (hr:Zf W0 C (An3 g) (cC c ga gc wa wc) L L.length wr) (hl:L.length≤1000000) :
 ∃a cap,GetG w C (lsetL c g (Us L)) (if g then a else ga) (if g then cap else gc) (if g then wa else a) (if g then wc else cap) wr:=by
 obtain ⟨h1,h2,st⟩:=h
 obtain ⟨lv,hg,hb,hrow,hn⟩:=hr
 obtain ⟨a,cap,rfl⟩:=Ai6 hrow
 rw [List.take_of_length_le lr0] at hrow
 have em:L.map nv=(Us L).map (Value.int .i64):=by unfold Us;rw [List.map_map];rfl
 have e0:(Us L).length=L.length:=List.length_map ..
 have hC:=st.blk.lt
 rw [em] at hrow
 have hI:=Cp4 hrow e0.symm (by rw [e0];unfold maxLen;omega)
 have hO:Dx7 a (Us L) C:=by
  refine .inr fun p hp=>?_
  subst hp
  have:=(hrow.lt p.block rfl).1
  omega
 have hN:LNil a cap (Us L):=fun e=>by
  have:L.length=0:=by rw [←e0,e];rfl
  have:=hn this
  simp only [Value.slice.injEq] at this
  exact ⟨this.1,this.2.2⟩
 rw [←e0] at hb
 refine ⟨a,cap,GetW.grown h1 hg h2,h2,?_⟩
 cases g with
 | true=>exact ⟨hb,hI,st.wi.grown (v:=bv C) hg (st.wo.off lr0),hN,st.wn,hO,st.wo⟩
 | false=>exact ⟨hb,st.gi.grown (v:=bv C) hg (st.go.off lr0),hI,st.gn,hN,st.go,hO⟩
theorem Strs.grown {v:Value} {xs:List (List UInt8)} {W':World} {t:TypeId} {cs:Array Value} (h:Strs W v xs) (hg:W.grownBy W' (some C)) (hB:Blk W C t cs) (hn:Br2 cs):Strs W' v xs:=by
 obtain ⟨a,cap,rfl,hl,h⟩:=h
 refine ⟨a,cap,rfl,hl,?_⟩
 rcases h with h|⟨b,off,rfl,hb,hc⟩
 ·exact .inl h
 ·refine .inr ⟨b,off,rfl,Nat.lt_of_lt_of_le hb hg.size,fun i hi=>?_⟩
  refine hg.cell (hc i hi) (fun e=>?_)
  obtain rfl:b=C:=Option.some.inj e
  have:=hc i hi
  rw [hB.cell] at this
  exact hn _ _ this
theorem Strs.cellAt {b off n cap:Nat} {xs:List (List UInt8)} (h:Strs W (.slice (some ⟨b,off,none⟩) n cap) xs) (i:Nat) (hi:i<xs.length):W.cell? ⟨b,off+i,none⟩=some (str xs[i]):=by
 obtain ⟨a,cap2,e,hl,h⟩:=h
 simp only [Value.slice.injEq] at e
 obtain ⟨rfl,-,-⟩:=e
 rcases h with h|⟨b2,o2,e,hb,hc⟩
 ·subst h;simp at hi
 ·obtain ⟨rfl,rfl⟩:b=b2∧off=o2:=by simpa using e
  exact hc i hi
end
end
section
open Go.RowKit Go
end
section
open Go.RowKit Go
theorem En5 (x:List UInt8):∃k:Nat,Ct x=(k:Int)∧k≤10:=by
 by_cases h:Qq x=true
 ·have hm:x∈kindNames:=of_decide_eq_true h
  simp only [kindNames,List.mem_cons,List.not_mem_nil,or_false] at hm
  rcases hm with rfl|rfl|rfl|rfl|rfl|rfl|rfl|rfl|rfl|rfl
  ·exact ⟨1,by decide,by decide⟩
  ·exact ⟨2,by decide,by decide⟩
  ·exact ⟨3,by decide,by decide⟩
  ·exact ⟨4,by decide,by decide⟩
  ·exact ⟨5,by decide,by decide⟩
  ·exact ⟨6,by decide,by decide⟩
  ·exact ⟨7,by decide,by decide⟩
  ·exact ⟨8,by decide,by decide⟩
  ·exact ⟨9,by decide,by decide⟩
  ·exact ⟨10,by decide,by decide⟩
 ·exact ⟨0,by unfold Ct;rw [if_neg h];rfl,by decide⟩
end
end Go.Proofs.YtaeclpjofclbeaaDoor
