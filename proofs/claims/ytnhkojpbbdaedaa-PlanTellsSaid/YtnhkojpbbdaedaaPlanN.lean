/- plan.From: what holds between its rounds. -/
import Derived.Test.YtnhkojpbbdaedaaPlanA
import Derived.Test.YtnhkojpbbdaedaaRoundOwn
namespace Go.Proofs.Ytnhkojpbbdaedaa
open Go.ChangeShapes Go.WideShapes Go.ChangeAt Go.RowKit
set_option linter.unusedVariables false
open Go.RowKit Go
structure Np (w:World) (x:Wd) (p:Wp) (y:Wd) (q:Wp) (B:Nat) (ty:TypeId) (a1 a2:Value) (Ds:List Nat) (v:Value) (L:List Wr) (W:World):Prop where
 b:Below w.heap.size w W
 h0:Blk W w.heap.size 29 (wC x p)
 h1:Blk W (w.heap.size+1) 29 (wC y q)
 hv:Blk W (w.heap.size+1+1) 30 #[v]
 g:Dt 5 39 wrC (w.heap.size+3) W v L
 b1:Blk W B ty #[a1]
 b2:Blk W (B+1) ty #[a2]
 ds:∀D∈Ds,W.heap[D]?=some (.deferred (some []))
section
variable {w:World} {x y:Wd} {p q:Wp} {B:Nat} {ty:TypeId} {a1 a2 v v':Value} {Ds:List Nat} {L L':List Wr} {W W':World}
theorem Np.call (h:Np w x p y q B ty a1 a2 Ds v L W) (hb:Below W.heap.size W W'):Np w x p y q B ty a1 a2 Ds v L W' :=
 ⟨h.b.trans (hb.mono h.b.size),h.h0.call hb,h.h1.call hb,h.hv.call hb,h.g.call hb,h.b1.call hb,h.b2.call hb,fun D hD=>by
   have:=h.ds D hD
   exact (hb.block D (Array.getElem?_eq_some_iff.1 this).1).trans this⟩
theorem Np.kept {B0:Nat} {row:Option Nat} (h:Np w x p y q B ty a1 a2 Ds v L W) (hg:W.grownBy W' row) (hr:∀r,row=some r→B0≤r∧∃o:Obj,W.heap[r]?=some o∧o.isCells=false) (hB:w.heap.size≤B0) (hD:∀D∈Ds,D<B0) :
 Np w x p y q B ty a1 a2 Ds v L W':=by
 have hbk:∀{g:Nat} {t:TypeId} {cs:Array Value},Blk W g t cs→Blk W' g t cs:=fun hh=>hh.grown hg (fun e=>by
  obtain ⟨_,o,ho,hc⟩:=hr _ e.symm
  rw [show W.heap[_]?=_ from hh] at ho
  cases ho;cases hc)
 refine ⟨h.b.grown hg h.b.size (fun k e=>Nat.le_trans hB (hr k e).1),hbk h.h0,hbk h.h1,hbk h.hv,h.g.grown hg (fun r e ev=>?_),hbk h.b1,hbk h.b2,fun D hD2=>?_⟩
 ·obtain ⟨_,o,ho,hc⟩:=hr r e
  exact h.g.apart_ob ho hc ev.symm
 ·have:=h.ds D hD2
  exact (hg.block D (Array.getElem?_eq_some_iff.1 this).1 (fun e=>by have:=(hr D e.symm).1;have:=hD D hD2;omega)).trans this
theorem Np.mid (h:Np w x p y q B ty a1 a2 Ds v L W) (hg:W.grownBy W' v.ownBlock):Blk W' (w.heap.size+1+1) 30 #[v]:=h.hv.grown hg (h.g.apart_ty h.hv (by decide))
theorem Np.put (h:Np w x p y q B ty a1 a2 Ds v L W) (hty:ty≠39) (hB:w.heap.size+3≤B) (hg:W.grownBy W' v.ownBlock) (hG:Dt 5 39 wrC (w.heap.size+3) W' v' L') :
 Np w x p y q B ty a1 a2 Ds v' L' (W'.setCell ⟨w.heap.size+1+1,0,none⟩ v'):=by
 have hm:=h.mid hg
 have hs:=grownBy_setCell' W' (w.heap.size+1+1) v'
 have hne:∀{g:Nat} {t:TypeId} {cs:Array Value},Blk W g t cs→t≠39→g≠w.heap.size+1+1→Blk (W'.setCell ⟨w.heap.size+1+1,0,none⟩ v') g t cs:=fun hh ht hn =>
  (hh.grown hg (h.g.apart_ty hh ht)).far hn _
 refine ⟨(h.b.grown hg h.b.size (fun k e=>by have:=(h.g.block e).1;omega)).setCell (by show w.heap.size≤w.heap.size+1+1;omega) _,hne h.h0 (by decide) (by omega),hne h.h1 (by decide) (by omega),hm.set_ 0 _,hG.grown hs (fun r e ev=>by cases e;have:=(hG.block ev).1;omega),hne h.b1 hty (by omega),hne h.b2 hty (by omega),fun D hD=>?_⟩
 have h1:=h.ds D hD
 have h2:=(hg.block D (Array.getElem?_eq_some_iff.1 h1).1 (h.g.apart_ob h1 rfl)).trans h1
 refine (Below.heap_setCell W' _ v' D (fun e=>?_)).trans h2
 have e':D=w.heap.size+1+1:=e
 subst e'
 rw [show W'.heap[_]?=_ from hm] at h2
 cases h2
def NP (w:World) (B:Nat) (b:Nat):Prop:=b<w.heap.size∨b=B∨b=B+1
theorem Np.kp {W0:World} (h:Np w x p y q B ty a1 a2 Ds v L W) (hty:ty≠39) (hB:w.heap.size+3≤B) (hg:W.grownBy W' v.ownBlock) (h0:KP (NP w B) W0 W):KP (NP w B) W0 (W'.setCell ⟨w.heap.size+1+1,0,none⟩ v') :=
 (h0.grown hg (fun b e hn=>by
   rcases hn with hn|hn|hn
   ·have:=(h.g.block e).1;omega
   ·subst hn;exact h.g.apart_ty h.b1 hty e.symm
   ·subst hn;exact h.g.apart_ty h.b2 hty e.symm)).set (by unfold NP;omega) 0 v'
theorem Np.keeps (h:Np w x p y q B ty a1 a2 Ds v L W) (hg:W.grownBy W' v.ownBlock):KeepsOthers W (W'.setCell ⟨w.heap.size+1+1,0,none⟩ v') :=
 (KeepsOthers.of_grownBy hg (fun j o e ho=>by
   obtain ⟨_,cur,hh⟩:=h.g.block e
   rw [show W.heap[_]?=_ from hh] at ho
   cases ho;rfl)).trans (KeepsOthers.setCell _ _ _)
theorem Np.drew (h:Np w x p y q B ty a1 a2 Ds v L W):Np w x p y q B ty a1 a2 Ds v L W.drew:=h.call (Af (Below.refl _ _))
def SP (w:World) (x:Wd) (p:Wp) (y:Wd) (q:Wp) (W:World):Prop:=(∀i,W.cell? ⟨w.heap.size,i,none⟩=((wC x p)[i]?:Option Value))∧∀i,W.cell? ⟨w.heap.size+1,i,none⟩=((wC y q)[i]?:Option Value)
theorem Np.S (h:Np w x p y q B ty a1 a2 Ds v L W):SP w x p y q W:=⟨h.h0.cell,h.h1.cell⟩
theorem Np.midS (h:Np w x p y q B ty a1 a2 Ds v L W) (hg:W.grownBy W' v.ownBlock):SP w x p y q W':=⟨(h.h0.grown hg (h.g.apart_ty h.h0 (by decide))).cell,(h.h1.grown hg (h.g.apart_ty h.h1 (by decide))).cell⟩
theorem Np.fin {W0:World} {B0:Nat} (h:Np w x p y q B ty a1 a2 Ds v L W) (hb:Below W0.heap.size W0 W) (hty:ty≠39) (hB:w.heap.size+3≤B) (hg:W.grownBy W' v.ownBlock) (hG:Dt 5 39 wrC (w.heap.size+3) W' v' L') :
 KeepsFrom B0 W0 (W'.setCell ⟨w.heap.size+1+1,0,none⟩ v')∧KP (NP w B) W0 (W'.setCell ⟨w.heap.size+1+1,0,none⟩ v')∧Np w x p y q B ty a1 a2 Ds v' L' (W'.setCell ⟨w.heap.size+1+1,0,none⟩ v') :=
 ⟨((keeps_call hb).trans (h.keeps hg)).from _,h.kp hty hB hg ((KP.refl W0).below hb),h.put hty hB hg hG⟩
theorem Np.end3 {D1 D2 D3:Nat} (h:Np w x p y q B ty a1 a2 [D2,D1] v L W) (hK:W.heap[D3]?=some (.deferred (some []))) (h1:w.heap.size≤D1) (h2:D1<D2) (h3:D2<D3) :
 (W.putObj D3 (.deferred none)).heap[D2]?=some (.deferred (some []))∧((W.putObj D3 (.deferred none)).putObj D2 (.deferred none)).heap[D1]?=some (.deferred (some [])) ∧
   ∃a c,v=.slice a L.length c∧Dt 5 39 wrC (w.heap.size+3) (((W.putObj D3 (.deferred none)).putObj D2 (.deferred none)).putObj D1 (.deferred none)) (.slice a L.length c) L∧Below w.heap.size w (((W.putObj D3 (.deferred none)).putObj D2 (.deferred none)).putObj D1 (.deferred none)):=by
 have k2:=put_df (o:=.deferred none) (h.ds D2 (by simp)) (show D2≠D3 by omega)
 have k1:=put_df (o:=.deferred none) (put_df (o:=.deferred none) (h.ds D1 (by simp)) (show D1≠D3 by omega)) (show D1≠D2 by omega)
 have g1:=h.g.grown (grownBy_putObj' W D3 (.deferred none)) (fun r e ev=>by cases e;exact h.g.apart_ob hK rfl ev.symm)
 have g2:=g1.grown (grownBy_putObj' _ D2 (.deferred none)) (fun r e ev=>by cases e;exact g1.apart_ob k2 rfl ev.symm)
 have g3:=g2.grown (grownBy_putObj' _ D1 (.deferred none)) (fun r e ev=>by cases e;exact g2.apart_ob k1 rfl ev.symm)
 obtain ⟨a,c,rfl,hO⟩:=g3.own wrC_len
 exact ⟨k2,k1,a,c,rfl,g3,((h.b.trans (belowK_b (w:=w) (Nat.le_refl _) _ D3 _ _ (by omega) hK rfl rfl)).trans (belowK_b (w:=w) (Nat.le_refl _) _ D2 _ _ (by omega) k2 rfl rfl)).trans (belowK_b (w:=w) (Nat.le_refl _) _ D1 _ _ h1 k1 rfl rfl)⟩
end
end Go.Proofs.Ytnhkojpbbdaedaa
