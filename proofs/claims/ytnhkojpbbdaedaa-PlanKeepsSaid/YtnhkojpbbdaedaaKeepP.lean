/- What the rounds of a range over a function keep; two boxes of a closure. -/
import Derived.RangeFuncNested
import Derived.Test.YtnhkojpbbdaedaaGWorld
namespace Go.Proofs.Ytnhkojpbbdaedaa
open Go.ChangeShapes Go.WideShapes Go.ChangeAt Go.RowKit
set_option linter.unusedVariables false
open Go.RowKit
def KP (N:Nat→Prop) (W W':World):Prop:=W.heap.size≤W'.heap.size∧∀b cs t f,N b→W.heap[b]?=some (.cells cs t f)→W'.heap[b]?=some (.cells cs t f)
section
variable {N:Nat→Prop} {A B C:World}
theorem KP.refl (W:World):KP N W W:=⟨Nat.le_refl _,fun _ _ _ _ _ h=>h⟩
theorem KP.trans (h:KP N A B) (k:KP N B C):KP N A C:=⟨Nat.le_trans h.1 k.1,fun b cs t f hn hb=>k.2 b cs t f hn (h.2 b cs t f hn hb)⟩
theorem KP.grown {row:Option Nat} (h:KP N A B) (hg:B.grownBy C row) (hr:∀b,row=some b→¬N b):KP N A C :=
 ⟨Nat.le_trans h.1 hg.size,fun b cs t f hn hb=>by
   have h2:=h.2 b cs t f hn hb
   exact (hg.block b (Array.getElem?_eq_some_iff.1 h2).1 (fun e=>hr b e.symm hn)).trans h2⟩
theorem KP.set (h:KP N A B) {bS:Nat} (hS:¬N bS) (i:Nat) (v:Value):KP N A (B.setCell ⟨bS,i,none⟩ v) :=
 ⟨by have:=h.1;simp [World.setCell];omega,fun b cs t f hn hb=>(Below.heap_setCell B ⟨bS,i,none⟩ v b (fun e=>hS (by subst e;exact hn))).trans (h.2 b cs t f hn hb)⟩
theorem KP.put (W:World) (l:Nat) (o o':Obj) (h:W.heap[l]?=some o) (hc:o.isCells=false):KP N W (W.putObj l o') :=
 ⟨by simp [World.putObj],fun b cs t f _ hb=>by
   have:b≠l:=fun e=>by subst e;rw [h] at hb;cases hb;cases hc
   exact (World.putObj_heap_other this).trans hb⟩
theorem KP.below (h:KP N A B) (hb:Below B.heap.size B C):KP N A C:=⟨Nat.le_trans h.1 hb.size,fun b cs t f hn hh=>by have h2:=h.2 b cs t f hn hh;exact (hb.block b (Array.getElem?_eq_some_iff.1 h2).1).trans h2⟩
theorem KP.cell (h:KP N A B) {p:Addr} {v:Value} (hp:N p.block) (hs:p.spot=none) (hc:A.cell? p=some v):B.cell? p=some v:=by
 obtain ⟨b,o,s⟩:=p
 simp only at hs hp
 subst hs
 unfold World.cell? at hc ⊢
 simp only at hc ⊢
 cases hb:A.heap[b]? with
 | none=>rw [hb] at hc;cases hc
 | some ob =>
   rw [hb] at hc
   cases ob with
   | cells cs t f=>rw [h.2 b cs t f hp hb];exact hc
   | _=>cases hc
theorem KP.blk (h:KP N A B) {g:Nat} {t:TypeId} {cs:Array Value} (hg:N g) (hb:Blk A g t cs):Blk B g t cs:=h.2 g cs t (0,0) hg hb
theorem KP.ints (h:KP N A B) {a:Option Addr} {xs:List Int} (hx:Ae A a xs) (ha:xs=[]∨∀q,a=some q→N q.block):Ae B a xs:=by
 refine ⟨hx.1,?_⟩
 rcases ha with h0|ha
 ·exact .inl h0
 refine hx.2.imp id ?_
 rintro ⟨b,off,rfl,hb,hc⟩
 exact ⟨b,off,rfl,Nat.lt_of_lt_of_le hb h.1,fun i hi=>h.cell (p:=⟨b,off+i,none⟩) (ha ⟨b,off,none⟩ rfl) rfl (hc i hi)⟩
theorem KP.pls (h:KP N A B) {a:Option Addr} {xs:List Pl} (hx:Au A a xs) (ha:xs=[]∨∀q,a=some q→N q.block):Au B a xs:=by
 refine ⟨hx.1,?_⟩
 rcases ha with h0|ha
 ·exact .inl h0
 refine hx.2.imp id ?_
 rintro ⟨b,off,rfl,hb,hc⟩
 refine ⟨b,off,rfl,Nat.lt_of_lt_of_le hb h.1,fun i hi j hj=>?_⟩
 have h1:=hc i hi j hj
 have h2:j<(plC xs[i]).length:=by simp [plC];omega
 rw [List.getElem?_eq_getElem h2] at h1 ⊢
 exact h.cell (p:=⟨b,off+i*2+j,none⟩) (ha ⟨b,off,none⟩ rfl) rfl h1
end
def chgW (a b:Value) (t:TypeId) (w:World):World:=(w.alloc (.cells #[a] t)).alloc (.cells #[b] t)
theorem chgW_size (a b:Value) (t:TypeId) (w:World):(chgW a b t w).heap.size=w.heap.size+2:=by simp [chgW]
theorem chgW_below (a b:Value) (t:TypeId) (w:World):Below w.heap.size w (chgW a b t w):=((Below.refl _ w).alloc (Nat.le_refl _) _).alloc (by simp) _
theorem chgW_a (a b:Value) (t:TypeId) (w:World):Blk (chgW a b t w) w.heap.size t #[a]:=(Blk.new w _ _).alloc _
theorem chgW_b (a b:Value) (t:TypeId) (w:World):Blk (chgW a b t w) (w.heap.size+1) t #[b]:=Blk.newn _ _ _ (by simp)
theorem Cp7 (W:World) (n:Nat):W.grownBy (W.drewN n) none:=⟨rfl,rfl,rfl,Nat.le_refl _,fun _ _ _=>rfl⟩
end Go.Proofs.Ytnhkojpbbdaedaa
