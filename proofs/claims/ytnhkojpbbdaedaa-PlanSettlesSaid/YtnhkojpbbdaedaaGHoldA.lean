/- hold: is there such an item; the places; an item brought elsewhere. -/
import Derived.Test.YtnhkojpbbdaedaaGTreeL
namespace Go.Proofs.Ytnhkojpbbdaedaa
open Go.ChangeShapes Go.WideShapes Go.ChangeAt Go.RowKit
set_option linter.unusedVariables false
section
theorem Ci {x:Wd} (h:Ai x=true):FewW x:=by
 have h1:=Aj h
 have h2:=Kv h1.2.2.2.2.2
 exact ⟨⟨by omega,by omega,by omega,by omega,by omega⟩,by omega,by omega,by omega⟩
structure Tri (t u s:TypeId) (w v:World) (cs ds z:Array Value):Prop where
 a:Blk v w.heap.size t cs
 m:Blk v (w.heap.size+1) u ds
 r:Blk v (w.heap.size+2) s z
 b:Below w.heap.size w v
section
variable {t u s:TypeId} {w v v1:World} {cs ds z:Array Value}
theorem Tri.rr (h:Tri t u s w v cs ds z):(∀i,v.cell? ⟨w.heap.size+1+1,i,none⟩=z[i]?)∧(∀i,v.frozen? ⟨w.heap.size+1+1,i,none⟩=false)∧w.heap.size+1+1<v.heap.size:=⟨h.r.cell,h.r.frozen,h.r.lt⟩
theorem Tri.start (t u s:TypeId) (w:World) (cs ds z:Array Value):Tri t u s w (((w.alloc (.cells cs t)).alloc (.cells ds u)).alloc (.cells z s)) cs ds z :=
 ⟨((Blk.new w _ cs).alloc _).alloc _,(Blk.newn _ _ _ (by simp)).alloc _,Blk.newn _ _ _ (by simp),((b_a _).alloc (by simp) _).alloc (by simp;omega) _⟩
theorem Tri.call (h:Tri t u s w v cs ds z) (hb:Below v.heap.size v v1):Tri t u s w v1 cs ds z:=⟨h.a.call hb,h.m.call hb,h.r.call hb,bl h.b (hb.mono (Nat.le_refl _))⟩
theorem Tri.alloc (h:Tri t u s w v cs ds z) (o:Obj):Tri t u s w (v.alloc o) cs ds z:=h.call (b_a _)
theorem Tri.size (h:Tri t u s w v cs ds z):w.heap.size+3≤v.heap.size:=h.r.lt
end
structure Qua (t u s r:TypeId) (w v:World) (cs ds es z:Array Value):Prop where
 a:Blk v w.heap.size t cs
 m:Blk v (w.heap.size+1) u ds
 n:Blk v (w.heap.size+2) s es
 r:Blk v (w.heap.size+3) r z
 b:Below w.heap.size w v
section
variable {t u s r:TypeId} {w v v1:World} {cs ds es z:Array Value}
theorem Qua.rr (h:Qua t u s r w v cs ds es z):(∀i,v.cell? ⟨w.heap.size+1+1+1,i,none⟩=z[i]?)∧(∀i,v.frozen? ⟨w.heap.size+1+1+1,i,none⟩=false)∧w.heap.size+1+1+1<v.heap.size:=⟨h.r.cell,h.r.frozen,h.r.lt⟩
theorem Qua.start (t u s r:TypeId) (w:World) (cs ds es z:Array Value):Qua t u s r w ((((w.alloc (.cells cs t)).alloc (.cells ds u)).alloc (.cells es s)).alloc (.cells z r)) cs ds es z :=
 ⟨(((Blk.new w _ cs).alloc _).alloc _).alloc _,((Blk.newn _ _ _ (by simp)).alloc _).alloc _,(Blk.newn _ _ _ (by simp)).alloc _,Blk.newn _ _ _ (by simp),(((b_a _).alloc (by simp) _).alloc (by simp;omega) _).alloc (by simp;omega) _⟩
theorem Qua.call (h:Qua t u s r w v cs ds es z) (hb:Below v.heap.size v v1):Qua t u s r w v1 cs ds es z:=⟨h.a.call hb,h.m.call hb,h.n.call hb,h.r.call hb,bl h.b (hb.mono (Nat.le_refl _))⟩
theorem Qua.size (h:Qua t u s r w v cs ds es z):w.heap.size+4≤v.heap.size:=h.r.lt
end
end
section
def Took (n:Nat) (W:World) (p q:Wp) (x:Wd) (R:Wd × Int):Prop:=(¬R.2=0∧R.1=x∧q=p)∨(R.2=0∧Ao n W q R.1)
theorem Took.call {n:Nat} {W W':World} {p q:Wp} {x:Wd} {R:Wd × Int} (h:Took n W p q x R) (hb:Below W.heap.size W W'):Took n W' p q x R:=h.imp id (fun ⟨h1,h2⟩=>⟨h1,h2.call hb⟩)
theorem Took.set {n:Nat} {W:World} {p q:Wp} {x:Wd} {R:Wd × Int} (h:Took n W p q x R) {b:Nat} (hb:b<n) (i:Nat) (u:Value):Took n (W.setCell ⟨b,i,none⟩ u) p q x R:=h.imp id (fun ⟨h1,h2⟩=>⟨h1,h2.set hb i u⟩)
theorem Took.less {n m:Nat} {W:World} {p q:Wp} {x:Wd} {R:Wd × Int} (h:Took n W p q x R) (hm:m≤n):Took m W p q x R:=h.imp id (fun ⟨h1,h2⟩=>⟨h1,h2.less hm⟩)
theorem Took.world {n:Nat} {W:World} {p q:Wp} {x:Wd} {R:Wd × Int} (h:Took n W p q x R) (hw:Ab W p x):Ab W q R.1:=by
 rcases h with ⟨_,h1,h2⟩|⟨_,h2⟩
 ·rw [h1,h2];exact hw
 ·exact h2.world
theorem Yh {x:Wd} (h:Ai x=true) {q:Nat} (hq:q<3):0≤Cb x.d q∧Cb x.d q≤64:=by
 have hm:=(Aj h).2.2.2.2.2
 simp only [mayD,Ot,Bool.and_eq_true,List.all_eq_true] at hm
 have hc:=hm.2.2.1
 have c0:=hc x.d.room (by simp)
 have c1:=hc x.d.player (by simp)
 have c2:=hc x.d.box (by simp)
 simp only [capB,Bool.and_eq_true,decide_eq_true_eq] at c0 c1 c2
 obtain rfl|rfl|rfl:q=0∨q=1∨q=2:=by omega
 all_goals simp [Cb];omega
section
variable (x:Wd) (pd:Dp) (pa:Option Addr) (pac:Nat) (pk:Option Addr) (pkc b o pwc:Nat) (k:Nat) (f:Pl) (w:World) (hx:Ai x=true) (h:Ab w ⟨pd,pa,pac,pk,pkc,some ⟨b,o,none⟩,pwc⟩ x) (hk:k<x.wher.length)
 (c0:w.cell? ⟨b,o+k*2,none⟩=some (.int .i64 (plOf x.wher k).kind)) (c1:w.cell? ⟨b,o+k*2+1,none⟩=some (.int .i64 (plOf x.wher k).id))
include hx h hk c0 c1
end
end
section
end
end Go.Proofs.Ytnhkojpbbdaedaa
