/- The document's own: an item brought elsewhere, what is got, and dropped. -/
import Derived.Test.YtnhkojpbbdaedaaGreatGHoldA
namespace Go.Proofs.YtnhkojpbbdaedaaGreat
open Go.ChangeShapes Go.WideShapes Go.ChangeAt Go.RowKit
set_option linter.unusedVariables false
section
theorem Cc.putPlace {n:Nat} {W:World} {p:Dp} {q:Wp} {x:Wd} (h:Cc n W p q x) {k:Nat} (hk:k<x.wher.length):∃b,q.wh=some ⟨b,0,none⟩∧n≤b∧b<W.heap.size∧(W.cell? ⟨b,k*2,none⟩=some (.int .i64 x.wher[k].kind)∧W.cell? ⟨b,k*2+1,none⟩=some (.int .i64 x.wher[k].id))∧(∀r,W.frozen? ⟨b,r,none⟩=false) ∧
 ∀y:Pl,Cc n ((W.setCell ⟨b,k*2,none⟩ (.int .i64 y.kind)).setCell ⟨b,k*2+1,none⟩ (.int .i64 y.id)) p q ⟨x.d,x.at_,x.coins,x.wher.set k y⟩:=by
 obtain ⟨h0,m1,m2,g1,g2,h1,l1,h2,l2,h3⟩:=h
 obtain ⟨b,hb,hn,hl,hc,hf,hput⟩:=h3.put hk (j:=0) (by omega)
 refine ⟨b,hb,by omega,hl,⟨by simpa [plC] using hc 0 (by omega),by simpa [plC] using hc 1 (by omega)⟩,hf,fun y=>⟨h0,m1,m2,g1,g2,(h1.far (fun r hr=>by have:=l1 r hr;omega) _ _).far (fun r hr=>by have:=l1 r hr;omega) _ _,l1,(h2.far (fun r hr=>by have:=l2 r hr;omega) _ _).far (fun r hr=>by have:=l2 r hr;omega) _ _,l2,?_⟩⟩
 have h4:=hput (.int .i64 y.kind) ⟨y.kind,x.wher[k].id⟩ rfl (fun r hr=>by
  obtain rfl|rfl:r=0∨r=1:=by omega
  ·rfl
  ·rfl)
 obtain ⟨b',hb',_,_,_,_,hput'⟩:=h4.put (i:=k) (by simpa using hk) (j:=1) (by omega)
 obtain rfl:b'=b:=by simpa using hb'.symm
 have h5:=hput' (.int .i64 y.id) y rfl (fun r hr=>by
  obtain rfl|rfl:r=0∨r=1:=by omega
  ·simp [plC]
  ·rfl)
 rw [hb]
 simpa using h5
def Ae6 (n:Nat) (W:World) (p q:Wp) (x:Wd) (R:Wd × Int):Prop:=(¬R.2=0∧R.1=x∧q=p)∨(R.2=0∧R.1.d=x.d∧Cc n W p.d q R.1)
theorem Ae6.world {w W:World} {p q:Wp} {x:Wd} {R:Wd × Int} (h:Ae6 w.heap.size W p q x R) (hw:Ab w p x) (hb:Below w.heap.size w W):Ab W q R.1:=by
 rcases h with ⟨_,h1,h2⟩|⟨_,h1,h2⟩
 ·rw [h1,h2];exact hw.call hb
 ·exact h2.new.world (by rw [h1];exact hw.d) hb
theorem rS7 {t s:TypeId} {w v:World} {cs:Array Value} (h:TwoE t s w v cs) {p1 p2 p3:Addr} {u1 u2 u3:Value} (c1:w.cell? p1=some u1) (c2:w.cell? p2=some u2) (c3:w.cell? p3=some u3):Below w.heap.size w v∧w.heap.size<v.heap.size∧(∀i,v.cell? ⟨w.heap.size,i,none⟩=cs[i]?)∧w.heap.size+1<v.heap.size∧v.cell? p1=some u1∧v.cell? p2=some u2∧v.cell? p3=some u3:=by
 obtain ⟨h1,h2,h3,h4⟩:=Ry h
 exact ⟨h1,h2,h3,h4,Ad c1 h1,Ad c2 h1,Ad c3 h1⟩
end
section
section
variable (x:Wd) (pd:Dp) (ab ao pac:Nat) (pk:Option Addr) (pkc b o pwc:Nat) (i k:Nat) (w:World) (hx:Ai x=true) (h:Ab w ⟨pd,some ⟨ab,ao,none⟩,pac,pk,pkc,some ⟨b,o,none⟩,pwc⟩ x) (hi:i<x.at_.length) (hk:k<x.wher.length)
 (c0:w.cell? ⟨b,o+k*2,none⟩=some (.int .i64 (plOf x.wher k).kind)) (c1:w.cell? ⟨b,o+k*2+1,none⟩=some (.int .i64 (plOf x.wher k).id)) (c2:w.cell? ⟨ab,ao+i,none⟩=some (.int .i64 (Ah x i:Int)))
include hx h hi hk c0 c1 c2
end
end
section
section
variable (x:Wd) (pd:Dp) (ab ao pac:Nat) (pk:Option Addr) (pkc b o pwc:Nat) (i k:Nat) (w:World) (hx:Ai x=true) (h:Ab w ⟨pd,some ⟨ab,ao,none⟩,pac,pk,pkc,some ⟨b,o,none⟩,pwc⟩ x) (hi:i<x.at_.length) (hk:k<x.wher.length)
 (c0:w.cell? ⟨b,o+k*2,none⟩=some (.int .i64 (plOf x.wher k).kind)) (c1:w.cell? ⟨b,o+k*2+1,none⟩=some (.int .i64 (plOf x.wher k).id)) (c2:w.cell? ⟨ab,ao+i,none⟩=some (.int .i64 (Ah x i:Int)))
include hx h hi hk c0 c1 c2
end
end
end Go.Proofs.YtnhkojpbbdaedaaGreat
