/- atom: functions that are made of functions: each may be asked in whatever world comes of the one in which it was made. -/
import Derived.Test.YtenpcndoilcjcaaGWaysC
import Derived.Test.YtenpcndoilcjcaaGHoldA
import Derived.Test.YtenpcndoilcjcaaAtomMath
import Derived.Deep.DeepCutAuto
import Derived.Laws.EntriesVeiled
import Derived.Maps.Own
namespace Go.Proofs.Ytenpcndoilcjcaa
open Go.ChangeShapes Go.WideShapes Go.ChangeAt Go.RowKit
set_option linter.unusedVariables false
open Go.RowKit Go.ChangeMaps Go.MapKept
theorem Cc0 (fn:Fn) (first cap:Array Value) (w:World):(Instr.makeFunc fn first cap).run Try.prog w=.ok (.func fn first cap) w:=rfl
def Bq (W W':World):Prop:=∀(b:Nat) (cs:Array Value) (t:TypeId) (f:Nat × Nat),W.heap[b]?=some (.cells cs t f)→W'.heap[b]?=some (.cells cs t f)
theorem Bq.refl (W:World):Bq W W:=fun _ _ _ _ h=>h
theorem Bq.trans {W W1 W2:World} (h:Bq W W1) (k:Bq W1 W2):Bq W W2:=fun b cs t f e=>k b cs t f (h b cs t f e)
theorem Bq.below {W W':World} (hb:Below W.heap.size W W'):Bq W W':=fun b _ _ _ h=>(hb.block b (Array.getElem?_eq_some_iff.1 h).1).trans h
theorem Blk.cstay {W W':World} {g:Nat} {t:TypeId} {cs:Array Value} (h:Blk W g t cs) (k:Bq W W'):Blk W' g t cs:=k _ _ _ _ h
def FnAt (w0 W:World) (G:Prop) (v:Value) (args:Array Value) (post:World→Ending→World→Prop):Prop :=
 ∃F fs,v=.func (.func F) #[] fs∧(∀(args:Array Value) (w:World),(callFunc F args).run Try.prog w=.ok (.enter F args) w) ∧
  (G→∀W',Bq W W'→Below w0.heap.size w0 W'→Calls Try.prog F (args++fs) W' (post W'))
theorem FnAt.stay {w0 W W1:World} {G:Prop} {v:Value} {args:Array Value} {post:World→Ending→World→Prop} (h:FnAt w0 W G v args post) (hs:Bq W W1):FnAt w0 W1 G v args post:=by
 obtain ⟨F,fs,h1,h2,h3⟩:=h
 exact ⟨F,fs,h1,h2,fun g W' hs'=>h3 g W' (hs.trans hs')⟩
theorem Li {w0 W:World} {G:Prop} {F:Nat} {args:Array Value} {post:World→Ending→World→Prop} (he:∀(args:Array Value) (w:World),(callFunc F args).run Try.prog w=.ok (.enter F args) w)
 (h:G→∀W',Below w0.heap.size w0 W'→Calls Try.prog F args W' (post W')):FnAt w0 W G (.func (.func F) #[] #[]) args post :=
 ⟨F,#[],rfl,he,fun g W' _ hb=>by rw [Array.append_empty];exact h g W' hb⟩
def goP (x:Wd) (p:Wp) (A:Wd × Int × Int) (W:World) (e:Ending) (w':World):Prop:=∃q:Wp,e=.returned (.tuple #[.agg (wC x q),.int .i64 A.2.1,.int .i64 A.2.2])∧Went W.heap.size w' p q x A∧Below W.heap.size W w'
def doP (x:Wd) (p:Wp) (A:Wd × Int × Int) (W:World) (e:Ending) (w':World):Prop:=∃q:Wp,e=.returned (.tuple #[.agg (wC x q),.int .i64 A.2.2])∧Went W.heap.size w' p q x A∧Below W.heap.size W w'
def seP (R:Rp) (W:World) (e:Ending) (w':World):Prop:=∃(qa ia:Option Addr) (qc ic:Nat),e=.returned (.agg #[.int .i64 R.err,.int .i64 R.kind,.int .i64 R.room,.slice qa R.players.length qc,.slice ia R.items.length ic,.int .i64 R.coins])∧NewR W.heap.size w' qa ia R∧Below W.heap.size W w'
def Did (n:Nat) (W:World) (p q:Wp) (x:Wd) (qa ia:Option Addr) (R:Wd × Rp):Prop:=((R.1=x∧q=p)∨Ao n W q R.1)∧NewR n W qa ia R.2
def deP (x:Wd) (p:Wp) (R:Wd × Rp) (W:World) (e:Ending) (w':World):Prop:=∃(q:Wp) (qa ia:Option Addr) (qc ic:Nat),e=.returned (.tuple #[.agg (wC x q),.agg #[.int .i64 R.2.err,.int .i64 R.2.kind,.int .i64 R.2.room,.slice qa R.2.players.length qc,.slice ia R.2.items.length ic,.int .i64 R.2.coins]])∧Did W.heap.size w' p q x qa ia R∧Below W.heap.size W w'
theorem Did.call {n:Nat} {W W':World} {p q:Wp} {x:Wd} {qa ia:Option Addr} {R:Wd × Rp} (h:Did n W p q x qa ia R) (hb:Below W.heap.size W W'):Did n W' p q x qa ia R:=⟨h.1.imp id (fun h=>h.call hb),h.2.call hb⟩
theorem Did.set {n:Nat} {W:World} {p q:Wp} {x:Wd} {qa ia:Option Addr} {R:Wd × Rp} (h:Did n W p q x qa ia R) {b:Nat} (hb:b<n) (i:Nat) (u:Value):Did n (W.setCell ⟨b,i,none⟩ u) p q x qa ia R:=⟨h.1.imp id (fun h=>h.set hb i u),h.2.set hb i u⟩
theorem Did.less {n m:Nat} {W:World} {p q:Wp} {x:Wd} {qa ia:Option Addr} {R:Wd × Rp} (h:Did n W p q x qa ia R) (hm:m≤n):Did m W p q x qa ia R:=⟨h.1.imp id (fun h=>h.less hm),h.2.less hm⟩
theorem Did.world {n:Nat} {W:World} {p q:Wp} {x:Wd} {qa ia:Option Addr} {R:Wd × Rp} (h:Did n W p q x qa ia R) (hw:Ab W p x):Ab W q R.1:=by
 rcases h.1 with ⟨h1,h2⟩|h2
 ·rw [h1,h2];exact hw
 ·exact h2.world
theorem Je (n:Nat) (W:World) {r:Rp} (h1:r.players=[]) (h2:r.items=[]):NewR n W none none r:=⟨by rw [h1];exact Aq8 _ _ _ _ _,by rw [h2];exact Aq8 _ _ _ _ _⟩
theorem Did.drew {n:Nat} {W:World} {p q:Wp} {x:Wd} {qa ia:Option Addr} {R:Wd × Rp} (h:Did n W p q x qa ia R):Did n W.drew p q x qa ia R:=h.call (Af (Below.refl _ _))
def Sd (x:Wd) (c:Cm) (A:Wd × Int × Int):Wd × Rp:=if A.2.2=0 then (A.1,okR c.kind A.2.1) else (x,errR A.2.2)
theorem Fj7 {n:Nat} {W:World} {p q:Wp} {x y:Wd} {r:Int} (k:Int) (h:Went n W p q x (y,r,0)):Did n W p q x none none (y,okR k r):=by
 rcases h with ⟨h,_⟩|⟨_,h⟩
 ·exact absurd rfl h
 ·exact ⟨.inr h,Je _ _ rfl rfl⟩
theorem Df0 (n:Nat) (W:World) (p:Wp) (x:Wd) (e:Int):Did n W p p x none none (x,errR e):=⟨.inl ⟨rfl,rfl⟩,Je _ _ rfl rfl⟩
theorem Kw {x:Wd} {i:Nat} {c:Cm} (hm:Ak c=true) (hk:c.kind≤8):doW x i c=Sd x c (actW x i c):=by
 unfold doW Sd
 rw [if_neg (by rw [hm];simp),if_neg (by omega),if_neg (by omega)]
theorem Ba6 {c:Cm} (h:Ak c=true):c.gives.length≤16∧c.wants.length≤16:=by
 rw [←Ej] at h
 simp only [mayB,Gn,Uh,Bool.and_eq_true,decide_eq_true_eq] at h
 exact ⟨h.1.2.1.2.1,h.1.2.2.1⟩
theorem Mi {c:Cm} (h:Ak c=true):0≤c.dir∧c.dir<4:=by
 rw [←Ej] at h
 simp only [mayB,Gn,Cq,Bool.and_eq_true,decide_eq_true_eq] at h
 exact h.1.2.1.1.1
theorem Jw (x:Wd) (i:Nat) (c:Cm) (hk:3≤c.kind):(actW x i c).2.1=0:=by
 unfold actW
 rw [if_neg (by omega),if_neg (by omega)]
 repeat (first|rfl|split)
def Two2 (a b:Nat) (A B:Array Value) (W:World):Prop:=(∀ii,W.cell? ⟨a,ii,none⟩=(A[ii]?:Option Value))∧(∀ii,W.cell? ⟨b,ii,none⟩=(B[ii]?:Option Value))
theorem Two2.set {a b r:Nat} {A B:Array Value} {W:World} (ha:a≠r) (hb:b≠r) (h:Two2 a b A B W) (i:Nat) (u:Value):Two2 a b A B (W.setCell ⟨r,i,none⟩ u) :=
 ⟨fun j=>(World.cell?_setCell_far _ _ _ _ (by simpa using Ne.symm ha)).trans (h.1 j),fun j=>(World.cell?_setCell_far _ _ _ _ (by simpa using Ne.symm hb)).trans (h.2 j)⟩
theorem Two2.drew {a b:Nat} {A B:Array Value} {W:World} (h:Two2 a b A B W):Two2 a b A B W.drew:=h
theorem Fe {a b:Nat} {A B:Array Value} {W:World} (h:Two2 a b A B W):(∀ii,W.cell? ⟨a,ii,none⟩=(A[ii]?:Option Value))∧(∀ii,W.cell? ⟨b,ii,none⟩=(B[ii]?:Option Value)):=h
def Two1 (a n:Nat) (A:Array Value) (v:Value) (W:World):Prop:=(∀ii,W.cell? ⟨a,ii,none⟩=(A[ii]?:Option Value))∧W.cell? ⟨n,0,none⟩=some v
theorem Two1.set {a n r:Nat} {A:Array Value} {v:Value} {W:World} (ha:a≠r) (hb:n≠r) (h:Two1 a n A v W) (i:Nat) (u:Value):Two1 a n A v (W.setCell ⟨r,i,none⟩ u) :=
 ⟨fun j=>(World.cell?_setCell_far _ _ _ _ (by simpa using Ne.symm ha)).trans (h.1 j),(World.cell?_setCell_far _ _ _ _ (by simpa using Ne.symm hb)).trans h.2⟩
theorem Two1.drew {a n:Nat} {A:Array Value} {v:Value} {W:World} (h:Two1 a n A v W):Two1 a n A v W.drew:=h
theorem Aw6 {a n:Nat} {A:Array Value} {v:Value} {W:World} (h:Two1 a n A v W):(∀ii,W.cell? ⟨a,ii,none⟩=(A[ii]?:Option Value))∧W.cell? ⟨n,0,none⟩=some v:=h
section
variable (x:Wd) (p:Wp) (i:Nat) (c:Cm) (ga wa:Option Addr) (gc wc:Nat)
end
end Go.Proofs.Ytenpcndoilcjcaa
