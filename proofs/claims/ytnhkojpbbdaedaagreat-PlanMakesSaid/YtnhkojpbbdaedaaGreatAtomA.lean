/- atom: functions that are made of functions: each may be asked in whatever world comes of the one in which it was made. -/
import Derived.Test.YtnhkojpbbdaedaaGreatGWaysC
import Derived.Test.YtnhkojpbbdaedaaGreatGHoldA
import Derived.Test.YtnhkojpbbdaedaaGreatAtomMath
import Derived.Deep.DeepCutAuto
import Derived.Laws.EntriesVeiled
import Derived.Maps.Own
namespace Go.Proofs.YtnhkojpbbdaedaaGreat
open Go.ChangeShapes Go.WideShapes Go.ChangeAt Go.RowKit Go.Proofs.Tryz
open Lib (hid)
set_option linter.unusedVariables false
set_option maxHeartbeats 1000000
set_option maxRecDepth 100000
open Go.RowKit Go.ChangeMaps Go.MapKept
theorem Cc0 (fn:Fn) (first cap:Array Value) (w:World):(Instr.makeFunc fn first cap).run prog w=.ok (.func fn first cap) w:=rfl
def Bq (W W':World):Prop:=∀(b:Nat) (cs:Array Value) (t:TypeId) (f:Nat × Nat),W.heap[b]?=some (.cells cs t f)→W'.heap[b]?=some (.cells cs t f)
theorem Bq.refl (W:World):Bq W W:=fun _ _ _ _ h=>h
theorem Bq.trans {W W1 W2:World} (h:Bq W W1) (k:Bq W1 W2):Bq W W2:=fun b cs t f e=>k b cs t f (h b cs t f e)
theorem Bq.below {W W':World} (hb:Below W.heap.size W W'):Bq W W':=fun b _ _ _ h=>(hb.block b (Array.getElem?_eq_some_iff.1 h).1).trans h
theorem Blk.cstay {W W':World} {g:Nat} {t:TypeId} {cs:Array Value} (h:Blk W g t cs) (k:Bq W W'):Blk W' g t cs:=k _ _ _ _ h
def FnAt (w0 W:World) (G:Prop) (v:Value) (args:Array Value) (post:World→Ending→World→Prop):Prop :=
 ∃F fs,v=.func (.func F) #[] fs∧(∀(args:Array Value) (w:World),(callFunc F args).run prog w=.ok (.enter F args) w) ∧
  (G→∀W',Bq W W'→Below w0.heap.size w0 W'→Calls prog F (args++fs) W' (post W'))
theorem FnAt.stay {w0 W W1:World} {G:Prop} {v:Value} {args:Array Value} {post:World→Ending→World→Prop} (h:FnAt w0 W G v args post) (hs:Bq W W1):FnAt w0 W1 G v args post:=by
 obtain ⟨F,fs,h1,h2,h3⟩:=h
 exact ⟨F,fs,h1,h2,fun g W' hs'=>h3 g W' (hs.trans hs')⟩
theorem Li {w0 W:World} {G:Prop} {F:Nat} {args:Array Value} {post:World→Ending→World→Prop} (he:∀(args:Array Value) (w:World),(callFunc F args).run prog w=.ok (.enter F args) w)
 (h:G→∀W',Below w0.heap.size w0 W'→Calls prog F args W' (post W')):FnAt w0 W G (.func (.func F) #[] #[]) args post :=
 ⟨F,#[],rfl,he,fun g W' _ hb=>by rw [Array.append_empty];exact h g W' hb⟩
def goP (x:Wd) (p:Wp) (A:Wd × Int × Int) (W:World) (e:Ending) (w':World):Prop:=∃q:Wp,e=.returned (.tuple #[.agg (wC x q),.int .i64 A.2.1,.int .i64 A.2.2])∧Went W.heap.size w' p q x A∧Below W.heap.size W w'
def doP (x:Wd) (p:Wp) (A:Wd × Int × Int) (W:World) (e:Ending) (w':World):Prop:=∃q:Wp,e=.returned (.tuple #[.agg (wC x q),.int .i64 A.2.2])∧Went W.heap.size w' p q x A∧Below W.heap.size W w'
def seP (R:Rp) (W:World) (e:Ending) (w':World):Prop:=∃(qa ia:Option Addr) (qc ic:Nat),e=.returned (.agg #[.int .i64 R.err,.int .i64 R.kind,.int .i64 R.room,.slice qa R.players.length qc,.slice ia R.items.length ic,.int .i64 R.coins])∧NewR W.heap.size w' qa ia R∧Below W.heap.size W w'
def Did (n:Nat) (W:World) (p q:Wp) (x:Wd) (qa ia:Option Addr) (R:Wd × Rp):Prop:=((R.1=x∧q=p)∨Ao n W q R.1)∧NewR n W qa ia R.2
def deP (x:Wd) (p:Wp) (R:Wd × Rp) (W:World) (e:Ending) (w':World):Prop:=∃(q:Wp) (qa ia:Option Addr) (qc ic:Nat),e=.returned (.tuple #[.agg (wC x q),.agg #[.int .i64 R.2.err,.int .i64 R.2.kind,.int .i64 R.2.room,.slice qa R.2.players.length qc,.slice ia R.2.items.length ic,.int .i64 R.2.coins]])∧Did W.heap.size w' p q x qa ia R∧Below W.heap.size W w'
theorem Did.call {n:Nat} {W W':World} {p q:Wp} {x:Wd} {qa ia:Option Addr} {R:Wd × Rp} (h:Did n W p q x qa ia R) (hb:Below W.heap.size W W'):Did n W' p q x qa ia R:=⟨h.1.imp id (fun h=>h.call hb),h.2.call hb⟩
theorem Did.set {n:Nat} {W:World} {p q:Wp} {x:Wd} {qa ia:Option Addr} {R:Wd × Rp} (h:Did n W p q x qa ia R) {b:Nat} (hb:b<n) (i:Nat) (u:Value):Did n (W.setCell ⟨b,i,none⟩ u) p q x qa ia R:=⟨h.1.imp id (fun h=>h.set hb i u),h.2.set hb i u⟩
theorem Did.less {n m:Nat} {W:World} {p q:Wp} {x:Wd} {qa ia:Option Addr} {R:Wd × Rp} (h:Did n W p q x qa ia R) (hm:m≤n):Did m W p q x qa ia R:=⟨h.1.imp id (fun h=>h.less hm),h.2.less hm⟩
theorem Did.world {n:Nat} {W:World} {p q:Wp} {x:Wd} {qa ia:Option Addr} {R:Wd × Rp} (h:Did n W p q x qa ia R) (hw:Ab W p x):Ab W q R.1:=by
 rcases h.1 with ⟨h1,h2⟩|h2
 ·rw [h1,h2];exact hw
 ·exact h2.world
theorem Je (n:Nat) (W:World) {r:Rp} (h1:r.players=[]) (h2:r.items=[]):NewR n W none none r:=⟨by rw [h1];exact Aq8 _ _ _ _ _,by rw [h2];exact Aq8 _ _ _ _ _⟩
theorem Did.drew {n:Nat} {W:World} {p q:Wp} {x:Wd} {qa ia:Option Addr} {R:Wd × Rp} (h:Did n W p q x qa ia R):Did n W.drew p q x qa ia R:=h.call (Af (Below.refl _ _))
def Sd (x:Wd) (c:Cm) (A:Wd × Int × Int):Wd × Rp:=if A.2.2=0 then (A.1,okR c.kind A.2.1) else (x,errR A.2.2)
theorem Fj7 {n:Nat} {W:World} {p q:Wp} {x y:Wd} {r:Int} (k:Int) (h:Went n W p q x (y,r,0)):Did n W p q x none none (y,okR k r):=by
 rcases h with ⟨h,_⟩|⟨_,h⟩
 ·exact absurd rfl h
 ·exact ⟨.inr h,Je _ _ rfl rfl⟩
theorem Df0 (n:Nat) (W:World) (p:Wp) (x:Wd) (e:Int):Did n W p p x none none (x,errR e):=⟨.inl ⟨rfl,rfl⟩,Je _ _ rfl rfl⟩
theorem Kw {x:Wd} {i:Nat} {c:Cm} (hm:Ak c=true) (hk:c.kind≤8):doW x i c=Sd x c (actW x i c):=by
 unfold doW Sd
 rw [if_neg (by rw [hm];simp),if_neg (by omega),if_neg (by omega)]
theorem Ba6 {c:Cm} (h:Ak c=true):c.gives.length≤16∧c.wants.length≤16:=by
 rw [←Ej] at h
 simp only [mayB,Gn,Uh,Bool.and_eq_true,decide_eq_true_eq] at h
 exact ⟨h.1.2.1.2.1,h.1.2.2.1⟩
theorem Mi {c:Cm} (h:Ak c=true):0≤c.dir∧c.dir<4:=by
 rw [←Ej] at h
 simp only [mayB,Gn,Cq,Bool.and_eq_true,decide_eq_true_eq] at h
 exact h.1.2.1.1.1
theorem Jw (x:Wd) (i:Nat) (c:Cm) (hk:3≤c.kind):(actW x i c).2.1=0:=by
 unfold actW
 rw [if_neg (by omega),if_neg (by omega)]
 repeat (first|rfl|split)
def Two2 (a b:Nat) (A B:Array Value) (W:World):Prop:=(∀ii,W.cell? ⟨a,ii,none⟩=(A[ii]?:Option Value))∧(∀ii,W.cell? ⟨b,ii,none⟩=(B[ii]?:Option Value))
theorem Two2.set {a b r:Nat} {A B:Array Value} {W:World} (ha:a≠r) (hb:b≠r) (h:Two2 a b A B W) (i:Nat) (u:Value):Two2 a b A B (W.setCell ⟨r,i,none⟩ u) :=
 ⟨fun j=>(World.cell?_setCell_far _ _ _ _ (by simpa using Ne.symm ha)).trans (h.1 j),fun j=>(World.cell?_setCell_far _ _ _ _ (by simpa using Ne.symm hb)).trans (h.2 j)⟩
theorem Two2.drew {a b:Nat} {A B:Array Value} {W:World} (h:Two2 a b A B W):Two2 a b A B W.drew:=h
theorem Fe {a b:Nat} {A B:Array Value} {W:World} (h:Two2 a b A B W):(∀ii,W.cell? ⟨a,ii,none⟩=(A[ii]?:Option Value))∧(∀ii,W.cell? ⟨b,ii,none⟩=(B[ii]?:Option Value)):=h
def Two1 (a n:Nat) (A:Array Value) (v:Value) (W:World):Prop:=(∀ii,W.cell? ⟨a,ii,none⟩=(A[ii]?:Option Value))∧W.cell? ⟨n,0,none⟩=some v
theorem Two1.set {a n r:Nat} {A:Array Value} {v:Value} {W:World} (ha:a≠r) (hb:n≠r) (h:Two1 a n A v W) (i:Nat) (u:Value):Two1 a n A v (W.setCell ⟨r,i,none⟩ u) :=
 ⟨fun j=>(World.cell?_setCell_far _ _ _ _ (by simpa using Ne.symm ha)).trans (h.1 j),(World.cell?_setCell_far _ _ _ _ (by simpa using Ne.symm hb)).trans h.2⟩
theorem Two1.drew {a n:Nat} {A:Array Value} {v:Value} {W:World} (h:Two1 a n A v W):Two1 a n A v W.drew:=h
theorem Aw6 {a n:Nat} {A:Array Value} {v:Value} {W:World} (h:Two1 a n A v W):(∀ii,W.cell? ⟨a,ii,none⟩=(A[ii]?:Option Value))∧W.cell? ⟨n,0,none⟩=some v:=h
section
variable (x:Wd) (p:Wp) (i:Nat) (c:Cm) (ga wa:Option Addr) (gc wc:Nat)
theorem Ci0 (A:Wd × Int × Int) (n:Nat) (v:Value) (G:Prop) (w0 W0 W:World) (hv:FnAt w0 W0 G v #[.agg (wC x p),.int .i64 (i:Int),.agg (cC c ga gc wa wc)] (goP x p A)) (hG:G) (hs:Bq W0 W) (hb:Below w0.heap.size w0 W) (hn:W.cell? ⟨n,0,none⟩=some v) (hl:n<W.heap.size) :
 Calls prog 68 #[.agg (wC x p),.int .i64 (i:Int),.agg (cC c ga gc wa wc),.pointer (some ⟨n,0,none⟩)] W (deP x p (Sd x c A) W):=by
 obtain ⟨F,fs,rfl,he,hc⟩:=hv
 have HC:=hid (hc hG)
 have HS:=hid hs
 have HB:=hid hb
 have C0:=hid (Qua.start 29 31 29 38 W (wC x p) (cC c ga gc wa wc) zC #[.int .i64 0,.int .i64 0,.int .i64 0,.slice none 0 0,.slice none 0 0,.int .i64 0])
 obtain ⟨y,r,er⟩:=A
 obtain ⟨R,hR⟩:∃R,Sd x c (y,r,er)=R:=⟨_,rfl⟩
 rw [hR]
 have HR:=hid hR
 clear hc hs hb hG hR
 have hWC:=@wC.eq_1
 have hZC:=@zC.eq_1
 have hCC:=@cC.eq_1
 go_enter func68,ntmps68
 go_upto_region 1 with fail
 generalize (((W.alloc (.cells (wC x p) 29)).alloc (.cells (cC c ga gc wa wc) 31)).alloc (.cells zC 29)).alloc (.cells #[.int .i64 0,.int .i64 0,.int .i64 0,.slice none 0 0,.slice none 0 0,.int .i64 0] 38)=V0 at *
 have hn0:=Ad hn C0.out.b
 have hl0:n<V0.heap.size:=Nat.lt_of_lt_of_le hl C0.out.b.size
 clear hn hl
 have hca:=C0.out.a.cell
 have hla:=C0.out.a.lt
 have hcm:=C0.out.m.cell
 have hlm:=C0.out.m.lt
 go_wp2_with fail
 refine (HC.out V0 (HS.out.trans (Bq.below C0.out.b)) (bl HB.out C0.out.b)).mono ?_
 rintro e w1 ⟨q,rfl,wn,b1⟩
 have C1:=hid (C0.out.call b1)
 obtain ⟨m,hm⟩:∃m,w1.heap.size=m:=⟨_,rfl⟩
 have BW:=hid (Blk.newn w1 29 (wC x q) hm)
 have CZ:=hid (C1.out.call (b_a (.cells (wC x q) 29)))
 have WZ:=hid (Went.call wn (b_a (.cells (wC x q) 29)))
 have HSZ:=hid (show W.heap.size+4≤V0.heap.size∧V0.heap.size≤m from ⟨C0.out.size,by rw [←hm];exact b1.size⟩)
 clear wn b1 C0 HC HS HB he hn0 hl0 hca hla hcm hlm
 go_upto_region 2 with fail
 generalize w1.alloc (.cells (wC x q) 29)=V2 at *
 clear C1 hm
 by_cases h0:er=0
 ·subst h0
  obtain rfl:R=(y,okR c.kind r):=by rw [←HR.out];rfl
  clear HR
  go_wp2_with fail
  have O2:=hid (show Two2 (W.heap.size+1) m (cC c ga gc wa wc) (wC x q) V2 from ⟨CZ.out.m.cell,BW.out.cell⟩)
  have n1:W.heap.size+1≠W.heap.size+1+1:=by omega
  have n2:m≠W.heap.size+1+1:=by have:=HSZ.out;omega
  have n3:W.heap.size+1≠W.heap.size+1+1+1:=by omega
  have n4:m≠W.heap.size+1+1+1:=by have:=HSZ.out;omega
  have n5:W.heap.size+1+1≠m:=by have:=HSZ.out;omega
  have n6:W.heap.size+1+1+1≠m:=by have:=HSZ.out;omega
  obtain ⟨hcn,hzn,hln⟩:=CZ.out.n.all
  obtain ⟨hcr,hzr,hlr⟩:=CZ.out.r.all
  refine tkS (S:=(fun w'=>(∀ii,w'.cell? ⟨W.heap.size+1,ii,none⟩=((cC c ga gc wa wc)[ii]?:Option Value))∧(∀ii,w'.cell? ⟨m,ii,none⟩=((wC x q)[ii]?:Option Value)))) (by (first|(with_reducible exact Fe O2.out.drew))) (fun hHeld=>?_)
  refine tkl [0,1,2,3,4] ?_
  iterate 5
   refine tW ?_
   try go_frame
  refine rdy1 5 (fun K hK=>?_)
  go_simp
  try go_wp2_with fail
  refine hK.out _ _ (by (first|((with_reducible refine Fe ?_);(with_reducible refine Two2.drew ?_);(iterate 11 with_reducible refine Two2.set n1 n2 ?_ _ _);with_reducible exact O2.out))) (fun hHeld=>?_)
  clear hK K
  try go_frame
  refine rdy1 6 (fun K hK=>?_)
  go_simp
  try go_wp2_with fail
  refine hK.out _ _ (by (first|((with_reducible refine Fe ?_);(with_reducible refine Two2.drew ?_);(iterate 6 with_reducible refine Two2.set n3 n4 ?_ _ _);(iterate 11 with_reducible refine Two2.set n1 n2 ?_ _ _);with_reducible exact O2.out))) (fun hHeld=>?_)
  clear hK K
  try go_frame
  refine tkD ?_
  go_wp2_with fail
  refine bodyPost_ret (v:=.tuple #[.agg (wC x q),.agg #[.int .i64 0,.int .i64 c.kind,.int .i64 r,.slice none 0 0,.slice none 0 0,.int .i64 0]]) (by simp [results,results68,go_sem,hcn,hcr]) rfl ⟨q,none,none,0,0,rfl,?_,?_⟩
  ·refine Did.less (n:=V0.heap.size) ?_ (by have:=HSZ.out;omega)
   refine Did.drew ?_
   iterate 6 refine Did.set (b:=W.heap.size+3) ?_ (by have:=HSZ.out;omega) _ _
   iterate 11 refine Did.set (b:=W.heap.size+2) ?_ (by have:=HSZ.out;omega) _ _
   exact Fj7 _ WZ.out
  ·refine Af ?_
   iterate 6 refine Below.setCell ?_ (by show W.heap.size≤W.heap.size+3;omega) _
   iterate 11 refine Below.setCell ?_ (by show W.heap.size≤W.heap.size+2;omega) _
   exact CZ.out.b
 ·obtain rfl:R=(x,errR er):=by rw [←HR.out];exact if_neg h0
  clear HR
  obtain rfl:q=p:=by
   rcases WZ.out with ⟨_,_,h⟩|⟨h,_⟩
   ·exact h
   ·exact absurd h h0
  have hne:(er != 0)=true:=by simpa using h0
  clear h0 WZ
  obtain ⟨hcn,hzn,hln⟩:=CZ.out.n.all
  obtain ⟨hcr,hzr,hlr⟩:=CZ.out.r.all
  have n5:W.heap.size+1+1≠m:=by have:=HSZ.out;omega
  have n6:W.heap.size+1+1+1≠m:=by have:=HSZ.out;omega
  have n7:m≠W.heap.size+1+1:=by have:=HSZ.out;omega
  have n8:m≠W.heap.size+1+1+1:=by have:=HSZ.out;omega
  have hcb:=BW.out.cell
  have hlb:=BW.out.lt
  go_wp2_with fail
  refine bodyPost_ret (v:=.tuple #[.agg (wC x q),.agg #[.int .i64 er,.int .i64 0,.int .i64 0,.slice none 0 0,.slice none 0 0,.int .i64 0]]) (by simp [results,results68,go_sem,hcn,hcr]) rfl ⟨q,none,none,0,0,rfl,Df0 _ _ _ _ _,?_⟩
  iterate 6 refine Below.setCell ?_ (by show W.heap.size≤W.heap.size+3;omega) _
  iterate 11 refine Below.setCell ?_ (by show W.heap.size≤W.heap.size+2;omega) _
  exact CZ.out.b
theorem De8 (A:Wd × Int × Int) (n:Nat) (v:Value) (G:Prop) (w0 W0 W:World) (hv:FnAt w0 W0 G v #[.agg (wC x p),.int .i64 (i:Int),.agg (cC c ga gc wa wc)] (doP x p A)) (hG:G) (hs:Bq W0 W) (hb:Below w0.heap.size w0 W) (hn:W.cell? ⟨n,0,none⟩=some v) (hl:n<W.heap.size) (hA:A.2.1=0) :
 Calls prog 86 #[.agg (wC x p),.int .i64 (i:Int),.agg (cC c ga gc wa wc),.pointer (some ⟨n,0,none⟩)] W (goP x p A W):=by
 obtain ⟨F,fs,rfl,he,hc⟩:=hv
 have HC:=hid (hc hG)
 have HS:=hid hs
 have HB:=hid hb
 have C0:=hid (Tri.start 29 31 29 W (wC x p) (cC c ga gc wa wc) zC)
 obtain ⟨y,r,er⟩:=A
 simp only at hA
 subst hA
 clear hc hs hb hG
 have hWC:=@wC.eq_1
 have hZC:=@zC.eq_1
 have hCC:=@cC.eq_1
 go_enter func86,ntmps86
 go_upto_region 1 with fail
 generalize ((W.alloc (.cells (wC x p) 29)).alloc (.cells (cC c ga gc wa wc) 31)).alloc (.cells zC 29)=V0 at *
 have hn0:=Ad hn C0.out.b
 have hl0:n<V0.heap.size:=Nat.lt_of_lt_of_le hl C0.out.b.size
 clear hn hl
 have hca:=C0.out.a.cell
 have hla:=C0.out.a.lt
 have hcm:=C0.out.m.cell
 have hlm:=C0.out.m.lt
 go_wp2_with fail
 refine (HC.out V0 (HS.out.trans (Bq.below C0.out.b)) (bl HB.out C0.out.b)).mono ?_
 rintro e w1 ⟨q,rfl,wn,b1⟩
 have C1:=hid (C0.out.call b1)
 obtain ⟨m,hm⟩:∃m,w1.heap.size=m:=⟨_,rfl⟩
 have BW:=hid (Blk.newn w1 29 (wC x q) hm)
 have CZ:=hid (C1.out.call (b_a (.cells (wC x q) 29)))
 have WZ:=hid (Went.call wn (b_a (.cells (wC x q) 29)))
 have HSZ:=hid (show W.heap.size+3≤V0.heap.size∧V0.heap.size≤m from ⟨C0.out.size,by rw [←hm];exact b1.size⟩)
 clear wn b1 C0 HC HS HB he hn0 hl0 hca hla hcm hlm
 go_upto_region 2 with fail
 generalize w1.alloc (.cells (wC x q) 29)=V2 at *
 clear C1 hm
 obtain ⟨hcr,hzr,hlr⟩:=CZ.out.r.all
 have n1:m≠W.heap.size+1+1:=by have:=HSZ.out;omega
 have n2:W.heap.size+1+1≠m:=by have:=HSZ.out;omega
 have hcb:=BW.out.cell
 have hlb:=BW.out.lt
 go_wp2_with fail
 refine bodyPost_ret (v:=.tuple #[.agg (wC x q),.int .i64 0,.int .i64 er]) (by simp [results,results86,go_sem,hcr]) rfl ⟨q,rfl,?_,?_⟩
 ·refine Went.less (n:=V0.heap.size) ?_ (by have:=HSZ.out;omega)
  iterate 11 refine Went.set (b:=W.heap.size+2) ?_ (by have:=HSZ.out;omega) _ _
  exact WZ.out
 ·iterate 11 refine Below.setCell ?_ (by show W.heap.size≤W.heap.size+2;omega) _
  exact CZ.out.b
theorem Co7 (A:Wd × Int × Int) (n:Nat) (v:Value) (G:Prop) (w0 W0 W:World) (hv:FnAt w0 W0 G v #[.agg (wC x p),.int .i64 (i:Int),.int .i64 c.item] (doP x p A)) (hG:G) (hs:Bq W0 W) (hb:Below w0.heap.size w0 W) (hn:W.cell? ⟨n,0,none⟩=some v) (hl:n<W.heap.size) :
 Calls prog 71 #[.agg (wC x p),.int .i64 (i:Int),.agg (cC c ga gc wa wc),.pointer (some ⟨n,0,none⟩)] W (doP x p A W):=by
 obtain ⟨F,fs,rfl,he,hc⟩:=hv
 have HC:=hid (hc hG)
 have HS:=hid hs
 have HB:=hid hb
 have C0:=hid (Tri.start 29 31 29 W (wC x p) (cC c ga gc wa wc) zC)
 obtain ⟨y,r,er⟩:=A
 clear hc hs hb hG
 have hWC:=@wC.eq_1
 have hZC:=@zC.eq_1
 have hCC:=@cC.eq_1
 go_enter func71,ntmps71
 go_upto_region 1 with fail
 generalize ((W.alloc (.cells (wC x p) 29)).alloc (.cells (cC c ga gc wa wc) 31)).alloc (.cells zC 29)=V0 at *
 have hn0:=Ad hn C0.out.b
 have hl0:n<V0.heap.size:=Nat.lt_of_lt_of_le hl C0.out.b.size
 clear hn hl
 have hca:=C0.out.a.cell
 have hla:=C0.out.a.lt
 have hcm:=C0.out.m.cell
 have hlm:=C0.out.m.lt
 go_wp2_with fail
 refine (HC.out V0 (HS.out.trans (Bq.below C0.out.b)) (bl HB.out C0.out.b)).mono ?_
 rintro e w1 ⟨q,rfl,wn,b1⟩
 have CZ:=hid (C0.out.call b1)
 have WZ:=hid wn
 have HSZ:=hid C0.out.size
 clear wn b1 C0 HC HS HB he hn0 hl0 hca hla hcm hlm
 obtain ⟨hcr,hzr,hlr⟩:=CZ.out.r.all
 go_wp2_with fail
 refine bodyPost_ret (v:=.tuple #[.agg (wC x q),.int .i64 er]) (by simp [results,results71,go_sem,hcr]) rfl ⟨q,rfl,?_,?_⟩
 ·refine Went.less (n:=V0.heap.size) ?_ (by have:=HSZ.out;omega)
  iterate 11 refine Went.set (b:=W.heap.size+2) ?_ (by have:=HSZ.out;omega) _ _
  exact WZ.out
 ·iterate 11 refine Below.setCell ?_ (by show W.heap.size≤W.heap.size+2;omega) _
  exact CZ.out.b
theorem Dc4 (A:Wd × Int × Int) (n:Nat) (v:Value) (G:Prop) (w0 W0 W:World) (hv:FnAt w0 W0 G v #[.agg (wC x p),.int .i64 (i:Int),.int .i64 c.item,.int .i64 c.box] (doP x p A)) (hG:G) (hs:Bq W0 W) (hb:Below w0.heap.size w0 W) (hn:W.cell? ⟨n,0,none⟩=some v) (hl:n<W.heap.size) :
 Calls prog 75 #[.agg (wC x p),.int .i64 (i:Int),.agg (cC c ga gc wa wc),.pointer (some ⟨n,0,none⟩)] W (doP x p A W):=by
 obtain ⟨F,fs,rfl,he,hc⟩:=hv
 have HC:=hid (hc hG)
 have HS:=hid hs
 have HB:=hid hb
 have C0:=hid (Tri.start 29 31 29 W (wC x p) (cC c ga gc wa wc) zC)
 obtain ⟨y,r,er⟩:=A
 clear hc hs hb hG
 have hWC:=@wC.eq_1
 have hZC:=@zC.eq_1
 have hCC:=@cC.eq_1
 go_enter func75,ntmps75
 go_upto_region 1 with fail
 generalize ((W.alloc (.cells (wC x p) 29)).alloc (.cells (cC c ga gc wa wc) 31)).alloc (.cells zC 29)=V0 at *
 have hn0:=Ad hn C0.out.b
 have hl0:n<V0.heap.size:=Nat.lt_of_lt_of_le hl C0.out.b.size
 clear hn hl
 have hca:=C0.out.a.cell
 have hla:=C0.out.a.lt
 have hcm:=C0.out.m.cell
 have hlm:=C0.out.m.lt
 go_wp2_with fail
 refine (HC.out V0 (HS.out.trans (Bq.below C0.out.b)) (bl HB.out C0.out.b)).mono ?_
 rintro e w1 ⟨q,rfl,wn,b1⟩
 have CZ:=hid (C0.out.call b1)
 have WZ:=hid wn
 have HSZ:=hid C0.out.size
 clear wn b1 C0 HC HS HB he hn0 hl0 hca hla hcm hlm
 obtain ⟨hcr,hzr,hlr⟩:=CZ.out.r.all
 go_wp2_with fail
 refine bodyPost_ret (v:=.tuple #[.agg (wC x q),.int .i64 er]) (by simp [results,results75,go_sem,hcr]) rfl ⟨q,rfl,?_,?_⟩
 ·refine Went.less (n:=V0.heap.size) ?_ (by have:=HSZ.out;omega)
  iterate 11 refine Went.set (b:=W.heap.size+2) ?_ (by have:=HSZ.out;omega) _ _
  exact WZ.out
 ·iterate 11 refine Below.setCell ?_ (by show W.heap.size≤W.heap.size+2;omega) _
  exact CZ.out.b
theorem Be0 (R:Rp) (n:Nat) (v:Value) (G:Prop) (w0 W0 W:World) (hv:FnAt w0 W0 G v #[.agg (wC x p),.int .i64 (i:Int)] (seP R)) (hG:G) (hs:Bq W0 W) (hb:Below w0.heap.size w0 W) (hn:W.cell? ⟨n,0,none⟩=some v) (hl:n<W.heap.size) :
 Calls prog 93 #[.agg (wC x p),.int .i64 (i:Int),.agg (cC c ga gc wa wc),.pointer (some ⟨n,0,none⟩)] W (deP x p (x,R) W):=by
 obtain ⟨F,fs,rfl,he,hc⟩:=hv
 have HC:=hid (hc hG)
 have HS:=hid hs
 have HB:=hid hb
 have C0:=hid (Qua.start 29 31 29 38 W (wC x p) (cC c ga gc wa wc) zC #[.int .i64 0,.int .i64 0,.int .i64 0,.slice none 0 0,.slice none 0 0,.int .i64 0])
 have HN1:=hid hl
 clear hc hs hb hG
 have hWC:=@wC.eq_1
 have hZC:=@zC.eq_1
 have hCC:=@cC.eq_1
 go_enter func93,ntmps93
 go_upto_region 1 with fail
 generalize (((W.alloc (.cells (wC x p) 29)).alloc (.cells (cC c ga gc wa wc) 31)).alloc (.cells zC 29)).alloc (.cells #[.int .i64 0,.int .i64 0,.int .i64 0,.slice none 0 0,.slice none 0 0,.int .i64 0] 38)=V0 at *
 have hn0:=Ad hn C0.out.b
 have hl0:n<V0.heap.size:=Nat.lt_of_lt_of_le hl C0.out.b.size
 clear hn hl
 have HSZ:=hid C0.out.size
 have hca:=C0.out.a.cell
 have CD:=hid (C0.out.call (Af (Below.refl _ _)))
 have O0:=hid (show Two1 W.heap.size n (wC x p) (.func (.func F) #[] fs) V0 from ⟨hca,hn0⟩)
 have n0:W.heap.size≠W.heap.size+1+1:=by omega
 have n0b:W.heap.size≠W.heap.size+1+1+1:=by omega
 have n1:n≠W.heap.size+1+1:=by have:=HN1.out;omega
 have n1b:n≠W.heap.size+1+1+1:=by have:=HN1.out;omega
 have HN2:=hid hl0
 clear hca hn0 hl0 C0
 refine tkS (S:=(fun w'=>(∀ii,w'.cell? ⟨W.heap.size,ii,none⟩=((wC x p)[ii]?:Option Value))∧w'.cell? ⟨n,0,none⟩=some (.func (.func F) #[] fs))) (by (first|(with_reducible exact Aw6 O0.out.drew))) (fun hHeld=>?_)
 refine tkl [0,1,2,3] ?_
 iterate 4
  refine tW ?_
  try go_frame
 refine rdy1 4 (fun K hK=>?_)
 go_simp
 refine (HC.out _ (HS.out.trans (Bq.below CD.out.b)) (bl HB.out CD.out.b)).mono ?_;rintro e w1 ⟨qa,ia,qc,ic,rfl,nr,b1⟩;have C1:=hid (CD.out.call b1);have NR:=hid nr;have O1:=hid (show Two1 W.heap.size n (wC x p) (.func (.func F) #[] fs) w1 from ⟨C1.out.a.cell,(b1.cell (p:=⟨n,0,none⟩) HN2.out).trans O0.out.2⟩);clear nr b1
 try go_wp2_with fail
 refine hK.out _ _ (by (first|(with_reducible exact Aw6 O1.out))) (fun hHeld=>?_)
 clear hK K
 try go_frame
 obtain ⟨hcn,hzn,hln⟩:=C1.out.n.all
 obtain ⟨hcr,hzr,hlr⟩:=C1.out.r.all
 refine rdy1 5 (fun K hK=>?_)
 go_simp
 try go_wp2_with fail
 refine hK.out _ _ (by (first|((with_reducible refine Aw6 ?_);(iterate 11 with_reducible refine Two1.set n0 n1 ?_ _ _);with_reducible exact O1.out))) (fun hHeld=>?_)
 clear hK K
 try go_frame
 refine rdy1 6 (fun K hK=>?_)
 go_simp
 try go_wp2_with fail
 refine hK.out _ _ (by (first|((with_reducible refine Aw6 ?_);(iterate 6 with_reducible refine Two1.set n0b n1b ?_ _ _);(iterate 11 with_reducible refine Two1.set n0 n1 ?_ _ _);with_reducible exact O1.out))) (fun hHeld=>?_)
 clear hK K
 try go_frame
 refine tkD ?_
 go_wp2_with fail
 refine bodyPost_ret (v:=.tuple #[.agg (wC x p),.agg #[.int .i64 R.err,.int .i64 R.kind,.int .i64 R.room,.slice qa R.players.length qc,.slice ia R.items.length ic,.int .i64 R.coins]]) (by simp [results,results93,go_sem,hcn,hcr]) rfl ⟨p,qa,ia,qc,ic,rfl,⟨.inl ⟨rfl,rfl⟩,?_⟩,?_⟩
 ·refine NewR.less (n:=V0.drew.heap.size) ?_ (by show W.heap.size≤V0.heap.size;have:=HSZ.out;omega)
  iterate 6 refine NewR.set (q:=W.heap.size+3) ?_ (by show W.heap.size+3<V0.heap.size;have:=HSZ.out;omega) _ _
  iterate 11 refine NewR.set (q:=W.heap.size+2) ?_ (by show W.heap.size+2<V0.heap.size;have:=HSZ.out;omega) _ _
  exact NR.out
 ·iterate 6 refine Below.setCell ?_ (by show W.heap.size≤W.heap.size+3;omega) _
  iterate 11 refine Below.setCell ?_ (by show W.heap.size≤W.heap.size+2;omega) _
  exact C1.out.b
theorem Ya (A:Wd × Int × Int) (v:Value) (G:Prop) (w0 W:World) (hv:FnAt w0 W G v #[.agg (wC x p),.int .i64 (i:Int),.agg (cC c ga gc wa wc)] (goP x p A)):Calls prog 39 #[v] W fun e W1=>∃v',e=.returned v'∧FnAt w0 W1 G v' #[.agg (wC x p),.int .i64 (i:Int),.agg (cC c ga gc wa wc)] (deP x p (Sd x c A))∧Below W.heap.size W W1:=by
 have hmk:=Cc0
 obtain ⟨F,fs,rfl,-,-⟩:=id hv
 have HV:=hid hv
 have D:=hid (Blk.new W 111 #[.func (.func F) #[] fs])
 have B:=hid ((Below.refl W.heap.size W).alloc (Nat.le_refl _) (.cells #[.func (.func F) #[] fs] 111))
 clear hv
 have hWC:=@wC.eq_1
 have hZC:=@zC.eq_1
 have hCC:=@cC.eq_1
 go_enter func39,ntmps39
 go_wp2_with fail
 refine bodyPost_ret (v:=.func (.func 68) #[] #[.pointer (some ⟨W.heap.size,0,none⟩)]) (by simp [results,results39,go_sem]) rfl ⟨_,rfl,⟨_,_,rfl,enters_of func68 (by kernel_rfl) rfl,fun g W' hs hb=>?_⟩,B.out⟩
 have d:=D.out.cstay hs
 exact Ci0 x p i c ga wa gc wc A W.heap.size _ G w0 W W' HV.out g ((Bq.below B.out).trans hs) hb (d.cell 0) d.lt
theorem Ax0 (R:Rp) (v:Value) (G:Prop) (w0 W:World) (hv:FnAt w0 W G v #[.agg (wC x p),.int .i64 (i:Int)] (seP R)):Calls prog 54 #[v] W fun e W1=>∃v',e=.returned v'∧FnAt w0 W1 G v' #[.agg (wC x p),.int .i64 (i:Int),.agg (cC c ga gc wa wc)] (deP x p (x,R))∧Below W.heap.size W W1:=by
 have hmk:=Cc0
 obtain ⟨F,fs,rfl,-,-⟩:=id hv
 have HV:=hid hv
 have D:=hid (Blk.new W 97 #[.func (.func F) #[] fs])
 have B:=hid ((Below.refl W.heap.size W).alloc (Nat.le_refl _) (.cells #[.func (.func F) #[] fs] 97))
 clear hv
 have hWC:=@wC.eq_1
 have hZC:=@zC.eq_1
 have hCC:=@cC.eq_1
 go_enter func54,ntmps54
 go_wp2_with fail
 refine bodyPost_ret (v:=.func (.func 93) #[] #[.pointer (some ⟨W.heap.size,0,none⟩)]) (by simp [results,results54,go_sem]) rfl ⟨_,rfl,⟨_,_,rfl,enters_of func93 (by kernel_rfl) rfl,fun g W' hs hb=>?_⟩,B.out⟩
 have d:=D.out.cstay hs
 exact Be0 x p i c ga wa gc wc R W.heap.size _ G w0 W W' HV.out g ((Bq.below B.out).trans hs) hb (d.cell 0) d.lt
theorem Uv (A:Wd × Int × Int) (v:Value) (G:Prop) (w0 W:World) (hv:FnAt w0 W G v #[.agg (wC x p),.int .i64 (i:Int),.agg (cC c ga gc wa wc)] (doP x p A)) (hA:A.2.1=0):Calls prog 50 #[v] W fun e W1=>∃v',e=.returned v'∧FnAt w0 W1 G v' #[.agg (wC x p),.int .i64 (i:Int),.agg (cC c ga gc wa wc)] (deP x p (Sd x c A))∧Below W.heap.size W W1:=by
 have hmk:=Cc0
 obtain ⟨F,fs,rfl,-,-⟩:=id hv
 have HV:=hid hv
 have D:=hid (Blk.new W 125 #[.func (.func F) #[] fs])
 have B:=hid ((Below.refl W.heap.size W).alloc (Nat.le_refl _) (.cells #[.func (.func F) #[] fs] 125))
 clear hv
 have HF:=hid (show FnAt w0 (W.alloc (.cells #[.func (.func F) #[] fs] 125)) G (.func (.func 86) #[] #[.pointer (some ⟨W.heap.size,0,none⟩)]) #[.agg (wC x p),.int .i64 (i:Int),.agg (cC c ga gc wa wc)] (goP x p A) from ⟨_,_,rfl,enters_of func86 (by kernel_rfl) rfl,fun g W' hs hb=>by have d:=D.out.cstay hs;exact De8 x p i c ga wa gc wc A W.heap.size _ G w0 W W' HV.out g ((Bq.below B.out).trans hs) hb (d.cell 0) d.lt hA⟩)
 have hWC:=@wC.eq_1
 have hZC:=@zC.eq_1
 have hCC:=@cC.eq_1
 go_enter func50,ntmps50
 go_wp2_with fail
 refine (Ya x p i c ga wa gc wc A _ G w0 _ HF.out).mono ?_
 rintro e w1 ⟨v',rfl,fv,b1⟩
 obtain ⟨F',fs',rfl,-,-⟩:=id fv
 have FV:=hid fv
 have B1:=hid (bl B.out b1)
 clear fv b1
 go_wp2_with fail
 go_ret
 exact ⟨_,rfl,FV.out,B1.out⟩
theorem Yu (A:Wd × Int × Int) (v:Value) (G:Prop) (w0 W:World) (hv:FnAt w0 W G v #[.agg (wC x p),.int .i64 (i:Int),.int .i64 c.item] (doP x p A)) (hA:A.2.1=0):Calls prog 44 #[v] W fun e W1=>∃v',e=.returned v'∧FnAt w0 W1 G v' #[.agg (wC x p),.int .i64 (i:Int),.agg (cC c ga gc wa wc)] (deP x p (Sd x c A))∧Below W.heap.size W W1:=by
 have hmk:=Cc0
 obtain ⟨F,fs,rfl,-,-⟩:=id hv
 have HV:=hid hv
 have D:=hid (Blk.new W 90 #[.func (.func F) #[] fs])
 have B:=hid ((Below.refl W.heap.size W).alloc (Nat.le_refl _) (.cells #[.func (.func F) #[] fs] 90))
 clear hv
 have HF:=hid (show FnAt w0 (W.alloc (.cells #[.func (.func F) #[] fs] 90)) G (.func (.func 71) #[] #[.pointer (some ⟨W.heap.size,0,none⟩)]) #[.agg (wC x p),.int .i64 (i:Int),.agg (cC c ga gc wa wc)] (doP x p A) from ⟨_,_,rfl,enters_of func71 (by kernel_rfl) rfl,fun g W' hs hb=>by have d:=D.out.cstay hs;exact Co7 x p i c ga wa gc wc A W.heap.size _ G w0 W W' HV.out g ((Bq.below B.out).trans hs) hb (d.cell 0) d.lt⟩)
 have hWC:=@wC.eq_1
 have hZC:=@zC.eq_1
 have hCC:=@cC.eq_1
 go_enter func44,ntmps44
 go_wp2_with fail
 refine (Uv x p i c ga wa gc wc A _ G w0 _ HF.out hA).mono ?_
 rintro e w1 ⟨v',rfl,fv,b1⟩
 obtain ⟨F',fs',rfl,-,-⟩:=id fv
 have FV:=hid fv
 have B1:=hid (bl B.out b1)
 clear fv b1
 go_wp2_with fail
 go_ret
 exact ⟨_,rfl,FV.out,B1.out⟩
theorem Ad8 (A:Wd × Int × Int) (v:Value) (G:Prop) (w0 W:World) (hv:FnAt w0 W G v #[.agg (wC x p),.int .i64 (i:Int),.int .i64 c.item,.int .i64 c.box] (doP x p A)) (hA:A.2.1=0):Calls prog 47 #[v] W fun e W1=>∃v',e=.returned v'∧FnAt w0 W1 G v' #[.agg (wC x p),.int .i64 (i:Int),.agg (cC c ga gc wa wc)] (deP x p (Sd x c A))∧Below W.heap.size W W1:=by
 have hmk:=Cc0
 obtain ⟨F,fs,rfl,-,-⟩:=id hv
 have HV:=hid hv
 have D:=hid (Blk.new W 92 #[.func (.func F) #[] fs])
 have B:=hid ((Below.refl W.heap.size W).alloc (Nat.le_refl _) (.cells #[.func (.func F) #[] fs] 92))
 clear hv
 have HF:=hid (show FnAt w0 (W.alloc (.cells #[.func (.func F) #[] fs] 92)) G (.func (.func 75) #[] #[.pointer (some ⟨W.heap.size,0,none⟩)]) #[.agg (wC x p),.int .i64 (i:Int),.agg (cC c ga gc wa wc)] (doP x p A) from ⟨_,_,rfl,enters_of func75 (by kernel_rfl) rfl,fun g W' hs hb=>by have d:=D.out.cstay hs;exact Dc4 x p i c ga wa gc wc A W.heap.size _ G w0 W W' HV.out g ((Bq.below B.out).trans hs) hb (d.cell 0) d.lt⟩)
 have hWC:=@wC.eq_1
 have hZC:=@zC.eq_1
 have hCC:=@cC.eq_1
 go_enter func47,ntmps47
 go_wp2_with fail
 refine (Uv x p i c ga wa gc wc A _ G w0 _ HF.out hA).mono ?_
 rintro e w1 ⟨v',rfl,fv,b1⟩
 obtain ⟨F',fs',rfl,-,-⟩:=id fv
 have FV:=hid fv
 have B1:=hid (bl B.out b1)
 clear fv b1
 go_wp2_with fail
 go_ret
 exact ⟨_,rfl,FV.out,B1.out⟩
end
end Go.Proofs.YtnhkojpbbdaedaaGreat
