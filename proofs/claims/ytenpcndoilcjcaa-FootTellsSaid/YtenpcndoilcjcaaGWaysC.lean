/- ways: is it one of so many; the exit; who goes. -/
import Derived.Test.YtenpcndoilcjcaaGAs
namespace Go.Proofs.Ytenpcndoilcjcaa
open Go.ChangeShapes Go.WideShapes Go.ChangeAt Go.RowKit Go.Proofs.Try
open Lib (hid)
set_option linter.unusedVariables false
section
theorem Ea (n m:Int) (w:World):Calls prog 58 #[.int .i64 n,.int .i64 m] w fun e w'=>e=.returned (.bool (inB n m))∧w=w':=by
 unfold inB
 by_cases h1:0≤n
 ·by_cases h2:n<m
  ·
   have hWC:=@wC.eq_1
   go_enter func58,ntmps58
   go_wp2_with fail
   go_ret
   exact ⟨Ag (by simp),rfl⟩
  ·
   have hWC:=@wC.eq_1
   go_enter func58,ntmps58
   go_wp2_with fail
   go_ret
   exact ⟨Ag (by simp [h2]),rfl⟩
 ·
  have hWC:=@wC.eq_1
  go_enter func58,ntmps58
  go_wp2_with fail
  go_ret
  exact ⟨Ag (by simp;omega),rfl⟩
def exA (t:Int):Int:=if t=-1 then 0 else t
set_option maxRecDepth 100000 in
theorem Iz (x:Wd) (p:Wp) (r d:Nat) (hr:r<x.d.exits.length) (hd:d<4) (w:World) (h:Qu w p.d.ex x.d.exits):Calls prog 34 #[.agg (wC x p),.int .i64 (r:Int),.int .i64 (d:Int)] w fun e w'=>e=.returned (.tuple #[.int .i64 (exA (toW x r d)),.bool (toW x r d != -1)])∧Below w.heap.size w w':=by
 have hl:=h.len
 obtain ⟨b,o,hx,hb,hc⟩:=h.at_ hr
 have c0:=hc r hr d hd
 rw [Au1 _ hd,Tv hr] at c0
 have hd2:(d:Int)<4:=by omega
 have i1:=hid (show inB (r:Int) (x.d.exits.length:Int)=true by simp [inB,hr])
 have i2:=hid (show inB (d:Int) 4=true by simp [inB,hd2])
 generalize toW x r d=t at *
 clear hc h
 by_cases ht:t=-1
 ·rw [show exA t=0 by subst ht;rfl,show (t != -1)=false by subst ht;rfl]
  have hWC:=@wC.eq_1
  go_enter func34,ntmps34
  go_wp2_with fail
  refine (Ea _ _ _).mono ?_
  rintro e w' ⟨rfl,rfl⟩
  rw [i1.out]
  go_wp2_with fail
  refine (Ea _ _ _).mono ?_
  rintro e w' ⟨rfl,rfl⟩
  rw [i2.out]
  go_wp2_with fail
  go_ret2
  exact ⟨rfl,b_a _⟩
 ·rw [show exA t=t by simp [exA,ht],show (t != -1)=true by simpa using ht]
  have ht2:(t==-1)=false:=by simpa using ht
  clear ht
  have hWC:=@wC.eq_1
  go_enter func34,ntmps34
  go_wp2_with fail
  refine (Ea _ _ _).mono ?_
  rintro e w' ⟨rfl,rfl⟩
  rw [i1.out]
  go_wp2_with fail
  refine (Ea _ _ _).mono ?_
  rintro e w' ⟨rfl,rfl⟩
  rw [i2.out]
  go_wp2_with fail
  go_ret2
  exact ⟨rfl,b_a _⟩
structure Rj (W:World) (n:Nat) (x:Wd) (p:Wp) (i:Nat) (q:Int):Prop where
 lt:n+2<W.heap.size
 w:∀j,W.cell? ⟨n,j,none⟩=((wC x p)[j]?:Option Value)
 p:W.cell? ⟨n+1,0,none⟩=some (.int .i64 i)
 q:W.cell? ⟨n+2,0,none⟩=some (.int .i64 q)
theorem Rj.call {W W':World} {n:Nat} {x:Wd} {p:Wp} {i:Nat} {q:Int} (h:Rj W n x p i q) (hb:Below W.heap.size W W'):Rj W' n x p i q :=
 ⟨by have:=hb.size;have:=h.lt;omega,fun j=>(hb.cell (p:=⟨n,j,none⟩) (by show n<W.heap.size;have:=h.lt;omega)).trans (h.w j),Ad h.p hb,Ad h.q hb⟩
def whoW (x:Wd) (i:Nat) (q:Int):Int × Int:=if inB q x.at_.length=false then (0,3) else if Ah x i=Ah x q.toNat then (q,0) else (0,5)
end
section
theorem Ae8 {x:Wd} (h:Ai x=true):FewW x:=by
 have h1:=Aj h
 have h2:=Kv h1.2.2.2.2.2
 exact ⟨⟨by omega,by omega,by omega,by omega,by omega⟩,by omega,by omega,by omega⟩
end
section
def Went (n:Nat) (W:World) (p q:Wp) (x:Wd) (R:Wd × Int × Int):Prop:=(¬R.2.2=0∧R.1=x∧q=p)∨(R.2.2=0∧Ao n W q R.1)
theorem Went.call {n:Nat} {W W':World} {p q:Wp} {x:Wd} {R:Wd × Int × Int} (h:Went n W p q x R) (hb:Below W.heap.size W W'):Went n W' p q x R:=h.imp id (fun ⟨h1,h2⟩=>⟨h1,h2.call hb⟩)
theorem Went.set {n:Nat} {W:World} {p q:Wp} {x:Wd} {R:Wd × Int × Int} (h:Went n W p q x R) {b:Nat} (hb:b<n) (i:Nat) (u:Value):Went n (W.setCell ⟨b,i,none⟩ u) p q x R:=h.imp id (fun ⟨h1,h2⟩=>⟨h1,h2.set hb i u⟩)
theorem Went.less {n m:Nat} {W:World} {p q:Wp} {x:Wd} {R:Wd × Int × Int} (h:Went n W p q x R) (hm:m≤n):Went m W p q x R:=h.imp id (fun ⟨h1,h2⟩=>⟨h1,h2.less hm⟩)
theorem Went.world {n:Nat} {W:World} {p q:Wp} {x:Wd} {R:Wd × Int × Int} (h:Went n W p q x R) (hw:Ab W p x):Ab W q R.1:=by
 rcases h with ⟨_,h1,h2⟩|⟨_,h2⟩
 ·rw [h1,h2];exact hw
 ·exact h2.world
def Vb (x:Wd) (i:Nat) (q:Int) (d:Nat):Wd × Int × Int:=if (whoW x i q).2=0 then Ck x q.toNat d else (x,0,(whoW x i q).2)
theorem Dx9 {x:Wd} {i:Nat} {q:Int} (h:(whoW x i q).2=0):∃k:Nat,q=k∧k<x.at_.length∧whoW x i q=((k:Int),0):=by
 unfold whoW at h ⊢
 split at h
 ·simp at h
 ·rename_i hb
  simp only [Bool.not_eq_false,Bi] at hb
  split at h
  ·rename_i h2
   refine ⟨q.toNat,by omega,by omega,?_⟩
   rw [if_neg (by simp only [Bool.not_eq_false,Bi];exact hb),if_pos h2]
   simp;omega
  ·simp at h
theorem Gj7 {w W:World} {A:Array Value} {t u:TypeId} {Z:Array Value} (h:Two t u w W A Z):Below w.heap.size w W∧w.heap.size<W.heap.size∧(∀i,W.cell? ⟨w.heap.size,i,none⟩=A[i]?)∧w.heap.size+1<W.heap.size:=⟨h.b,h.a.lt,h.a.cell,h.r.lt⟩
theorem Cf9 {x:Wd} {i:Nat} (hi:i<x.at_.length) (d:Nat):Vb x i i d=Ck x i d:=by
 unfold Vb whoW
 rw [if_neg (show ¬inB (i:Int) x.at_.length=false by simp [inB,hi]),if_pos (by simp)]
 simp
theorem Cg3 {x:Wd} {i:Nat} {q:Int} (hi:i<x.at_.length) (hq:¬q=i) (d:Nat):Vb x i q d=Eg x i q d:=by
 unfold Vb Eg whoW
 by_cases h1:inB q x.at_.length=false
 ·simp [h1]
 ·simp only [if_neg h1,if_neg hq]
  by_cases h2:Ah x i=Ah x q.toNat
  ·simp [h2]
  ·simp [h2]
theorem Ai1 {x:Wd} {i:Nat} (hi:i<x.at_.length) (d:Nat):Eg x i i d=(x,0,12):=by
 unfold Eg
 rw [if_neg (by simp [inB,hi]),if_pos rfl]
end
end Go.Proofs.Ytenpcndoilcjcaa
