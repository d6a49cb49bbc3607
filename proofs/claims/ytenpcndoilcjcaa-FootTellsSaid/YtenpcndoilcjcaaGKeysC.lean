/- Keys: which is less, sorted, their places: plain mathematics. -/
import Derived.Sort.Grow
import Derived.Test.YtenpcndoilcjcaaGTreeL
import Derived.Maps.Own
import Derived.Maps.Views
namespace Go.Proofs.Ytenpcndoilcjcaa
open Go.ChangeShapes Go.WideShapes Go.ChangeAt Go.RowKit Go.Proofs.Try
open Lib (hid)
set_option linter.unusedVariables false
set_option maxRecDepth 100000
section
def Ev (a b:Pl):Bool:=decide (a.kind<b.kind)||(decide (a.kind=b.kind)&&decide (a.id<b.id))
theorem Qa (a b:Pl):Ev a b=true↔(a.kind<b.kind∨(a.kind=b.kind∧a.id<b.id)):=by simp [Ev]
theorem Pb (a:Pl):Ev a a=false:=by simp [Ev]
theorem Av8 {a b c:Pl} (h:Ev a b=true) (k:Ev b c=true):Ev a c=true:=by
 rw [Qa] at *
 omega
theorem At4 {a b:Pl} (h:Ev a b=true):Ev b a=false:=by
 rw [Bool.eq_false_iff]
 intro k
 rw [Qa] at h k
 omega
theorem Ba7 {a b:Pl} (h:¬a=b):Ev a b=true∨Ev b a=true:=by
 rw [Qa,Qa]
 obtain ⟨a1,a2⟩:=a
 obtain ⟨b1,b2⟩:=b
 simp only [Pl.mk.injEq] at h
 simp only
 omega
theorem Bh7 {a b:Pl} (h:Ev a b=true):¬a=b:=fun e=>by rw [e,Pb] at h;cases h
structure Lm (l s:List Pl):Prop where
 up:s.Pairwise fun a b=>Ev a b=true
 mem:∀k,k∈s↔k∈l
theorem Ct0:∀{s t:List Pl},(s.Pairwise fun a b=>Ev a b=true)→(t.Pairwise fun a b=>Ev a b=true)→(∀k,k∈s↔k∈t)→s=t
 | [],[],_,_,_=>rfl
 | [],b :: t,_,_,h=>by have:=(h b).2 (by simp);simp at this
 | a :: s,[],_,_,h=>by have:=(h a).1 (by simp);simp at this
 | a :: s,b :: t,hs,ht,h=>by
   rw [List.pairwise_cons] at hs ht
   have hab:a=b:=by
    apply Decidable.byContradiction
    intro hne
    have h1:a∈t:=by
     have:=(h a).1 (by simp)
     rw [List.mem_cons] at this
     exact this.resolve_left hne
    have h2:b∈s:=by
     have:=(h b).2 (by simp)
     rw [List.mem_cons] at this
     exact this.resolve_left (fun e=>hne e.symm)
    have h3:=At4 (ht.1 a h1)
    rw [hs.1 b h2] at h3
    cases h3
   subst hab
   rw [Ct0 hs.2 ht.2 (fun k=>?_)]
   constructor
   ·intro hk
    have:=(h k).1 (List.mem_cons_of_mem _ hk)
    rw [List.mem_cons] at this
    exact this.resolve_left (fun e=>by have:=hs.1 k hk;rw [e,Pb] at this;cases this)
   ·intro hk
    have:=(h k).2 (List.mem_cons_of_mem _ hk)
    rw [List.mem_cons] at this
    exact this.resolve_left (fun e=>by have:=ht.1 k hk;rw [e,Pb] at this;cases this)
theorem Lm.same {l s t:List Pl} (h:Lm l s) (k:Lm l t):s=t:=Ct0 h.up k.up (fun q=>(h.mem q).trans (k.mem q).symm)
theorem Lm.like {l m s t:List Pl} (h:Lm l s) (k:Lm m t) (e:∀q,q∈l↔q∈m):s=t:=Ct0 h.up k.up (fun q=>(h.mem q).trans ((e q).trans (k.mem q).symm))
theorem Lm.again {l s t:List Pl} (h:Lm l s) (k:Lm s t):t=s:=Ct0 k.up h.up k.mem
theorem Lm.len {l s:List Pl} (h:Lm l s):s.length≤l.length:=by
 have hn:s.Nodup:=h.up.imp (fun h=>Bh7 h)
 exact List.Nodup.length_le_of_subset hn (fun k hk=>(h.mem k).1 hk)
theorem Lm.nodup {l s:List Pl} (h:Lm l s):s.Nodup:=h.up.imp (fun h=>Bh7 h)
theorem Lm.count {l s:List Pl} (h:Lm l s) {k:Pl} (hk:k∈l):s.count k=1:=by
 have h1:=List.nodup_iff_count.1 h.nodup k
 have h2:=List.count_pos_iff.2 ((h.mem k).2 hk)
 omega
theorem Lm.rise {l s:List Pl} (h:Lm l s) {i j:Nat} (hij:i<j) (hj:j<s.length):Ev (s[i]'(by omega)) s[j]=true:=List.pairwise_iff_getElem.1 h.up i j (by omega) hj hij
def Dy (r p:Nat) (k:Pl):Int:=if k.kind=0∧0≤k.id∧k.id<r then k.id else if k.kind=1∧0≤k.id∧k.id<p then r+k.id else -1
def Pp (r p:Nat) (n:Int):Option Pl:=if 0≤n∧n<r then some ⟨0,n⟩ else if r≤n∧n<r+p then some ⟨1,n-r⟩ else none
theorem Bl1 {r p:Nat} (k:Pl):-1≤Dy r p k∧Dy r p k<r+p:=by
 unfold Dy
 split
 ·omega
 ·split<;>omega
theorem En8 {r p:Nat} {k:Pl} (h:0≤Dy r p k):Pp r p (Dy r p k)=some k:=by
 obtain ⟨a,b⟩:=k
 unfold Dy at h ⊢
 split at h
 ·rename_i h1
  rw [if_pos h1]
  simp only at h1 ⊢
  unfold Pp
  rw [if_pos (by omega),h1.1]
 ·rename_i h1
  rw [if_neg h1]
  split at h
  ·rename_i h2
   rw [if_pos h2]
   simp only at h2 ⊢
   unfold Pp
   rw [if_neg (by omega),if_pos (by omega),h2.1]
   congr 2
   omega
  ·omega
theorem Ek7 {r p:Nat} {n:Int} {k:Pl} (h:Pp r p n=some k):Dy r p k=n:=by
 unfold Pp at h
 split at h
 ·obtain rfl:=Option.some.inj h
  unfold Dy
  rw [if_pos ⟨rfl,by simp only;omega,by simp only;omega⟩]
 ·split at h
  ·obtain rfl:=Option.some.inj h
   unfold Dy
   rw [if_neg (by simp),if_pos ⟨rfl,by simp only;omega,by simp only;omega⟩]
   simp only
   omega
  ·cases h
theorem Gt6 {r p:Nat} (n:Int):(Pp r p n).isSome=true↔(0≤n∧n<r+p):=by
 unfold Pp
 split
 ·simp;omega
 ·split
  ·simp;omega
  ·simp;omega
theorem Fh1 {r p:Nat} {a b:Pl} (h:Ev a b=true) (ha:0≤Dy r p a) (hb:0≤Dy r p b):Dy r p a<Dy r p b:=by
 rw [Qa] at h
 unfold Dy at ha hb ⊢
 split at ha
 ·rename_i h1
  rw [if_pos h1]
  split at hb
  ·rename_i h2
   rw [if_pos h2]
   omega
  ·rename_i h2
   rw [if_neg h2]
   split at hb
   ·rename_i h3
    rw [if_pos h3]
    omega
   ·omega
 ·rename_i h1
  rw [if_neg h1]
  split at ha
  ·rename_i h2
   rw [if_pos h2]
   split at hb
   ·rename_i h3
    rw [if_pos h3]
    omega
   ·rename_i h3
    rw [if_neg h3]
    split at hb
    ·rename_i h4
     rw [if_pos h4]
     omega
    ·omega
  ·omega
def topK (r p:Nat) (s:List Pl):Nat→Int
 | 0=>-1
 | n+1=>max (topK r p s n) (Dy r p (s.getD n ⟨0,0⟩))
theorem Eu8 {r p:Nat} {l s:List Pl} (h:Lm l s):∀n,∀(hn:n<s.length),0≤Dy r p s[n]→topK r p s n<Dy r p s[n]:=by
 have key:∀m n,m≤n→∀(hn:n<s.length),0≤Dy r p s[n]→topK r p s m<Dy r p s[n]:=by
  intro m
  induction m with
  | zero=>intro n _ hn h0;simp only [topK];omega
  | succ m ih =>
    intro n hmn hn h0
    have h1:=ih n (by omega) hn h0
    have hm:m<s.length:=by omega
    have e:s.getD m ⟨0,0⟩=s[m]:=by simp [List.getD,List.getElem?_eq_getElem hm]
    simp only [topK,e]
    by_cases h2:0≤Dy r p s[m]
    ·have:=Fh1 (h.rise (show m<n by omega) hn) h2 h0
     omega
    ·omega
 exact fun n hn h0=>key n n (Nat.le_refl _) hn h0
end
section
open Go.RowKit Go
def cmpI (x y:Int):Int:=if x<y then -1 else if y<x then 1 else 0
theorem Fk9 (w:World) (A B:Array Value) (t u:TypeId):Below w.heap.size w ((w.alloc (.cells A t)).alloc (.cells B u)):=(b_a _).alloc (by simp) _
theorem Ui (a b:Pl) (w:World):Calls prog 61 #[.agg #[.int .i64 a.kind,.int .i64 a.id],.agg #[.int .i64 b.kind,.int .i64 b.id]] w fun e w'=>e=.returned (.bool (Ev a b))∧Below w.heap.size w w':=by
 have HB:=hid (Fk9 w #[.int .i64 a.kind,.int .i64 a.id] #[.int .i64 b.kind,.int .i64 b.id] 47 47)
 by_cases h1:a.kind<b.kind
 ·have HR:=hid (show Ev a b=true by simp [Ev,h1])
  go_enter func61,ntmps61
  go_wp2_with fail
  go_ret
  exact ⟨Ag HR.out.symm,HB.out⟩
 ·by_cases h2:a.kind=b.kind
  ·by_cases h3:a.id<b.id
   ·have HR:=hid (show Ev a b=true by simp [Ev,h2,h3])
    have h4:(a.kind==b.kind)=true:=by simpa using h2
    clear h2
    go_enter func61,ntmps61
    go_wp2_with fail
    go_ret
    exact ⟨Ag HR.out.symm,HB.out⟩
   ·have HR:=hid (show Ev a b=false by simp [Ev,h2,h3])
    have h4:(a.kind==b.kind)=true:=by simpa using h2
    clear h2
    go_enter func61,ntmps61
    go_wp2_with fail
    go_ret
    exact ⟨Ag HR.out.symm,HB.out⟩
  ·have HR:=hid (show Ev a b=false by simp [Ev,h1,h2])
   have h4:(a.kind==b.kind)=false:=by simpa using h2
   clear h2
   go_enter func61,ntmps61
   go_wp2_with fail
   go_ret
   exact ⟨Ag HR.out.symm,HB.out⟩
theorem Kb {x y:Int} (h:x=y):(Ending.returned (.int .i64 x))=.returned (.int .i64 y):=by rw [h]
theorem Bl3 (x:Int) (w:World):Calls prog 83 #[.int .i64 x] w fun e w'=>e=.returned (.bool false)∧w'=w:=by
 have hx:(x != x)=false:=by simp
 go_enter func83,ntmps83
 go_wp2_with fail
 go_ret
 exact ⟨rfl,rfl⟩
theorem Es2 (x y:Int) (w:World):Calls prog 69 #[.int .i64 x,.int .i64 y] w fun e w'=>e=.returned (.int .i64 (cmpI x y))∧w'=w:=by
 by_cases h1:x<y
 ·have HR:=hid (show cmpI x y=-1 by simp [cmpI,h1])
  go_enter func69,ntmps69
  go_wp2_with fail
  refine (Bl3 _ _).mono ?_
  rintro e w' ⟨rfl,rfl⟩
  go_wp2_with fail
  refine (Bl3 _ _).mono ?_
  rintro e w' ⟨rfl,rfl⟩
  go_wp2_with fail
  go_ret
  exact ⟨Kb HR.out.symm,rfl⟩
 ·by_cases h2:y<x
  ·have HR:=hid (show cmpI x y=1 by simp [cmpI,h1,h2])
   go_enter func69,ntmps69
   go_wp2_with fail
   refine (Bl3 _ _).mono ?_
   rintro e w' ⟨rfl,rfl⟩
   go_wp2_with fail
   refine (Bl3 _ _).mono ?_
   rintro e w' ⟨rfl,rfl⟩
   go_wp2_with fail
   go_ret
   exact ⟨Kb HR.out.symm,rfl⟩
  ·have HR:=hid (show cmpI x y=0 by simp [cmpI,h1,h2])
   go_enter func69,ntmps69
   go_wp2_with fail
   refine (Bl3 _ _).mono ?_
   rintro e w' ⟨rfl,rfl⟩
   go_wp2_with fail
   refine (Bl3 _ _).mono ?_
   rintro e w' ⟨rfl,rfl⟩
   go_wp2_with fail
   go_ret
   exact ⟨Kb HR.out.symm,rfl⟩
def orK (x y:Int):Int:=if x=0 then y else x
theorem Hi9 (b c:Nat) (x y:Int) (w:World) (h0:w.cell? ⟨b,0,none⟩=some (.int .i64 x)) (h1:w.cell? ⟨b,1,none⟩=some (.int .i64 y)) :
 Calls prog 68 #[.slice (some ⟨b,0,none⟩) 2 c] w fun e w'=>e=.returned (.int .i64 (orK x y))∧w'=w:=by
 go_enter func68,ntmps68
 go_wp2_with fail
 go_loopw [5,8] (fun _ i wr=>wr=w∧((i=.int .i64 0)∨(i=.int .i64 1∧x=0)∨(i=.int .i64 2∧x=0∧y=0))) (fun _ i _=>2-(intOf i).toNat)
 case atStart=>exact ⟨rfl,.inl rfl⟩
 case round =>
  obtain ⟨rfl,hrel⟩:=hrel
  rcases hrel with rfl|⟨rfl,hx⟩|⟨rfl,hx,hy⟩
  ·by_cases hx:x=0
   ·have hq:(x != 0)=false:=by simpa using hx
    have HX:=hid hx
    clear hx
    go_wp2_with fail
    go_roundw
    case rel=>exact ⟨by trivial,.inr (.inl ⟨rfl,HX.out⟩)⟩
    case measure=>simp [intOf]
   ·have hq:(x != 0)=true:=by simpa using hx
    have HR:=hid (show orK x y=x by simp [orK,hx])
    clear hx
    go_wp2_with fail
    go_ret
    exact ⟨Kb HR.out.symm,rfl⟩
  ·by_cases hy:y=0
   ·have hq:(y != 0)=false:=by simpa using hy
    have HX:=hid hx
    have HY:=hid hy
    clear hx hy
    go_wp2_with fail
    go_roundw
    case rel=>exact ⟨by trivial,.inr (.inr ⟨rfl,HX.out,HY.out⟩)⟩
    case measure=>simp [intOf]
   ·have hq:(y != 0)=true:=by simpa using hy
    have HR:=hid (show orK x y=y by simp [orK,hx])
    clear hx hy
    go_wp2_with fail
    go_ret
    exact ⟨Kb HR.out.symm,rfl⟩
  ·have HR:=hid (show orK x y=0 by simp [orK,hx,hy])
   clear hx hy
   go_wp2_with fail
   go_ret
   exact ⟨Kb HR.out.symm,rfl⟩
def cmpK (a b:Pl):Int:=orK (cmpI a.kind b.kind) (cmpI a.id b.id)
theorem Am1 (a b:Pl):decide (cmpK a b<0)=Ev a b:=by
 unfold cmpK orK Ev
 unfold cmpI
 by_cases h1:a.kind<b.kind
 ·simp [h1]
 ·by_cases h2:b.kind<a.kind
  ·have h3:¬a.kind=b.kind:=by omega
   simp [h1,h2,h3]
  ·have h3:a.kind=b.kind:=by omega
   by_cases h4:a.id<b.id
   ·simp [h3,h4]
   ·by_cases h5:b.id<a.id<;>simp [h3,h4,h5]
open Go.Sort in
theorem Ao7 (a b:Pl) (w:World):Calls prog 60 #[.agg #[.int .i64 a.kind,.int .i64 a.id],.agg #[.int .i64 b.kind,.int .i64 b.id]] w fun e w'=>e=.returned (.int .i64 (cmpK a b))∧∃q os',w'=grow (w.drewN q) os':=by
 have HA:=hid ((Blk.new w 47 #[.int .i64 a.kind,.int .i64 a.id]).alloc (.cells #[.int .i64 b.kind,.int .i64 b.id] 47))
 have HB:=hid (Blk.newn (w.alloc (.cells #[.int .i64 a.kind,.int .i64 a.id] 47)) 47 #[.int .i64 b.kind,.int .i64 b.id] (n:=w.heap.size+1) (by simp))
 have HG:=hid (show ∃q os',((w.alloc (.cells #[.int .i64 a.kind,.int .i64 a.id] 47)).alloc (.cells #[.int .i64 b.kind,.int .i64 b.id] 47)).drew=grow (w.drewN q) os' from ⟨1,_,by rw [alloc_eq_grow,alloc_eq_grow,grow_grow];rfl⟩)
 go_enter func60,ntmps60
 go_wp2_with fail
 generalize (w.alloc (.cells #[.int .i64 a.kind,.int .i64 a.id] 47)).alloc (.cells #[.int .i64 b.kind,.int .i64 b.id] 47)=V at *
 have HA1:=hid HA.out.drew
 have HB1:=hid HB.out.drew
 have KA:=hid HA.out.drew.cell
 have KB:=hid HB.out.drew.cell
 refine tkS (S:=(fun w'=>(∀ii,w'.cell? ⟨w.heap.size,ii,none⟩=(#[.int .i64 a.kind,.int .i64 a.id][ii]?:Option Value))∧(∀ii,w'.cell? ⟨w.heap.size+1,ii,none⟩=(#[.int .i64 b.kind,.int .i64 b.id][ii]?:Option Value)))) (by (first|(with_reducible exact ⟨KA.out,KB.out⟩))) (fun hHeld=>?_)
 refine tkl [0,1,2,3,5,6,7,8] ?_
 iterate 8
  refine tW ?_
  try go_frame
 refine rdy1 4 (fun K hK=>?_)
 go_simp
 refine (Es2 _ _ _).mono ?_;rintro e9 w9 ⟨rfl,rfl⟩
 try go_wp2_with fail
 refine hK.out _ _ (by (first|(with_reducible exact ⟨KA.out,KB.out⟩))) (fun hHeld=>?_)
 clear hK K
 try go_frame
 refine rdy1 9 (fun K hK=>?_)
 go_simp
 refine (Es2 _ _ _).mono ?_;rintro e9 w9 ⟨rfl,rfl⟩
 try go_wp2_with fail
 refine hK.out _ _ (by (first|(with_reducible exact ⟨KA.out,KB.out⟩))) (fun hHeld=>?_)
 clear hK K
 try go_frame
 generalize V.drew=V1 at *
 have HC:=hid (Blk.new V1 3 #[.int .i64 (cmpI a.kind b.kind),.int .i64 (cmpI a.id b.id)])
 have HG2:=hid (show ∃q os',V1.alloc (.cells #[.int .i64 (cmpI a.kind b.kind),.int .i64 (cmpI a.id b.id)] 3)=grow (w.drewN q) os' from by obtain ⟨q,os,h⟩:=HG.out;exact ⟨q,_,by rw [h,alloc_eq_grow,grow_grow]⟩)
 refine rdy1 10 (fun K hK=>?_)
 go_simp
 try go_wp2_with fail
 refine hK.out _ _ (by (first|(exact ⟨(HA1.out.alloc _).cell,(HB1.out.alloc _).cell⟩))) (fun hHeld=>?_)
 clear hK K
 try go_frame
 refine rdy1 11 (fun K hK=>?_)
 go_simp
 refine (Hi9 _ _ _ _ _ (HC.out.cell 0) (HC.out.cell 1)).mono ?_;rintro e9 w9 ⟨rfl,rfl⟩
 try go_wp2_with fail
 refine hK.out _ _ (by (first|(exact ⟨(HA1.out.alloc _).cell,(HB1.out.alloc _).cell⟩))) (fun hHeld=>?_)
 clear hK K
 try go_frame
 refine tkl [12] (tW ?_)
 try go_frame
 refine tkD ?_
 go_wp2_with fail
 go_ret
 exact ⟨rfl,HG2.out⟩
end
section
open Go.RowKit Go
theorem Bi5 (w:World) (q:Nat) (os:Array Obj):Below w.heap.size w (Go.Sort.grow (w.drewN q) os) :=
 ⟨rfl,rfl,rfl,by simp [Go.Sort.grow,World.drewN],fun k hk=>by show (w.heap++os)[k]?=w.heap[k]?;rw [Array.getElem?_append_left hk]⟩
def Jv (n m:Int):Bool:=decide (0≤n)&&decide (n<m)
def keyV (o:Option Pl):Pl:=o.getD ⟨0,0⟩
theorem Hi1 (w:World) (A:Array Value) (t:TypeId) (c d:Value):Below w.heap.size w (((w.alloc (.cells A t)).alloc (.cells #[.int .i64 0,.int .i64 0] 47))):=Fk9 w A _ t _
end
section
open Go.RowKit Go
theorem Bz3 (a1 a2 b1 b2:Int) (w:World):(binOp .neq 47 (.agg #[.int .i64 a1,.int .i64 a2]) (.agg #[.int .i64 b1,.int .i64 b2])).run prog w=.ok (.bool (!decide ((⟨a1,a2⟩:Pl)=⟨b1,b2⟩))) w:=by
 by_cases e1:a1=b1
 ·by_cases e2:a2=b2
  ·subst e1 e2;go_simp
  ·go_simp
 ·go_simp
theorem Ag5 (a1 a2 b1 b2:Int) (w:World):(binOp .eql 47 (.agg #[.int .i64 a1,.int .i64 a2]) (.agg #[.int .i64 b1,.int .i64 b2])).run prog w=.ok (.bool (decide ((⟨a1,a2⟩:Pl)=⟨b1,b2⟩))) w:=by
 by_cases e1:a1=b1
 ·by_cases e2:a2=b2
  ·subst e1 e2;go_simp
  ·go_simp
 ·go_simp
theorem Bz {W W1:World} {p:Addr} {v:Value} (h:W.cell? p=some v) (hp:p.block<W.heap.size) (hb:Below W.heap.size W W1):W1.cell? p=some v:=(hb.cell hp).trans h
theorem Dm3 {xs ys:List Pl} {k:Nat} (hx:k<xs.length) (hy:k<ys.length) (h:xs.take k=ys.take k) (e:xs[k]=ys[k]):xs.take (k+1)=ys.take (k+1):=by
 rw [List.take_succ_eq_append_getElem hx,List.take_succ_eq_append_getElem hy,h,e]
theorem At9 (a b:Option Addr) (ca cb:Nat) (xs ys:List Pl) (w:World) (h1:Au w a xs) (h2:Au w b ys) :
 Calls prog 10 #[.slice a xs.length ca,.slice b ys.length cb] w fun e w'=>e=.returned (.bool (decide (xs=ys)))∧Below w.heap.size w w':=by
 have hm:=h1.len
 have hm2:=h2.len
 by_cases hl:xs.length=ys.length
 ·have HL:=hid hl
  have H1:=hid h1
  have H2:=hid h2
  have hq:((xs.length:Int) != (ys.length:Int))=false:=by simp;omega
  clear h1 h2 hl
  go_enter func10,ntmps10
  go_wp2_with fail
  go_loopw [5] (fun i wr=>∃k:Nat,k≤xs.length∧i=.int .i64 k∧xs.take k=ys.take k∧Below w.heap.size w wr) (fun i _=>xs.length-(intOf i).toNat)
  case atStart=>exact ⟨0,Nat.zero_le _,rfl,rfl,Below.refl _ _⟩
  case round =>
   obtain ⟨k,hk,rfl,htk,hbel⟩:=hrel
   have HT:=hid htk
   clear htk
   by_cases hlt:k<xs.length
   ·have hy:k<ys.length:=by have:=HL.out;omega
    obtain ⟨xb,xo,rfl,hxb,hx0,hx1⟩:=H1.out.cells hlt
    obtain ⟨yb,yo,rfl,hyb,hy0,hy1⟩:=H2.out.cells hy
    have c0:=Bz hx0 hxb hbel
    have c1:=Bz hx1 hxb hbel
    have c2:=Bz hy0 hyb hbel
    have c3:=Bz hy1 hyb hbel
    clear hx0 hx1 hy0 hy1 H1 H2
    have HX:=hid (Dm3 hlt hy HT.out)
    have HN:=hid (show ¬xs[k]=ys[k]→¬xs=ys from fun h e=>by subst e;exact h rfl)
    generalize hx:xs[k]=x at *
    generalize hyy:ys[k]=y at *
    obtain ⟨x0,x1⟩:=x
    obtain ⟨y0,y1⟩:=y
    simp only at c0 c1 c2 c3
    clear hx hyy
    have hrun:=Bz3 x0 x1 y0 y1
    have HB:=hid hbel
    clear hbel
    by_cases he:(⟨x0,x1⟩:Pl)=⟨y0,y1⟩
    ·have HX2:=hid (HX.out he)
     simp only [he,decide_true,Bool.not_true] at hrun
     clear he HX HN
     go_wp2_with fail
     go_quiet (fail)
     go_wp2_with fail
     go_roundw
     case rel=>exact ⟨k+1,by omega,by go_num,HX2.out,Ib HB.out _⟩
     case measure=>simp [intOf];omega
    ·have HD:=hid (show decide (xs=ys)=false by simpa using HN.out he)
     simp only [he,decide_false,Bool.not_false] at hrun
     clear he HX HN
     go_wp2_with fail
     go_quiet (fail)
     go_wp2_with fail
     go_ret
     exact ⟨Ag HD.out.symm,Ib HB.out _⟩
   ·have hke:k=xs.length:=by omega
    subst hke
    have HD:=hid (show decide (xs=ys)=true by
     have:=HT.out
     rw [List.take_of_length_le (Nat.le_refl _),HL.out,List.take_of_length_le (Nat.le_refl _)] at this
     simpa using this)
    clear H1 H2
    go_wp2_with fail
    go_ret
    exact ⟨Ag HD.out.symm,hbel⟩
 ·have HD:=hid (show decide (xs=ys)=false by rw [decide_eq_false_iff_not];intro e;exact hl (by rw [e]))
  have hq:((xs.length:Int) != (ys.length:Int))=true:=by simp;omega
  clear h1 h2 hl
  go_enter func10,ntmps10
  go_wp2_with fail
  go_ret
  exact ⟨Ag HD.out.symm,Below.refl _ _⟩
end
section
open Go.RowKit Go
theorem Gt3:(match prog.underlying 47 with|some (.array _ _)|some (.struct _)=>true|_=>false)=true:=by rw [underlying47]
theorem Bl7:Maps.Keyed prog 47:=Maps.Keyed.of_law (deep_law_laid (by kernel_rfl) (m:=2) (by omega) (of_decide_eq_true (by kernel_rfl)) (by kernel_rfl) Gt3)
def keyL (k:Pl):Lit:=.string (keyBytes [.int .i64 k.kind,.int .i64 k.id])
def InK (k:Pl):Prop:=(-9223372036854775808≤k.kind∧k.kind≤9223372036854775807)∧-9223372036854775808≤k.id∧k.id≤9223372036854775807
theorem wf_i (a:Int) (h:-9223372036854775808≤a∧a≤9223372036854775807):(Lit.int .i64 a).wf=true:=by simp [Lit.wf,IntKind.min,IntKind.max,IntKind.signed,IntKind.bits];omega
theorem Gt4:∃n,prog.types.size+1=n+2:=⟨prog.types.size-1,by have:1<prog.types.size:=of_decide_eq_true (by kernel_rfl);omega⟩
theorem Dd5 {k:Pl} (h:InK k):keyOf prog 47 (.agg #[.int .i64 k.kind,.int .i64 k.id])=some (keyL k):=by
 have h0:=wf_i _ h.1
 have h1:=wf_i _ h.2
 have ht:prog.keyType 47=true:=by kernel_rfl
 have hf:(Value.agg #[.int .i64 k.kind,.int .i64 k.id]).formed prog 47=true:=by
  have hc:prog.cellsOf 47=2:=by kernel_rfl
  simp [Value.formed,underlying47,hc]
 have hi:prog.cellsOf 3=1:=by kernel_rfl
 have hc:prog.cellsOf 47=2:=by kernel_rfl
 obtain ⟨n,hn⟩:=Gt4
 unfold keyOf
 rw [underlying47]
 simp only [ht,hf,Bool.and_self,if_true,hn]
 have e2:∀(a:Int),(Lit.int .i64 a).wf=true→prog.keyLits (n+1) 3 [.int .i64 a]=some [.int .i64 a]:=fun a ha=>by
  unfold Program.keyLits
  rw [underlying3]
  simp [ha]
 unfold Program.keyLits
 rw [underlying47]
 simp [hc,hi,e2,h0,h1,Value.cells,keyL]
theorem Gt5 {a b:Pl} (ha:InK a) (hb:InK b) (h:keyL a=keyL b):a=b:=by
 have hb2:=Dd5 hb
 rw [←h] at hb2
 have h2:=Bl7.inj (Dd5 ha) hb2
 obtain ⟨a1,a2⟩:=a
 obtain ⟨b1,b2⟩:=b
 simp at h2
 rw [h2.1,h2.2]
theorem En7 {a:Pl} (ha:InK a):WideAt.IsKeyLit (keyL a):=Bl7.key (Dd5 ha)
def MetK (W:World) (m:Nat) (L:List Pl):Prop :=
 ∃(n:Nat) (D:DataW Unit),W.ownsMap prog 47 (plainElem prog 4) m n D∧n≤L.length∧Maps.IsMap D∧∀kl,Maps.has D kl=true↔∃k∈L,keyL k=kl
theorem Gc2 (w:World):MetK (w.alloc (.map #[] 0)) w.heap.size [] :=
 ⟨0,.map [],World.ownsMap_made w prog 47 (plainElem prog 4),Nat.le_refl _,⟨_,rfl⟩,fun kl=>by simp [Maps.has]⟩
theorem MetK.lt {W:World} {m:Nat} {L:List Pl} (h:MetK W m L):m<W.heap.size:=by obtain ⟨n,D,ho,_⟩:=h;exact ho.lt
theorem MetK.kept {W W':World} {m:Nat} {L:List Pl} {row:Option Nat} (h:MetK W m L) (hg:W.grownBy W' row) (hr:some m≠row):MetK W' m L:=by
 obtain ⟨n,D,ho,h⟩:=h
 exact ⟨n,D,ho.kept hg hr,h⟩
theorem MetK.call {W W':World} {m:Nat} {L:List Pl} (h:MetK W m L) (hb:Below W.heap.size W W'):MetK W' m L:=h.kept ⟨hb.os,hb.tape,hb.output,hb.size,fun k hk _=>hb.block k hk⟩ (row:=none) (by simp)
theorem MetK.put {W:World} {m:Nat} {L:List Pl} (h:MetK W m L) (k:Pl) (hi:InK k) (hl:L.length≤1000000) :
 ∃W',(Instr.mapUpdate 83 (.map (some m)) (.agg #[.int .i64 k.kind,.int .i64 k.id]) (.bool true)).run prog W=.ok () W'∧MetK W' m (L++[k])∧W.grownBy W' (some m):=by
 obtain ⟨n,D,ho,hn,hm,hD⟩:=h
 obtain ⟨W',hr,ho',hg⟩:=ho.update Bl7 underlying83 (by unfold maxLen;omega) (Dd5 hi) (plainElem_bool underlying4 true)
 have hk:=En7 hi
 refine ⟨W',hr,⟨n+1,_,ho',by simp;omega,?_,fun kl=>?_⟩,hg⟩
 ·obtain ⟨es,rfl⟩:=hm
  exact ⟨_,rfl⟩
 ·by_cases hj:kl=keyL k
  ·subst hj
   rw [Maps.has_put_same hm hk]
   simp
  ·rw [Maps.has_put_other hj,hD kl]
   constructor
   ·rintro ⟨q,hq,e⟩;exact ⟨q,by simp [hq],e⟩
   ·rintro ⟨q,hq,e⟩
    rcases List.mem_append.1 hq with hq|hq
    ·exact ⟨q,hq,e⟩
    ·rw [List.mem_singleton] at hq;subst hq;exact absurd e.symm hj
theorem Gc5 {P:Program} {ops:Array Oper} {rest:List Oper} {o:Oper} {a:Act} {Q:Exit→Act→World→Prop} {w w':World} (hgd:o.guard=none) (s x y:Operand) (t:TypeId)
 (ho:o.op=.mapUpdate t s x y) (v u z:Value) (hs:a.eval s=v) (hx:a.eval x=u) (hy:a.eval y=z)
 (hrun:(Instr.mapUpdate t v u z).run P w=.ok () w') (h:wpList P ops Q rest (a.put o.dst undef) w'):wpList P ops Q (o :: rest) a w :=
 wpList_plain hgd fun K hK=>by
  unfold Oper.wp
  simp [execOp,ho,hs,hx,hy,hrun,Result.andThen]
  exact hK _ _ h
def RngK (W:World) (m r:Nat) (L R:List Pl):Prop :=
 ∃(n:Nat) (D:DataW Unit) (left:Lit→Bool) (cnt:Nat),W.ranges prog 47 (plainElem prog 4) m r n D left cnt∧(∀kl,left kl=true→∃k∈L,keyL k=kl)∧(∀k,k∈R↔(k∈L∧left (keyL k)=false))∧R.Nodup
theorem RngK.kept {W W':World} {m r:Nat} {L R:List Pl} {row:Option Nat} (h:RngK W m r L R) (hg:W.grownBy W' row) (h1:some m≠row) (h2:some r≠row):RngK W' m r L R:=by
 obtain ⟨n,D,left,cnt,hr,h⟩:=h
 exact ⟨n,D,left,cnt,hr.kept hg h1 h2,h⟩
theorem RngK.left {W W':World} {m r:Nat} {L R:List Pl} {row:Option Nat} (h:RngK W m r L R) (hg:W.grownBy W' row) (h1:some m≠row) (h2:some r≠row):W'.rangeLeft m r=W.rangeLeft m r:=by
 obtain ⟨n,D,left,cnt,hr,h⟩:=h
 rw [hr.left_eq,(hr.kept hg h1 h2).left_eq]
theorem RngK.sub {W:World} {m r:Nat} {L R:List Pl} (h:RngK W m r L R):R.length≤L.length:=by
 obtain ⟨n,D,left,cnt,hr,-,h2,h3⟩:=h
 exact List.Nodup.length_le_of_subset h3 (fun k hk=>((h2 k).1 hk).1)
section
variable {w:World} {ops:Array Oper} {rest:List Oper} {o:Oper} {a:Act} {Q:Exit→Act→World→Prop}
theorem Fg8 {m:Nat} {L:List Pl} (hM:MetK w m L) (hg:o.guard=none) (x:Operand) (hop:o.op=Op.range 83 x) (hx:a.eval x=.map (some m))
 (hK:∀w',RngK w' m w.heap.size L []→w.grownBy w' none→w'.heap.size=w.heap.size+1→wpList prog ops Q rest (a.put o.dst (.pointer (some ⟨w.heap.size,0,none⟩))) w'):wpList prog ops Q (o :: rest) a w:=by
 obtain ⟨n,D,ho,-,hm,hD⟩:=hM
 refine wpList_range_own w hg x 83 hop 47 4 Bl7 underlying83 (plainElem prog 4) m n D hx ho (fun w' hr hgr hs=>hK w' ⟨n,D,_,_,hr,fun kl hkl=>(hD kl).1 hkl,fun k=>?_,List.nodup_nil⟩ hgr hs)
 simp only [List.not_mem_nil,false_iff,not_and]
 intro hk
 rw [(hD (keyL k)).2 ⟨k,hk,rfl⟩]
 simp
theorem Gb7 {m r:Nat} {L R:List Pl} (hR:RngK w m r L R) (hL:∀k∈L,InK k) (hg:o.guard=none) (it:Operand) (hop:o.op=Op.next it false) (hit:a.eval it=.pointer (some ⟨r,0,none⟩))
 (hDone:(∀k,k∈R↔k∈L)→R.Nodup→wpList prog ops Q rest (a.put o.dst (.tuple #[.bool false])) w)
 (hMore:∀(k:Pl) (c:Value) (w':World),k∈L→RngK w' m r L (R++[k])→w.grownBy w' (some r)→w'.heap.size=w.heap.size→w'.rangeLeft m r<w.rangeLeft m r →
   (Instr.entry (.pointer (some ⟨r,0,none⟩))).run prog w'=.ok (.tuple #[.agg #[.int .i64 k.kind,.int .i64 k.id],c]) w'→wpList prog ops Q rest (a.put o.dst (.tuple #[.bool true,.agg #[.int .i64 k.kind,.int .i64 k.id],c])) w'):wpList prog ops Q (o :: rest) a w:=by
 obtain ⟨n,D,left,cnt,hr,h1,h2,h3⟩:=hR
 refine wpList_next_ranges w hg it hop 47 Bl7 (plainElem prog 4) (fun v:Value=>v) (fun v:Value=>v) (fun key kl _=>⟨key,rfl⟩) (fun v y _=>⟨v,rfl⟩) m r n D left cnt hit hr (fun h0 hl=>hDone (fun k=>?_) h3) ?_
 ·rw [h2,hl];simp
 ·intro x c kl y w' cnt' hkey hlk hv hat hrg hlt hgr hsz hen
  obtain ⟨k,hk,rfl⟩:=h1 kl hlk
  obtain rfl:=Bl7.inj hkey (Dd5 (hL k hk))
  refine hMore k c w' hk ⟨n,D,_,cnt',hrg,fun kl hkl=>h1 kl (by simp only [Bool.and_eq_true] at hkl;exact hkl.1),fun q=>?_,?_⟩ hgr hsz (by rw [hrg.left_eq,hr.left_eq];exact hlt) hen
  ·rw [List.mem_append,List.mem_singleton,h2]
   constructor
   ·rintro (⟨hq,hf⟩|rfl)
    ·exact ⟨hq,by simp [hf]⟩
    ·exact ⟨hk,by simp [WideAt.sameKey_self (En7 (hL _ hk))]⟩
   ·rintro ⟨hq,hf⟩
    by_cases hl:left (keyL q)=false
    ·exact .inl ⟨hq,hl⟩
    ·refine .inr (Gt5 (hL q hq) (hL k hk) (WideAt.sameKey_eq ?_))
     have:left (keyL q)=true:=by simpa using hl
     simpa [this] using hf
  ·rw [List.nodup_append]
   refine ⟨h3,by simp,fun a ha b hb e=>?_⟩
   rw [List.mem_singleton] at hb
   subst hb e
   have:=((h2 a).1 ha).2
   rw [hlk] at this
   cases this
end
end
end Go.Proofs.Ytenpcndoilcjcaa
