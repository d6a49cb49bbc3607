/- token: Clone, Word, by the code and by the document's own definition. -/
import Derived.Test.YtaeclpjofclbeaaDoorClone
import Derived.Test.YtaeclpjofclbeaaDoorGTokM
import Derived.Test.YtaeclpjofclbeaaDoorShelf
namespace Go.Proofs.YtaeclpjofclbeaaDoor
open Go.ChangeShapes Go.WideShapes Go.ChangeAt Go.RowKit Go.Proofs.Tryd
open Lib (hid)
set_option linter.unusedVariables false
section
def Tab (w : World) : Prop := Lib.TabIs prog w "internal/strconv.uint64pow10" .u64 Lib.pow10Tab
theorem Es7 (w:World) (k:Nat) (os:Array Obj):Below w.heap.size w (Go.Sort.grow (w.drewN k) os) :=
 ⟨rfl,rfl,rfl,by simp [Go.Sort.grow],fun j hj=>by simp [Go.Sort.grow,Array.getElem?_append,hj]⟩
theorem Xr (n:Nat) (w:World) (hn:n≤9223372036854775807) (ht:Tab w) :
 Calls prog 67 #[.int .i64 n] w fun e w'=>e=.returned (.string ⟨(Lib.decDigits n).toArray⟩)∧Below w.heap.size w w':=by
 have hl:=Lib.itoa_length_le (n:Int) (by omega) (by omega)
 have hi:=Lib.itoa_nonneg n
 rw [hi] at hl
 have HI:=hid hi
 have HT:=hid ht
 clear hi ht
 go_enter func67,ntmps67
 go_wp2_with fail
 refine (Tryd.strconv_Itoa n (by omega) (by omega) _ HT.out).mono ?_
 rintro e w1 ⟨rfl,k,os,hw⟩
 have b1:=Es7 w k os
 rw [←hw] at b1
 clear hw
 rw [HI.out]
 go_wp2_with fail
 refine (Ba9 _ _ (by simp [ByteArray.size];omega)).mono ?_
 rintro e w2 ⟨rfl,b2⟩
 go_wp2_with fail
 go_ret
 exact ⟨rfl,bl b1 b2⟩
end
section
def Jd (xs:List (List UInt8)):Nat:=(xs.map fun x=>x.length+1).sum
theorem Gd2 (xs:List (List UInt8)) (y:List UInt8):glue (xs++[y])=if xs=[] then y else glue xs++32 :: y:=by
 induction xs with
 | nil=>rfl
 | cons x r ih =>
   cases r with
   | nil=>rfl
   | cons z r =>
     show x++32 :: glue ((z :: r)++[y])=_
     rw [ih,if_neg (by simp),if_neg (by simp)]
     simp [glue]
theorem Ag0 (xs:List (List UInt8)):(glue xs).length≤Jd xs:=by
 induction xs with
 | nil=>simp [glue]
 | cons x r ih =>
   cases r with
   | nil=>simp [glue,Jd]
   | cons y r =>
     have e:(glue (x :: y :: r)).length=x.length+1+(glue (y :: r)).length:=by simp [glue];omega
     rw [e];simp only [Jd,List.map_cons,List.sum_cons] at ih ⊢;omega
theorem Dz2 (xs:List (List UInt8)) (k:Nat):Jd (xs.take k)≤Jd xs:=by
 have:Jd (xs.take k)+Jd (xs.drop k)=Jd xs:=by
  unfold Jd;rw [←List.sum_append,←List.map_append,List.take_append_drop]
 omega
theorem Cc4 (xs:List (List UInt8)) (k:Nat) (h:k<xs.length):glue (xs.take (k+1))=if k=0 then xs[k] else glue (xs.take k)++32 :: xs[k]:=by
 rw [List.take_succ_eq_append_getElem h,Gd2]
 by_cases h0:k=0
 ·subst h0;simp
 ·have:xs.take k≠[]:=by intro e;have:=congrArg List.length e;rw [List.length_take,List.length_nil] at this;omega
  rw [if_neg this,if_neg h0]
end
section
open Go.RowKit Go
theorem Ic {P:Program} {ops:Array Oper} {rest:List Oper} {o:Oper} {a:Act} {Q:Exit→Act→World→Prop} {w:World} (hgd:o.guard=none) (s x:Operand) (t:TypeId)
 (ho:o.op=.call { callee:=.builtin .append,args:=#[s,x],argTypes:=#[t,t] }) (v u v':Value) (w':World) (hs:a.eval s=v) (hx:a.eval x=u)
 (hrun:(Builtin.append_ #[t,t] o.type #[v,u]).run P w=.ok v' w') (h:wpList P ops Q rest (a.put o.dst v') w'):wpList P ops Q (o :: rest) a w :=
 wpList_plain hgd fun K hK=>by
  unfold Oper.wp
  simp [execOp,ho,resolve,invoke,builtin,hs,hx,hrun,Result.andThen]
  exact hK _ _ h
theorem Ah8 {W:World} {base k:Nat} {v u:Value} {ys:List Value} {xs:List (List UInt8)} (ty:TypeId) (hown:W.ownsRow base 9 1 v k ys) (hu:Strs W u xs) (hl:k+xs.length≤1000000) (hb:base≤W.heap.size) :
 ∃v' W',(Builtin.append_ #[22,22] ty #[v,u]).run prog W=.ok v' W'∧W'.ownsRow base 9 1 v' (k+xs.length) (ys++xs.map str)∧W.grownBy W' v.ownBlock:=by
 obtain ⟨i0,hi0,hz0,hz1,hz2⟩:=info_parts Ab3
 obtain ⟨a,cap,rfl,hm,h⟩:=hu
 by_cases hx:xs=[]
 ·subst hx
  have hsrc:Src prog i0.size 22 (.slice a 0 cap) 0 [] W:=by
   cases a with
   | none=>exact Src.ofNil (w:=W) underlying22 cap
   | some p=>exact Src.ofSlice W underlying22 p 0 cap [] (by simp) (by simp) (by simp)
  have hform:∃b c,v=.slice b k c∧k≤c:=by
   rcases hown.2 with ⟨rfl,rfl⟩|⟨g,c,cur,rfl,_,_,hc,_⟩
   ·exact ⟨none,0,rfl,Nat.le_refl _⟩
   ·exact ⟨_,c,rfl,hc⟩
  obtain ⟨b,c,rfl,hc⟩:=hform
  exact ⟨_,W,run_append_nothing W 22 22 ty 9 i0 underlying22 hi0 b k c hc _ hsrc,by simpa using hown,⟨rfl,rfl,rfl,Nat.le_refl _,fun _ _ _=>rfl⟩⟩
 ·rcases h with h|⟨b,off,rfl,hb2,hc⟩
  ·exact absurd h hx
  ·obtain ⟨v',W',hr,h1,h2,-⟩:=run_append_own (P:=prog) W base 22 ty 9 i0 (.string ⟨#[]⟩) 1 16 underlying22 hi0 hz0 hz1 hz2 rfl (by decide) v k ys hown ⟨b,off,none⟩ xs.length cap (xs.map str) (by simp)
    (fun j u hj=>by
      rw [List.getElem?_map] at hj
      cases hq:xs[j]? with
      | none=>rw [hq] at hj;simp at hj
      | some x =>
        rw [hq] at hj;simp at hj;subst hj
        obtain ⟨hj2,rfl⟩:=List.getElem?_eq_some_iff.1 hq
        have:=hc j hj2
        by_cases h0:j=0<;>simp [Addr.add,h0] at this ⊢<;>exact this)
    (fun u hu=>by simp at hu;obtain ⟨x,_,rfl⟩:=hu;rfl) (by unfold maxLen;omega) (by omega) hb
   exact ⟨v',W',hr,h1,h2⟩
theorem Cq0 (w:World):(w.alloc (.cells #[] 9)).ownsRow w.heap.size 9 1 (.slice (some ⟨w.heap.size,0,none⟩) 0 0) 0 [] :=
 ⟨rfl,.inr ⟨w.heap.size,0,#[],rfl,Nat.le_refl _,by show (w.heap.push _)[w.heap.size]?=some _;simp,Nat.le_refl _,by unfold maxLen;omega,rfl,rfl⟩⟩
end
section
open Go.RowKit Go
theorem Az {W W1:World} (h:Below W.heap.size W W1) (r:Option Nat):W.grownBy W1 r:=⟨h.os,h.tape,h.output,h.size,fun k hk _=>h.block k hk⟩
theorem Da {W W1 W2:World} {r r1:Option Nat} (h:W.grownBy W1 r) (k:W1.grownBy W2 r1) (hr:r1=r∨∃g,r1=some g∧W.heap.size≤g):W.grownBy W2 r :=
 ⟨k.os.trans h.os,k.tape.trans h.tape,k.output.trans h.output,Nat.le_trans h.size k.size,fun b hb hne=>(k.block b (Nat.lt_of_lt_of_le hb h.size) (fun e=>by
   rcases hr with hr|⟨g,hr,hg⟩
   ·exact hne (by rw [e,hr])
   ·rw [hr] at e;have:=Option.some.inj e;omega)).trans (h.block b hb hne)⟩
theorem Xi (W:World) (r:Option Nat):W.grownBy W r:=⟨rfl,rfl,rfl,Nat.le_refl _,fun _ _ _=>rfl⟩
def Zo (W:World) (v v':Value):Prop:=v'.ownBlock=v.ownBlock∨∃g,v'.ownBlock=some g∧W.heap.size≤g
theorem Zo.refl (W:World) (v:Value):Zo W v v:=.inl rfl
theorem Zo.trans {W W1:World} {v v1 v2:Value} (h:Zo W v v1) (hs:W.heap.size≤W1.heap.size) (k:Zo W1 v1 v2):Zo W v v2:=by
 rcases k with k|⟨g,k,hg⟩
 ·rcases h with h|⟨g,h,hg⟩
  ·exact .inl (k.trans h)
  ·exact .inr ⟨g,k.trans h,hg⟩
 ·exact .inr ⟨g,k,by omega⟩
theorem Jo {W:World} {base n:Nat} {v:Value} {ys:List Value} (hown:W.ownsRow base 9 1 v n ys) (x:List UInt8) (hn:n+1≤1000000) (hb:base≤W.heap.size) :
 ∃v' W',(Builtin.append_ #[22,22] 22 #[v,.slice (some ⟨W.heap.size,0,none⟩) 1 1]).run prog (W.alloc (.cells #[.string ⟨x.toArray⟩] 9))=.ok v' W'∧W'.ownsRow base 9 1 v' (n+1) (ys++[str x])∧W.grownBy W' v.ownBlock∧Zo W v v':=by
 obtain ⟨i0,hi0,hz0,hz1,hz2⟩:=info_parts Ab3
 obtain ⟨v',W',hr,h1,h2,-,h4⟩:=run_append_own_at (P:=prog) (W.alloc (.cells #[.string ⟨x.toArray⟩] 9)) base 22 22 9 i0 (.string ⟨#[]⟩) 1 16 underlying22 hi0 hz0 hz1 hz2 rfl (by decide) v n ys (hown.alloc _) ⟨W.heap.size,0,none⟩ 1 1 [.string ⟨x.toArray⟩] rfl
  (cell_one_new _ _ _) (by intro u hu;simp at hu;subst hu;rfl) (by unfold maxLen;omega) (by omega) (by simp;omega)
 refine ⟨v',W',hr,h1,Da (World.grownBy_alloc W _ v.ownBlock) h2 (.inl rfl),?_⟩
 rcases h4 with h4|h4
 ·exact .inl h4
 ·exact .inr ⟨_,h4,by simp⟩
theorem Ba3 {W W1:World} {base n:Nat} {v:Value} {ys:List Value} (h:W.ownsRow base 9 1 v n ys) (hb:Below W.heap.size W W1):W1.ownsRow base 9 1 v n ys:=h.kept (row:=none) (Az hb none) (by cases v.ownBlock<;>simp)
theorem Gb {P:Program} {ops:Array Oper} {o:Oper} {a:Act} {w:World} {K:Act→World→Prop} {Q:Exit→Act→World→Prop} {E:Prop}
 (hg:o.guard=none) (s x:Operand) (t:TypeId) (hop:o.op=Op.call { callee:=Callee.builtin Builtin.append,args:=#[s,x],argTypes:=#[t,t] })
 (v u v':Value) (w':World) (hs:a.eval s=v) (hx:a.eval x=u) (hrun:(Builtin.append_ #[t,t] o.type #[v,u]).run P w=.ok v' w')
 (hK:K (a.put o.dst v') w'):if Region.wanted o (yielded ops a.tmps)=true then Oper.wp P o a w K Q else E:=by
 rw [if_pos (by simp [Region.wanted,hg])]
 unfold Oper.wp
 simp [execOp,hop,resolve,invoke,builtin,hs,hx,hrun,Result.andThen]
 exact hK
theorem Blk.grow {W W':World} {g:Nat} {t:TypeId} {cs:Array Value} {r:Option Nat} (h:Blk W g t cs) (hb:W.grownBy W' r) (hg:some g≠r):Blk W' g t cs:=h.grown hb hg
end
end Go.Proofs.YtaeclpjofclbeaaDoor
