/- Words and integers that lie in memory. Over whatever program; no condition of its own. -/
import Derived.Test.YtaeclpjofclbeaaDoorRows
import Derived.Test.YtaeclpjofclbeaaDoorKit
import Derived.Deep.QuietTactic
import Derived.Deep.Draws
import Derived.WalkKit
import Derived.OpenShut
import Derived.IntWalk
import Derived.Deep.RegionHeld3
import Derived.Laws.MakeOwn
import Derived.Laws.AppendOwn
import Derived.Maps.AppendAt
import Derived.Deep.AppendLies
import Derived.OwnWalk
import Derived.Deep.Upon
import Derived.Laws.Rows
import Derived.Laws.OwnMore
namespace Go.Proofs.YtaeclpjofclbeaaDoor
open Go.ChangeShapes Go.WideShapes Go.ChangeAt Go.RowKit Go.Proofs.Tryd
set_option linter.unusedVariables false
section
theorem Ag {a b:Bool} (h:a=b):Ending.returned (.bool a)=.returned (.bool b):=by rw [h]
theorem Ib {B:Nat} {a w:World} (h:Below B a w) (n:Nat):Below B a (w.drewN n):=⟨h.os,h.tape,h.output,h.size,h.block⟩
def str (x:List UInt8):Value:=.string ⟨x.toArray⟩
theorem Dm4 (s:ByteArray):Value.string s=str s.data.toList:=by simp [str]
def Strs (w:World) (v:Value) (xs:List (List UInt8)):Prop :=
 ∃a cap,v=.slice a xs.length cap∧xs.length≤maxLen∧(xs=[]∨∃b off,a=some ⟨b,off,none⟩∧b<w.heap.size∧∀i (hi:i<xs.length),w.cell? ⟨b,off+i,none⟩=some (str xs[i]))
theorem Strs.below {w w':World} {v:Value} {xs:List (List UInt8)} (h:Strs w v xs) (hb:Below w.heap.size w w'):Strs w' v xs:=by
 obtain ⟨a,cap,rfl,hl,h⟩:=h
 refine ⟨a,cap,rfl,hl,?_⟩
 rcases h with h|⟨b,off,rfl,hb2,hc⟩
 ·exact .inl h
 ·exact .inr ⟨b,off,rfl,by have:=hb.size;omega,fun i hi=>(hb.cell (p:=⟨b,off+i,none⟩) hb2).trans (hc i hi)⟩
def Ja (w:World) (v:Value) (xs:List (List UInt8)):Prop:=Strs w v xs∧∃a cap,v=.slice a xs.length cap∧xs.length≤cap
def Cj5 (xs:List (List UInt8)) (w:World) (e:Ending) (w':World):Prop:=∃v,e=.returned v∧Ja w' v xs∧Below w.heap.size w w'
def Jk (xs:List (List UInt8)) (w:World) (e:Ending) (w':World):Prop:=∃v,e=.returned v∧Strs w' v xs∧Below w.heap.size w w'
theorem Ga {α:Type} {xs ys:List α} {k:Nat} (hx:k<xs.length) (hy:k<ys.length) (h:xs.take k=ys.take k) (he:xs[k]=ys[k]):xs.take (k+1)=ys.take (k+1):=by
 rw [List.take_succ_eq_append_getElem hx,List.take_succ_eq_append_getElem hy,h,he]
def Ae (w:World) (a:Option Addr) (xs:List Int):Prop :=
 xs.length≤maxLen∧(xs=[]∨∃b off,a=some ⟨b,off,none⟩∧b<w.heap.size∧∀i (hi:i<xs.length),w.cell? ⟨b,off+i,none⟩=some (.int .i64 xs[i]))
theorem Ae.below {w w':World} {a:Option Addr} {xs:List Int} (h:Ae w a xs) {B:Nat} (hb:Below B w w') (hB:w.heap.size≤B):Ae w' a xs:=by
 obtain ⟨hl,h⟩:=h
 refine ⟨hl,?_⟩
 rcases h with h|⟨b,off,rfl,hb2,hc⟩
 ·exact .inl h
 ·exact .inr ⟨b,off,rfl,by have:=hb.size;omega,fun i hi=>(hb.cell (p:=⟨b,off+i,none⟩) (by show b<B;omega)).trans (hc i hi)⟩
theorem Ae.drewN {w:World} {a:Option Addr} {xs:List Int} (h:Ae w a xs) (n:Nat):Ae (w.drewN n) a xs:=h
theorem Ae.alloc {w:World} {a:Option Addr} {xs:List Int} (h:Ae w a xs) (o:Obj):Ae (w.alloc o) a xs:=h.below (b_a _) lr0
theorem Ae.nil (w:World) (a:Option Addr):Ae w a []:=⟨by simp,.inl rfl⟩
theorem Ae.len {w:World} {a:Option Addr} {xs:List Int} (h:Ae w a xs):xs.length≤9223372036854775807:=by
 have:=h.1;unfold maxLen at this;omega
theorem Ae.at_ {w:World} {a:Option Addr} {xs:List Int} (h:Ae w a xs) {k:Nat} (hk:k<xs.length):∃b off,a=some ⟨b,off,none⟩∧b<w.heap.size∧∀i (hi:i<xs.length),w.cell? ⟨b,off+i,none⟩=some (.int .i64 xs[i]):=by
 rcases h.2 with h|h
 ·subst h;simp at hk
 ·exact h
end
section
def Ac (w:World) (n:Nat) (A:Array Value) (w':World):Prop:=Below w.heap.size w w'∧n<w'.heap.size∧∀i,w'.cell? ⟨n,i,none⟩=A[i]?
theorem Ac.new (w:World) (A:Array Value) (t:TypeId):Ac w w.heap.size A (w.alloc (.cells A t)) :=
 ⟨b_a _,by simp,fun i=>World.cell?_alloc_at _ _ _ _ rfl⟩
theorem Ac.alloc {w w':World} {n:Nat} {A:Array Value} (h:Ac w n A w') (o:Obj):Ac w n A (w'.alloc o) :=
 ⟨h.1.alloc h.1.size _,by have:=h.2.1;simp;omega,fun i=>(World.cell?_alloc_lt _ _ _ h.2.1).trans (h.2.2 i)⟩
theorem Ac.drew {w w':World} {n:Nat} {A:Array Value} (h:Ac w n A w'):Ac w n A w'.drew:=⟨⟨h.1.os,h.1.tape,h.1.output,h.1.size,h.1.block⟩,h.2⟩
theorem Ac.drewN {w w':World} {n:Nat} {A:Array Value} (h:Ac w n A w') (k:Nat):Ac w n A (w'.drewN k):=⟨Ib h.1 k,h.2⟩
theorem Ac.call {w w' w1:World} {n:Nat} {A:Array Value} (h:Ac w n A w') (hb:Below w'.heap.size w' w1):Ac w n A w1 :=
 ⟨h.1.trans (hb.mono h.1.size),Nat.lt_of_lt_of_le h.2.1 hb.size,fun i=>(hb.cell (p:=⟨n,i,none⟩) h.2.1).trans (h.2.2 i)⟩
theorem Ac.from_ {w w0 w':World} {n:Nat} {A:Array Value} (h:Ac w0 n A w') (hb:Below w.heap.size w w0):Ac w n A w':=⟨bl hb h.1,h.2⟩
theorem Ac.two (w:World) (A B:Array Value) (t u:TypeId):Ac w w.heap.size A (((w.alloc (.cells A t)).alloc (.cells B u)).drew)∧Ac w (w.heap.size+1) B (((w.alloc (.cells A t)).alloc (.cells B u)).drew):=by
 refine ⟨((Ac.new w A t).alloc _).drew,?_⟩
 have h:=(Ac.new (w.alloc (.cells A t)) B u).from_ (w:=w) (b_a _)
 rw [show (w.alloc (.cells A t)).heap.size=w.heap.size+1 by simp] at h
 exact h.drew
theorem Ac.call2 {w w' w1:World} {n m:Nat} {A B:Array Value} (h:Ac w n A w'∧Ac w m B w') (hb:Below w'.heap.size w' w1):Ac w n A w1∧Ac w m B w1:=⟨h.1.call hb,h.2.call hb⟩
theorem Ac.pair (w:World) (A B:Array Value) (t u:TypeId):Ac w w.heap.size A ((w.alloc (.cells A t)).alloc (.cells B u))∧Ac w (w.heap.size+1) B ((w.alloc (.cells A t)).alloc (.cells B u)):=by
 refine ⟨(Ac.new w A t).alloc _,?_⟩
 have h:=(Ac.new (w.alloc (.cells A t)) B u).from_ (w:=w) (b_a _)
 rwa [show (w.alloc (.cells A t)).heap.size=w.heap.size+1 by simp] at h
theorem Ac.at_ {w:World} {A B:Array Value} {t:TypeId} {n:Nat} (hn:w.heap.size=n) (hA:B=A):Ac w n A (w.alloc (.cells B t)):=by
 subst hn hA;exact Ac.new w B t
end
section
def Blk (w:World) (g:Nat) (t:TypeId) (cs:Array Value):Prop:=w.heap[g]?=some (.cells cs t (0,0))
section
variable {w w':World} {g:Nat} {t:TypeId} {cs:Array Value}
theorem Blk.lt (h:Blk w g t cs):g<w.heap.size:=by
 apply Decidable.byContradiction;intro hn
 unfold Blk at h;rw [Array.getElem?_eq_none (by omega)] at h;cases h
theorem Blk.cell (h:Blk w g t cs) (i:Nat):w.cell? ⟨g,i,none⟩=cs[i]?:=by unfold Blk at h;simp [World.cell?,h]
theorem Blk.frozen (h:Blk w g t cs) (i:Nat):w.frozen? ⟨g,i,none⟩=false:=by unfold Blk at h;simp [World.frozen?,h]
theorem Blk.all (h:Blk w g t cs):(∀i,w.cell? ⟨g,i,none⟩=cs[i]?)∧(∀i,w.frozen? ⟨g,i,none⟩=false)∧g<w.heap.size:=⟨h.cell,h.frozen,h.lt⟩
theorem Blk.new (w:World) (t:TypeId) (cs:Array Value):Blk (w.alloc (.cells cs t)) w.heap.size t cs:=by
 show (w.heap.push _)[w.heap.size]?=some _;simp
theorem Blk.newn (w:World) (t:TypeId) (cs:Array Value) {n:Nat} (hn:w.heap.size=n):Blk (w.alloc (.cells cs t)) n t cs:=by subst hn;exact Blk.new w t cs
theorem Blk.drew (h:Blk w g t cs):Blk w.drew g t cs:=h
theorem Blk.alloc (h:Blk w g t cs) (o:Obj):Blk (w.alloc o) g t cs:=(Below.heap_alloc w o g h.lt).trans h
theorem Blk.set_ (h:Blk w g t cs) (i:Nat) (u:Value):Blk (w.setCell ⟨g,i,none⟩ u) g t (cs.setIfInBounds i u):=by
 unfold Blk at h ⊢
 simp [World.setCell,Array.getElem?_modify,h]
theorem Blk.far (h:Blk w g t cs) {p:Addr} (hp:g≠p.block) (u:Value):Blk (w.setCell p u) g t cs:=(Below.heap_setCell w p u g hp).trans h
theorem Blk.below {B:Nat} (h:Blk w g t cs) (hb:Below B w w') (hg:g<B):Blk w' g t cs:=(hb.block g hg).trans h
theorem Blk.call (h:Blk w g t cs) (hb:Below w.heap.size w w'):Blk w' g t cs:=h.below hb h.lt
theorem Blk.grown {row:Option Nat} (h:Blk w g t cs) (hb:w.grownBy w' row) (hg:some g≠row):Blk w' g t cs:=(hb.block g h.lt hg).trans h
end
theorem Blk.ints {w:World} {g:Nat} {t:TypeId} {cs:Array Value} (h:Blk w g t cs) {xs:List Int} (hl:xs.length≤maxLen) (hx:∀i (hi:i<xs.length),cs[i]?=some (.int .i64 xs[i])):Ae w (some ⟨g,0,none⟩) xs :=
 ⟨hl,.inr ⟨g,0,rfl,h.lt,fun i hi=>by rw [show (⟨g,0+i,none⟩:Addr)=⟨g,i,none⟩ by simp,h.cell,hx i hi]⟩⟩
theorem Fj:(prog.info? 3).map (fun i=>(i.zero,i.size,i.bytes))=some (some (.int .i64 0),1,8):=by kernel_rfl
theorem Bb {P:Program} {ops:Array Oper} {rest:List Oper} {o:Oper} {a:Act} {Q:Exit→Act→World→Prop} {w:World} (hgd:o.guard=none) (s x:Operand) (t:TypeId)
 (ho:o.op=.call { callee:=.builtin .append,args:=#[s,x],argTypes:=#[t,t] }) (v u v':Value) (w':World) (hs:a.eval s=v) (hx:a.eval x=u)
 (hrun:(Builtin.append_ #[t,t] o.type #[v,u]).run P w=.ok v' w') (h:wpList P ops Q rest (a.put o.dst v') w'):wpList P ops Q (o :: rest) a w :=
 wpList_plain hgd fun K hK=>by
  unfold Oper.wp
  simp [execOp,ho,resolve,invoke,builtin,hs,hx,hrun,Result.andThen]
  exact hK _ _ h
theorem Cb9 (xs:List Int) (i:Nat) (hi:i<xs.length):(xs.map (Value.int .i64))[i]?=some (.int .i64 xs[i]):=by simp [hi]
theorem Aq5 {W:World} (n:Nat) {a:Option Addr} {cap:Nat} {xs:List Int} (hn:Blk W n 3 #[]) (hu:Ae W a xs) (hl:xs.length≤1000000) :
 ∃g c cur W',(Builtin.append_ #[23,23] 23 #[.slice (some ⟨n,0,none⟩) 0 0,.slice a xs.length cap]).run prog W=.ok (.slice (some ⟨g,0,none⟩) xs.length c) W' ∧
  n≤g∧Blk W' g 3 cur∧(∀i (hi:i<xs.length),cur[i]?=some (.int .i64 xs[i]))∧Below n W W':=by
 obtain ⟨i0,hi0,hz0,hz1,hz2⟩:=info_parts Fj
 have hlt:=hn.lt
 have hown:W.ownsRow n 3 1 (.slice (some ⟨n,0,none⟩) 0 0) 0 []:=⟨rfl,.inr ⟨n,0,#[],rfl,Nat.le_refl _,hn,Nat.le_refl _,by unfold maxLen;omega,rfl,rfl⟩⟩
 by_cases hx:xs=[]
 ·subst hx
  have hsrc:Src prog i0.size 23 (.slice a 0 cap) 0 [] W:=by
   cases a with
   | none=>exact Src.ofNil (w:=W) underlying23 cap
   | some p=>exact Src.ofSlice W underlying23 p 0 cap [] (by simp) (by simp) (by simp)
  exact ⟨n,0,#[],W,run_append_nothing W 23 23 23 3 i0 underlying23 hi0 (some ⟨n,0,none⟩) 0 0 lr0 _ hsrc,Nat.le_refl _,hn,fun i hi=>absurd hi (by simp),Below.refl _ _⟩
 ·rcases hu.2 with h|⟨b,off,rfl,hb2,hc⟩
  ·exact absurd h hx
  ·obtain ⟨v',W',hr,h1,h2,-⟩:=run_append_own (P:=prog) W n 23 23 3 i0 (.int .i64 0) 1 8 underlying23 hi0 hz0 hz1 hz2 rfl (by decide) _ 0 [] hown ⟨b,off,none⟩ xs.length cap (xs.map (Value.int .i64)) (by simp)
    (fun j u hj=>by
      rw [List.getElem?_map] at hj
      cases hq:xs[j]? with
      | none=>rw [hq] at hj;simp at hj
      | some x =>
        rw [hq] at hj;simp at hj;subst hj
        obtain ⟨hj2,rfl⟩:=List.getElem?_eq_some_iff.1 hq
        have:=hc j hj2
        by_cases h0:j=0<;>simp [Addr.add,h0] at this ⊢<;>exact this)
    (fun u hu=>by simp at hu;obtain ⟨x,_,rfl⟩:=hu;rfl) (by unfold maxLen;omega) (by omega) (by omega)
   have hp:0<xs.length:=List.length_pos_iff.2 hx
   rcases h1.2 with ⟨_,h0⟩|⟨g,c,cur,rfl,hg,hh,hcap,_,hsz,htk⟩
   ·omega
   ·refine ⟨g,c,cur,W',by rw [hr,Nat.zero_add],hg,hh,fun i hi=>?_,(Below.refl _ _).grown h2 (by omega) (fun k hk=>by have:=(hown.lt k hk).1;exact this)⟩
    have e:(cur.toList.take ((0+xs.length)*1))[i]?=(([]++xs.map (Value.int .i64)):List Value)[i]?:=by rw [htk]
    rw [List.getElem?_take,if_pos (by omega),List.nil_append,Cb9 xs i hi] at e
    simpa using e
def zc (n:Nat):Array Value:=Array.replicate n (.int .i64 0)
theorem Dl9 {n i:Nat} (h:i<n):(zc n)[i]?=some (.int .i64 0):=by simp [zc,h]
theorem Cu0 (n:Nat):madeCells (Value.int .i64 0).cells (n*1)=zc n:=by
 apply Array.ext
 ·simp [size_madeCells,zc]
 ·intro i h1 h2
  simp [madeCells,zc,Value.cells]
  rw [Nat.mod_one]
  rfl
theorem Xy (n:Nat) (h:n≤1000000) (W:World):(Instr.makeSlice 23 (.int .i64 (n:Int)) (.int .i64 (n:Int))).run prog W=.ok (.slice (some ⟨W.heap.size,0,none⟩) n n) (W.alloc (.cells (zc n) 3)):=by
 obtain ⟨i0,hi0,hz0,hz1,hz2⟩:=info_parts Fj
 have hr:=run_make (P:=prog) W 23 3 i0 (.int .i64 0) underlying23 hi0 hz0 .i64 .i64 n n (by omega) (by omega) (by rw [hz2];omega) (by omega)
 rw [Int.toNat_natCast,hz1,Cu0] at hr
 exact hr
end
end Go.Proofs.YtaeclpjofclbeaaDoor
