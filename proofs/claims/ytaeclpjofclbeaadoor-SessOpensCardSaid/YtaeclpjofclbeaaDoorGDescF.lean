/- desc: numbers that are one of so many, purses, caps, rooms. By the code; and the document's own 'in'. -/
import Derived.Test.YtaeclpjofclbeaaDoorGWorld
import Derived.Maps.OwnOps
import Derived.WideKeyEntry
import Derived.DeepKeys4
import Derived.Test.YtaeclpjofclbeaaDoorTk
namespace Go.Proofs.YtaeclpjofclbeaaDoor
open Go.ChangeShapes Go.WideShapes Go.ChangeAt Go.RowKit Go.Proofs.Tryd
set_option linter.unusedVariables false
section
end
section
def Ex.get (e:Ex):Nat→Int
 | 0=>e.n
 | 1=>e.e
 | 2=>e.s
 | _=>e.w
theorem Ay5 (r:Int) (e:Ex):exB r e=true↔∀j,j<4→toB r (e.get j)=true:=by
 simp only [exB,Bool.and_eq_true]
 constructor
 ·rintro ⟨h0,h1,h2,h3⟩ j hj
  match j,hj with
  | 0,_=>exact h0
  | 1,_=>exact h1
  | 2,_=>exact h2
  | 3,_=>exact h3
 ·intro h
  exact ⟨h 0 (by omega),h 1 (by omega),h 2 (by omega),h 3 (by omega)⟩
theorem Cl1 {r:Int} {e:Ex} {j:Nat} (hj:j<4) (h:toB r (e.get j)=false):exB r e=false:=by
 rw [Bool.eq_false_iff];intro h2
 rw [(Ay5 r e).1 h2 j hj] at h;cases h
theorem Az9 {r t:Int} (h:toB r t=true):t=-1∨(t≠-1∧inB t r=true):=by
 by_cases h1:t=-1
 ·exact .inl h1
 ·right;simp [toB,h1] at h;exact ⟨h1,h⟩
theorem Dm2 {r t:Int} (h:toB r t=false):t≠-1∧inB t r=false:=by
 simp [toB] at h;exact h
end
section
theorem Qh:(prog.info? 57).map (fun i=>(i.zero,i.size,i.bytes))=some (some (.agg #[.int .i64 0,.int .i64 0]),2,16):=by kernel_rfl
theorem Bv7 (n:Nat) (h:n≤1000000) (W:World):(Instr.makeSlice 32 (.int .i64 (n:Int)) (.int .i64 (n:Int))).run prog W=.ok (.slice (some ⟨W.heap.size,0,none⟩) n n) (W.alloc (.cells (madeCells (Value.agg #[.int .i64 0,.int .i64 0]).cells (n*2)) 57)):=by
 obtain ⟨i0,hi0,hz0,hz1,hz2⟩:=info_parts Qh
 have hr:=run_make (P:=prog) W 32 57 i0 (.agg #[.int .i64 0,.int .i64 0]) underlying32 hi0 hz0 .i64 .i64 n n (by omega) (by omega) (by rw [hz2];omega) (by omega)
 rw [Int.toNat_natCast,hz1] at hr
 exact hr
def FlAt (xs:List Int) (k:Nat) (cs:Array Value):Prop:=cs.size=xs.length*2∧∀i (hi:i<xs.length),i<k→cs[i*2]?=some (.int .i64 0)∧cs[i*2+1]?=some (.int .i64 xs[i])
theorem FlAt.start (xs:List Int) (z:Array Value):FlAt xs 0 (madeCells z (xs.length*2)):=⟨by simp [size_madeCells],fun i _ h=>absurd h (by omega)⟩
theorem FlAt.step {xs:List Int} {k:Nat} {cs:Array Value} (h:FlAt xs k cs) (hk:k<xs.length):FlAt xs (k+1) ((cs.setIfInBounds (k*2) (.int .i64 0)).setIfInBounds (k*2+1) (.int .i64 xs[k])):=by
 obtain ⟨h1,h2⟩:=h
 refine ⟨by simp [h1],fun i hi hik=>?_⟩
 by_cases e:i=k
 ·subst e
  constructor
  ·rw [Array.getElem?_setIfInBounds_ne (by omega),Array.getElem?_setIfInBounds_self_of_lt (by omega)]
  ·rw [Array.getElem?_setIfInBounds_self_of_lt (by simp;omega)]
 ·obtain ⟨h3,h4⟩:=h2 i hi (by omega)
  constructor
  ·rw [Array.getElem?_setIfInBounds_ne (by omega),Array.getElem?_setIfInBounds_ne (by omega),h3]
  ·rw [Array.getElem?_setIfInBounds_ne (by omega),Array.getElem?_setIfInBounds_ne (by omega),h4]
theorem FlAt.cell {xs:List Int} {k:Nat} {cs:Array Value} (h:FlAt xs k cs) {i:Nat} (hi:i<xs.length*2):∃u,cs[i]?=some u:=⟨cs[i]'(by rw [h.1];exact hi),Array.getElem?_eq_getElem _⟩
theorem FlAt.row {xs:List Int} {cs:Array Value} {W:World} {n:Nat} {t:TypeId} (h:FlAt xs xs.length cs) (hb:Blk W n t cs) (hl:xs.length≤1000000):Au W (some ⟨n,0,none⟩) (Bu xs):=by
 refine ⟨by simp [Bu,maxLen];omega,.inr ⟨n,0,rfl,hb.lt,fun i hi j hj=>?_⟩⟩
 have hi2:i<xs.length:=by simpa [Bu] using hi
 obtain ⟨h1,h2⟩:=h.2 i hi2 hi2
 rw [hb.cell]
 obtain rfl|rfl:j=0∨j=1:=by omega
 ·simpa [Bu,plC] using h1
 ·simpa [Bu,plC] using h2
end
section
end
section
open Go.RowKit Go.Maps
def plv (p:Pl):Value:=.agg #[.int .i64 p.kind,.int .i64 p.id]
theorem Ck2 {p q:Pl} (h:plv p=plv q):p=q:=by
 obtain ⟨a,b⟩:=p;obtain ⟨c,d⟩:=q
 simp only [plv,Value.agg.injEq,Array.mk.injEq,List.cons.injEq,Value.int.injEq,true_and,and_true] at h
 obtain ⟨rfl,rfl⟩:=h;rfl
theorem Ws:WideMaps.KeyLaw prog 57:=deep_law_laid (by kernel_rfl) (m:=2) (by omega) (of_decide_eq_true (by kernel_rfl)) (by kernel_rfl) (by kernel_rfl)
def PlWf (p:Pl):Prop:=(Lit.int .i64 p.kind).wf=true∧(Lit.int .i64 p.id).wf=true
theorem Ai2 (p:Pl) (h:PlWf p):∃l,keyOf prog 57 (plv p)=some l:=by
 obtain ⟨k,i⟩:=p
 obtain ⟨h1,h2⟩:=h
 obtain ⟨m,hm⟩:∃m,prog.types.size=m+1:=⟨prog.types.size-1,by have h0:0<prog.types.size:=of_decide_eq_true (by kernel_rfl);omega⟩
 have hkt:prog.keyType 57=true:=by kernel_rfl
 have hc:prog.cellsOf 57=2:=by kernel_rfl
 have hci:prog.cellsOf 3=1:=by kernel_rfl
 unfold keyOf
 simp only [underlying57]
 rw [if_pos (by simp [hkt,plv,Value.formed,underlying57,hc]),hm]
 unfold Program.keyLits
 simp [underlying57,plv,Value.cells,hc,hci,Program.keyLits,underlying3,h1,h2]
def Cts (w:World) (b:Nat) (C:Pl→Nat):Prop :=
 ∃es clock,w.heap[b]?=some (.map es clock)∧MapKept.Stamped es clock∧(∀x∈es.toList,∃p,PlWf p∧x.key=plv p∧x.val=.int .i64 (C p:Int))∧∀p,C p≠0→∃x∈es.toList,x.key=plv p
def Ce9 (w:World) (b:Nat) (C:Pl→Nat) (p:Pl) (st:Nat):Prop :=
 ∃(es:Array MapEntry) (clock j:Nat) (e0:MapEntry),w.heap[b]?=some (.map es clock)∧MapKept.Stamped es clock∧(∀x∈es.toList,∃p,PlWf p∧x.key=plv p∧x.val=.int .i64 (C p:Int))∧(∀p,C p≠0→∃x∈es.toList,x.key=plv p) ∧
  es.toList[j]?=some e0∧e0.key=plv p∧e0.born=st
theorem Ce9.cts {w:World} {b:Nat} {C:Pl→Nat} {p:Pl} {st:Nat} (h:Ce9 w b C p st):Cts w b C:=by
 obtain ⟨es,clock,j,e0,h1,h2,h3,h4,_⟩:=h
 exact ⟨es,clock,h1,h2,h3,h4⟩
theorem Cts.kept {w w':World} {b:Nat} {C:Pl→Nat} (h:Cts w b C) (hb:w'.heap[b]?=w.heap[b]?):Cts w' b C:=by
 obtain ⟨es,clock,h1,h2,h3,h4⟩:=h
 exact ⟨es,clock,hb.trans h1,h2,h3,h4⟩
theorem Cts.lt {w:World} {b:Nat} {C:Pl→Nat} (h:Cts w b C):b<w.heap.size:=by
 obtain ⟨es,clock,h1,_⟩:=h
 exact (Array.getElem?_eq_some_iff.1 h1).1
theorem Cts.new (w:World):Cts (w.alloc (.map #[] 0)) w.heap.size (fun _=>0) :=
 ⟨#[],0,(MapKept.heap_alloc w _).1,MapKept.stamped_empty 0,by simp,fun p h=>absurd rfl h⟩
theorem Cts.keys {w:World} {es:Array MapEntry} {C:Pl→Nat} (h:∀x∈es.toList,∃p,PlWf p∧x.key=plv p∧x.val=.int .i64 (C p:Int)):∀x∈es.toList,∃l,keyOf prog 57 x.key=some l:=fun x hx=>by
 obtain ⟨p,hp,hk,_⟩:=h x hx
 rw [hk];exact Ai2 p hp
theorem Bh0 (w:World):(zeroValue 3).run prog w=.ok (.int .i64 0) w:=by kernel_rfl
def bump (C:Pl→Nat) (p:Pl):Pl→Nat:=fun q=>if q=p then C p+1 else C q
end
section
theorem Bd2 {P:Program} {ops:Array Oper} {o:Oper} {a:Act} {w:World} {K:Act→World→Prop} {Q:Exit→Act→World→Prop} {E:Prop}
 (hg:o.guard=none) (t:TypeId) (m x:Operand) (hop:o.op=Op.mapEntry t m x) (v u r:Value) (w':World) (hm:a.eval m=v) (hx:a.eval x=u)
 (hrun:(Instr.mapEntry t v u).run P w=.ok r w') (hK:K (a.put o.dst r) w'):if Region.wanted o (yielded ops a.tmps)=true then Oper.wp P o a w K Q else E:=by
 rw [if_pos (by simp [Region.wanted,hg])]
 unfold Oper.wp
 simp [execOp,hop,hm,hx,hrun,Result.andThen]
 exact hK
theorem Bd1 {P:Program} {ops:Array Oper} {o:Oper} {a:Act} {w:World} {K:Act→World→Prop} {Q:Exit→Act→World→Prop} {E:Prop}
 (hg:o.guard=none) (t:TypeId) (m s x:Operand) (hop:o.op=Op.entryStore t m s x) (v u y:Value) (w':World) (hm:a.eval m=v) (hs:a.eval s=u) (hx:a.eval x=y)
 (hrun:(Instr.entryStore t v u y).run P w=.ok () w') (hK:K (a.put o.dst undef) w'):if Region.wanted o (yielded ops a.tmps)=true then Oper.wp P o a w K Q else E:=by
 rw [if_pos (by simp [Region.wanted,hg])]
 unfold Oper.wp
 simp [execOp,hop,hm,hs,hx,hrun,Result.andThen]
 exact hK
theorem Au9 {P:Program} {ops:Array Oper} {o:Oper} {a:Act} {w:World} {K:Act→World→Prop} {Q:Exit→Act→World→Prop} {E:Prop}
 (hg:o.guard=none) (t:TypeId) (m x:Operand) (c:Bool) (hop:o.op=Op.lookup t m x c) (v u r:Value) (w':World) (hm:a.eval m=v) (hx:a.eval x=u)
 (hrun:(Instr.lookup t v u c).run P w=.ok r w') (hK:K (a.put o.dst r) w'):if Region.wanted o (yielded ops a.tmps)=true then Oper.wp P o a w K Q else E:=by
 rw [if_pos (by simp [Region.wanted,hg])]
 unfold Oper.wp
 simp [execOp,hop,hm,hx,hrun,Result.andThen]
 exact hK
def cntK (ps:List Pl) (k:Nat):Pl→Nat:=fun p=>(ps.take k).count p
theorem Bj5 {ps:List Pl} {k:Nat} (hk:k<ps.length):bump (cntK ps k) ps[k]=cntK ps (k+1):=by
 funext q
 simp only [bump,cntK]
 rw [List.take_succ_eq_append_getElem hk,List.count_append]
 by_cases e:q=ps[k]
 ·rw [if_pos e,←e];simp
 ·rw [if_neg e,show [ps[k]].count q=0 from List.count_eq_zero.2 (by simpa using e)];rfl
theorem Df5 (ps:List Pl) (k:Nat) (p:Pl):cntK ps k p≤ps.count p:=by
 have h:=List.count_append (a:=p) (l₁:=ps.take k) (l₂:=ps.drop k)
 rw [List.take_append_drop] at h
 simp only [cntK];omega
def FitK (d:Ds) (ps:List Pl) (k:Nat):Prop:=∀p∈ps.take k,(cntK ps k p:Int)≤Cb d p.kind
theorem Du8 {d:Ds} {ps:List Pl} {k:Nat} (hk:k<ps.length) (h:FitK d ps k) (hc:(cntK ps (k+1) ps[k]:Int)≤Cb d ps[k].kind):FitK d ps (k+1):=by
 intro p hp
 by_cases e:p=ps[k]
 ·subst e;exact hc
 ·rw [List.take_succ_eq_append_getElem hk,List.mem_append] at hp
  have hp2:p∈ps.take k:=by
   rcases hp with hp|hp
   ·exact hp
   ·exact absurd (by simpa using hp) e
  have:=h p hp2
  rw [←Bj5 hk]
  simp only [bump]
  rw [if_neg e]
  exact this
theorem Gd8 {d:Ds} {ps:List Pl} {k:Nat} (hk:k<ps.length) (hc:¬(cntK ps (k+1) ps[k]:Int)≤Cb d ps[k].kind):fitB d ps=false:=by
 refine Ht _ hk ?_
 have:=Df5 ps (k+1) ps[k]
 simp only [decide_eq_false_iff_not]
 omega
theorem Ex0 {d:Ds} {ps:List Pl} (h:FitK d ps ps.length):fitB d ps=true:=by
 simp only [fitB,List.all_eq_true,decide_eq_true_eq]
 intro p hp
 have:=h p (by simpa using hp)
 simpa [cntK] using this
def He0 (d:Ds) (k:Int):Nat→Int:=fun i=>if i=0 then d.room else if i=1 then d.player else d.box
theorem Cts.at_ {W:World} {n:Nat} (hn:W.heap.size=n) (ps:List Pl):Cts (W.alloc (.map #[] 0)) n (cntK ps 0):=by
 subst hn
 rw [show cntK ps 0=fun _=>0 by funext p;simp [cntK]]
 exact Cts.new W
theorem Af1 {W W':World} {r:Option Nat} (hg:W.grownBy W' r) {p:Addr} (hp:p.block<W.heap.size) (hn:some p.block≠r):W'.cell? p=W.cell? p:=by
 simp [World.cell?,hg.block p.block hp hn]
end
end Go.Proofs.YtaeclpjofclbeaaDoor
