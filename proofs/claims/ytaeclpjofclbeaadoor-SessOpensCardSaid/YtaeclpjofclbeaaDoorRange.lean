/- A range over a function whose iterator keeps a cell of its own, at a body that never leaves by a jump: what the statement comes to, out of the iterator's rounds. -/
import Derived.Test.YtaeclpjofclbeaaDoorSplit
namespace Go.Proofs.YtaeclpjofclbeaaDoor
open Go.RowKit Go.Shelf
set_option linter.unusedVariables false
def Fy6 (n1 n0:Nat) (I:List (List UInt8)→World→Prop) (xs:List (List UInt8)) (W:World):Exit→Act→World→Prop
 | .normal,_,W'=>KeepsOthers W W'∧Mid n1 n0 W W'∧I xs W'
 | _,_,_=>False
theorem Fg7 {n:Nat} {g:Operand} {ps:Array Tmp} {assign body:Code} {Q:Exit→Act→World→Prop} {a:Act} {w:World} (h1:1≤n)
 (n1 n0 N bS:Nat) (hn0:n0≤w.heap.size) (hbS:bS<w.heap.size) (parts:List (List UInt8)) {gf:Nat} {lb:Array Value}
 (hg:a.eval g=.func (.func gf) #[] lb) (eg:∀args w,(callFunc gf args).run Tryd.prog w=.ok (.enter gf args) w) (hps:ps.size=1)
 (hseq:∀(l:Nat) (J:List (List UInt8)→World→Prop) (W:World),Below w.heap.size w W→Gx4 (n-1) l n1 n0 N J→(∀pre W v,J pre W→J pre (W.setCell ⟨bS,0,none⟩ v))→J [] W →
   CallsIn Fence.wide (n-1) Tryd.prog gf (#[.func (.yield l) #[] #[]]++lb) W fun e W'=>(∃v,e=.returned v)∧J parts W')
 (I:List (List UInt8)→World→Prop) (hI:OwnFrom w.heap.size I) (hset:∀pre W v,I pre W→I pre (W.setCell ⟨bS,0,none⟩ v)) (h0:I [] w) (a1:List UInt8→Act)
 (hassign:∀(l:Nat) (x:List UInt8) (W:World) (K:Act→World→Prop),K (a1 x) W →
   assign.wpIn (Fence.wide.inRound l) (n-1-1) Tryd.prog (Exit.then K (fun _ _ _=>False)) { tmps:=(ps.zip #[str x]).foldl (fun t (p,v)=>t.setIfInBounds p v) a.tmps,defers:=[] } W)
 (hbody:∀(l:Nat) (pre:List (List UInt8)) (x:List UInt8) (W:World),I pre W→pre.length≤N→x.length≤N→body.wpIn (Fence.wide.inRound l) (n-1-1) Tryd.prog (Fy6 n1 n0 I (pre++[x]) W) (a1 x) W)
 (hdone:∀(D:Nat) (W:World),w.heap.size≤D→I parts W→W.heap[D]?=some (.deferred (some []))→Q .normal { a with defers:={ target:=.collected D,args:=#[] } :: a.defers } W) :
 (Code.rangeFunc g ps assign body).wpIn Fence.wide n Tryd.prog Q a w:=by
 refine wpIn_rangeFunc fun fn _=>?_
 let R:LoopState→Option Code→Loop:=fun st pe=>{ state:=st,pending:=pe,fn:=fn,tmps:=a.tmps,params:=ps,assign:=assign,body:=body,defers:=w.heap.size }
 -- the two blocks of the loop's own: D and its record L
 obtain ⟨D,hD⟩:∃D,D=w.heap.size:=⟨_,rfl⟩
 obtain ⟨L,hLD⟩:∃L,L=w.heap.size+1:=⟨_,rfl⟩
 obtain ⟨V,hV⟩:∃V,V=(w.alloc (.deferred (some []))).alloc (.loop (R .ready none)):=⟨_,rfl⟩
 have vL:V.heap[L]?=some (.loop (R .ready none)):=by
  have:=World.alloc_heap_new (w.alloc (.deferred (some []))) (.loop (R .ready none));rw [World.size_alloc] at this
  rw [hV,hLD];exact this
 have vD:V.heap[D]?=some (.deferred (some [])):=by
  rw [hV,hD];exact (Below.heap_alloc _ _ _ (by simp)).trans (World.alloc_heap_new w _)
 have vI:I [] V:=by rw [hV];exact hI.alloc _ (hI.alloc _ h0)
 have vB:Below w.heap.size w V:=by rw [hV];exact ((Below.refl _ w).alloc lr0 _).alloc (by simp) _
 have ne1:L≠bS:=by omega
 have ne2:D≠bS:=by omega
 have ne3:D≠L:=by omega
 refine ⟨L,[{ target:=.collected D,args:=#[] }],V,{ target:=.fn (.func gf) lb,args:=#[.func (.yield L) #[] #[]] },V,gf,#[.func (.yield L) #[] #[]]++lb,V,?_,?_,?_,?_,fun _=>h1,?_⟩
 ·rw [hV,hLD,hD];exact run_enterLoop_outer fn a.tmps ps assign body
 ·simp only [resolve,hg];simp [go_sem]
 ·intro f' hf';trivial
 ·simp [invoke,go_sem,eg]
 have key:=hseq L (fun pre W=>I pre W∧W.heap[L]?=some (.loop (R .ready none))∧W.heap[D]?=some (.deferred (some []))) V vB ?Be7 ?sets ⟨vI,vL,vD⟩
 ·refine key.mono ?_
  rintro e W2 ⟨⟨v,rfl⟩,hi,hl,hk⟩
  have hend:=run_endLoop (P:=Tryd.prog) hl (by intro h;cases h)
  exact ⟨none,_,hend,hdone D _ (by omega) (hI.putObj _ hi (by omega) hl rfl) ((World.putObj_heap_other ne3).trans hk)⟩
 case sets =>
  rintro pre W v ⟨hi,hl,hk⟩
  exact ⟨hset pre W v hi,(Below.heap_setCell W ⟨bS,0,none⟩ v L ne1).trans hl,(Below.heap_setCell W ⟨bS,0,none⟩ v D ne2).trans hk⟩
 case Be7 =>
  rintro pre x W ⟨hi,hl,hk⟩ hN1 hN2
  have hy:=run_yield (P:=Tryd.prog) (args:=#[str x]) hl (by simpa using hps.symm)
  refine ⟨fn,_,assign,body,hy,roundIn_of_wpIn trivial (hassign L x W _ ⟨_,run_beginRound hl rfl,?_⟩)⟩
  have hlt:=(Array.getElem?_eq_some_iff.1 hl).1
  -- the record is busy while the body runs
  obtain ⟨X,hX⟩:∃X,X=W.putObj L (.loop { R .ready none with state:=.busy }):=⟨_,rfl⟩
  have xL:X.heap[L]?=some (.loop { R .ready none with state:=.busy }):=by rw [hX];exact World.putObj_heap_same hlt
  have xD:X.heap[D]?=some (.deferred (some [])):=by rw [hX];exact (World.putObj_heap_other ne3).trans hk
  have xI:I pre X:=by rw [hX];exact hI.putObj _ hi (by omega) hl rfl
  have xB:Mid n1 n0 W X:=by rw [hX];exact Mid.put (by omega)
  rw [←hX]
  refine wpIn_mono (hbody L pre x X xI hN1 hN2) ?_
  rintro e a3 Y hp
  cases e with
  | normal =>
    obtain ⟨hko,hb,hi2⟩:=hp
    have yL:=hko.same _ _ xL rfl
    have yD:=hko.same _ _ xD rfl
    have ylt:=(Array.getElem?_eq_some_iff.1 yL).1
    refine ⟨_,_,run_endRound (P:=Tryd.prog) none yL,rfl,⟨hI.putObj _ hi2 (by omega) yL rfl,World.putObj_heap_same ylt,(World.putObj_heap_other ne3).trans yD⟩,?_⟩
    exact (xB.trans hb).trans (Mid.put (by omega))
  | ret=>exact hp.elim
  | exit id=>exact hp.elim
  | goto t=>exact hp.elim
  | panic ch=>exact hp.elim
  | outgrown=>exact hp.elim
end Go.Proofs.YtaeclpjofclbeaaDoor
