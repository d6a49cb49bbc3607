/- line: the closures that take a piece of one word off the beginning. -/
import Derived.Test.YtaeclpjofclbeaaDoorGLineP
import Derived.Test.YtaeclpjofclbeaaDoorTokCut
namespace Go.Proofs.YtaeclpjofclbeaaDoor
open Go.ChangeShapes Go.WideShapes Go.ChangeAt Go.RowKit Go.Proofs.Tryd
open Lib (hid)
set_option linter.unusedVariables false
set_option maxHeartbeats 2000000
set_option maxRecDepth 100000
section
open Go.RowKit Go
theorem Ja.tail {w:World} {v:Value} {x:List UInt8} {xs:List (List UInt8)} (h:Ja w v (x :: xs)) :
 ∃b off cap v',v=.slice (some ⟨b,off,none⟩) (xs.length+1) cap∧b<w.heap.size∧w.cell? ⟨b,off,none⟩=some (str x) ∧
  (∀W,(Instr.slice 22 (.slice (some ⟨b,off,none⟩) (xs.length+1) cap) (some (.int .i64 1)) none none).run prog W=.ok v' W)∧Ja w v' xs:=by
 obtain ⟨⟨a,cap,rfl,hl,h⟩,a2,cap2,e2,hc⟩:=h
 simp only [Value.slice.injEq] at e2
 obtain ⟨rfl,-,rfl⟩:=e2
 rcases h with h|⟨b,off,rfl,hb,hx⟩
 ·cases h
 simp only [List.length_cons] at hl hc hx
 have c0:=hx 0 (by omega)
 rw [Nat.add_zero] at c0
 refine ⟨b,off,cap,.slice (if cap=1 then some ⟨b,off,none⟩ else some ⟨b,off+1,none⟩) xs.length (cap-1),rfl,hb,c0,fun W=>?_,⟨_,cap-1,rfl,by omega,?_⟩,_,cap-1,rfl,by omega⟩
 ·have hs:Instr.sliceBound (.int .i64 1) (xs.length+1) .sliceB=pure 1:=by
   simp [Instr.sliceBound,asIntOf];intro hh;omega
  by_cases e:cap=1
  ·subst e;simp [Instr.slice,run_underlying underlying22,Instr.sliceBounds,hs,Tryd.sizeOf9,Result.andThen]
  ·simp [Instr.slice,run_underlying underlying22,Instr.sliceBounds,hs,Tryd.sizeOf9,Result.andThen,e,Addr.add]
 ·cases xs with
  | nil=>exact .inl rfl
  | cons y ys =>
    simp only [List.length_cons] at hc
    refine .inr ⟨b,off+1,by rw [if_neg (by omega)],hb,fun i hi=>?_⟩
    have:=hx (i+1) (by simp at hi ⊢;omega)
    rw [show off+1+i=off+(i+1) by omega]
    exact this
theorem Ja.drew {w:World} {v:Value} {xs:List (List UInt8)} (h:Ja w v xs):Ja w.drew v xs:=h
theorem Vf (x:List UInt8) (w:World) (hx:x.length≤9223372036854775807) :
 Calls prog 68 #[.string ⟨x.toArray⟩] w fun e w'=>e=.returned (.tuple #[.int .i64 (numN x:Int),.bool (numB x)])∧w=w' :=
 Mw ⟨x.toArray⟩ w (by simpa [ByteArray.size] using hx)
theorem Dn2 (a q B o:Nat) (m:Int) (v:Value) (x:List UInt8) (xs:List (List UInt8)) (w:World) (ht:KTab w) (bA:Blk w a 95 #[.pointer (some ⟨B,o,none⟩)]) (bQ:Blk w q 97 #[.func (.func 53) #[] #[]])
 (cF:w.cell? ⟨B,o,none⟩=some (.int .i64 m)) (fF:w.frozen? ⟨B,o,none⟩=false) (hs:Ja w v (x :: xs)) :
 Calls prog 64 #[v,.pointer (some ⟨q,0,none⟩),.pointer (some ⟨a,0,none⟩)] w fun e w'=>∃v',e=.returned (.tuple #[v',.bool (Qq x)])∧Ja w v' xs∧w'=w.drew.setCell ⟨B,o,none⟩ (.int .i64 (Ct x)):=by
 obtain ⟨b,off,cap,v',rfl,hb,c0,hsl,hrest⟩:=hs.tail
 have cA:=bA.cell 0
 have cQ:=bQ.cell 0
 unfold str at c0
 have S0:=hid (show w.drew.cell? ⟨q,0,none⟩=some (.func (.func 53) #[] #[])∧w.drew.cell? ⟨b,off,none⟩=some (.string ⟨x.toArray⟩) from ⟨cQ,c0⟩)
 have HR:=hid hrest
 have HT:=hid (show KTab w.drew from ht)
 clear ht
 clear bA bQ hs hrest c0 cQ hb
 go_enter func64,ntmps64
 go_wp2_with fail
 refine tkS (S:=(fun w'=>w'.cell? ⟨q,0,none⟩=some (.func (.func 53) #[] #[])∧w'.cell? ⟨b,off,none⟩=some (.string ⟨x.toArray⟩))) (by (first|(exact S0.out)|(exact hHeld))) (fun hHeld=>?_)
 refine tkl [0,1,2,3,4,5,6,7,8,9] ?_
 iterate 10
  first
   | refine tW ?_|refine tN ?_
   | (refine rT (fun K hK=>?_)
      go_simp
      first
       | (go_at_call 53;(with_reducible refine (Slk x _ HT.out).mono ?_);rintro e w1 ⟨rfl,rfl⟩)
       | (skip)
      try go_wp2_with fail
      refine hK.out _ _ (by (first|(exact S0.out)|(exact hHeld))) (fun hHeld=>?_)
      clear hK K)
  try go_frame
 refine tkD ?_
 go_wp2_with fail
 go_ret2
 exact ⟨_,rfl,HR.out,rfl⟩
theorem Eb0 (a q B o:Nat) (m:Int) (v:Value) (x:List UInt8) (xs:List (List UInt8)) (w:World) (ht:WTab w) (bA:Blk w a 95 #[.pointer (some ⟨B,o,none⟩)]) (bQ:Blk w q 97 #[.func (.func 66) #[] #[]])
 (cF:w.cell? ⟨B,o,none⟩=some (.int .i64 m)) (fF:w.frozen? ⟨B,o,none⟩=false) (hs:Ja w v (x :: xs)) :
 Calls prog 64 #[v,.pointer (some ⟨q,0,none⟩),.pointer (some ⟨a,0,none⟩)] w fun e w'=>∃v',e=.returned (.tuple #[v',.bool (dirB x)])∧Ja w v' xs∧w'=w.drew.setCell ⟨B,o,none⟩ (.int .i64 (dirN x)):=by
 obtain ⟨b,off,cap,v',rfl,hb,c0,hsl,hrest⟩:=hs.tail
 have cA:=bA.cell 0
 have cQ:=bQ.cell 0
 unfold str at c0
 have S0:=hid (show w.drew.cell? ⟨q,0,none⟩=some (.func (.func 66) #[] #[])∧w.drew.cell? ⟨b,off,none⟩=some (.string ⟨x.toArray⟩) from ⟨cQ,c0⟩)
 have HR:=hid hrest
 have HT:=hid (show WTab w.drew from ht)
 clear ht
 clear bA bQ hs hrest c0 cQ hb
 go_enter func64,ntmps64
 go_wp2_with fail
 refine tkS (S:=(fun w'=>w'.cell? ⟨q,0,none⟩=some (.func (.func 66) #[] #[])∧w'.cell? ⟨b,off,none⟩=some (.string ⟨x.toArray⟩))) (by (first|(exact S0.out)|(exact hHeld))) (fun hHeld=>?_)
 refine tkl [0,1,2,3,4,5,6,7,8,9] ?_
 iterate 10
  first
   | refine tW ?_|refine tN ?_
   | (refine rT (fun K hK=>?_)
      go_simp
      first
       | (go_at_call 66;(with_reducible refine (Ao6 x _ HT.out).mono ?_);rintro e w1 ⟨rfl,rfl⟩)
       | (skip)
      try go_wp2_with fail
      refine hK.out _ _ (by (first|(exact S0.out)|(exact hHeld))) (fun hHeld=>?_)
      clear hK K)
  try go_frame
 refine tkD ?_
 go_wp2_with fail
 go_ret2
 exact ⟨_,rfl,HR.out,rfl⟩
theorem Eb1 (a q B o:Nat) (m:Int) (v:Value) (x:List UInt8) (xs:List (List UInt8)) (w:World) (hx:x.length≤9223372036854775807) (bA:Blk w a 95 #[.pointer (some ⟨B,o,none⟩)]) (bQ:Blk w q 97 #[.func (.func 68) #[] #[]])
 (cF:w.cell? ⟨B,o,none⟩=some (.int .i64 m)) (fF:w.frozen? ⟨B,o,none⟩=false) (hs:Ja w v (x :: xs)) :
 Calls prog 64 #[v,.pointer (some ⟨q,0,none⟩),.pointer (some ⟨a,0,none⟩)] w fun e w'=>∃v',e=.returned (.tuple #[v',.bool (numB x)])∧Ja w v' xs∧w'=w.drew.setCell ⟨B,o,none⟩ (.int .i64 (numN x)):=by
 obtain ⟨b,off,cap,v',rfl,hb,c0,hsl,hrest⟩:=hs.tail
 have cA:=bA.cell 0
 have cQ:=bQ.cell 0
 unfold str at c0
 have S0:=hid (show w.drew.cell? ⟨q,0,none⟩=some (.func (.func 68) #[] #[])∧w.drew.cell? ⟨b,off,none⟩=some (.string ⟨x.toArray⟩) from ⟨cQ,c0⟩)
 have HR:=hid hrest
 have HX:=hid hx
 clear hx
 clear bA bQ hs hrest c0 cQ hb
 go_enter func64,ntmps64
 go_wp2_with fail
 refine tkS (S:=(fun w'=>w'.cell? ⟨q,0,none⟩=some (.func (.func 68) #[] #[])∧w'.cell? ⟨b,off,none⟩=some (.string ⟨x.toArray⟩))) (by (first|(exact S0.out)|(exact hHeld))) (fun hHeld=>?_)
 refine tkl [0,1,2,3,4,5,6,7,8,9] ?_
 iterate 10
  first
   | refine tW ?_|refine tN ?_
   | (refine rT (fun K hK=>?_)
      go_simp
      first
       | (go_at_call 68;(with_reducible refine (Vf x _ HX.out).mono ?_);rintro e w1 ⟨rfl,rfl⟩)
       | (skip)
      try go_wp2_with fail
      refine hK.out _ _ (by (first|(exact S0.out)|(exact hHeld))) (fun hHeld=>?_)
      clear hK K)
  try go_frame
 refine tkD ?_
 go_wp2_with fail
 go_ret2
 exact ⟨_,rfl,HR.out,rfl⟩
theorem Ck4 (s p q:Option Addr) (cap:Nat) (w:World):Calls prog 64 #[.slice s 0 cap,.pointer q,.pointer p] w fun e w'=>e=.returned (.tuple #[.slice none 0 0,.bool false])∧w=w':=by
 go_enter func64,ntmps64
 go_wp2_with fail
 go_ret2
 exact ⟨rfl,rfl⟩
end
section
open Go.RowKit Go
theorem Cx1 (s:Option Addr) (p:Addr) (cap:Nat) (w:World):Calls prog 70 #[.slice s 0 cap,.pointer (some p)] w fun e w'=>e=.returned (.tuple #[.slice none 0 0,.bool false])∧∃n,w'=w.drewN n:=by
 go_enter func70,ntmps70
 go_wp2_with fail
 go_quiet (fail)
 go_wp2_with fail
 go_ret2
 exact ⟨rfl,_,rfl⟩
theorem Dx8 (a:Nat) (v:Value) (x y:List UInt8) (xs:List (List UInt8)) (w:World) (bA:Blk w a 9 #[str y]) (hs:Ja w v (x :: xs)) (hxy:¬x=y) :
 Calls prog 70 #[v,.pointer (some ⟨a,0,none⟩)] w fun e w'=>e=.returned (.tuple #[.slice none 0 0,.bool false])∧∃n,w'=w.drewN n:=by
 obtain ⟨b,off,cap,v',rfl,hb,c0,hsl,hrest⟩:=hs.tail
 have cA:=bA.cell 0
 unfold str at c0 cA
 have hne:(x != y)=true:=by simpa using hxy
 have hne2:(x==y)=false:=by simpa using hxy
 have hn0:(((xs.length:Nat):Int)+1==0)=false:=by rw [beq_eq_false_iff_ne];omega
 clear bA hs hrest hb
 go_enter func70,ntmps70
 go_wp2_with fail
 go_quiet (fail)
 go_wp2_with fail
 go_ret2
 exact ⟨rfl,_,rfl⟩
theorem Dm0 (a:Nat) (v:Value) (x:List UInt8) (xs:List (List UInt8)) (w:World) (bA:Blk w a 9 #[str x]) (hs:Ja w v (x :: xs)) :
 Calls prog 70 #[v,.pointer (some ⟨a,0,none⟩)] w fun e w'=>∃v',e=.returned (.tuple #[v',.bool true])∧Ja w v' xs∧∃n,w'=w.drewN n:=by
 obtain ⟨b,off,cap,v',rfl,hb,c0,hsl,hrest⟩:=hs.tail
 have cA:=bA.cell 0
 unfold str at c0 cA
 have hne:(x != x)=false:=by simp
 have hn0:(((xs.length:Nat):Int)+1==0)=false:=by rw [beq_eq_false_iff_ne];omega
 have HR:=hid hrest
 clear bA hs hrest hb
 go_enter func70,ntmps70
 go_wp2_with fail
 go_quiet (fail)
 go_wp2_with fail
 go_ret2
 exact ⟨_,rfl,HR.out,_,rfl⟩
end
section
open Go.RowKit Go
theorem lappend_int {W:World} {base n:Nat} {v:Value} {ys:List Value} (hown:W.ownsRow base 3 1 v n ys) (x:Int) (hn:n+1≤1000001) (hb:base≤W.heap.size) :
 ∃v' W',(Builtin.append_ #[23,23] 23 #[v,.slice (some ⟨W.heap.size,0,none⟩) 1 1]).run prog (W.alloc (.cells #[.int .i64 x] 3))=.ok v' W'∧W'.ownsRow base 3 1 v' (n+1) (ys++[.int .i64 x])∧W.grownBy W' v.ownBlock∧Zo W v v':=by
 obtain ⟨i0,hi0,hz0,hz1,hz2⟩:=info_parts Fj
 obtain ⟨v',W',hr,h1,h2,-,h4⟩:=run_append_own_at (P:=prog) (W.alloc (.cells #[.int .i64 x] 3)) base 23 23 3 i0 (.int .i64 0) 1 8 underlying23 hi0 hz0 hz1 hz2 rfl (by decide) v n ys (hown.alloc _) ⟨W.heap.size,0,none⟩ 1 1 [.int .i64 x] rfl
  (cell_one_new _ _ _) (by intro u hu;simp at hu;subst hu;rfl) (by unfold maxLen;omega) (by omega) (by simp;omega)
 refine ⟨v',W',hr,h1,Da (World.grownBy_alloc W _ v.ownBlock) h2 (.inl rfl),?_⟩
 rcases h4 with h4|h4
 ·exact .inl h4
 ·exact .inr ⟨_,h4,by simp⟩
def Br2 (cs:Array Value):Prop:=∀(j:Nat) (s:ByteArray),cs[j]?≠some (.string s)
theorem Ja.grown {W W':World} {v:Value} {xs:List (List UInt8)} {B:Nat} {t:TypeId} {cs:Array Value} (h:Ja W v xs) (hg:W.grownBy W' (some B)) (hB:Blk W B t cs) (hn:Br2 cs):Ja W' v xs:=by
 obtain ⟨⟨a,cap,rfl,hl,h⟩,h2⟩:=h
 refine ⟨⟨a,cap,rfl,hl,?_⟩,h2⟩
 rcases h with h|⟨b,off,rfl,hb,hc⟩
 ·exact .inl h
 ·refine .inr ⟨b,off,rfl,Nat.lt_of_lt_of_le hb hg.size,fun i hi=>?_⟩
  refine hg.cell (hc i hi) (fun e=>?_)
  obtain rfl:b=B:=Option.some.inj e
  have:=hc i hi
  rw [hB.cell] at this
  exact hn _ _ this
theorem Br2.set {cs:Array Value} (h:Br2 cs) (o:Nat) {v:Value} (hv:∀s,v≠.string s):Br2 (cs.setIfInBounds o v):=by
 intro j s e
 rw [Array.getElem?_setIfInBounds] at e
 split at e
 ·split at e
  ·exact hv s (Option.some.inj e)
  ·cases e
 ·exact h j s e
theorem Ai6 {W:World} {base n:Nat} {v:Value} {ys:List Value} (h:W.ownsRow base 3 1 v n ys):∃a cap,v=.slice a n cap:=by
 rcases h.2 with ⟨rfl,h0⟩|⟨g,c,cur,rfl,_⟩
 ·exact ⟨none,0,by rw [h0]⟩
 ·exact ⟨_,c,rfl⟩
def nv (y:List UInt8):Value:=.int .i64 (numN y)
def Gx5 (w:World) (B o:Nat) (cs:Array Value) (ws:List (List UInt8)) (u:Value) (wr:World):Prop :=
 ∃ys rest lv,ws=ys++rest∧(∀y∈ys,numB y=true)∧Ja w u rest∧w.grownBy wr (some B)∧Blk wr B 25 (cs.setIfInBounds o lv)∧wr.ownsRow w.heap.size 3 1 lv ys.length (ys.map nv)∧(ys=[]→lv=.slice none 0 0)
theorem Fd1 {ys rest:List (List UInt8)} (h:∀y∈ys,numB y=true) (hr:rest=[]∨∃x r,rest=x :: r∧numB x=false):(ys++rest).takeWhile numB=ys∧(ys++rest).dropWhile numB=rest:=by
 induction ys with
 | nil =>
   rcases hr with rfl|⟨x,r,rfl,hx⟩
   ·exact ⟨rfl,rfl⟩
   ·simp [hx]
 | cons y ys ih =>
   obtain ⟨i1,i2⟩:=ih (fun z hz=>h z (List.mem_cons_of_mem _ hz))
   simp only [List.cons_append,List.takeWhile_cons,List.dropWhile_cons,h y (by simp),if_true,i1,i2,and_self]
def Cj4 (w:World) (B o:Nat) (cs:Array Value) (ws:List (List UInt8)) (e:Ending) (w':World):Prop :=
 ∃v' lv,e=.returned (.tuple #[v',.bool true])∧Ja w v' (ws.dropWhile numB)∧w.grownBy w' (some B)∧Blk w' B 25 (cs.setIfInBounds o lv)∧w'.ownsRow w.heap.size 3 1 lv (ws.takeWhile numB).length ((ws.takeWhile numB).map nv)∧(ws.takeWhile numB=[]→lv=.slice none 0 0)
theorem Ds6 {w wr:World} {B o:Nat} {cs:Array Value} {ys rest:List (List UInt8)} {u lv:Value} (h1:∀y∈ys,numB y=true) (hr:rest=[]∨∃x r,rest=x :: r∧numB x=false) (h2:Ja w u rest) (h3:w.grownBy wr (some B)) (h4:Blk wr B 25 (cs.setIfInBounds o lv))
 (h5:wr.ownsRow w.heap.size 3 1 lv ys.length (ys.map nv)) (h6:ys=[]→lv=.slice none 0 0):Cj4 w B o cs (ys++rest) (.returned (.tuple #[u,.bool true])) wr:=by
 obtain ⟨e1,e2⟩:=Fd1 h1 hr
 exact ⟨u,lv,rfl,by rw [e2];exact h2,h3,h4,by rw [e1];exact h5,by rw [e1];exact h6⟩
theorem Ax2 {W:World} {base n B:Nat} {v:Value} {ys:List Value} (h:W.ownsRow base 3 1 v n ys) (hb:B<base):some B≠v.ownBlock:=fun e=>by have:=(h.lt B e.symm).1;omega
theorem lgrown_set (W:World) (p:Addr) (v:Value):W.grownBy (W.setCell p v) (some p.block) :=
 ⟨rfl,rfl,rfl,by simp,fun k _ hk=>Below.heap_setCell _ _ _ k (fun e=>hk (by rw [e]))⟩
theorem Dq0 (cs:Array Value) (o:Nat) (u v:Value):(cs.setIfInBounds o u).setIfInBounds o v=cs.setIfInBounds o v:=by
 apply Array.ext_getElem?
 intro j
 simp only [Array.getElem?_setIfInBounds,Array.size_setIfInBounds]
 split<;>rfl
theorem Gs0 {w wr W2:World} {B o:Nat} {cs:Array Value} {ys rest:List (List UInt8)} {y:List UInt8} {u' lv lv':Value} (hBw:B<w.heap.size) (h1:∀y∈ys,numB y=true) (hy:numB y=true) (h2:Ja w u' rest) (h3:w.grownBy wr (some B)) (h4:Blk wr B 25 (cs.setIfInBounds o lv))
 (h5:wr.ownsRow w.heap.size 3 1 lv ys.length (ys.map nv)) (hown:W2.ownsRow w.heap.size 3 1 lv' (ys.length+1) (ys.map nv++[nv y])) (hg:wr.grownBy W2 lv.ownBlock) :
 Gx5 w B o cs (ys++y :: rest) u' (W2.setCell ⟨B,o,none⟩ lv'):=by
 have b3:=(h4.grow hg (Ax2 h5 hBw)).set_ o lv'
 rw [Dq0] at b3
 have hg2:w.grownBy W2 (some B):=⟨hg.os.trans h3.os,hg.tape.trans h3.tape,hg.output.trans h3.output,Nat.le_trans h3.size hg.size,fun k hk hne=>(hg.block k (Nat.lt_of_lt_of_le hk h3.size) (fun e=>by have:=(h5.lt k e.symm).1;omega)).trans (h3.block k hk hne)⟩
 refine ⟨ys++[y],rest,lv',by simp,fun z hz=>?_,h2,Da hg2 (lgrown_set W2 ⟨B,o,none⟩ lv') (.inl rfl),b3,?_,fun e=>by simp at e⟩
 ·rcases List.mem_append.1 hz with hz|hz
  ·exact h1 z hz
  ·rw [List.mem_singleton.1 hz];exact hy
 ·have:=hown.kept (w':=W2.setCell ⟨B,o,none⟩ lv') (row:=some B) (lgrown_set W2 ⟨B,o,none⟩ lv') (.inr (Ax2 hown hBw).symm)
  simpa using this
theorem Gb6 (a B o:Nat) (cs:Array Value) (v:Value) (ws:List (List UInt8)) (w:World) (bA:Blk w a 107 #[.pointer (some ⟨B,o,none⟩)]) (hB:Blk w B 25 cs) (ho:cs[o]?=some (.slice none 0 0)) (hn:Br2 cs) (hab:a≠B)
 (hs:Ja w v ws) (hx:∀x∈ws,x.length≤1000000) (hl:ws.length≤1000000):Calls prog 77 #[v,.pointer (some ⟨a,0,none⟩)] w (Cj4 w B o cs ws):=by
 have HA:=hid bA
 have HB:=hid hB
 have HO:=hid ho
 have HN:=hid hn
 have HAB:=hid hab
 have HS:=hid hs
 have HX:=hid hx
 have HL:=hid hl
 clear bA hB ho hn hab hs hx hl
 go_enter func77,ntmps77
 go_wp2_with fail
 go_loopw [0] (fun u wr=>Gx5 w B o cs ws u wr) (fun u _=>match u with|.slice _ n _=>n|_=>0)
 case atStart =>
  refine ⟨[],ws,.slice none 0 0,rfl,by simp,HS.out,Xi _ _,?_,World.ownsRow_nil _ _ _ _,fun _=>rfl⟩
  have:cs.setIfInBounds o (.slice none 0 0)=cs:=by
   apply Array.ext_getElem?
   intro j
   rw [Array.getElem?_setIfInBounds]
   split
   ·rename_i e;subst e;rw [HO.out];split
    ·rfl
    ·rename_i h2;exact absurd (Array.getElem?_eq_some_iff.1 HO.out).1 h2
   ·rfl
  rw [this];exact HB.out
 case round =>
  obtain ⟨ys,rest,lv,rfl,h1,h2,h3,h4,h5,h6⟩:=hrel
  have R1:=hid h1
  have R3:=hid h3
  have R4:=hid h4
  have R5:=hid h5
  have R6:=hid h6
  clear h1 h3 h4 h5 h6
  cases rest with
  | nil =>
    have R2:=hid h2
    obtain ⟨⟨a0,cap0,rfl,-,-⟩,-⟩:=h2
    go_wp2_with fail
    go_ret2
    exact Ds6 R1.out (.inl rfl) R2.out R3.out R4.out R5.out R6.out
  | cons y rest =>
    have R2:=hid h2
    obtain ⟨b,off,cap,u',rfl,hb,c0,hsl,hrest⟩:=h2.tail
    have RT:=hid hrest
    have hbB:b≠B:=by
     intro e;subst e
     rw [HB.cell] at c0
     exact HN.out _ _ c0
    have c1:=R3.cell c0 (fun e=>hbB (Option.some.inj e))
    unfold str at c1
    clear h2 hrest c0 hb hbB
    cases hy:numB y
    ·have HY:=hid hy
     clear hy
     go_wp2_with fail
     refine (Vf y _ (by have:=HX.out y (by simp);omega)).mono ?_
     rintro e w1 ⟨rfl,rfl⟩
     rw [HY.out]
     go_wp2_with fail
     go_ret2
     exact Ds6 R1.out (.inr ⟨y,rest,rfl,HY.out⟩) R2.out R3.out R4.out R5.out R6.out
    ·have HY:=hid hy
     clear hy
     go_wp2_with fail
     refine (Vf y _ (by have:=HX.out y (by simp);omega)).mono ?_
     rintro e w1 ⟨rfl,rfl⟩
     rw [HY.out]
     obtain ⟨lv',W2,hrun,hown,hg,hm⟩:=lappend_int (W:=wr.drew) R5.out (numN y:Int) (by have:=HL.out;simp at this;omega) R3.size
     obtain ⟨a2,c2,rfl⟩:=Ai6 hown
     have hBw:=HB.lt
     have hAw:=HA.lt
     have bA1:Blk wr.drew a 107 #[.pointer (some ⟨B,o,none⟩)]:=Blk.grow (W':=wr) HA.out R3.out (fun e=>HAB.out (Option.some.inj e))
     have bA2:=bA1.grow hg (Ax2 R5.out hAw)
     have b2:Blk W2 B 25 (cs.setIfInBounds o lv):=Blk.grow (W:=wr.drew) R4.out hg (Ax2 R5.out hBw)
     have ho2:(cs.setIfInBounds o lv)[o]?=some lv:=by
      have:=(Array.getElem?_eq_some_iff.1 HO.out).1
      simp [this]
     have K0:=hid (bA1.cell 0)
     have K1:=hid ((bA1.alloc (.cells #[.int .i64 (numN y:Int)] 3)).cell 0)
     have K2:=hid (bA2.cell 0)
     have K3:=hid ((bA2.far (p:=⟨B,o,none⟩) HAB.out (.slice a2 (ys.length+1) c2)).cell 0)
     have L0:wr.drew.cell? ⟨B,o,none⟩=some lv:=(Blk.cell (w:=wr.drew) R4.out o).trans ho2
     have L1:(wr.drew.alloc (.cells #[.int .i64 (numN y:Int)] 3)).cell? ⟨B,o,none⟩=some lv:=((Blk.alloc (w:=wr.drew) R4.out _).cell o).trans ho2
     have L4:wr.cell? ⟨B,o,none⟩=some lv:=L0
     have L5:(wr.alloc (.cells #[.int .i64 (numN y:Int)] 3)).cell? ⟨B,o,none⟩=some lv:=L1
     have L2:=(b2.cell o).trans ho2
     have L3:=b2.frozen o
     have HN2:=hid (Gs0 hBw R1.out HY.out RT.out R3.out R4.out R5.out hown ⟨hg.os,hg.tape,hg.output,hg.size,hg.block⟩)
     have HG:=hid hrun
     clear hrun hown hg hm hBw hAw bA1 bA2 b2 ho2
     go_wp2_with fail
     refine tkS (S:=(fun w'=>w'.cell? ⟨a,0,none⟩=some (.pointer (some ⟨B,o,none⟩)))) (by (first|(exact K0.out)|(exact K1.out)|(exact K2.out)|(exact K3.out))) (fun hHeld=>?_)
     refine tkl [0,1,2,4] ?_
     iterate 4
      refine tW ?_
      try go_frame
     refine wpAnyH_ready (rs:=[3,5]) (by kernel_rfl) (by simp) (AllReadyH.cons (by simp only [List.getElem?_toArray,List.getElem?_cons_succ,List.getElem?_cons_zero];rfl) (fun K hK=>?_) (AllReadyH.cons (by simp only [List.getElem?_toArray,List.getElem?_cons_succ,List.getElem?_cons_zero];rfl) (fun K hK=>?_) AllReadyH.nil))
     ·
      go_simp
      try go_wp2_with fail
      refine hK.out _ _ (by (first|(exact K0.out)|(exact K1.out)|(exact K2.out)|(exact K3.out))) (fun hHeld=>?_)
      clear hK K
      try go_frame
      refine rdy1 5 (fun K hK=>?_)
      go_simp
      try go_wp2_with fail
      refine hK.out _ _ (by (first|(exact K0.out)|(exact K1.out)|(exact K2.out)|(exact K3.out))) (fun hHeld=>?_)
      clear hK K
      try go_frame
      refine rdy1 6 (fun K hK=>?_)
      refine Gb rfl (.tmp 22) (.tmp 24) 23 rfl lv _ (.slice a2 (ys.length+1) c2) W2 rfl rfl HG.out ?_
      refine hK.out _ _ (by (first|(exact K0.out)|(exact K1.out)|(exact K2.out)|(exact K3.out))) (fun hHeld=>?_)
      clear hK K
      try go_frame
      refine tkl [7] (tW ?_)
      try go_frame
      refine rdy1 8 (fun K hK=>?_)
      go_simp
      try go_wp2_with fail
      refine hK.out _ _ (by (first|(exact K0.out)|(exact K1.out)|(exact K2.out)|(exact K3.out))) (fun hHeld=>?_)
      clear hK K
      try go_frame
      refine tkD ?_
      go_wp2_with fail
      go_roundw
      case rel=>exact HN2.out
      case measure =>
       obtain ⟨⟨a9,cap9,rfl,-,-⟩,-⟩:=RT.out
       simp
     ·
      go_simp
      try go_wp2_with fail
      refine hK.out _ _ (by (first|(exact K0.out)|(exact K1.out)|(exact K2.out)|(exact K3.out))) (fun hHeld=>?_)
      clear hK K
      try go_frame
      refine rdy1 3 (fun K hK=>?_)
      go_simp
      try go_wp2_with fail
      refine hK.out _ _ (by (first|(exact K0.out)|(exact K1.out)|(exact K2.out)|(exact K3.out))) (fun hHeld=>?_)
      clear hK K
      try go_frame
      refine rdy1 6 (fun K hK=>?_)
      refine Gb rfl (.tmp 22) (.tmp 24) 23 rfl lv _ (.slice a2 (ys.length+1) c2) W2 rfl rfl HG.out ?_
      refine hK.out _ _ (by (first|(exact K0.out)|(exact K1.out)|(exact K2.out)|(exact K3.out))) (fun hHeld=>?_)
      clear hK K
      try go_frame
      refine tkl [7] (tW ?_)
      try go_frame
      refine rdy1 8 (fun K hK=>?_)
      go_simp
      try go_wp2_with fail
      refine hK.out _ _ (by (first|(exact K0.out)|(exact K1.out)|(exact K2.out)|(exact K3.out))) (fun hHeld=>?_)
      clear hK K
      try go_frame
      refine tkD ?_
      go_wp2_with fail
      go_roundw
      case rel=>exact HN2.out
      case measure =>
       obtain ⟨⟨a9,cap9,rfl,-,-⟩,-⟩:=RT.out
       simp
end
section
open Go.RowKit Go
theorem Cp4 {w:World} {base n:Nat} {a:Option Addr} {cap:Nat} {xs:List Int} (h:w.ownsRow base 3 1 (.slice a n cap) n (xs.map (Value.int .i64))) (hn:n=xs.length) (hm:xs.length≤maxLen):Ae w a xs:=by
 subst hn
 refine ⟨hm,?_⟩
 rcases h.2 with ⟨e,h0⟩|⟨g,c,cur,e,hg,hh,hc,hx,hcs,htk⟩
 ·exact .inl (List.length_eq_zero_iff.1 h0)
 ·simp only [Value.slice.injEq] at e
  obtain ⟨rfl,-,rfl⟩:=e
  refine .inr ⟨g,0,rfl,(Array.getElem?_eq_some_iff.1 hh).1,fun i hi=>?_⟩
  have e2:(cur.toList.take (xs.length*1))[i]?=(xs.map (Value.int .i64))[i]?:=by rw [htk]
  rw [List.getElem?_take,if_pos (by omega)] at e2
  simp [World.cell?,hh]
  simpa [hi] using e2
def LNil (a:Option Addr) (cap:Nat) (xs:List Int):Prop:=xs=[]→a=none∧cap=0
def bv (B:Nat):Value:=.slice (some ⟨B,0,none⟩) 0 0
def Dx7 (a:Option Addr) (xs:List Int) (B:Nat):Prop:=xs=[]∨∀p,a=some p→B<p.block
theorem Dx7.off {a:Option Addr} {xs:List Int} {B n:Nat} (h:Dx7 a xs B) (hn:n≤B):Off a xs (bv n):=by
 rcases h with h|h
 ·exact .inl h
 ·refine .inr fun p hp e=>?_
  have:=h p hp
  have h3:p.block=n:=Option.some.inj e
  omega
structure TSt (W:World) (B:Nat) (c:Cm) (ga:Option Addr) (gc:Nat) (wa:Option Addr) (wc:Nat):Prop where
 blk:Blk W B 25 (cC c ga gc wa wc)
 gi:Ae W ga c.gives
 wi:Ae W wa c.wants
 gn:LNil ga gc c.gives
 wn:LNil wa wc c.wants
 go:Dx7 ga c.gives B
 wo:Dx7 wa c.wants B
def Dx6 (W:World) (B:Nat) (out:Cm × List (List UInt8) × Bool) (e:Ending) (W':World):Prop :=
 ∃v' ga gc wa wc,e=.returned (.tuple #[v',.bool out.2.2])∧Ja W' v' out.2.1∧TSt W' B out.1 ga gc wa wc∧W.grownBy W' (some B)
theorem Nb (c:Cm) (ga wa:Option Addr) (gc wc:Nat):Br2 (cC c ga gc wa wc):=by
 intro j s
 match j with
 | 0|1|2|3|4|5|6|7|8=>simp
 | j+9=>simp
theorem Fw9 (W:World):Ja W (.slice none 0 0) []:=⟨⟨none,0,rfl,by simp,.inl rfl⟩,none,0,rfl,Nat.le_refl _⟩
section
variable {W W0:World} {lo B:Nat} {c:Cm} {ga wa:Option Addr} {gc wc:Nat} {v pv tv:Value} {ws xs:List (List UInt8)} {x:List UInt8} {p:Pt}
theorem TSt.same {W':World} (h:TSt W B c ga gc wa wc) (hh:W'.heap=W.heap):TSt W' B c ga gc wa wc:=by
 obtain ⟨h1,h2,h3,h4,h5,h6,h7⟩:=h
 refine ⟨by unfold Blk;rw [hh];exact h1,?_,?_,h4,h5,h6,h7⟩
 ·obtain ⟨a,b⟩:=h2;refine ⟨a,?_⟩;simpa only [World.cell?,hh] using b
 ·obtain ⟨a,b⟩:=h3;refine ⟨a,?_⟩;simpa only [World.cell?,hh] using b
theorem lgrown_drewN (W:World) (n:Nat) (r:Option Nat):W.grownBy (W.drewN n) r:=⟨rfl,rfl,rfl,Nat.le_refl _,fun _ _ _=>rfl⟩
theorem Aw8 (st:TSt W B c ga gc wa wc) (n:Nat):Dx6 W B (c,[],false) (.returned (.tuple #[.slice none 0 0,.bool false])) (W.drewN n) :=
 ⟨_,ga,gc,wa,wc,rfl,Fw9 _,st.same rfl,lgrown_drewN W n _⟩
theorem Cx7 (st:TSt W B c ga gc wa wc) (f:Fd) (n:Int) (b:Bool) {v':Value} (hs:Ja W v' xs) :
 Dx6 W B (setF c n f,xs,b) (.returned (.tuple #[v',.bool b])) (W.drew.setCell ⟨B,f.off,none⟩ (.int .i64 n)):=by
 have hg:W.grownBy (W.drew.setCell ⟨B,f.off,none⟩ (.int .i64 n)) (some B):=by
  have:=lgrown_set W.drew ⟨B,f.off,none⟩ (.int .i64 n)
  exact ⟨this.os,this.tape,this.output,this.size,this.block⟩
 have e1:(setF c n f).gives=c.gives:=by cases f<;>rfl
 have e2:(setF c n f).wants=c.wants:=by cases f<;>rfl
 refine ⟨v',ga,gc,wa,wc,rfl,hs.grown hg st.blk (Nb c ga wa gc wc),⟨?_,?_,?_,?_,?_,?_,?_⟩,hg⟩
 ·have:=Blk.set_ (w:=W.drew) st.blk f.off (.int .i64 n)
  cases f<;>exact this
 ·rw [e1];exact st.gi.grown (v:=bv B) hg (st.go.off lr0)
 ·rw [e2];exact st.wi.grown (v:=bv B) hg (st.wo.off lr0)
 ·rw [e1];exact st.gn
 ·rw [e2];exact st.wn
 ·rw [e1];exact st.go
 ·rw [e2];exact st.wo
theorem ltake_rest (st:TSt W B c ga gc wa wc) (n:Nat) (b:Bool) {v':Value} (hs:Ja W v' xs):Dx6 W B (c,xs,b) (.returned (.tuple #[v',.bool b])) (W.drewN n) :=
 ⟨v',ga,gc,wa,wc,rfl,hs,st.same rfl,lgrown_drewN W n _⟩
theorem Fw5 (st:TSt W B c ga gc wa wc) (g:Bool) (hnil:getL c g=[]) {W':World} {e:Ending} (h:Cj4 W B (An3 g) (cC c ga gc wa wc) ws e W') (hl:ws.length≤1000000):Dx6 W B (Es c ws (.nums g)) e W':=by
 obtain ⟨v',lv,rfl,hs,hg,hb,hr,hn⟩:=h
 obtain ⟨a,cap,rfl⟩:=Ai6 hr
 have hzl:(ws.takeWhile numB).length≤ws.length:=(List.takeWhile_prefix numB).length_le
 have e0:((ws.takeWhile numB).map fun w=>(numN w:Int)).length=(ws.takeWhile numB).length:=List.length_map ..
 have em:(ws.takeWhile numB).map nv=((ws.takeWhile numB).map fun w=>(numN w:Int)).map (Value.int .i64):=by rw [List.map_map];rfl
 have hBw:=st.blk.lt
 rw [em] at hr
 have hI:=Cp4 hr e0.symm (by rw [e0];unfold maxLen;omega)
 have hO:Dx7 a ((ws.takeWhile numB).map fun w=>(numN w:Int)) B:=by
  refine .inr fun p hp=>?_
  subst hp
  have:=(hr.lt p.block rfl).1
  omega
 have hN:LNil a cap ((ws.takeWhile numB).map fun w=>(numN w:Int)):=fun e=>by
  have:ws.takeWhile numB=[]:=List.map_eq_nil_iff.1 e
  have:=hn this
  simp only [Value.slice.injEq] at this
  exact ⟨this.1,this.2.2⟩
 have hs':=hs.grown hg st.blk (Nb c ga wa gc wc)
 rw [←e0] at hb
 generalize hz:((ws.takeWhile numB).map fun w=>(numN w:Int))=zs at *
 cases g with
 | true =>
   have ec:Es c ws (.nums true)=({ c with gives:=zs },ws.dropWhile numB,true):=by
    show (lsetL c true (getL c true++_),_,_)=_
    rw [hnil,List.nil_append,hz];rfl
   rw [ec]
   exact ⟨v',a,cap,wa,wc,rfl,hs',⟨hb,hI,st.wi.grown (v:=bv B) hg (st.wo.off lr0),hN,st.wn,hO,st.wo⟩,hg⟩
 | false =>
   have ec:Es c ws (.nums false)=({ c with wants:=zs },ws.dropWhile numB,true):=by
    show (lsetL c false (getL c false++_),_,_)=_
    rw [hnil,List.nil_append,hz];rfl
   rw [ec]
   exact ⟨v',ga,gc,a,cap,rfl,hs',⟨hb,st.gi.grown (v:=bv B) hg (st.go.off lr0),hI,st.gn,hN,st.go,hO⟩,hg⟩
theorem Gl1 (st:TSt W B c ga gc wa wc) (g:Bool) (h:getL c g=[]):((cC c ga gc wa wc):Array Value)[An3 g]?=some (.slice none 0 0):=by
 cases g with
 | true =>
   obtain ⟨e1,e2⟩:=st.gn h
   have e3:c.gives=[]:=h
   show some (Value.slice ga c.gives.length gc)=_
   rw [e1,e2,e3];rfl
 | false =>
   obtain ⟨e1,e2⟩:=st.wn h
   have e3:c.wants=[]:=h
   show some (Value.slice wa c.wants.length wc)=_
   rw [e1,e2,e3];rfl
theorem Eq9:Enters prog 64:=enters_of func64 (by kernel_rfl) rfl
theorem Ec5:Enters prog 70:=enters_of func70 (by kernel_rfl) rfl
theorem Ec7:Enters prog 77:=enters_of func77 (by kernel_rfl) rfl
theorem Aj3 (h:Ja W v []):∃a cap,v=.slice a 0 cap:=by
 obtain ⟨⟨a,cap,rfl,_⟩,_⟩:=h
 exact ⟨a,cap,rfl⟩
theorem Dc0 (hp:Nu W0 lo B pv tv p) (hs:Stay lo W0 W) (hlo:B<lo) (ht:Tabs W) (st:TSt W B c ga gc wa wc) (hw:Ja W v ws) (hx:∀x∈ws,x.length≤1000000) (hl:ws.length≤1000000) (hnil:∀g,p=.nums g→getL c g=[]) :
 ∃F fs,tv=.func (.func F) #[] fs∧(∀(args:Array Value) (w:World),(callFunc F args).run prog w=.ok (.enter F args) w)∧Calls prog F (#[v]++fs) W (Dx6 W B (Es c ws p)):=by
 cases p with
 | one k f =>
   obtain ⟨a,b,q,h1,h2,h3,e1,e2,b1,b2,b3⟩:=hp
   refine ⟨_,_,e2,Eq9,?_⟩
   have hc:=De5 st.blk f
   have hf:=st.blk.frozen f.off
   cases ws with
   | nil =>
     obtain ⟨s,cap,rfl⟩:=Aj3 hw
     exact (Ck4 s _ _ cap W).mono fun e w' ⟨e1,e2⟩=>by subst e1 e2;exact Aw8 st 0
   | cons x xs =>
     cases k with
     | name=>exact (Dn2 a q B f.off (getF c f) v x xs W ht.1 (b1.stay hs h1) (b3.stay hs h3) hc hf hw).mono fun e w' ⟨v',e1,e2,e3⟩=>by subst e1 e3;exact Cx7 st f (Ct x) (Qq x) e2
     | way=>exact (Eb0 a q B f.off (getF c f) v x xs W ht.2.1 (b1.stay hs h1) (b3.stay hs h3) hc hf hw).mono fun e w' ⟨v',e1,e2,e3⟩=>by subst e1 e3;exact Cx7 st f (dirN x) (dirB x) e2
     | num=>exact (Eb1 a q B f.off (getF c f) v x xs W (by have:=hx x (by simp);omega) (b1.stay hs h1) (b3.stay hs h3) hc hf hw).mono fun e w' ⟨v',e1,e2,e3⟩=>by subst e1 e3;exact Cx7 st f (numN x) (numB x) e2
 | word y =>
   obtain ⟨a,h1,e1,e2,b1⟩:=hp
   refine ⟨_,_,e2,Ec5,?_⟩
   cases ws with
   | nil =>
     obtain ⟨s,cap,rfl⟩:=Aj3 hw
     exact (Cx1 s _ cap W).mono fun e w' ⟨e1,n,e2⟩=>by subst e1 e2;exact Aw8 st n
   | cons x xs =>
     by_cases hxy:x=y
     ·subst hxy
      have:Es c (x :: xs) (.word x)=(c,xs,true):=by simp [Es]
      rw [this]
      exact (Dm0 a v x xs W (b1.stay hs h1) hw).mono fun e w' ⟨v',e1,e2,n,e3⟩=>by subst e1 e3;exact ltake_rest st n true e2
     ·have:Es c (x :: xs) (.word y)=(c,[],false):=by simp [Es,hxy]
      rw [this]
      exact (Dx8 a v x y xs W (b1.stay hs h1) hw hxy).mono fun e w' ⟨e1,n,e2⟩=>by subst e1 e2;exact Aw8 st n
 | nums g =>
   obtain ⟨a,h1,e1,e2,b1⟩:=hp
   refine ⟨_,_,e2,Ec7,?_⟩
   have hn:=hnil g rfl
   exact (Gb6 a B (An3 g) (cC c ga gc wa wc) v ws W (b1.stay hs h1) st.blk (Gl1 st g hn) (Nb c ga wa gc wc) (by omega) hw hx hl).mono fun e w' h=>Fw5 st g hn h hl
end
end
section
open Go.RowKit Go
theorem Ef7 (c:Cm) (ws:List (List UInt8)) (p:Pt):(∀x∈(Es c ws p).2.1,x∈ws)∧(Es c ws p).2.1.length≤ws.length:=by
 cases p with
 | one k f=>cases ws with
   | nil=>simp [Es]
   | cons w r=>exact ⟨fun x hx=>List.mem_cons_of_mem _ hx,by simp [Es]⟩
 | word y=>cases ws with
   | nil=>simp [Es]
   | cons w r =>
     simp only [Es]
     split
     ·exact ⟨fun x hx=>List.mem_cons_of_mem _ hx,by simp⟩
     ·simp
 | nums g=>exact ⟨fun x hx=>(List.dropWhile_suffix numB).mem hx,(List.dropWhile_suffix numB).length_le⟩
def fine (ws:List (List UInt8)):Prop:=(∀x∈ws,x.length≤1000000)∧ws.length≤1000000
theorem fine.take {c:Cm} {ws:List (List UInt8)} (h:fine ws) (p:Pt):fine (Es c ws p).2.1 :=
 ⟨fun x hx=>h.1 x ((Ef7 c ws p).1 x hx),Nat.le_trans (Ef7 c ws p).2 h.2⟩
def Ed6 (w W0:World) (lo B:Nat) (c0:Cm) (ws0:List (List UInt8)) (pts:List Pt) (u:Value) (k:Nat) (wr:World):Prop :=
 ∃c ws ga gc wa wc,runP c0 ws0 pts=runP c ws (pts.drop k)∧TSt wr B c ga gc wa wc∧Ja wr u ws∧fine ws∧((∀g,.nums g∈pts.drop k→getL c g=[])∧apart (pts.drop k)=true)∧w.grownBy wr (some B)∧Stay lo W0 wr∧W0.heap.size≤wr.heap.size
theorem Gn8 {w W0 wr W1:World} {lo B k:Nat} {c0 c:Cm} {ws0 ws:List (List UInt8)} {pts:List Pt} {v':Value} {ga wa:Option Addr} {gc wc:Nat} (hlo:B<lo) (hk:k<pts.length) (hrun:runP c0 ws0 pts=runP c ws (pts.drop k)) (hf:fine ws)
 (hn:(∀g,.nums g∈pts.drop k→getL c g=[])∧apart (pts.drop k)=true) (hg:w.grownBy wr (some B)) (hs:Stay lo W0 wr) (hz:W0.heap.size≤wr.heap.size) (hok:(Es c ws pts[k]).2.2=true)
 (h1:Ja W1 v' (Es c ws pts[k]).2.1) (h2:TSt W1 B (Es c ws pts[k]).1 ga gc wa wc) (h3:wr.grownBy W1 (some B)):Ed6 w W0 lo B c0 ws0 pts v' (k+1) W1:=by
 have ed:pts.drop k=pts[k] :: pts.drop (k+1):=(List.getElem_cons_drop hk).symm
 rw [ed] at hrun hn
 obtain ⟨n1,n2⟩:=hn
 simp only [apart,Bool.and_eq_true,List.all_eq_true,decide_eq_true_eq] at n2
 refine ⟨(Es c ws pts[k]).1,(Es c ws pts[k]).2.1,ga,gc,wa,wc,?_,h2,h1,hf.take _,⟨fun g hg=>?_,n2.2⟩,Da hg h3 (.inl rfl),fun b a1 a2=>(h3.block b (by omega) (fun e=>by have:=Option.some.inj e;omega)).trans (hs b a1 a2),Nat.le_trans hz h3.size⟩
 ·rw [hrun,runP,if_pos hok]
 ·have hk2:=n2.1 (.nums g) hg
  rw [Bs1 c ws pts[k] g (by rcases hk2 with e|e;exact e;cases g<;>simp [Pt.key] at e)]
  exact n1 g (List.mem_cons_of_mem _ hg)
theorem TSt.kind {W:World} {B:Nat} {c:Cm} {ga wa:Option Addr} {gc wc:Nat} (h:TSt W B c ga gc wa wc):W.cell? ⟨B,0,none⟩=some (.int .i64 c.kind):=h.blk.cell 0
theorem TSt.below {W W':World} {B:Nat} {c:Cm} {ga wa:Option Addr} {gc wc:Nat} (h:TSt W B c ga gc wa wc) (hb:Below W.heap.size W W'):TSt W' B c ga gc wa wc :=
 ⟨h.blk.call hb,h.gi.below hb lr0,h.wi.below hb lr0,h.gn,h.wn,h.go,h.wo⟩
theorem Ja.below {W W':World} {v:Value} {xs:List (List UInt8)} (h:Ja W v xs) (hb:Below W.heap.size W W'):Ja W' v xs:=⟨h.1.below hb,h.2⟩
theorem Fg6 {w w1:World} {B:Nat} {c:Cm} {ga wa:Option Addr} {gc wc:Nat} {v pv tv:Value} {ws:List (List UInt8)} (hT:∀W',w.grownBy W' (some B)→Tabs W') (st:TSt w B c ga gc wa wc) (hs:Ja w v ws) (hf:fine ws) (hp:Nu w1 w.heap.size B pv tv (.one .name .kind)) (hb:Below w.heap.size w w1) :
 ∃F fs,tv=.func (.func F) #[] fs∧(∀(args:Array Value) (w:World),(callFunc F args).run prog w=.ok (.enter F args) w)∧Calls prog F (#[v]++fs) w1 (Dx6 w1 B (Es c ws (.one .name .kind))) :=
 Dc0 hp (Stay.refl _ _) st.blk.lt (hT _ (Az hb _)) (st.below hb) (hs.below hb) hf.1 hf.2 (fun g e=>by cases e)
theorem Fj3 (x y:Value) (W:World):(Instr.field 84 (.agg #[x,y]) 1).run prog W=.ok y W:=by
 simp [Instr.field,run_underlying underlying84,Tryd.isAgg82,asAgg,Go.part,Result.andThen]
theorem Fy0 {c:Cm} {ws:List (List UInt8)} {pts:List Pt} {k:Nat} (hk:k<pts.length) (h:(Es c ws pts[k]).2.2=false):runP c ws (pts.drop k)=Es c ws pts[k]:=by
 rw [(List.getElem_cons_drop hk).symm,runP,if_neg (by rw [h];simp)]
def LReadsTo (w:World) (B:Nat) (out:Cm × List (List UInt8) × Bool) (e:Ending) (w':World):Prop :=
 ∃ga gc wa wc,e=.returned (.bool (out.2.2&&decide (out.2.1=[])))∧TSt w' B out.1 ga gc wa wc∧w.grownBy w' (some B)
theorem Gp3 {ws:List (List UInt8)} (h:(Es Dh ws (.one .name .kind)).2.2=false):Vx ws=Es Dh ws (.one .name .kind):=by unfold Vx;rw [if_neg (by rw [h];simp)]
theorem Fz8 {ws:List (List UInt8)} (h:(Es Dh ws (.one .name .kind)).2.2=true):Vx ws=runP (Es Dh ws (.one .name .kind)).1 (Es Dh ws (.one .name .kind)).2.1 (Be (Es Dh ws (.one .name .kind)).1.kind):=by unfold Vx;rw [if_pos h]
theorem He1 {ws:List (List UInt8)} (h:(Es Dh ws (.one .name .kind)).2.2=true):Nv (Es Dh ws (.one .name .kind)).1.kind:=by
 cases ws with
 | nil=>simp [Es] at h
 | cons w r =>
   have h2:Qq w=true:=h
   show Nv (Ct w)
   have hm:w∈kindNames:=of_decide_eq_true h2
   simp only [kindNames,List.mem_cons,List.not_mem_nil,or_false] at hm
   rcases hm with rfl|rfl|rfl|rfl|rfl|rfl|rfl|rfl|rfl|rfl<;>exact ⟨by decide,by decide⟩
theorem lread_any (B:Nat) (v:Value) (ws:List (List UInt8)) (w:World) (hT:∀W',w.grownBy W' (some B)→Tabs W') (st:TSt w B Dh none 0 none 0) (hs:Ja w v ws) (hf:fine ws) :
 Calls prog 41 #[.pointer (some ⟨B,0,none⟩),v] w (LReadsTo w B (Vx ws)):=by
 have HT:=hid hT
 have ST:=hid st
 have HS:=hid hs
 have HF:=hid hf
 clear hT st hs hf
 go_enter func41,ntmps41
 go_wp2_with fail
 refine (Dt0 _ _).mono ?_
 rintro e w1 ⟨pv,tv,rfl,hp,b1⟩
 obtain ⟨F,fs,rfl,he,hc⟩:=Fg6 HT.out ST.out HS.out HF.out hp b1
 have HC:=hid hc
 have HB1:=hid b1
 have hfl:=Fj3
 clear hp b1 hc
 go_wp2_with fail
 clear hfl he
 refine HC.mono ?_
 rintro e w2 ⟨v2,ga,gc,wa,wc,rfl,hs2,st2,hg2⟩
 have HS2:=hid hs2
 have ST2:=hid st2
 have HG2:=hid (Da (Az HB1.out (some B)) hg2 (.inl rfl))
 clear hs2 st2 hg2 HC
 cases hok:(Es Dh ws (.one .name .kind)).2.2
 ·have HE:=hid (Gp3 hok)
  have HK:=hid hok
  clear hok
  go_wp2_with fail
  go_ret
  rw [HE.out]
  exact ⟨ga,gc,wa,wc,by rw [HK.out];rfl,ST2.out,HG2.out⟩
 ·have HE:=hid (Fz8 hok)
  have HK:=hid (He1 hok)
  have HF2:=hid (HF.take (c:=Dh) (.one .name .kind))
  have HL:=hid (show ∀g,getL (Es Dh ws (.one .name .kind)).1 g=[] by
   intro g;rw [Bs1 Dh ws _ g (by cases g<;>simp [Pt.key])];cases g<;>rfl)
  clear hok
  generalize (Es Dh ws (.one .name .kind)).2.1=ws2 at *
  generalize (Es Dh ws (.one .name .kind)).1=c2 at *
  have ck:=ST2.kind
  have S0:=hid (show B<w2.drew.heap.size∧w2.drew.cell? ⟨B,0,none⟩=some (.int .i64 c2.kind) from ⟨ST2.blk.lt,ck⟩)
  clear ck
  go_wp2_with fail
  refine tkS (S:=(fun w'=>B<w'.heap.size∧w'.cell? ⟨B,0,none⟩=some (.int .i64 c2.kind))) (by (first|(exact S0.out)|(exact hHeld)|(exact ⟨Nat.lt_of_lt_of_le hHeld.1 HBB.size,(HBB.cell (p:=⟨B,0,none⟩) hHeld.1).trans hHeld.2⟩))) (fun hHeld=>?_)
  refine tkl [0,2,3,4,5,8,1,6,7] ?_
  iterate 9
   first
    | refine tW ?_|refine tN ?_
    | (refine rT (fun K hK=>?_)
       go_simp
       first
        | (go_at_call 45;(with_reducible refine (Te _ _).mono ?_);rintro e w4 ⟨b,rfl,hmap,hbb⟩;have HBB:=hid hbb;obtain ⟨v4,hlk,hP⟩:=hmap.lookup c2.kind HK.out;obtain ⟨g,lst,rfl,hlo,hblk,hacc⟩:=hP;have HP:=hid (show w2.drew.heap.size≤g∧Blk w4 g 84 lst.toArray∧AccL w4 w2.drew.heap.size B lst (Be c2.kind) from ⟨hlo,hblk,hacc⟩);clear hbb hmap hlo hblk hacc)
        | (skip)
       try go_wp2_with fail
       refine hK.out _ _ (by (first|(exact S0.out)|(exact hHeld)|(exact ⟨Nat.lt_of_lt_of_le hHeld.1 HBB.size,(HBB.cell (p:=⟨B,0,none⟩) hHeld.1).trans hHeld.2⟩))) (fun hHeld=>?_)
       clear hK K)
   try go_frame
  refine tkD ?_
  clear hlk hHeld
  have hb24:Below w2.heap.size w2 w4:=⟨HBB.os,HBB.tape,HBB.output,HBB.size,HBB.block⟩
  have F2:=hid (show Ed6 w w4 w2.drew.heap.size B c2 ws2 (Be c2.kind) v2 0 w4 from ⟨c2,ws2,ga,gc,wa,wc,rfl,ST2.below hb24,HS2.below hb24,HF2.out,⟨fun g _=>HL.out g,(Bh1 _).1⟩,Da HG2.out (Az hb24 (some B)) (.inl rfl),Stay.refl _ _,Nat.le_refl _⟩)
  have hnl:=Cg7 c2.kind
  have HLo:=hid S0.1
  clear HBB S0 hb24 HF2 HL HS2 ST2 HG2 HF HB1 HS ST
  generalize Be c2.kind=pts at *
  generalize c2.kind=kk at *
  generalize w2.drew.heap.size=lo at *
  go_wp2_with fail
  go_loopw [1,26] (fun u i wr=>∃k:Nat,k≤pts.length∧i=.int .i64 k∧Ed6 w w4 lo B c2 ws2 pts u k wr) (fun _ i _=>pts.length-(intOf i).toNat)
  case atStart=>exact ⟨0,Nat.zero_le _,rfl,F2.out⟩
  case round =>
   obtain ⟨k,hk,rfl,c,ws3,ga3,gc3,wa3,wc3,r1,r2,r3,r4,r5,r6,r7,r8⟩:=hrel
   have R1:=hid r1
   have R2:=hid r2
   have R3:=hid r3
   have R4:=hid r4
   have R5:=hid r5
   have R6:=hid r6
   have R7:=hid r7
   have R8:=hid r8
   clear r1 r2 r3 r4 r5 r6 r7 r8
   by_cases hlt:k<pts.length
   ·obtain ⟨pv2,tv2,e1,e2,hpk⟩:=HP.2.2.get k hlt
    have hblk2:=HP.2.1.stay R7.out HP.1
    have hal:Below wr.heap.size wr (wr.alloc (.cells #[pv2,tv2] 84)):=b_a _
    have ed:pts.drop k=pts[k] :: pts.drop (k+1):=(List.getElem_cons_drop hlt).symm
    obtain ⟨F2,fs2,e3,he2,hc2⟩:=Dc0 hpk (R7.trans R8.out (Stay.below hal)) HLo.out (HT.out _ (Da R6.out (Az hal (some B)) (.inl rfl))) (R2.below hal) (R3.below hal) R4.1 R4.2 (fun g e=>R5.1 g (by rw [ed,e];exact List.mem_cons_self ..))
    obtain ⟨F3,fs3,G3,gs3,e4,e5⟩:=hpk.funcs
    have d1:=(hblk2.cell (k*2)).trans (show lst.toArray[k*2]?=some pv2 by simpa [Nat.mul_comm] using e1)
    have d2:=(hblk2.cell (k*2+1)).trans (show lst.toArray[k*2+1]?=some tv2 by simpa [Nat.mul_comm] using e2)
    subst e3 e4
    have HC:=hid hc2
    have HA:=hid (Az hal (some B))
    have HS2:=hid (R7.trans R8.out (Stay.below hal))
    have HZ:=hid (Nat.le_trans R8.out hal.size)
    clear e1 e2 e5 hpk hblk2 hc2 hal ed
    cases hok:(Es c ws3 pts[k]).2.2
    ·have HO:=hid hok
     clear hok
     go_wp2_with fail
     clear d1 d2 he2
     refine HC.mono ?_
     rintro e W1 ⟨v',ga4,gc4,wa4,wc4,rfl,q1,q2,q3⟩
     have Q2:=hid q2
     have Q3:=hid (Da (Da R6.out HA.out (.inl rfl)) q3 (.inl rfl))
     clear q1 q2 q3 HC
     rw [HO.out]
     go_wp2_with fail
     go_ret
     have hr:=R1.trans (Fy0 hlt HO.out)
     rw [HE.out,hr]
     exact ⟨ga4,gc4,wa4,wc4,by rw [HO.out];rfl,Q2.out,Q3.out⟩
    ·have HO:=hid hok
     clear hok
     go_wp2_with fail
     clear d1 d2 he2
     refine HC.mono ?_
     rintro e W1 ⟨v',ga4,gc4,wa4,wc4,rfl,q1,q2,q3⟩
     have HN:=hid (Gn8 HLo.out hlt R1.out R4.out R5.out (Da R6.out HA.out (.inl rfl)) HS2.out HZ.out HO.out q1 q2 q3)
     clear q1 q2 q3 HC
     rw [HO.out]
     go_wp2_with fail
     go_roundw
     case rel=>exact ⟨k+1,by omega,by go_num,HN.out⟩
     case measure=>simp [intOf];omega
   ·have hke:k=pts.length:=by omega
    subst hke
    have hr:=R1.out
    rw [List.drop_length] at hr
    have HR:=hid (HE.trans hr)
    clear hr
    cases ws3 with
    | nil =>
      obtain ⟨s,cap,rfl⟩:=Aj3 R3.out
      go_wp2_with fail
      go_ret
      rw [HR.out]
      exact ⟨ga3,gc3,wa3,wc3,rfl,R2.out,R6.out⟩
    | cons x xs =>
      obtain ⟨⟨s,cap,rfl,_,_⟩,_⟩:=R3.out
      have hn0:(((xs.length:Nat):Int)+1==0)=false:=by rw [beq_eq_false_iff_ne];omega
      go_wp2_with fail
      go_ret
      rw [HR.out]
      exact ⟨ga3,gc3,wa3,wc3,rfl,R2.out,R6.out⟩
end
section
open Go.RowKit Go
theorem Df1 (l:List UInt8):∀x∈cuts l,x.length≤l.length:=by
 induction l with
 | nil=>simp [cuts]
 | cons c l ih =>
   rw [Uf]
   split
   ·intro x hx
    rcases List.mem_cons.1 hx with rfl|hx
    ·simp
    ·have:=ih x hx;simp;omega
   ·intro x hx
    cases hq:cuts l with
    | nil=>exact absurd hq (Ab1 l)
    | cons h t =>
      rw [hq] at hx ih
      rcases List.mem_cons.1 hx with rfl|hx
      ·have:=ih h (by simp);simp;omega
      ·have:=ih x (List.mem_cons_of_mem _ hx);simp;omega
theorem Kz {s:ByteArray} (h:s.size≤500000):fine (Aq s.data.toList):=by
 have hl:=Xq s.data.toList
 rw [Fx] at hl
 refine ⟨fun x hx=>?_,by omega⟩
 have:=Df1 s.data.toList x (List.mem_filter.1 hx).1
 rw [Fx] at this;omega
def Gets (w:World) (ws:List (List UInt8)) (e:Ending) (w':World):Prop :=
 ∃c ga gc wa wc,c=Ng ws∧e=.returned (.tuple #[.agg (cC c ga gc wa wc),.int .i64 (if La ws then 0 else 2)])∧Ae w' ga c.gives∧Ae w' wa c.wants∧Below w.heap.size w w'
def Bp:Array Value:=#[.int .i64 0,.int .i64 0,.int .i64 0,.int .i64 0,.int .i64 0,.slice none 0 0,.int .i64 0,.slice none 0 0,.int .i64 0]
def Ce6 (w wr:World):Prop:=Below w.heap.size w wr∧w.heap.size+2≤wr.heap.size∧Blk wr w.heap.size 25 Bp
theorem Ce6.start (w:World):Ce6 w ((w.alloc (.cells Bp 25)).alloc (.cells Bp 25))∧TSt ((w.alloc (.cells Bp 25)).alloc (.cells Bp 25)) (w.heap.size+1) Dh none 0 none 0 :=
 ⟨⟨(b_a _).alloc (by simp) _,by simp,(Blk.new _ _ _).alloc _⟩,
   ⟨Blk.newn _ _ _ (by simp),Ae.nil _ _,Ae.nil _ _,fun _=>⟨rfl,rfl⟩,fun _=>⟨rfl,rfl⟩,.inl rfl,.inl rfl⟩⟩
theorem Ce6.below {w wr w':World} (h:Ce6 w wr) (hb:Below wr.heap.size wr w'):Ce6 w w':=⟨bl h.1 hb,Nat.le_trans h.2.1 hb.size,h.2.2.call hb⟩
theorem Ce6.grown {w wr w':World} (h:Ce6 w wr) (hg:wr.grownBy w' (some (w.heap.size+1))):Ce6 w w' :=
 ⟨h.1.grown hg (by have:=h.2.1;omega) (fun k e=>by have:=Option.some.inj e;omega),Nat.le_trans h.2.1 hg.size,h.2.2.grow hg (by intro e;have:=Option.some.inj e;omega)⟩
theorem fin9 {W:World} {n:Nat} (h:Blk W n 25 Bp) (v0 v1 v2 v3 v4 v5 v6 v7 v8:Value) {W':World}
 (hW:W'=(((((((((W.setCell ⟨n,0,none⟩ v0).setCell ⟨n,1,none⟩ v1).setCell ⟨n,2,none⟩ v2).setCell ⟨n,3,none⟩ v3).setCell ⟨n,4,none⟩ v4).setCell ⟨n,5,none⟩ v5).setCell ⟨n,6,none⟩ v6).setCell ⟨n,7,none⟩ v7).setCell ⟨n,8,none⟩ v8)) :
 Blk W' n 25 #[v0,v1,v2,v3,v4,v5,v6,v7,v8]∧W.grownBy W' (some n):=by
 subst hW
 refine ⟨by simpa [Bp] using ((((((((h.set_ 0 v0).set_ 1 v1).set_ 2 v2).set_ 3 v3).set_ 4 v4).set_ 5 v5).set_ 6 v6).set_ 7 v7).set_ 8 v8,?_⟩
 exact Da (Da (Da (Da (Da (Da (Da (Da (lgrown_set _ _ _) (lgrown_set _ _ _) (.inl rfl)) (lgrown_set _ _ _) (.inl rfl)) (lgrown_set _ _ _) (.inl rfl)) (lgrown_set _ _ _) (.inl rfl)) (lgrown_set _ _ _) (.inl rfl)) (lgrown_set _ _ _) (.inl rfl)) (lgrown_set _ _ _) (.inl rfl)) (lgrown_set _ _ _) (.inl rfl)
theorem Ag7 (s:ByteArray) (w:World) (hs:s.size≤500000) (ht:Tabs w):Calls prog 31 #[.string s] w (Gets w (Aq s.data.toList)):=by
 have HS:=hid hs
 have HT:=hid ht
 have HW:=hid (Kz hs)
 clear hs ht
 obtain ⟨p0,t0⟩:=Ce6.start w
 have P0:=hid p0
 have T0:=hid t0
 clear p0 t0
 unfold Bp at P0 T0
 have hCC:=@cC.eq_1
 go_enter func31,ntmps31
 go_wp2_with fail
 refine (Ec9 s _ (by have:=HS.out;omega)).mono ?_
 rintro e w1 ⟨v,rfl,hv,b1⟩
 have P1:=hid (P0.below b1)
 have T1:=hid (T0.below b1)
 have V1:=hid hv
 clear b1 hv P0 T0
 generalize Aq s.data.toList=ws at *
 go_wp2_with fail
 refine (lread_any _ v ws _ (fun W' hg=>HT.below ((P1.grown hg).1) lr0) T1.out V1.out HW.out).mono ?_
 rintro e w2 ⟨ga,gc,wa,wc,rfl,t2,hg⟩
 have P2:=hid (P1.grown hg)
 have T2:=hid t2
 clear t2 hg P1 T1 V1
 have hres:=P2.2.2.cell
 have hfr:=P2.2.2.frozen
 unfold Bp at hres
 cases hb:Ej5 ws
 ·have HB:=hid hb
  have hq:((Vx ws).2.2&&decide ((Vx ws).2.1=[]))=false:=hb
  have HQ:=hid hq
  rw [HQ.out]
  clear hb hq
  go_wp2_with fail
  generalize hW:((((((((w2.setCell ⟨w.heap.size,0,none⟩ _).setCell ⟨w.heap.size,1,none⟩ _).setCell ⟨w.heap.size,2,none⟩ _).setCell ⟨w.heap.size,3,none⟩ _).setCell ⟨w.heap.size,4,none⟩ _).setCell ⟨w.heap.size,5,none⟩ _).setCell ⟨w.heap.size,6,none⟩ _).setCell ⟨w.heap.size,7,none⟩ _).setCell ⟨w.heap.size,8,none⟩ _=W'
  obtain ⟨k1,k2⟩:=fin9 P2.2.2 _ _ _ _ _ _ _ _ _ hW.symm
  have hc:=k1.cell
  have hcb:La ws=false:=by unfold La;rw [HB.out];rfl
  have hcc:Ng ws=Dh:=by unfold Ng;rw [hcb];rfl
  refine bodyPost_ret (v:=.tuple #[.agg #[.int .i64 0,.int .i64 0,.int .i64 0,.int .i64 0,.int .i64 0,.slice none 0 0,.int .i64 0,.slice none 0 0,.int .i64 0],.int .i64 2]) (by simp [results,results31,go_sem,hc]) rfl ?_
  exact ⟨Dh,none,0,none,0,hcc.symm,by rw [hcb];rfl,Ae.nil _ _,Ae.nil _ _,P2.1.grown k2 (by have:=P2.2.1;omega) (fun k e=>by have:=Option.some.inj e;omega)⟩
 ·have HB:=hid hb
  have hq:((Vx ws).2.2&&decide ((Vx ws).2.1=[]))=true:=hb
  have HQ:=hid hq
  rw [HQ.out]
  clear hb hq
  have HX:=hid (show La ws=mayB (Vx ws).1∧Ng ws=if mayB (Vx ws).1 then (Vx ws).1 else Dh by
   have:La ws=mayB (Vx ws).1:=by unfold La;rw [HB.out];rfl
   exact ⟨this,by unfold Ng;rw [this]⟩)
  clear HB HQ HW HS
  generalize (Vx ws).1=c at *
  have hcc:=T2.blk.cell
  go_wp2_with fail
  refine (Ha c ga wa gc wc _ T2.gi T2.wi).mono ?_
  rintro e w3 ⟨rfl,b3⟩
  have P3:=hid (P2.below b3)
  have T3:=hid (T2.below b3)
  clear b3 hcc hres hfr P2 T2
  have hres:=P3.2.2.cell
  have hfr:=P3.2.2.frozen
  have hcc:=T3.blk.cell
  unfold Bp at hres
  cases hm:mayB c
  ·have HM:=hid hm
   clear hm
   go_wp2_with fail
   generalize hW:((((((((w3.setCell ⟨w.heap.size,0,none⟩ _).setCell ⟨w.heap.size,1,none⟩ _).setCell ⟨w.heap.size,2,none⟩ _).setCell ⟨w.heap.size,3,none⟩ _).setCell ⟨w.heap.size,4,none⟩ _).setCell ⟨w.heap.size,5,none⟩ _).setCell ⟨w.heap.size,6,none⟩ _).setCell ⟨w.heap.size,7,none⟩ _).setCell ⟨w.heap.size,8,none⟩ _=W'
   obtain ⟨k1,k2⟩:=fin9 P3.2.2 _ _ _ _ _ _ _ _ _ hW.symm
   have hc:=k1.cell
   have hcb:La ws=false:=by rw [HX.1,HM.out]
   have hcz:Ng ws=Dh:=by rw [HX.2,HM.out];rfl
   refine bodyPost_ret (v:=.tuple #[.agg #[.int .i64 0,.int .i64 0,.int .i64 0,.int .i64 0,.int .i64 0,.slice none 0 0,.int .i64 0,.slice none 0 0,.int .i64 0],.int .i64 2]) (by simp [results,results31,go_sem,hc]) rfl ?_
   exact ⟨Dh,none,0,none,0,hcz.symm,by rw [hcb];rfl,Ae.nil _ _,Ae.nil _ _,P3.1.grown k2 (by have:=P3.2.1;omega) (fun k e=>by have:=Option.some.inj e;omega)⟩
  ·have HM:=hid hm
   clear hm
   go_wp2_with fail
   generalize hW:((((((((w3.setCell ⟨w.heap.size,0,none⟩ _).setCell ⟨w.heap.size,1,none⟩ _).setCell ⟨w.heap.size,2,none⟩ _).setCell ⟨w.heap.size,3,none⟩ _).setCell ⟨w.heap.size,4,none⟩ _).setCell ⟨w.heap.size,5,none⟩ _).setCell ⟨w.heap.size,6,none⟩ _).setCell ⟨w.heap.size,7,none⟩ _).setCell ⟨w.heap.size,8,none⟩ _=W'
   obtain ⟨k1,k2⟩:=fin9 P3.2.2 _ _ _ _ _ _ _ _ _ hW.symm
   have hc:=k1.cell
   have hcb:La ws=true:=by rw [HX.1,HM.out]
   have hcz:Ng ws=c:=by rw [HX.2,HM.out];rfl
   refine bodyPost_ret (v:=.tuple #[.agg (cC c ga gc wa wc),.int .i64 0]) (by simp [results,results31,go_sem,hc]) rfl ?_
   exact ⟨c,ga,gc,wa,wc,hcz.symm,by rw [hcb];rfl,T3.gi.grown (v:=bv w.heap.size) k2 (T3.go.off (by omega)),T3.wi.grown (v:=bv w.heap.size) k2 (T3.wo.off (by omega)),P3.1.grown k2 (by have:=P3.2.1;omega) (fun k e=>by have:=Option.some.inj e;omega)⟩
end
end Go.Proofs.YtaeclpjofclbeaaDoor
