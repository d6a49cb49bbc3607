/- atom.All: commands, one behind the other, and their answers. -/
import Derived.Test.YtnhkojpbbdaedaaGreatAtomMath2
import Derived.Test.YtnhkojpbbdaedaaGreatAtomB
import Derived.Test.YtnhkojpbbdaedaaGreatAtomArg
import Derived.Deep.MidRow
namespace Go.Proofs.YtnhkojpbbdaedaaGreat
open Go.ChangeShapes Go.WideShapes Go.ChangeAt Go.RowKit
set_option linter.unusedVariables false
open Go.RowKit
def stW (x:Wd) (ls:List Cl):Nat→Wd
 | 0=>x
 | k+1=>match ls[k]? with
   | some l=>(doW (stW x ls k) l.player.toNat l.c).1
   | none=>stW x ls k
def ansW (x:Wd) (ls:List Cl):Nat→List Rp
 | 0=>[]
 | k+1=>match ls[k]? with
   | some l=>ansW x ls k++[(doW (stW x ls k) l.player.toNat l.c).2]
   | none=>ansW x ls k
theorem Aj4 {x:Wd} {ls:List Cl} {k:Nat} (h:k<ls.length):stW x ls (k+1)=(doW (stW x ls k) ls[k].player.toNat ls[k].c).1:=by simp [stW,List.getElem?_eq_getElem h]
theorem Cj2 {x:Wd} {ls:List Cl} {k:Nat} (h:k<ls.length):ansW x ls (k+1)=ansW x ls k++[(doW (stW x ls k) ls[k].player.toNat ls[k].c).2]:=by simp [ansW,List.getElem?_eq_getElem h]
def Al4 (x:Wd) (ls:List Cl):Prop:=∀l∈ls,∃i:Nat,l.player=i∧i<x.at_.length
theorem Yp (x:Wd) (ls:List Cl):∀k,Am x (stW x ls k)
 | 0=>Am.refl x
 | k+1=>by
   have ih:=Yp x ls k
   by_cases h:k<ls.length
   ·rw [Aj4 h];exact ih.trans' (Rh _ _ _)
   ·simp [stW,List.getElem?_eq_none (Nat.le_of_not_lt h)];exact ih
theorem Bd4 {x:Wd} (hx:Ai x=true) {ls:List Cl} (hp:Al4 x ls):∀k,Ai (stW x ls k)=true
 | 0=>hx
 | k+1=>by
   have ih:=Bd4 hx hp k
   by_cases h:k<ls.length
   ·rw [Aj4 h]
    obtain ⟨i,e,hi⟩:=hp _ (List.getElem_mem h)
    rw [e]
    exact Sq ih (by have:=(Yp x ls k).at_;omega) _
   ·simp [stW,List.getElem?_eq_none (Nat.le_of_not_lt h)];exact ih
structure Rl where
 r:Rp
 pa:Option Addr
 pc:Nat
 ia:Option Addr
 ic:Nat
def rlC (l:Rl):List Value:=[.int .i64 l.r.err,.int .i64 l.r.kind,.int .i64 l.r.room,.slice l.pa l.r.players.length l.pc,.slice l.ia l.r.items.length l.ic,.int .i64 l.r.coins]
structure RowR (n:Nat) (W:World) (b N:Nat) (rs:List Rl):Prop where
 blk:∃cs,Blk W b 38 cs∧cs.size=N*6∧∀j (hj:j<rs.length) t,t<6→cs[j*6+t]?=(rlC rs[j])[t]?
 own:∀l∈rs,NewR n W l.pa l.ia l.r
theorem RowR.call {n:Nat} {W W':World} {b N:Nat} {rs:List Rl} (h:RowR n W b N rs) (hb:Below W.heap.size W W'):RowR n W' b N rs:=by
 obtain ⟨⟨cs,h1,h2,h3⟩,h4⟩:=h
 exact ⟨⟨cs,h1.call hb,h2,h3⟩,fun l hl=>(h4 l hl).call hb⟩
theorem RowR.set {n:Nat} {W:World} {b N:Nat} {rs:List Rl} (h:RowR n W b N rs) {q:Nat} (hq:q<n) (hqb:b≠q) (i:Nat) (u:Value):RowR n (W.setCell ⟨q,i,none⟩ u) b N rs:=by
 obtain ⟨⟨cs,h1,h2,h3⟩,h4⟩:=h
 exact ⟨⟨cs,h1.far hqb _,h2,h3⟩,fun l hl=>(h4 l hl).set hq i u⟩
theorem RowR.lt {n:Nat} {W:World} {b N:Nat} {rs:List Rl} (h:RowR n W b N rs):b<W.heap.size:=by obtain ⟨⟨cs,h1,_⟩,_⟩:=h;exact h1.lt
theorem RowR.frozen {n:Nat} {W:World} {b N:Nat} {rs:List Rl} (h:RowR n W b N rs) (i:Nat):W.frozen? ⟨b,i,none⟩=false:=by obtain ⟨⟨cs,h1,_⟩,_⟩:=h;exact h1.frozen i
theorem RowR.spot {n:Nat} {W:World} {b N:Nat} {rs:List Rl} (h:RowR n W b N rs) {k t:Nat} (hk:k<N) (ht:t<6):∃v,W.cell? ⟨b,k*6+t,none⟩=some v:=by
 obtain ⟨⟨cs,h1,h2,_⟩,_⟩:=h
 rw [h1.cell]
 exact ⟨cs[k*6+t]'(by omega),Array.getElem?_eq_getElem (by omega)⟩
theorem RowR.there {n:Nat} {W:World} {b N:Nat} {rs:List Rl} (h:RowR n W b N rs) {k:Nat} (hk:k<N):W.there b (k*6) 6:=fun t ht=>⟨by obtain ⟨v,e⟩:=h.spot hk ht;rw [e];rfl,h.frozen _⟩
theorem RowR.put {n:Nat} {W:World} {b N:Nat} {rs:List Rl} (h:RowR n W b N rs) {k:Nat} (hk:rs.length=k) (hN:k<N) (hb:b<n) (l:Rl) (hl:NewR n W l.pa l.ia l.r) :
 RowR n ((((((W.setCell ⟨b,k*6,none⟩ (.int .i64 l.r.err)).setCell ⟨b,k*6+1,none⟩ (.int .i64 l.r.kind)).setCell ⟨b,k*6+2,none⟩ (.int .i64 l.r.room)).setCell ⟨b,k*6+3,none⟩ (.slice l.pa l.r.players.length l.pc)).setCell ⟨b,k*6+4,none⟩ (.slice l.ia l.r.items.length l.ic)).setCell ⟨b,k*6+5,none⟩ (.int .i64 l.r.coins)) b N (rs++[l]):=by
 obtain ⟨⟨cs,h1,h2,h3⟩,h4⟩:=h
 refine ⟨⟨_,((((((h1.set_ (k*6) _).set_ (k*6+1) _).set_ (k*6+2) _).set_ (k*6+3) _).set_ (k*6+4) _).set_ (k*6+5) _),by simp [h2],fun j hj t ht=>?_⟩,fun l' hl'=>?_⟩
 ·simp only [List.length_append,List.length_singleton] at hj
  by_cases hjk:j<rs.length
  ·rw [List.getElem_append_left hjk,←h3 j hjk t ht]
   repeat rw [Array.getElem?_setIfInBounds_ne (by omega)]
  ·obtain rfl:j=k:=by omega
   rw [List.getElem_append_right (by omega)]
   simp only [hk,Nat.sub_self,List.getElem_singleton]
   obtain rfl|rfl|rfl|rfl|rfl|rfl:t=0∨t=1∨t=2∨t=3∨t=4∨t=5:=by omega
   all_goals simp [rlC,Array.getElem?_setIfInBounds,h2]
   all_goals omega
 ·rcases List.mem_append.1 hl' with hm|hm
  ·have:=h4 l' hm
   iterate 6 refine NewR.set ?_ hb _ _
   exact this
  ·obtain rfl:l'=l:=by simpa using hm
   iterate 6 refine NewR.set ?_ hb _ _
   exact hl
theorem Da0:(Tryz.prog.info? 38).map (fun i=>(i.zero,i.size,i.bytes))=some (some (.agg #[.int .i64 0,.int .i64 0,.int .i64 0,.slice none 0 0,.slice none 0 0,.int .i64 0]),6,80):=by kernel_rfl
theorem Ay4 {P:Program} {c:Code} {K:Exit→Act→World→Prop} {a:Act} {W:World} (F:World→Prop) (hF:F W) (h:∀V,F V→Code.wp P c K a V):Code.wp P c K a W:=h W hF
theorem Pw {x y:Wd} (hs:Am x y) (p:Wp) (i:Nat) (c:Cm) (ga wa:Option Addr) (gc wc:Nat) (w:World) (hy:Ai y=true) (h:Ab w p y) (hi:i<y.at_.length) (hg:Ae w ga c.gives) (hw:Ae w wa c.wants) {R:Wd × Rp} (hR:doW y i c=R) :
 Calls Tryz.prog 9 #[.agg (wC x p),.int .i64 (i:Int),.agg (cC c ga gc wa wc)] w fun e w'=>∃(q:Wp) (qa ia:Option Addr) (qc ic:Nat),e=.returned (.tuple #[.agg (wC x q),.agg #[.int .i64 R.2.err,.int .i64 R.2.kind,.int .i64 R.2.room,.slice qa R.2.players.length qc,.slice ia R.2.items.length ic,.int .i64 R.2.coins]])∧Did w.heap.size w' p q y qa ia R∧Below w.heap.size w w':=by
 have:=Ed3 y p i c ga wa gc wc w hy h hi hg hw
 rw [hs.val,hR] at this
 refine this.mono fun e w' ⟨q,qa,ia,qc,ic,he,hd,hb⟩=>⟨q,qa,ia,qc,ic,by rw [←hs.val];exact he,hd,hb⟩
theorem Bs5 {W:World} {b o:Nat} {l:Cl} (h:∀t,t<18→W.cell? ⟨b,o+t,none⟩=(clC l)[t]?):W.rangeAt b o (clC l):=fun t v hv=>by
 have ht:t<18:=by
  have:=(List.getElem?_eq_some_iff.1 hv).1
  rwa [Cu6] at this
 rw [h t ht,hv]
theorem RowR.new (n N:Nat) (W:World) {b:Nat} (hb:W.heap.size=b):RowR n (W.alloc (.cells (madeCells #[.int .i64 0,.int .i64 0,.int .i64 0,.slice none 0 0,.slice none 0 0,.int .i64 0] (N*6)) 38)) b N [] :=
 ⟨⟨_,Blk.newn W _ _ hb,by simp [size_madeCells],fun j hj=>by simp at hj⟩,fun l hl=>by simp at hl⟩
structure Od (x:Wd) (p:Wp) (ls:List Cl) (w W:World) (k:Nat) (q:Wp) (rs:List Rl):Prop where
 a:Blk W w.heap.size 29 (wC x q)
 r:Blk W (w.heap.size+1) 29 zC
 row:RowR (w.heap.size+3) W (w.heap.size+2) ls.length rs
 len:rs.length=k
 ans:rs.map (·.r)=ansW x ls k
 own:(stW x ls k=x∧q=p)∨Ao (w.heap.size+3) W q (stW x ls k)
 b:Below w.heap.size w W
theorem Od.call {x:Wd} {p:Wp} {ls:List Cl} {w W W':World} {k:Nat} {q:Wp} {rs:List Rl} (h:Od x p ls w W k q rs) (hb:Below W.heap.size W W'):Od x p ls w W' k q rs :=
 ⟨h.a.call hb,h.r.call hb,h.row.call hb,h.len,h.ans,h.own.imp id (fun h=>h.call hb),bl h.b hb⟩
theorem Od.world {x:Wd} {p:Wp} {ls:List Cl} {w W:World} {k:Nat} {q:Wp} {rs:List Rl} (h:Od x p ls w W k q rs) (hw:Ab w p x):Ab W q (stW x ls k):=by
 rcases h.own with ⟨h1,h2⟩|h2
 ·rw [h1,h2];exact hw.below h.b (Nat.le_refl _)
 ·exact h2.world
structure AllP (x:Wd) (p:Wp) (ls:List Cl) (w W:World) (k:Nat) (q:Wp) (rs:List Rl) (R:Wd × Rp) (qa ia:Option Addr):Prop where
 a:Blk W w.heap.size 29 (wC x q)
 r:Blk W (w.heap.size+1) 29 zC
 row:RowR (w.heap.size+3) W (w.heap.size+2) ls.length rs
 len:rs.length=k
 ans:rs.map (·.r)=ansW x ls k
 own:(R.1=x∧q=p)∨Ao (w.heap.size+3) W q R.1
 new:NewR (w.heap.size+3) W qa ia R.2
 b:Below w.heap.size w W
theorem Bi8 {P:Program} {ops:Array Oper} {l:List Oper} {Q:Exit→Act→World→Prop} {a:Act} {W:World} (F:World→Prop) (hF:F W) (h:∀V,F V→wpList P ops Q l a V):wpList P ops Q l a W:=h W hF
theorem Dg5 {x:Wd} {p:Wp} {ls:List Cl} {w W:World} {k:Nat} {q q2:Wp} {rs:List Rl} {R:Wd × Rp} {qa ia:Option Addr} (h:Od x p ls w W k q rs) (hd:Did (w.heap.size+3) W q q2 (stW x ls k) qa ia R) :
 AllP x p ls w (((((((((((W.setCell ⟨w.heap.size,0,none⟩ (.slice q2.d.ex x.d.exits.length q2.d.exc)).setCell ⟨w.heap.size,1,none⟩ (.slice q2.d.pl x.d.players.length q2.d.plc)).setCell ⟨w.heap.size,2,none⟩ (.slice q2.d.co x.d.coins.length q2.d.coc)).setCell ⟨w.heap.size,3,none⟩ (.slice q2.d.it x.d.items.length q2.d.itc)).setCell ⟨w.heap.size,4,none⟩ (.slice q2.d.bo x.d.boxes.length q2.d.boc)).setCell ⟨w.heap.size,5,none⟩ (.int .i64 x.d.room)).setCell ⟨w.heap.size,6,none⟩ (.int .i64 x.d.player)).setCell ⟨w.heap.size,7,none⟩ (.int .i64 x.d.box)).setCell ⟨w.heap.size,8,none⟩ (.slice q2.at_ x.at_.length q2.atc)).setCell ⟨w.heap.size,9,none⟩ (.slice q2.co x.coins.length q2.coc)).setCell ⟨w.heap.size,10,none⟩ (.slice q2.wh x.wher.length q2.whc)) k q2 rs R qa ia:=by
 refine ⟨Fq h.a,?_,?_,h.len,h.ans,?_,?_,?_⟩
 ·iterate 11 refine Blk.far ?_ (by show w.heap.size+1≠w.heap.size;omega) _
  exact h.r
 ·iterate 11 refine RowR.set ?_ (by omega) (by omega) _ _
  exact h.row
 ·rcases hd.1 with ⟨e1,e2⟩|ho
  ·rcases h.own with ⟨e3,e4⟩|ho
   ·exact .inl ⟨e1.trans e3,e2.trans e4⟩
   ·refine .inr ?_
    rw [e1,e2]
    iterate 11 refine Ao.set ?_ (by omega) _ _
    exact ho
  ·refine .inr ?_
   iterate 11 refine Ao.set ?_ (by omega) _ _
   exact ho
 ·iterate 11 refine NewR.set ?_ (by omega) _ _
  exact hd.2
 ·iterate 11 refine Below.setCell ?_ (by show w.heap.size≤w.heap.size;omega) _
  exact h.b
theorem Dg6 {x:Wd} {p:Wp} {ls:List Cl} {w V:World} {k:Nat} {q:Wp} {rs:List Rl} {R:Wd × Rp} {qa ia:Option Addr} (h:AllP x p ls w V k q rs R qa ia) (hk:k<ls.length) (qc ic:Nat) (h1:stW x ls (k+1)=R.1) (h2:ansW x ls (k+1)=ansW x ls k++[R.2]) :
 Od x p ls w (V.setCells (w.heap.size+2) (k*6) [.int .i64 R.2.err,.int .i64 R.2.kind,.int .i64 R.2.room,.slice qa R.2.players.length qc,.slice ia R.2.items.length ic,.int .i64 R.2.coins]) (k+1) q (rs++[⟨R.2,qa,qc,ia,ic⟩]):=by
 show Od x p ls w ((((((V.setCell ⟨w.heap.size+2,k*6,none⟩ (.int .i64 R.2.err)).setCell ⟨w.heap.size+2,k*6+1,none⟩ (.int .i64 R.2.kind)).setCell ⟨w.heap.size+2,k*6+2,none⟩ (.int .i64 R.2.room)).setCell ⟨w.heap.size+2,k*6+3,none⟩ (.slice qa R.2.players.length qc)).setCell ⟨w.heap.size+2,k*6+4,none⟩ (.slice ia R.2.items.length ic)).setCell ⟨w.heap.size+2,k*6+5,none⟩ (.int .i64 R.2.coins)) (k+1) q (rs++[⟨R.2,qa,qc,ia,ic⟩])
 refine ⟨?_,?_,RowR.put h.row h.len hk (by omega) ⟨R.2,qa,qc,ia,ic⟩ h.new,?_,?_,?_,?_⟩
 ·iterate 6 refine Blk.far ?_ (by show w.heap.size≠w.heap.size+2;omega) _
  exact h.a
 ·iterate 6 refine Blk.far ?_ (by show w.heap.size+1≠w.heap.size+2;omega) _
  exact h.r
 ·rw [List.length_append,h.len];rfl
 ·rw [List.map_append,h.ans,h2];rfl
 ·rw [h1]
  refine h.own.imp id (fun ho=>?_)
  iterate 6 refine Ao.set ?_ (by omega) _ _
  exact ho
 ·iterate 6 refine bs_2 ?_
  exact h.b
end Go.Proofs.YtnhkojpbbdaedaaGreat
