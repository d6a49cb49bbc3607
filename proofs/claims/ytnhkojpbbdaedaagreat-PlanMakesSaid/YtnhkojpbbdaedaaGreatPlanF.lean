/- The document's own From: the changes from a world to another one; Same: lists of changes held against one another. -/
import Derived.Test.YtnhkojpbbdaedaaGreatPlanA
namespace Go.Proofs.YtnhkojpbbdaedaaGreat
open Go.ChangeShapes Go.WideShapes Go.ChangeAt Go.RowKit
open Lib (hid)
set_option linter.unusedVariables false
open Go.RowKit
theorem run_wrne (a b:Wr) (w:World):(binOp .neq 50 (.agg #[.int .i64 a.kind,.int .i64 a.id,.int .i64 a.num,.int .i64 a.pl.kind,.int .i64 a.pl.id]) (.agg #[.int .i64 b.kind,.int .i64 b.id,.int .i64 b.num,.int .i64 b.pl.kind,.int .i64 b.pl.id])).run Tryz.prog w=.ok (.bool (!decide (a=b))) w:=by
 obtain ⟨a1,a2,a3,⟨a4,a5⟩⟩:=a
 obtain ⟨b1,b2,b3,⟨b4,b5⟩⟩:=b
 by_cases e1:a1=b1
 ·by_cases e2:a2=b2
  ·by_cases e3:a3=b3
   ·by_cases e4:a4=b4
    ·by_cases e5:a5=b5
     ·subst e1 e2 e3 e4 e5;go_simp
     ·go_simp
    ·go_simp
   ·go_simp
  ·go_simp
 ·go_simp
theorem wcell_call {W W1:World} {p:Addr} {v:Value} (h:W.cell? p=some v) (hp:p.block<W.heap.size) (hb:Below W.heap.size W W1):W1.cell? p=some v:=(hb.cell hp).trans h
theorem take_eq_succW {xs ys:List Wr} {k:Nat} (hx:k<xs.length) (hy:k<ys.length) (h:xs.take k=ys.take k) (e:xs[k]=ys[k]):xs.take (k+1)=ys.take (k+1):=by
 rw [List.take_succ_eq_append_getElem hx,List.take_succ_eq_append_getElem hy,h,e]
set_option maxRecDepth 100000 in
set_option maxHeartbeats 400000 in
theorem wrsame_any (a b:Option Addr) (ca cb:Nat) (xs ys:List Wr) (w:World) (h1:WrsAt w a xs) (h2:WrsAt w b ys) :
 Calls Tryz.prog 13 #[.slice a xs.length ca,.slice b ys.length cb] w fun e w'=>e=.returned (.bool (decide (xs=ys)))∧Below w.heap.size w w':=by
 have hm:=h1.len
 have hm2:=h2.len
 by_cases hl:xs.length=ys.length
 ·have HL:=hid hl
  have H1:=hid h1
  have H2:=hid h2
  have hq:((xs.length:Int) != (ys.length:Int))=false:=by simp;omega
  clear h1 h2 hl
  have hWC:=@wC.eq_1
  go_enter Tryz.func13,Tryz.ntmps13
  go_wp2_with fail
  go_loopw [5] (fun i wr=>∃k:Nat,k≤xs.length∧i=.int .i64 k∧xs.take k=ys.take k∧Below w.heap.size w wr) (fun i _=>xs.length-(intOf i).toNat)
  case atStart=>exact ⟨0,Nat.zero_le _,rfl,rfl,Below.refl _ _⟩
  case round =>
   obtain ⟨k,hk,rfl,htk,hbel⟩:=hrel
   have HT:=hid htk
   clear htk
   by_cases hlt:k<xs.length
   ·have hy:k<ys.length:=by have:=HL.out;omega
    obtain ⟨xb,xo,rfl,hxb,hx0,hx1,hx2,hx3,hx4⟩:=WrsAt.cells H1.out hlt
    obtain ⟨yb,yo,rfl,hyb,hy0,hy1,hy2,hy3,hy4⟩:=WrsAt.cells H2.out hy
    have c0:=wcell_call hx0 hxb hbel
    have c1:=wcell_call hx1 hxb hbel
    have c2:=wcell_call hx2 hxb hbel
    have c3:=wcell_call hx3 hxb hbel
    have c4:=wcell_call hx4 hxb hbel
    have g0:=wcell_call hy0 hyb hbel
    have g1:=wcell_call hy1 hyb hbel
    have g2:=wcell_call hy2 hyb hbel
    have g3:=wcell_call hy3 hyb hbel
    have g4:=wcell_call hy4 hyb hbel
    clear hx0 hx1 hx2 hx3 hx4 hy0 hy1 hy2 hy3 hy4 H1 H2
    have HX:=hid (take_eq_succW hlt hy HT.out)
    have HN:=hid (show ¬xs[k]=ys[k]→¬xs=ys from fun h e=>by subst e;exact h rfl)
    generalize hx:xs[k]=x at *
    generalize hyy:ys[k]=y at *
    clear hx hyy
    have hrun:=run_wrne x y
    have HB:=hid hbel
    clear hbel
    by_cases he:x=y
    ·have HX2:=hid (HX.out he)
     simp only [he,decide_true,Bool.not_true] at hrun
     subst he
     clear HX HN
     go_wp2_with fail
     go_quiet (fail)
     go_wp2_with fail
     go_roundw
     case rel=>exact ⟨k+1,by omega,by go_num,HX2.out,Ib HB.out _⟩
     case measure=>simp [intOf];omega
    ·have HD:=hid (show decide (xs=ys)=false by simpa using HN.out he)
     simp only [he,decide_false,Bool.not_false] at hrun
     clear he HX HN
     go_wp2_with fail
     go_quiet (fail)
     go_wp2_with fail
     go_ret
     exact ⟨Ag HD.out.symm,Ib HB.out _⟩
   ·have hke:k=xs.length:=by omega
    subst hke
    have HD:=hid (show decide (xs=ys)=true by
     have:=HT.out
     rw [List.take_of_length_le (Nat.le_refl _),HL.out,List.take_of_length_le (Nat.le_refl _)] at this
     simpa using this)
    clear H1 H2
    go_wp2_with fail
    go_ret
    exact ⟨Ag HD.out.symm,hbel⟩
 ·have HD:=hid (show decide (xs=ys)=false by rw [decide_eq_false_iff_not];intro e;exact hl (by rw [e]))
  have hq:((xs.length:Int) != (ys.length:Int))=true:=by simp;omega
  clear h1 h2 hl
  have hWC:=@wC.eq_1
  go_enter Tryz.func13,Tryz.ntmps13
  go_wp2_with fail
  go_ret
  exact ⟨Ag HD.out.symm,Below.refl _ _⟩
theorem from_lenA (x y:Wd) (n:Nat):(Fa7 x y n).length≤n:=by unfold Fa7;rw [List.length_map];exact Nat.le_trans (List.length_filter_le _ _) (by simp)
theorem from_lenC (x y:Wd) (n:Nat):(Eq3 x y n).length≤n:=by unfold Eq3;rw [List.length_map];exact Nat.le_trans (List.length_filter_le _ _) (by simp)
theorem from_lenW (x y:Wd) (n:Nat):(Eq2 x y n).length≤n:=by unfold Eq2;rw [List.length_map];exact Nat.le_trans (List.length_filter_le _ _) (by simp)
theorem Dt.less2 {α:Type} {k n m:Nat} {e:TypeId} {enc:α→List Value} {W:World} {v:Value} {xs:List α} (h:Dt k e enc n W v xs) (hm:m≤n):Dt k e enc m W v xs:=by
 obtain ⟨h1,h2⟩:=h
 refine ⟨h1,h2.imp id ?_⟩
 rintro ⟨g,c,cur,e1,hg,r⟩
 exact ⟨g,c,cur,e1,Nat.le_trans hm hg,r⟩
structure Fr (w:World) (x y:Wd) (p q:Wp) (v:Value) (L:List Wr) (W:World):Prop where
 t:Two 29 29 w W (wC x p) (wC y q)
 g:Dt 5 50 wrC (w.heap.size+2) W v L
theorem Fr.drew {w:World} {x y:Wd} {p q:Wp} {v:Value} {L:List Wr} {W:World} (h:Fr w x y p q v L W) (n:Nat):Fr w x y p q v L (W.drewN n) :=
 ⟨h.t.call (Ib (Below.refl _ _) n),h.g.call (Ib (Below.refl _ _) n)⟩
theorem Fr.put {w:World} {x y:Wd} {p q:Wp} {v v2:Value} {L L2:List Wr} {W W2:World} (h:Fr w x y p q v L W) (hg:W.grownBy W2 v.ownBlock) (h2:Dt 5 50 wrC (w.heap.size+2) W2 v2 L2):Fr w x y p q v2 L2 W2 :=
 ⟨⟨h.t.a.grown hg (fun e=>h.g.apart (g:=w.heap.size) (by omega) e.symm),h.t.r.grown hg (fun e=>h.g.apart (g:=w.heap.size+1) (by omega) e.symm),h.g.below h.t.b hg (by omega)⟩,h2⟩
end Go.Proofs.YtnhkojpbbdaedaaGreat
