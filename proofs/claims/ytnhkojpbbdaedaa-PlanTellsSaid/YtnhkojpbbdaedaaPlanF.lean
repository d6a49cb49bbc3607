/- The document's own From: the changes from a world to another one; Same: lists of changes held against one another. -/
import Derived.Test.YtnhkojpbbdaedaaPlanA
namespace Go.Proofs.Ytnhkojpbbdaedaa
open Go.ChangeShapes Go.WideShapes Go.ChangeAt Go.RowKit Go.Proofs.Try
open Lib (hid)
set_option linter.unusedVariables false
set_option maxHeartbeats 1000000
set_option maxRecDepth 100000
open Go.RowKit
theorem run_wrne (a b:Wr) (w:World):(binOp .neq 39 (.agg #[.int .i64 a.kind,.int .i64 a.id,.int .i64 a.num,.int .i64 a.pl.kind,.int .i64 a.pl.id]) (.agg #[.int .i64 b.kind,.int .i64 b.id,.int .i64 b.num,.int .i64 b.pl.kind,.int .i64 b.pl.id])).run prog w=.ok (.bool (!decide (a=b))) w:=by
 obtain ⟨a1,a2,a3,⟨a4,a5⟩⟩:=a
 obtain ⟨b1,b2,b3,⟨b4,b5⟩⟩:=b
 by_cases e1:a1=b1
 ·by_cases e2:a2=b2
  ·by_cases e3:a3=b3
   ·by_cases e4:a4=b4
    ·by_cases e5:a5=b5
     ·subst e1 e2 e3 e4 e5;go_simp
     ·go_simp
    ·go_simp
   ·go_simp
  ·go_simp
 ·go_simp
theorem wcell_call {W W1:World} {p:Addr} {v:Value} (h:W.cell? p=some v) (hp:p.block<W.heap.size) (hb:Below W.heap.size W W1):W1.cell? p=some v:=(hb.cell hp).trans h
theorem take_eq_succW {xs ys:List Wr} {k:Nat} (hx:k<xs.length) (hy:k<ys.length) (h:xs.take k=ys.take k) (e:xs[k]=ys[k]):xs.take (k+1)=ys.take (k+1):=by
 rw [List.take_succ_eq_append_getElem hx,List.take_succ_eq_append_getElem hy,h,e]
theorem wrsame_any (a b:Option Addr) (ca cb:Nat) (xs ys:List Wr) (w:World) (h1:WrsAt w a xs) (h2:WrsAt w b ys) :
 Calls prog 10 #[.slice a xs.length ca,.slice b ys.length cb] w fun e w'=>e=.returned (.bool (decide (xs=ys)))∧Below w.heap.size w w':=by
 have hm:=h1.len
 have hm2:=h2.len
 by_cases hl:xs.length=ys.length
 ·have HL:=hid hl
  have H1:=hid h1
  have H2:=hid h2
  have hq:((xs.length:Int) != (ys.length:Int))=false:=by simp;omega
  clear h1 h2 hl
  have hWC:=@wC.eq_1
  go_enter func10,ntmps10
  go_wp2_with fail
  go_loopw [5] (fun i wr=>∃k:Nat,k≤xs.length∧i=.int .i64 k∧xs.take k=ys.take k∧Below w.heap.size w wr) (fun i _=>xs.length-(intOf i).toNat)
  case atStart=>exact ⟨0,Nat.zero_le _,rfl,rfl,Below.refl _ _⟩
  case round =>
   obtain ⟨k,hk,rfl,htk,hbel⟩:=hrel
   have HT:=hid htk
   clear htk
   by_cases hlt:k<xs.length
   ·have hy:k<ys.length:=by have:=HL.out;omega
    obtain ⟨xb,xo,rfl,hxb,hx0,hx1,hx2,hx3,hx4⟩:=WrsAt.cells H1.out hlt
    obtain ⟨yb,yo,rfl,hyb,hy0,hy1,hy2,hy3,hy4⟩:=WrsAt.cells H2.out hy
    have c0:=wcell_call hx0 hxb hbel
    have c1:=wcell_call hx1 hxb hbel
    have c2:=wcell_call hx2 hxb hbel
    have c3:=wcell_call hx3 hxb hbel
    have c4:=wcell_call hx4 hxb hbel
    have g0:=wcell_call hy0 hyb hbel
    have g1:=wcell_call hy1 hyb hbel
    have g2:=wcell_call hy2 hyb hbel
    have g3:=wcell_call hy3 hyb hbel
    have g4:=wcell_call hy4 hyb hbel
    clear hx0 hx1 hx2 hx3 hx4 hy0 hy1 hy2 hy3 hy4 H1 H2
    have HX:=hid (take_eq_succW hlt hy HT.out)
    have HN:=hid (show ¬xs[k]=ys[k]→¬xs=ys from fun h e=>by subst e;exact h rfl)
    generalize hx:xs[k]=x at *
    generalize hyy:ys[k]=y at *
    clear hx hyy
    have hrun:=run_wrne x y
    have HB:=hid hbel
    clear hbel
    by_cases he:x=y
    ·have HX2:=hid (HX.out he)
     simp only [he,decide_true,Bool.not_true] at hrun
     subst he
     clear HX HN
     go_wp2_with fail
     go_quiet (fail)
     go_wp2_with fail
     go_roundw
     case rel=>exact ⟨k+1,by omega,by go_num,HX2.out,Ib HB.out _⟩
     case measure=>simp [intOf];omega
    ·have HD:=hid (show decide (xs=ys)=false by simpa using HN.out he)
     simp only [he,decide_false,Bool.not_false] at hrun
     clear he HX HN
     go_wp2_with fail
     go_quiet (fail)
     go_wp2_with fail
     go_ret
     exact ⟨Ag HD.out.symm,Ib HB.out _⟩
   ·have hke:k=xs.length:=by omega
    subst hke
    have HD:=hid (show decide (xs=ys)=true by
     have:=HT.out
     rw [List.take_of_length_le (Nat.le_refl _),HL.out,List.take_of_length_le (Nat.le_refl _)] at this
     simpa using this)
    clear H1 H2
    go_wp2_with fail
    go_ret
    exact ⟨Ag HD.out.symm,hbel⟩
 ·have HD:=hid (show decide (xs=ys)=false by rw [decide_eq_false_iff_not];intro e;exact hl (by rw [e]))
  have hq:((xs.length:Int) != (ys.length:Int))=true:=by simp;omega
  clear h1 h2 hl
  have hWC:=@wC.eq_1
  go_enter func10,ntmps10
  go_wp2_with fail
  go_ret
  exact ⟨Ag HD.out.symm,Below.refl _ _⟩
theorem from_lenA (x y:Wd) (n:Nat):(Fa7 x y n).length≤n:=by unfold Fa7;rw [List.length_map];exact Nat.le_trans (List.length_filter_le _ _) (by simp)
theorem from_lenC (x y:Wd) (n:Nat):(Eq3 x y n).length≤n:=by unfold Eq3;rw [List.length_map];exact Nat.le_trans (List.length_filter_le _ _) (by simp)
theorem from_lenW (x y:Wd) (n:Nat):(Eq2 x y n).length≤n:=by unfold Eq2;rw [List.length_map];exact Nat.le_trans (List.length_filter_le _ _) (by simp)
theorem Dt.less2 {α:Type} {k n m:Nat} {e:TypeId} {enc:α→List Value} {W:World} {v:Value} {xs:List α} (h:Dt k e enc n W v xs) (hm:m≤n):Dt k e enc m W v xs:=by
 obtain ⟨h1,h2⟩:=h
 refine ⟨h1,h2.imp id ?_⟩
 rintro ⟨g,c,cur,e1,hg,r⟩
 exact ⟨g,c,cur,e1,Nat.le_trans hm hg,r⟩
structure Fr (w:World) (x y:Wd) (p q:Wp) (v:Value) (L:List Wr) (W:World):Prop where
 t:Two 29 29 w W (wC x p) (wC y q)
 g:Dt 5 39 wrC (w.heap.size+2) W v L
theorem Fr.drew {w:World} {x y:Wd} {p q:Wp} {v:Value} {L:List Wr} {W:World} (h:Fr w x y p q v L W) (n:Nat):Fr w x y p q v L (W.drewN n) :=
 ⟨h.t.call (Ib (Below.refl _ _) n),h.g.call (Ib (Below.refl _ _) n)⟩
theorem Fr.put {w:World} {x y:Wd} {p q:Wp} {v v2:Value} {L L2:List Wr} {W W2:World} (h:Fr w x y p q v L W) (hg:W.grownBy W2 v.ownBlock) (h2:Dt 5 39 wrC (w.heap.size+2) W2 v2 L2):Fr w x y p q v2 L2 W2 :=
 ⟨⟨h.t.a.grown hg (fun e=>h.g.apart (g:=w.heap.size) (by omega) e.symm),h.t.r.grown hg (fun e=>h.g.apart (g:=w.heap.size+1) (by omega) e.symm),h.g.below h.t.b hg (by omega)⟩,h2⟩
theorem rfrom_any (x y:Wd) (p q:Wp) (w:World) (h:Ab w p x) (h2:Ab w q y) (ha:y.at_.length=x.at_.length) (hc:y.coins.length=x.coins.length) (hw:y.wher.length=x.wher.length) (n1:x.at_.length≤1000) (n2:x.coins.length≤1000) (n3:x.wher.length≤1000) :
 Calls prog 12 #[.agg (wC x p),.agg (wC y q)] w fun e w'=>∃(a:Option Addr) (c:Nat),e=.returned (.slice a (Ao3 x y).length c)∧Dt 5 39 wrC w.heap.size w' (.slice a (Ao3 x y).length c) (Ao3 x y)∧Below w.heap.size w w':=by
 have hlen:=h.wh.len
 have hlen1:=h.at_.len
 have hlen2:=h.co.len
 have F0:=hid (show Fr w x y p q (.slice none 0 0) [] ((w.alloc (.cells (wC x p) 29)).alloc (.cells (wC y q) 29)) from ⟨Two.start _ _ _ _ _,Dt.nil _⟩)
 have H:=hid h
 have K:=hid h2
 have N1:=hid n1
 have N2:=hid n2
 have N3:=hid n3
 have HA:=hid ha
 have HC:=hid hc
 have HW:=hid hw
 clear h h2 ha hc hw n1 n2 n3
 have hWC:=@wC.eq_1
 go_enter func12,ntmps12
 go_wp2_with fail
 generalize ((w.alloc (.cells (wC x p) 29)).alloc (.cells (wC y q) 29))=W0 at *
 go_wp2_with fail
 go_loopw [5,6] (fun v i wr=>∃k:Nat,k≤x.at_.length∧i=.int .i64 k∧Fr w x y p q v (Fa7 x y k) wr) (fun _ i _=>x.at_.length-(intOf i).toNat)
 case atStart=>exact ⟨0,Nat.zero_le _,rfl,(by have h3:=F0.out;simpa [Fa7] using h3)⟩
 case round =>
  obtain ⟨k,hk,rfl,hF⟩:=hrel
  have HF:=hid hF
  clear hF F0
  obtain ⟨hca,hfa,hla⟩:=HF.out.t.a.all
  obtain ⟨hcr,hfr,hlr⟩:=HF.out.t.r.all
  by_cases hlt:k<x.at_.length
  ·have hy:k<y.at_.length:=by have:=HA.out;omega
   have wk:IntKind.i64.wrap ((k:Int)+1)=(k:Int)+1:=IntWalk.i64_in _ (by have:=N1.out;omega)
   have HKL:=hid hlt
   obtain ⟨b,o,hpa,hb,e0⟩:=H.out.at_.at_ hlt
   obtain ⟨b2,o2,hqa,hb2,e2⟩:=K.out.at_.at_ hy
   have c0:=(HF.out.t.b.cell (p:=⟨b,o+k,none⟩) hb).trans (e0 k hlt)
   have c2:=(HF.out.t.b.cell (p:=⟨b2,o2+k,none⟩) hb2).trans (e2 k hy)
   clear e0 e2 hb hb2
   have HMO:=hid (fromA_more x y k)
   have G1:=hid (show atG x k=x.at_[k] by unfold atG;rw [List.getD_eq_getElem?_getD,List.getElem?_eq_getElem hlt,Option.getD_some];try rfl)
   have G2:=hid (show atG y k=y.at_[k] by unfold atG;rw [List.getD_eq_getElem?_getD,List.getElem?_eq_getElem hy,Option.getD_some];try rfl)
   generalize x.at_[k]=u at *
   generalize y.at_[k]=v0 at *
   by_cases he:(u:Int)=v0
   ·have HS:=hid (show Fa7 x y (k+1)=Fa7 x y k by rw [HMO.out,if_pos (by rw [G1.out,G2.out,he])])
    have q0:(u != v0)=false:=by simp [he]
    clear he HMO G1 G2
    go_wp2_with fail
    go_quiet (fail)
    go_wp2_with fail
    go_roundw
    case rel=>exact ⟨k+1,HKL.out,by go_num,by rw [HS.out];exact HF.out.drew _⟩
    case measure=>have:=HKL.out;simp [intOf];omega
   ·have HS:=hid (show Fa7 x y (k+1)=Fa7 x y k++[⟨0,(k:Int),v0,⟨0,0⟩⟩] by rw [HMO.out,if_neg (by rw [G1.out,G2.out];exact he),G2.out])
    have q0:(u != v0)=true:=by simpa using he
    clear he HMO G1 G2
    go_wp2_with fail
    go_quiet (fail)
    have HF1:=hid (HF.out.drew nq)
    have HF1:=hid (HF.out.drew nq)
    have hw1:wr.heap.size≤(wr.drewN nq).heap.size:=Nat.le_refl _
    replace hca:∀i,(wr.drewN nq).cell? ⟨w.heap.size,i,none⟩=((wC x p)[i]?:Option Value):=hca
    replace hcr:∀i,(wr.drewN nq).cell? ⟨w.heap.size+1,i,none⟩=((wC y q)[i]?:Option Value):=hcr
    replace c2:(wr.drewN nq).cell? ⟨b2,o2+k,none⟩=some (.int .i64 v0):=c2
    clear HF c0 hfa hfr hw1
    generalize wr.drewN nq=w1 at *
    obtain ⟨v3,W3,hr3,hg3,hb3⟩:=HF1.out.g.one underlying30 wr_info rfl (by decide) (by decide) wrC_len wrC_one ⟨0,(k:Int),v0,⟨0,0⟩⟩ (by have h1:=N1.out;have h4:(Fa7 x y k).length≤k:=from_lenA x y k;omega) (by have:=HF1.out.t.size;omega)
    have HR3:=hid hr3
    have HF3:=hid (HF1.out.put hb3 hg3)
    clear hr3 hg3 hb3 HF1
    go_wp2_with (at_builtin;refine Bb rfl (.tmp 27) (.tmp 35) 30 rfl _ _ _ W3 rfl rfl HR3.out ?_)
    go_roundw
    case rel=>exact ⟨k+1,HKL.out,by go_num,by rw [HS.out];simpa using HF3.out⟩
    case measure=>have:=HKL.out;simp [intOf];omega
  ·have hke:k=x.at_.length:=by omega
   subst hke
   have F1:=HF
   clear HF hlt hk
   obtain ⟨wqA,hwq⟩:∃z,z=wr:=⟨_,rfl⟩
   subst hwq
   go_wp2_with fail
   go_loopw [5,7] (fun v i wr=>∃k:Nat,k≤x.coins.length∧i=.int .i64 k∧Fr w x y p q v (Fa7 x y x.at_.length++Eq3 x y k) wr) (fun _ i _=>x.coins.length-(intOf i).toNat)
   case atStart=>exact ⟨0,Nat.zero_le _,rfl,(by have h3:=F1.out;simpa [Eq3] using h3)⟩
   case round =>
    obtain ⟨k,hk,rfl,hF⟩:=hrel
    have HF:=hid hF
    clear hF F1
    obtain ⟨hca,hfa,hla⟩:=HF.out.t.a.all
    obtain ⟨hcr,hfr,hlr⟩:=HF.out.t.r.all
    by_cases hlt:k<x.coins.length
    ·have hy:k<y.coins.length:=by have:=HC.out;omega
     have wk:IntKind.i64.wrap ((k:Int)+1)=(k:Int)+1:=IntWalk.i64_in _ (by have:=N2.out;omega)
     have HKL:=hid hlt
     obtain ⟨b,o,hpa,hb,e0⟩:=H.out.co.at_ hlt
     obtain ⟨b2,o2,hqa,hb2,e2⟩:=K.out.co.at_ hy
     have c0:=(HF.out.t.b.cell (p:=⟨b,o+k,none⟩) hb).trans (e0 k hlt)
     have c2:=(HF.out.t.b.cell (p:=⟨b2,o2+k,none⟩) hb2).trans (e2 k hy)
     clear e0 e2 hb hb2
     have HMO:=hid (fromC_more x y k)
     have G1:=hid (show coG x k=x.coins[k] by unfold coG;rw [List.getD_eq_getElem?_getD,List.getElem?_eq_getElem hlt,Option.getD_some];try rfl)
     have G2:=hid (show coG y k=y.coins[k] by unfold coG;rw [List.getD_eq_getElem?_getD,List.getElem?_eq_getElem hy,Option.getD_some];try rfl)
     generalize x.coins[k]=u at *
     generalize y.coins[k]=v0 at *
     by_cases he:(u:Int)=v0
     ·have HS:=hid (show Eq3 x y (k+1)=Eq3 x y k by rw [HMO.out,if_pos (by rw [G1.out,G2.out,he])])
      have q0:(u != v0)=false:=by simp [he]
      clear he HMO G1 G2
      go_wp2_with fail
      go_quiet (fail)
      go_wp2_with fail
      go_roundw
      case rel=>exact ⟨k+1,HKL.out,by go_num,by rw [HS.out];exact HF.out.drew _⟩
      case measure=>have:=HKL.out;simp [intOf];omega
     ·have HS:=hid (show Eq3 x y (k+1)=Eq3 x y k++[⟨1,(k:Int),v0,⟨0,0⟩⟩] by rw [HMO.out,if_neg (by rw [G1.out,G2.out];exact he),G2.out])
      have q0:(u != v0)=true:=by simpa using he
      clear he HMO G1 G2
      go_wp2_with fail
      go_quiet (fail)
      have HF1:=hid (HF.out.drew nq)
      have HF1:=hid (HF.out.drew nq)
      have hw1:wr.heap.size≤(wr.drewN nq).heap.size:=Nat.le_refl _
      replace hca:∀i,(wr.drewN nq).cell? ⟨w.heap.size,i,none⟩=((wC x p)[i]?:Option Value):=hca
      replace hcr:∀i,(wr.drewN nq).cell? ⟨w.heap.size+1,i,none⟩=((wC y q)[i]?:Option Value):=hcr
      replace c2:(wr.drewN nq).cell? ⟨b2,o2+k,none⟩=some (.int .i64 v0):=c2
      clear HF c0 hfa hfr hw1
      generalize wr.drewN nq=w1 at *
      obtain ⟨v3,W3,hr3,hg3,hb3⟩:=HF1.out.g.one underlying30 wr_info rfl (by decide) (by decide) wrC_len wrC_one ⟨1,(k:Int),v0,⟨0,0⟩⟩ (by have h1:=N1.out;have h2:=N2.out;have h4:=from_lenA x y x.at_.length;have h5:=from_lenC x y k;simp only [List.length_append];omega) (by have:=HF1.out.t.size;omega)
      have HR3:=hid hr3
      have HF3:=hid (HF1.out.put hb3 hg3)
      clear hr3 hg3 hb3 HF1
      go_wp2_with (at_builtin;refine Bb rfl (.tmp 55) (.tmp 63) 30 rfl _ _ _ W3 rfl rfl HR3.out ?_)
      go_roundw
      case rel=>exact ⟨k+1,HKL.out,by go_num,by rw [HS.out];simpa using HF3.out⟩
      case measure=>have:=HKL.out;simp [intOf];omega
    ·have hke:k=x.coins.length:=by omega
     subst hke
     have F2:=HF
     clear HF hlt hk
     obtain ⟨wqC,hwq⟩:∃z,z=wr:=⟨_,rfl⟩
     subst hwq
     go_wp2_with fail
     go_loopw [5,8] (fun v i wr=>∃k:Nat,k≤x.wher.length∧i=.int .i64 k∧Fr w x y p q v (Fa7 x y x.at_.length++(Eq3 x y x.coins.length)++Eq2 x y k) wr) (fun _ i _=>x.wher.length-(intOf i).toNat)
     case atStart=>exact ⟨0,Nat.zero_le _,rfl,(by have h3:=F2.out;simpa [Eq2] using h3)⟩
     case round =>
      obtain ⟨k,hk,rfl,hF⟩:=hrel
      have HF:=hid hF
      clear hF F2
      obtain ⟨hca,hfa,hla⟩:=HF.out.t.a.all
      obtain ⟨hcr,hfr,hlr⟩:=HF.out.t.r.all
      by_cases hlt:k<x.wher.length
      ·have hy:k<y.wher.length:=by have:=HW.out;omega
       have wk:IntKind.i64.wrap ((k:Int)+1)=(k:Int)+1:=IntWalk.i64_in _ (by have:=N3.out;omega)
       have HKL:=hid hlt
       obtain ⟨b,o,hpa,hb,e0,e1⟩:=H.out.wh.cells hlt
       obtain ⟨b2,o2,hqa,hb2,e2,e3⟩:=K.out.wh.cells hy
       have c0:=(HF.out.t.b.cell (p:=⟨b,o+k*2,none⟩) hb).trans e0
       have c1:=(HF.out.t.b.cell (p:=⟨b,o+k*2+1,none⟩) hb).trans e1
       have c2:=(HF.out.t.b.cell (p:=⟨b2,o2+k*2,none⟩) hb2).trans e2
       have c3:=(HF.out.t.b.cell (p:=⟨b2,o2+k*2+1,none⟩) hb2).trans e3
       clear e0 e1 e2 e3 hb hb2
       have HMO:=hid (fromW_more x y k)
       have G1:=hid (show whG x k=x.wher[k] by unfold whG;rw [List.getD_eq_getElem?_getD,List.getElem?_eq_getElem hlt,Option.getD_some];try rfl)
       have G2:=hid (show whG y k=y.wher[k] by unfold whG;rw [List.getD_eq_getElem?_getD,List.getElem?_eq_getElem hy,Option.getD_some];try rfl)
       generalize x.wher[k]=u at *
       generalize y.wher[k]=v0 at *
       obtain ⟨uk,ui⟩:=u
       obtain ⟨vk,vi⟩:=v0
       have hrun:=Kj uk ui vk vi
       simp only at c0 c1 c2 c3
       by_cases he:(⟨uk,ui⟩:Pl)=⟨vk,vi⟩
       ·have HS:=hid (show Eq2 x y (k+1)=Eq2 x y k by rw [HMO.out,if_pos (by rw [G1.out,G2.out,he])])
        simp only [he,decide_true,Bool.not_true] at hrun
        clear he HMO G1 G2
        go_wp2_with fail
        go_quiet (fail)
        go_wp2_with fail
        go_roundw
        case rel=>exact ⟨k+1,HKL.out,by go_num,by rw [HS.out];exact HF.out.drew _⟩
        case measure=>have:=HKL.out;simp [intOf];omega
       ·have HS:=hid (show Eq2 x y (k+1)=Eq2 x y k++[⟨2,(k:Int),0,⟨vk,vi⟩⟩] by rw [HMO.out,if_neg (by rw [G1.out,G2.out];exact he),G2.out])
        simp only [he,decide_false,Bool.not_false] at hrun
        clear he HMO G1 G2
        go_wp2_with fail
        go_quiet (fail)
        have HF1:=hid (HF.out.drew nq)
        have HF1:=hid (HF.out.drew nq)
        have hw1:wr.heap.size≤(wr.drewN nq).heap.size:=Nat.le_refl _
        replace hca:∀i,(wr.drewN nq).cell? ⟨w.heap.size,i,none⟩=((wC x p)[i]?:Option Value):=hca
        replace hcr:∀i,(wr.drewN nq).cell? ⟨w.heap.size+1,i,none⟩=((wC y q)[i]?:Option Value):=hcr
        replace c2:(wr.drewN nq).cell? ⟨b2,o2+k*2,none⟩=some (.int .i64 vk):=c2
        replace c3:(wr.drewN nq).cell? ⟨b2,o2+k*2+1,none⟩=some (.int .i64 vi):=c3
        clear HF c0 c1 hfa hfr hw1
        generalize wr.drewN nq=w1 at *
        obtain ⟨v3,W3,hr3,hg3,hb3⟩:=HF1.out.g.one underlying30 wr_info rfl (by decide) (by decide) wrC_len wrC_one ⟨2,(k:Int),0,⟨vk,vi⟩⟩ (by have h1:=N1.out;have h2:=N2.out;have h3:=N3.out;have h4:=from_lenA x y x.at_.length;have h5:=from_lenC x y x.coins.length;have h6:=from_lenW x y k;simp only [List.length_append];omega) (by have:=HF1.out.t.size;omega)
        have HR3:=hid hr3
        have HF3:=hid (HF1.out.put hb3 hg3)
        clear hr3 hg3 hb3 HF1
        go_wp2_with (at_builtin;refine Bb rfl (.tmp 83) (.tmp 91) 30 rfl _ _ _ W3 rfl rfl HR3.out ?_)
        go_roundw
        case rel=>exact ⟨k+1,HKL.out,by go_num,by rw [HS.out];simpa using HF3.out⟩
        case measure=>have:=HKL.out;simp [intOf];omega
      ·have hke:k=x.wher.length:=by omega
       subst hke
       have F3:=HF
       clear HF hlt hk
       have hFL:Fa7 x y x.at_.length++Eq3 x y x.coins.length++Eq2 x y x.wher.length=Ao3 x y:=by rw [Ao3,List.append_assoc]
       have hF:=F3.out
       rw [hFL] at hF
       obtain ⟨a,c,rfl,-⟩:=hF.g.own wrC_len
       have HF:=hid hF
       clear hF F3
       go_wp2_with fail
       go_ret
       exact ⟨a,c,rfl,Dt.less2 HF.out.g (by omega),HF.out.t.b⟩
end Go.Proofs.Ytnhkojpbbdaedaa
