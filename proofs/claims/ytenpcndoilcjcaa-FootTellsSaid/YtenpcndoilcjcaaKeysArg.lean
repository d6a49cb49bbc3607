/- A key, a list of keys that was handed in. -/
import Derived.Test.YtenpcndoilcjcaaGKeysC
namespace Go.Proofs.Ytenpcndoilcjcaa
open Go.ChangeShapes Go.WideShapes Go.ChangeAt Go.RowKit Go.Proofs.Try
set_option linter.unusedVariables false
set_option maxRecDepth 100000
open Go.RowKit Go.Deep Go.Joins
theorem in_i {a:Int} (h:(Lit.int .i64 a).wf=true):-9223372036854775808≤a∧a≤9223372036854775807:=by simp [Lit.wf,IntKind.min,IntKind.max,IntKind.signed,IntKind.bits] at h;omega
theorem Ef6 {H:Type} {enc:TypeId × Value→H} {w:World} {base:Nat} {spare:Nat→Bool} {held:Bool} {fuel:Nat} {cs:List Value} {x:DataW H × List MemPlace}
 (h:DataW.trod enc prog w base spare held fuel 47 cs=some x):∃s:Pl,cs=plC s∧InK s:=by
 have hc:prog.cellsOf 3=1:=by kernel_rfl
 obtain ⟨xs,n,_,_,hl,hxl,hf⟩:=DataW.trod_struct underlying47 h
 rw [show prog.cellsOf 47=2 by kernel_rfl] at hl
 match cs,hl with
 | [a,b],_ =>
   have e0:=hf 0 _ rfl
   have e1:=hf 1 _ rfl
   match xs,hxl with
   | [y0,y1],_ =>
     simp [hc] at e0 e1
     obtain ⟨i,hi,h2,h3⟩:=DataW.trod_int underlying3 e0
     obtain ⟨j,hj,h4,h5⟩:=DataW.trod_int underlying3 e1
     simp only [List.cons.injEq,and_true] at hi hj
     subst hi hj
     exact ⟨⟨i,j⟩,rfl,in_i (by assumption),in_i (by assumption)⟩
theorem Hg6 {H:Type} {enc:TypeId × Value→H} {W:World} {base:Nat} {v:Value} {d:DataW H} {ps:List MemPlace}
 (hv:Value.okWide prog W .any base 47 v) (h:DataW.Trod enc prog W 0 (fun _=>true) true 47 v d ps):∃y:Pl,v=.agg #[.int .i64 y.kind,.int .i64 y.id]∧InK y:=by
 obtain ⟨cs,rfl,_⟩:=okWide_struct underlying47 hv
 obtain ⟨fuel,hf⟩:=h
 obtain ⟨y,he,hy⟩:=Ef6 (show DataW.trod enc prog W 0 (fun _=>true) true fuel 47 cs.toList=some _ from hf)
 exact ⟨y,by rw [←Array.toArray_toList (xs:=cs),he];rfl,hy⟩
theorem Fz6 {H:Type} {enc:TypeId × Value→H} {W:World} {base:Nat} {v:Value} {d:DataW H} {ps:List MemPlace}
 (hv:Value.okWide prog W .any base 32 v) (h:DataW.Trod enc prog W 0 (fun _=>true) true 32 v d ps) :
 ∃(a:Option Addr) (cap:Nat) (l:List Pl),v=.slice a l.length cap∧Au W a l∧∀k∈l,InK k:=by
 obtain ⟨fuel,hf⟩:=h
 have hcv:v.cells.toList=[v]:=by
  have:=okWide_slice underlying32 hv
  obtain ⟨_,_,_,rfl,_⟩:=this
  rfl
 rw [hcv] at hf
 obtain ⟨a,cap,xs,rfl,hr⟩:=Gj (α:={k:Pl // InK k}) (k:=2) (en:=fun k=>plC k.1) (by decide) ⟨⟨0,0⟩,by decide,by decide⟩ underlying32 (by kernel_rfl) (fun _=>rfl)
  (fun n cs y hy=>by obtain ⟨s,he,hs⟩:=Ef6 hy;exact ⟨⟨s,hs⟩,he⟩) hf
 refine ⟨a,cap,xs.map (·.1),by simp,⟨by simpa using hr.1,hr.2.imp (fun h=>by rw [h];rfl) ?_⟩,fun k hk=>by
  obtain ⟨q,_,rfl⟩:=List.mem_map.1 hk;exact q.2⟩
 rintro ⟨b,off,rfl,hb,hc⟩
 refine ⟨b,off,rfl,hb,fun i hi j hj=>?_⟩
 have hi2:i<xs.length:=by simpa using hi
 rw [hc i hi2 j hj]
 simp
end Go.Proofs.Ytenpcndoilcjcaa
