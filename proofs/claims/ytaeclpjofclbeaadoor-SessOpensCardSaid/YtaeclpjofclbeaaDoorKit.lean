/- What every law's last step needs: where a call answers true and leaves all old memory as it was, the row's 'post' holds. Over whatever program; no variables are named. -/
import Derived.Below
import Derived.ChangeSame
import Derived.WideKeyArgs
import Derived.Carry
import Derived.ProofKit
import Derived.Lib.Hide
namespace Go.Proofs.YtaeclpjofclbeaaDoor
open Go.ChangeShapes Go.WideShapes Go.ChangeAt Go.RowKit
theorem lr0 {n:Nat}:n≤n:=Nat.le_refl n
theorem b_a {w:World} (o:Obj):Below w.heap.size w (w.alloc o):=(Below.refl _ _).alloc (Nat.le_refl _) o
theorem bs_1 {w W:World} {k:Nat} {u:Value} (h:Below w.heap.size w W):Below w.heap.size w (W.setCell ⟨w.heap.size+1,k,none⟩ u):=h.setCell (by show w.heap.size≤w.heap.size+1;omega) _
theorem bs_2 {w W:World} {k:Nat} {u:Value} (h:Below w.heap.size w W):Below w.heap.size w (W.setCell ⟨w.heap.size+2,k,none⟩ u):=h.setCell (by show w.heap.size≤w.heap.size+2;omega) _
theorem bl {w w1 w2:World} (h:Below w.heap.size w w1) (k:Below w1.heap.size w1 w2):Below w.heap.size w w2:=h.trans (k.mono h.size)
theorem Ae7 {m:Int} (h:(Lit.int .u32 m).wf=true):0≤m∧m≤4294967295:=by
 simpa [Lit.wf,IntKind.min,IntKind.max,IntKind.signed,IntKind.bits] using h
theorem Ed {m:Int} (h:(Lit.int .u8 m).wf=true):0≤m∧m≤255:=by
 simpa [Lit.wf,IntKind.min,IntKind.max,IntKind.signed,IntKind.bits] using h
theorem Gj3 {m:Int} (h:(Lit.int .u16 m).wf=true):0≤m∧m≤65535:=by
 simpa [Lit.wf,IntKind.min,IntKind.max,IntKind.signed,IntKind.bits] using h
theorem Ta {m:Int} (h:(Lit.int .i64 m).wf=true):-9223372036854775808≤m∧m≤9223372036854775807:=by
 simpa [Lit.wf,IntKind.min,IntKind.max,IntKind.signed,IntKind.bits] using h
section
variable {H:Type} {enc:TypeId × Value→H} {P:Program}
theorem Bi0 (hl:laidOutB P=true) {W W':World} (hb:Below W.heap.size W W') (sp:Nat→Bool) :
 ∀{ts:List TypeId} {vs:List Value} {ds:List (DataW H)} {ps:List MemPlace},(∀t∈ts,P.readableRec t=true∧t<P.types.size) →
  DataW.TrodAll enc P W 0 (fun _=>true) true ts vs ds ps→(∀x∈ps,x.block<W.heap.size∧sp x.block=true)→DataW.TrodAll enc P W' 0 sp true ts vs ds ps
 | [],_,_,_,_,h,_=>by
   obtain ⟨rfl,rfl,rfl⟩:=trodAll_nil h
   exact trodAll_mk0
 | t :: ts,_,_,_,hr,h,hlt=>by
   obtain ⟨v,vs,d,ds,p,q,rfl,rfl,rfl,h1,h2⟩:=trodAll_cons h
   refine ⟨p,q,WideElems.Trod_stays hl (hr t (by simp)).1 (hr t (by simp)).2 h1 (fun x hx=>hb.same (hlt x (by simp [hx])).1) (fun x hx=>(hlt x (by simp [hx])).2),?_,rfl⟩
   exact Bi0 hl hb sp (fun u hu=>hr u (by simp [hu])) h2 (fun x hx=>hlt x (by simp [hx]))
theorem Iy {f:Func} {s:ChangeSpec} {apart fresh handsOn again:Bool} {W W':World} {args:Array Value} {ds:List (DataW H)} {before:List MemPlace} {tb:TypeId}
 (hl:laidOutB P=true) (hv:s.vars=[]) (hp:∀t∈f.params.toList,P.readableRec t=true∧t<P.types.size)
 (hfn:s.fn H ds={ results:=[.lit (.bool true)],args:=ds }) (hr:f.resultTypes=#[tb]) (ht:P.underlying tb=some .bool)
 (hW:DataW.Whole enc P f.params.toList s.vars apart W args.toList ds [] before) (hb:Below W.heap.size W W') :
 s.post enc P f apart fresh handsOn again W args (.bool true) W':=by
 have hlt:∀p∈before,p.block<W.heap.size:=fun p hp=>hW.lt p hp
 have hW0:=hW
 obtain ⟨p,q,hA,hV,hpq,hz,hn⟩:=hW0
 rw [hv] at hV
 have hq:q=[]:=by cases q with|nil=>rfl|cons a b=>exact absurd hV (by simp [DataW.TrodVars])
 subst hq
 rw [List.append_nil] at hpq
 subst hpq
 have hargs:∀sp:Nat→Bool,(∀x∈before,sp x.block=true)→DataW.TrodAll enc P W' 0 sp true f.params.toList args.toList ds before :=
  fun sp hs=>Bi0 hl hb sp hp hA (fun x hx=>⟨hlt x hx,hs x hx⟩)
 have hres:∀(b:Nat) (sp:Nat→Bool) (hd:Bool),DataW.TrodAll enc P W' b sp hd f.resultTypes.toList ((Value.bool true).resultList f.resultTypes.size) [.lit (.bool true)] []:=by
  intro b sp hd
  rw [hr]
  exact trodAll_mk1 (shut_bool ht _)
 have e:s.fn H (ds++[])={ results:=[.lit (.bool true)],args:=ds }:=by rw [List.append_nil];exact hfn
 refine ⟨ds,[],before,[],before,[],hW,?_,?_,?_,World.keptBut_mono (fun x hx=>⟨hx,Or.inr (Or.inl hx)⟩) (hb.frame (·∈before)),fun _=>⟨?_,?_⟩⟩
 ·rw [e];exact hres _ _ _
 ·rw [e];exact hargs _ (fun x hx=>by simpa using hlt x hx)
 ·rw [e,hv];exact rfl
 ·exact ok_one hr rfl (okWide_bool_mk ht _)
 ·refine ⟨_,[],before,⟨[]++before,[],trodAll_append (hargs _ (fun _ _=>rfl)) (hres _ _ _),by rw [hv];exact rfl,by simp,?_,hn⟩,fun x hx _=>hx⟩
  intro b off hx
  rw [hb.frozen (hlt _ hx)]
  exact hz b off hx
end
end Go.Proofs.YtaeclpjofclbeaaDoor
