/- gifts: whose hands; are there such players, such items; are they there. -/
import Derived.Test.YtenpcndoilcjcaaGHoldA
import Derived.Test.YtenpcndoilcjcaaGGiftM
import Derived.Maps.Own
import Derived.Maps.Views
import Derived.Test.YtenpcndoilcjcaaCoinB
namespace Go.Proofs.Ytenpcndoilcjcaa
open Go.ChangeShapes Go.WideShapes Go.ChangeAt Go.RowKit Go.Proofs.Try
set_option linter.unusedVariables false
set_option maxRecDepth 100000
section
end
section
open Go.RowKit Go
def MetB (W:World) (m:Nat) (L:List Int):Prop :=
 ∃(n:Nat) (D:DataW Unit),W.ownsMap prog 3 (plainElem prog 4) m n D∧n≤L.length∧Maps.IsMap D∧∀i:Int,D.atKey (.int .i64 i) (.lit (.bool false))=.lit (.bool (decide (i∈L)))
theorem Em5 (w:World):MetB (w.alloc (.map #[] 0)) w.heap.size [] :=
 ⟨0,.map [],World.ownsMap_made w prog 3 (plainElem prog 4),Nat.le_refl _,⟨_,rfl⟩,fun i=>by simp [DataW.atKey]⟩
theorem Es5 {v:Value} {z:DataW Unit × List MemPlace} {x:Bool} (h:plainElem prog 4 v=some z) (hz:z.1=.lit (.bool x)):v=.bool x:=by
 unfold plainElem at h
 rw [underlying4] at h
 cases v<;>simp at h
 subst h
 simp at hz
 rw [hz]
theorem Cb5 {i:Int} (h:-9223372036854775808≤i∧i≤9223372036854775807):keyOf prog 3 (.int .i64 i)=some (.int .i64 i) :=
 Maps.keyOf_int_mk underlying3 (by simp [Lit.wf,IntKind.min,IntKind.max,IntKind.signed,IntKind.bits];omega)
theorem MetB.lt {W:World} {m:Nat} {L:List Int} (h:MetB W m L):m<W.heap.size:=by obtain ⟨n,D,ho,_⟩:=h;exact ho.lt
theorem Cp1 {P:Program} {ops:Array Oper} {rest:List Oper} {o:Oper} {a:Act} {Q:Exit→Act→World→Prop} {w w':World} (hgd:o.guard=none) (s x y:Operand) (t:TypeId)
 (ho:o.op=.mapUpdate t s x y) (v u z:Value) (hs:a.eval s=v) (hx:a.eval x=u) (hy:a.eval y=z)
 (hrun:(Instr.mapUpdate t v u z).run P w=.ok () w') (h:wpList P ops Q rest (a.put o.dst undef) w'):wpList P ops Q (o :: rest) a w :=
 wpList_plain hgd fun K hK=>by
  unfold Oper.wp
  simp [execOp,ho,hs,hx,hy,hrun,Result.andThen]
  exact hK _ _ h
theorem Bw4 {α:Type} {R:List (List α)} {r:Nat} (hr:r<R.length):(R.take (r+1)).flatten=(R.take r).flatten++R[r]:=by
 rw [List.take_succ_eq_append_getElem hr,List.flatten_append];simp
theorem Eq4 {α:Type} {R:List (List α)} {r k:Nat} (hr:r<R.length):((R.take r).flatten++R[r].take k).Sublist R.flatten:=by
 have h1:((R.take r).flatten++R[r].take k).Sublist ((R.take r).flatten++R[r]):=List.Sublist.append (List.Sublist.refl _) (List.take_sublist _ _)
 rw [←Bw4 hr] at h1
 refine h1.trans ?_
 conv=>rhs;rw [←List.take_append_drop (r+1) R]
 rw [List.flatten_append]
 exact List.sublist_append_left _ _
theorem Dc6 {L:List Int} {y:Int} (h:L.Nodup) (hy:¬y∈L):(L++[y]).Nodup:=by
 rw [List.nodup_append]
 refine ⟨h,by simp,fun a ha b hb e=>?_⟩
 rw [List.mem_singleton] at hb
 subst hb e
 exact hy ha
end
section
section
variable {t u s:TypeId} {w v v1:World} {cs ds z:Array Value}
theorem Tri.setr (h:Tri t u s w v cs ds z) (i:Nat) (y:Value):Tri t u s w (v.setCell ⟨w.heap.size+2,i,none⟩ y) cs ds (z.setIfInBounds i y) :=
 ⟨h.a.far (by show w.heap.size≠w.heap.size+2;omega) y,h.m.far (by show w.heap.size+1≠w.heap.size+2;omega) y,h.r.set_ i y,h.b.setCell (by show w.heap.size≤w.heap.size+2;omega) y⟩
theorem Tri.seta (h:Tri t u s w v cs ds z) (i:Nat) (y:Value):Tri t u s w (v.setCell ⟨w.heap.size,i,none⟩ y) (cs.setIfInBounds i y) ds z :=
 ⟨h.a.set_ i y,h.m.far (by show w.heap.size+1≠w.heap.size;omega) y,h.r.far (by show w.heap.size+2≠w.heap.size;omega) y,h.b.setCell (by show w.heap.size≤w.heap.size;omega) y⟩
theorem Tri.drew (h:Tri t u s w v cs ds z):Tri t u s w v.drew cs ds z:=h.call (Af (Below.refl _ _))
theorem Tri.setm (h:Tri t u s w v cs ds z) (i:Nat) (y:Value):Tri t u s w (v.setCell ⟨w.heap.size+1,i,none⟩ y) cs (ds.setIfInBounds i y) z :=
 ⟨h.a.far (by show w.heap.size≠w.heap.size+1;omega) y,h.m.set_ i y,h.r.far (by show w.heap.size+2≠w.heap.size+1;omega) y,h.b.setCell (by show w.heap.size≤w.heap.size+1;omega) y⟩
end
def TriM (t u s:TypeId) (w v:World) (cs z:Array Value):Prop:=∃ds,Tri t u s w v cs ds z
theorem TriM.mk {t u s:TypeId} {w v:World} {cs ds z:Array Value} (h:Tri t u s w v cs ds z):TriM t u s w v cs z:=⟨ds,h⟩
theorem TriM.setm {t u s:TypeId} {w v:World} {cs z:Array Value} (h:TriM t u s w v cs z) (i:Nat) (y:Value):TriM t u s w (v.setCell ⟨w.heap.size+1,i,none⟩ y) cs z:=h.elim fun _ h=>⟨_,h.setm i y⟩
theorem Fc9 {t u s:TypeId} {w v:World} {cs z:Array Value} (h:TriM t u s w v cs z):Below w.heap.size w v∧w.heap.size+2<v.heap.size∧(∀i,v.cell? ⟨w.heap.size,i,none⟩=cs[i]?)∧(∀i,v.cell? ⟨w.heap.size+2,i,none⟩=z[i]?):=h.elim fun _ h=>⟨h.b,h.r.lt,h.a.cell,h.r.cell⟩
theorem By3 {t u s:TypeId} {w v:World} {cs ds z:Array Value} (h:Tri t u s w v cs ds z):Below w.heap.size w v∧w.heap.size+2<v.heap.size∧(∀i,v.cell? ⟨w.heap.size,i,none⟩=cs[i]?)∧(∀i,v.cell? ⟨w.heap.size+2,i,none⟩=z[i]?):=⟨h.b,h.r.lt,h.a.cell,h.r.cell⟩
def Jp (x:Wd) (l:List Nat) (y:Pl):Wd:=⟨x.d,x.at_,x.coins,setL x.wher l y⟩
theorem Ia (x:Wd) (l:List Nat) (y:Pl):Am x (Jp x l y):=⟨rfl,rfl,rfl,rfl,rfl,rfl,rfl,rfl,rfl,rfl,by simp [Jp]⟩
theorem Bo9 (x:Wd) {l:List Nat} {j:Nat} (hj:j<l.length) (y:Pl):Jp x (l.take (j+1)) y=putW (Jp x (l.take j) y) l[j] y:=by
 unfold Jp putW
 rw [List.take_succ_eq_append_getElem hj,Al9]
theorem Vm {x:Wd} (h:FewW x) (l:List Nat) (y:Pl):FewW (Jp x l y):=⟨h.1,h.2.1,h.2.2.1,by simpa [Jp] using h.2.2.2⟩
def Pe (B:Nat) (W:World) (p q:Wp) (x z:Wd):Prop:=(q=p∧z=x)∨Ao B W q z
theorem Pe.world {w W:World} {B:Nat} {p q:Wp} {x z:Wd} (h:Pe B W p q x z) (hw:Ab w p x) (hb:Below w.heap.size w W):Ab W q z:=by
 rcases h with ⟨rfl,rfl⟩|h
 ·exact hw.below hb (Nat.le_refl _)
 ·exact h.world
theorem Pe.call {B:Nat} {W W':World} {p q:Wp} {x z:Wd} (h:Pe B W p q x z) (hb:Below W.heap.size W W'):Pe B W' p q x z:=h.imp id (fun h=>h.call hb)
theorem Pe.set {B:Nat} {W:World} {p q:Wp} {x z:Wd} (h:Pe B W p q x z) {b:Nat} (hb:b<B) (i:Nat) (u:Value):Pe B (W.setCell ⟨b,i,none⟩ u) p q x z:=h.imp id (fun h=>h.set hb i u)
theorem Fq {W:World} {g:Nat} {t:TypeId} {c0 c1 c2 c3 c4 c5 c6 c7 c8 c9 c10 u0 u1 u2 u3 u4 u5 u6 u7 u8 u9 u10:Value} (h:Blk W g t #[c0,c1,c2,c3,c4,c5,c6,c7,c8,c9,c10]) :
 Blk (((((((((((W.setCell ⟨g,0,none⟩ u0).setCell ⟨g,1,none⟩ u1).setCell ⟨g,2,none⟩ u2).setCell ⟨g,3,none⟩ u3).setCell ⟨g,4,none⟩ u4).setCell ⟨g,5,none⟩ u5).setCell ⟨g,6,none⟩ u6).setCell ⟨g,7,none⟩ u7).setCell ⟨g,8,none⟩ u8).setCell ⟨g,9,none⟩ u9).setCell ⟨g,10,none⟩ u10) g t #[u0,u1,u2,u3,u4,u5,u6,u7,u8,u9,u10]:=by
 have:=((((((((((h.set_ 0 u0).set_ 1 u1).set_ 2 u2).set_ 3 u3).set_ 4 u4).set_ 5 u5).set_ 6 u6).set_ 7 u7).set_ 8 u8).set_ 9 u9).set_ 10 u10
 simpa using this
end
section
theorem Ww {t s:TypeId} {w v:World} {cs z:Array Value} (h:Two t s w v cs z):Below w.heap.size w v∧(∀i,v.cell? ⟨w.heap.size,i,none⟩=cs[i]?)∧(∀i,v.cell? ⟨w.heap.size+1,i,none⟩=z[i]?):=⟨h.b,h.a.cell,h.r.cell⟩
theorem Pn {a b:Int} (h:b=a):Ending.returned (.int .i64 a)=.returned (.int .i64 b):=by rw [h]
theorem Et9 {α:Type} (f:α→Bool) (a b:List α):(a++b).all f=(a.all f&&b.all f):=List.all_append
end
section
end
section
def Nk (N:Nat) (W W':World):Prop:=W.heap.size≤W'.heap.size∧∀b,b≠N→b<W.heap.size→W'.heap[b]?=W.heap[b]?
theorem Nk.refl (N:Nat) (W:World):Nk N W W:=⟨Nat.le_refl _,fun _ _ _=>rfl⟩
theorem Nk.set {N:Nat} {W W':World} (h:Nk N W W') (i:Nat) (u:Value):Nk N W (W'.setCell ⟨N,i,none⟩ u) :=
 ⟨by simpa [World.setCell] using h.1,fun b hb hl=>(Below.heap_setCell W' _ u b (by show b≠N;exact hb)).trans (h.2 b hb hl)⟩
theorem Nk.drew {N:Nat} {W W':World} (h:Nk N W W'):Nk N W W'.drew:=h
theorem OwnR.only {α:Type} {k:Nat} {e t:TypeId} {enc:α→List Value} {n N:Nat} {W W':World} {a:Option Addr} {xs:List α} {cs:Array Value} (h:OwnR k e enc n W a xs) (hN:Blk W N t cs) (hne:e≠t) (ho:Nk N W W'):OwnR k e enc n W' a xs:=by
 obtain ⟨hl,h⟩:=h
 refine ⟨hl,h.imp id ?_⟩
 rintro ⟨b,cs',rfl,hn,hB,hc⟩
 refine ⟨b,cs',rfl,hn,(ho.2 b (fun e1=>?_) hB.lt).trans hB,hc⟩
 subst e1
 unfold Blk at hN hB
 rw [hN] at hB
 simp only [Option.some.injEq,Obj.cells.injEq] at hB
 exact hne hB.2.1.symm
theorem Ao.only {n N:Nat} {W W':World} {p:Wp} {x:Wd} {cs:Array Value} (h:Ao n W p x) (hN:Blk W N 29 cs) (ho:Nk N W W'):Ao n W' p x:=by
 obtain ⟨m1,m2,m3,h1,h2,h3,h4,hd,hdm,ha,ham,hc,hcm,hw⟩:=h.ex
 exact ⟨m1,m2,m3,h1,h2,h3,Nat.le_trans h4 ho.1,⟨hd.ex.only hN (by decide) ho,hd.pl.only hN (by decide) ho,hd.co.only hN (by decide) ho,hd.it.only hN (by decide) ho,hd.bo.only hN (by decide) ho⟩,hdm,ha.only hN (by decide) ho,ham,hc.only hN (by decide) ho,hcm,hw.only hN (by decide) ho⟩
theorem Ao.drew_ {n:Nat} {W:World} {p:Wp} {x:Wd} (h:Ao n W p x):Ao n W.drew p x:=h.call (Af (Below.refl _ _))
theorem Tri.far {t u s:TypeId} {w v:World} {cs ds z:Array Value} (h:Tri t u s w v cs ds z) {g:Nat} (hg:w.heap.size+3≤g) (i:Nat) (y:Value):Tri t u s w (v.setCell ⟨g,i,none⟩ y) cs ds z :=
 ⟨h.a.far (by show w.heap.size≠g;omega) y,h.m.far (by show w.heap.size+1≠g;omega) y,h.r.far (by show w.heap.size+2≠g;omega) y,h.b.setCell (by show w.heap.size≤g;omega) y⟩
theorem Hl {t u s:TypeId} {w v:World} {cs ds z:Array Value} (h:Tri t u s w v cs ds z):Below w.heap.size w v∧(∀j,v.cell? ⟨w.heap.size+1,j,none⟩=(ds[j]?:Option Value)):=⟨h.b,h.m.cell⟩
def OffG (a b:Nat) (A B:Array Value) (W:World):Prop:=(∀j,W.cell? ⟨a,j,none⟩=(A[j]?:Option Value))∧(∀j,W.cell? ⟨b,j,none⟩=(B[j]?:Option Value))
theorem OffG.set {a b r:Nat} {A B:Array Value} {W:World} (ha:a≠r) (hb:b≠r) (h:OffG a b A B W) (i:Nat) (u:Value):OffG a b A B (W.setCell ⟨r,i,none⟩ u) :=
 ⟨fun j=>(World.cell?_setCell_far _ _ _ _ (by simpa using Ne.symm ha)).trans (h.1 j),fun j=>(World.cell?_setCell_far _ _ _ _ (by simpa using Ne.symm hb)).trans (h.2 j)⟩
theorem OffG.drew {a b:Nat} {A B:Array Value} {W:World} (h:OffG a b A B W):OffG a b A B W.drew:=h
def Rw (x:Wd) (i q:Nat) (a b:Int):Wd:=⟨x.d,x.at_,(x.coins.set i a).set q b,x.wher⟩
theorem Mj (x:Wd) (i q:Nat) (a b:Int):Am x (Rw x i q a b):=⟨rfl,rfl,rfl,rfl,rfl,rfl,rfl,rfl,rfl,by simp [Rw],rfl⟩
theorem Qj {x:Wd} (h:FewW x) (i q:Nat) (a b:Int):FewW (Rw x i q a b):=⟨h.1,h.2.1,by simpa [Rw] using h.2.2.1,h.2.2.2⟩
theorem Am.trans' {x y z:Wd} (s1:Am x y) (s2:Am y z):Am x z :=
 ⟨s2.ex.trans s1.ex,s2.pl.trans s1.pl,s2.co.trans s1.co,s2.it.trans s1.it,s2.bo.trans s1.bo,s2.r.trans s1.r,s2.p.trans s1.p,s2.b.trans s1.b,s2.at_.trans s1.at_,s2.c.trans s1.c,s2.w.trans s1.w⟩
theorem Am0 (x:Wd) (i q:Nat) (gs ws:List Nat) (a b:Int):Jp (Jp (Rw x i q a b) gs ⟨1,(q:Int)⟩) ws ⟨1,(i:Int)⟩=trW x i q gs ws a b:=rfl
theorem Zm {x:Wd} (hx:Ai x=true) {i:Nat} (hi:i<x.at_.length):∃h:i<x.coins.length,x.coins[i]=Al x i∧0≤Al x i∧Al x i≤1073741824:=by
 have h:i<x.coins.length:=by rw [(Aj hx).2.2.1];exact hi
 have e:x.coins[i]=Al x i:=by simp [Al,List.getD,List.getElem?_eq_getElem h]
 refine ⟨h,e,?_⟩
 rw [←e]
 exact (Fb hx).2.1 _ (List.getElem_mem h)
end
section
theorem gen_k {A:Type} {K:A→World→Prop} {a:A} {W:World} (F:World→Prop) (hF:F W) (h:∀V,F V→K a V):K a W:=h W hF
theorem Hc1 {v:Value} {a b:Int} (h:b=a):Ending.returned (.tuple #[v,.int .i64 a])=.returned (.tuple #[v,.int .i64 b]):=by rw [h]
section
variable (x:Wd) (pd:Dp) (pa:Option Addr) (pac kb ko pkc:Nat) (pw:Option Addr) (pwc:Nat) (i q:Nat) (kd di it bx pay fee:Int) (gs ws:List Nat) (ga wa:Option Addr) (gc wc:Nat) (w:World) (hx:Ai x=true) (h:Ab w ⟨pd,pa,pac,some ⟨kb,ko,none⟩,pkc,pw,pwc⟩ x) (hi:i<x.at_.length) (hq:q<x.at_.length)
 (hg:Ae w ga (gs.map fun (k:Nat)=>(k:Int))) (hw:Ae w wa (ws.map fun (k:Nat)=>(k:Int))) (hgi:∀k∈gs,k<x.wher.length) (hwi:∀k∈ws,k<x.wher.length) (hgl:gs.length≤16) (hwl:ws.length≤16)
 (hP:Tj x i q (gs.map fun (k:Nat)=>(k:Int)) (ws.map fun (k:Nat)=>(k:Int))=0) (E:Int) (hE:Xe x i q gs ws=E)
include hx h hi hq hg hw hgi hwi hgl hwl hP hE
variable (k1:w.cell? ⟨kb,ko+i,none⟩=some (.int .i64 (Al x i))) (k2:w.cell? ⟨kb,ko+q,none⟩=some (.int .i64 (Al x q)))
include k1 k2
end
end
section
end
end Go.Proofs.Ytenpcndoilcjcaa
