/- Lists of integers with the room that they have; rows of one's own. Over whatever program, but for the appends. -/
import Derived.Test.YtchmbmkdceaboaaGMem
namespace Go.Proofs.Ytchmbmkdceaboaa
open Go.ChangeShapes Go.WideShapes Go.ChangeAt Go.RowKit Go.Proofs.Try
set_option linter.unusedVariables false
open Go.RowKit
def LkAt (w:World) (a:Option Addr) (cap:Nat) (xs:List Int):Prop:=Ae w a xs∧xs.length≤cap∧cap≤maxLen
theorem LkAt.call {w w':World} {a:Option Addr} {cap:Nat} {xs:List Int} (h:LkAt w a cap xs) (hb:Below w.heap.size w w'):LkAt w' a cap xs:=⟨h.1.below hb (Nat.le_refl _),h.2⟩
theorem LkAt.below {w w':World} {a:Option Addr} {cap:Nat} {xs:List Int} (h:LkAt w a cap xs) {B:Nat} (hb:Below B w w') (hB:w.heap.size≤B):LkAt w' a cap xs:=⟨h.1.below hb hB,h.2⟩
def NewA (n:Nat) (a:Option Addr):Prop:=∀q,a=some q→n≤q.block
def inV (xs:List Int):List Value:=xs.map (Value.int .i64)
theorem Hm3 (xs:List Int):∀u∈inV xs,u.oneCell'=true:=by intro u hu;simp [inV] at hu;obtain ⟨x,_,rfl⟩:=hu;rfl
theorem inV_len (xs:List Int):(inV xs).length=xs.length:=by simp [inV]
def RowI (n:Nat) (W:World) (v:Value) (xs:List Int):Prop:=W.ownsRow n 3 1 v xs.length (inV xs)
section
variable {n:Nat} {W W':World} {v:Value} {xs:List Int}
theorem RowI.nil (W:World):RowI n W (.slice none 0 0) []:=World.ownsRow_nil _ _ _ _
theorem RowI.call (h:RowI n W v xs) (hb:Below W.heap.size W W'):RowI n W' v xs:=by
 have hg:W.grownBy W' none:=⟨hb.os,hb.tape,hb.output,hb.size,fun k hk _=>hb.block k hk⟩
 exact World.ownsRow.kept h hg (by cases v.ownBlock<;>simp)
theorem RowI.own (h:RowI n W v xs):∃a cap,v=.slice a xs.length cap∧LkAt W a cap xs∧NewA n a∧(a=none∨∃g cur,a=some ⟨g,0,none⟩∧Blk W g 3 cur∧xs.length≤cur.size):=by
 rcases h.2 with ⟨rfl,h0⟩|⟨g,c,cur,rfl,hg,hh,hc,hm,hsz,htk⟩
 ·have:xs=[]:=List.eq_nil_of_length_eq_zero h0
  subst this
  exact ⟨none,0,rfl,⟨Ae.nil _ _,by simp,by simp⟩,(fun q hq=>by cases hq),.inl rfl⟩
 ·refine ⟨_,c,rfl,⟨⟨by omega,.inr ⟨g,0,rfl,(Blk.lt hh),fun i hi=>?_⟩⟩,hc,hm⟩,(fun q hq=>by cases hq;exact hg),.inr ⟨g,cur,rfl,hh,by omega⟩⟩
  rw [Nat.zero_add,Blk.cell hh]
  have e:(cur.toList.take (xs.length*1))[i]?=(inV xs)[i]?:=by rw [htk]
  rw [List.getElem?_take,if_pos (by omega)] at e
  rw [←Array.getElem?_toList,e]
  simp [inV,hi]
theorem RowI.below (h:RowI n W v xs) {B:Nat} {w:World} (hb:Below B w W) (hB:B≤n) (hw:B≤W.heap.size) (hg:W.grownBy W' v.ownBlock):Below B w W' :=
 hb.grown hg hw (fun q hq=>Nat.le_trans hB (World.ownsRow.lt h q hq).1)
end
theorem Hm2 (W:World) (x:Int):∀j u,(inV [x])[j]?=some u→(W.alloc (.cells #[.int .i64 x] 3)).cell? ((⟨W.heap.size,0,none⟩:Addr).add j)=some u:=by
 intro j u hj
 have e:((⟨W.heap.size,0,none⟩:Addr).add j)=⟨W.heap.size,j,none⟩:=by by_cases h0:j=0<;>simp [Addr.add,h0]
 rw [e,World.cell?_alloc_at _ _ _ _ rfl]
 simpa [inV] using hj
theorem Hg9 {W:World} {b off:Nat} {xs:List Int} (h:∀i (hi:i<xs.length),W.cell? ⟨b,off+i,none⟩=some (.int .i64 xs[i])):∀j u,(inV xs)[j]?=some u→W.cell? ((⟨b,off,none⟩:Addr).add j)=some u:=by
 intro j u hj
 have hl:j<xs.length:=by have:=(List.getElem?_eq_some_iff.1 hj).1;simpa [inV] using this
 have h1:=h j hl
 have e:(inV xs)[j]?=some (.int .i64 xs[j]):=by simp [inV,hl]
 rw [e] at hj
 rw [←Option.some.inj hj]
 by_cases h0:j=0<;>simp [Addr.add,h0] at h1 ⊢<;>exact h1
theorem RowI.one {n:Nat} {W:World} {v:Value} {xs:List Int} (h:RowI n W v xs) (x:Int) (hl:xs.length+1≤1000000) (hb:n≤W.heap.size) :
 ∃v' W',(Builtin.append_ #[22,22] 22 #[v,.slice (some ⟨W.heap.size,0,none⟩) 1 1]).run prog (W.alloc (.cells #[.int .i64 x] 3))=.ok v' W'∧RowI n W' v' (xs++[x])∧W.grownBy W' v.ownBlock:=by
 obtain ⟨i0,hi0,hz0,hz1,hz2⟩:=info_parts Fj
 obtain ⟨v',W',hr,h1,h2,-⟩:=run_append_own (P:=prog) (W.alloc (.cells #[.int .i64 x] 3)) n 22 22 3 i0 (.int .i64 0) 1 8 underlying22 hi0 hz0 hz1 hz2 rfl (by decide) v xs.length (inV xs) (World.ownsRow.kept h (World.grownBy_alloc W _ none) (by cases v.ownBlock<;>simp)) ⟨W.heap.size,0,none⟩ 1 1 (inV [x]) rfl (Hm2 W x) (Hm3 _) (by unfold maxLen;omega) (by omega) (by simp;omega)
 refine ⟨v',W',hr,?_,?_⟩
 ·unfold RowI
  rw [List.length_append,show inV (xs++[x])=inV xs++inV [x] by simp [inV]]
  exact h1
 ·have hg:=World.grownBy_alloc W (.cells #[.int .i64 x] 3) v.ownBlock
  exact ⟨h2.os.trans hg.os,h2.tape.trans hg.tape,h2.output.trans hg.output,Nat.le_trans hg.size h2.size,fun b hb hne=>(h2.block b (Nat.lt_of_lt_of_le hb hg.size) hne).trans (hg.block b hb hne)⟩
theorem RowI.app {n:Nat} {W:World} {v:Value} {xs ys:List Int} (h:RowI n W v xs) {a:Option Addr} {c:Nat} (hy:Ae W a ys) (hv:v≠.slice none 0 0∨ys≠[]) (hl:xs.length+ys.length≤1000000) (hb:n≤W.heap.size) :
 ∃v' W',(Builtin.append_ #[22,22] 22 #[v,.slice a ys.length c]).run prog W=.ok v' W'∧RowI n W' v' (xs++ys)∧W.grownBy W' v.ownBlock:=by
 obtain ⟨i0,hi0,hz0,hz1,hz2⟩:=info_parts Fj
 by_cases hx:ys=[]
 ·subst hx
  have hsrc:Src prog i0.size 22 (.slice a 0 c) 0 [] W:=by
   cases a with
   | none=>exact Src.ofNil (w:=W) underlying22 c
   | some p=>exact Src.ofSlice W underlying22 p 0 c [] (by simp) (by simp) (by simp)
  rcases h.2 with ⟨rfl,h0⟩|⟨g,cc,cur,rfl,hg,hh,hc,hm,hsz,htk⟩
  ·simp at hv
  ·exact ⟨_,W,run_append_nothing W 22 22 22 3 i0 underlying22 hi0 (some ⟨g,0,none⟩) xs.length cc hc _ hsrc,by simpa using h,⟨rfl,rfl,rfl,Nat.le_refl _,fun _ _ _=>rfl⟩⟩
 ·rcases hy.2 with h0|⟨b,off,rfl,hb2,hc⟩
  ·exact absurd h0 hx
  ·obtain ⟨v',W',hr,h1,h2,-⟩:=run_append_own (P:=prog) W n 22 22 3 i0 (.int .i64 0) 1 8 underlying22 hi0 hz0 hz1 hz2 rfl (by decide) v xs.length (inV xs) h ⟨b,off,none⟩ ys.length c (inV ys) (by simp [inV]) (Hg9 hc) (Hm3 _) (by unfold maxLen;omega) (by omega) hb
   refine ⟨v',W',hr,?_,h2⟩
   unfold RowI
   rw [List.length_append,show inV (xs++ys)=inV xs++inV ys by simp [inV]]
   exact h1
theorem full_one {W:World} {a:Option Addr} {xs:List Int} (h:Ae W a xs) (x:Int) (hl:xs.length+1≤1000000) :
 ∃v' W',(Builtin.append_ #[22,22] 22 #[.slice a xs.length xs.length,.slice (some ⟨W.heap.size,0,none⟩) 1 1]).run prog (W.alloc (.cells #[.int .i64 x] 3))=.ok v' W'∧RowI W.heap.size W' v' (xs++[x])∧Below W.heap.size W W'∧v'≠.slice none 0 0:=by
 obtain ⟨i0,hi0,hz0,hz1,hz2⟩:=info_parts Fj
 cases a with
 | none =>
   have hx:xs=[]:=by
    rcases h.2 with h|⟨b,off,h,_⟩
    ·exact h
    ·cases h
   subst hx
   obtain ⟨v',W',hr,h1,h2⟩:=(RowI.nil W:RowI W.heap.size W (.slice none 0 0) []).one x (by simp) (Nat.le_refl _)
   refine ⟨v',W',hr,h1,(Below.refl _ _).grown h2 (Nat.le_refl _) (fun q hq=>by simp [Value.ownBlock] at hq),?_⟩
   rintro rfl
   rcases h1.2 with ⟨-,h0⟩|⟨g,cc,cur,h0,_⟩
   ·simp at h0
   ·cases h0
 | some p =>
   obtain ⟨b,off,sp⟩:=p
   have hold:∀j v,(inV xs)[j]?=some v→(W.alloc (.cells #[.int .i64 x] 3)).cell? ((⟨b,off,sp⟩:Addr).add j)=some v:=by
    rcases h.2 with rfl|⟨b2,off2,hp,hb2,hc⟩
    ·intro j v hj;simp [inV] at hj
    ·cases hp
     exact Hg9 (fun i hi=>(World.cell?_alloc_lt _ _ _ hb2).trans (hc i hi))
   have hr:=run_append_grow (P:=prog) (w:=W.alloc (.cells #[.int .i64 x] 3)) 22 22 3 i0 (.int .i64 0) underlying22 hi0 hz0 ⟨b,off,sp⟩ xs.length xs.length (inV xs) (by rw [hz1];simp [inV]) hold ⟨W.heap.size,0,none⟩ 1 1 (inV [x]) (by rw [hz1];rfl) (Hm2 W x) (by omega) (by omega) (growslice_fits (by omega) (by rw [hz2];omega))
   refine ⟨_,_,hr,?_,?_,by simp⟩
   ·unfold RowI
    have hgc:=grownCap_ge (W.alloc (.cells #[.int .i64 x] 3)) (xs.length+1) xs.length 3
    rw [show (xs++[x]).length=xs.length+1 by simp]
    refine ⟨by simp [inV],.inr ⟨_,_,_,rfl,by simp,heap_alloc_new _ _,hgc,grownCap_le_maxLen _ _ _ _ (by unfold maxLen;omega),?_,?_⟩⟩
    ·simp only [Array.size_append,List.size_toArray,size_zeroCells,inV_len,List.length_cons,List.length_nil,Value.cells,List.size_toArray,Nat.mul_one]
     omega
    ·have e1:(xs.length+1)*1=(inV xs++inV [x]).length:=by simp [inV]
     rw [e1]
     simp only [Array.toList_append,List.append_assoc]
     rw [←List.append_assoc,show inV (xs++[x])=inV xs++inV [x] by simp [inV]]
     exact List.take_left
   ·exact ((b_a _).drew).alloc (by simp) _
end Go.Proofs.Ytchmbmkdceaboaa
