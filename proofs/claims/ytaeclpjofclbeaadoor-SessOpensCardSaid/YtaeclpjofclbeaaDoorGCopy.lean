/- slices.Clone of the lists of a world: each in a block of its own. -/
import Derived.Test.YtaeclpjofclbeaaDoorGDescF
namespace Go.Proofs.YtaeclpjofclbeaaDoor
open Go.ChangeShapes Go.WideShapes Go.ChangeAt Go.RowKit Go.Proofs.Tryd
open Lib (hid)
set_option linter.unusedVariables false
section
theorem Ns {α:Type} {k:Nat} {enc:α→List Value} (he:∀x,(enc x).length=k):∀xs:List α,(xs.flatMap enc).length=xs.length*k
 | []=>by simp
 | x :: r=>by rw [List.flatMap_cons,List.length_append,Ns he r,he,List.length_cons,Nat.add_mul,Nat.one_mul,Nat.add_comm]
theorem Ji {α:Type} {k:Nat} {enc:α→List Value} (he:∀x,(enc x).length=k):∀(xs:List α) (i:Nat) (hi:i<xs.length) (j:Nat),j<k→(xs.flatMap enc)[i*k+j]?=(enc xs[i])[j]?
 | [],i,hi,_,_=>by simp at hi
 | x :: r,0,_,j,hj=>by
   rw [List.flatMap_cons,Nat.zero_mul,Nat.zero_add,List.getElem?_append_left (by rw [he];exact hj)];rfl
 | x :: r,i+1,hi,j,hj=>by
   rw [List.flatMap_cons,List.getElem?_append_right (by rw [he,Nat.add_mul];omega),he,show (i+1)*k+j-k=i*k+j by rw [Nat.add_mul];omega,Ji he r i (by simpa using hi) j hj];rfl
def OwnR {α:Type} (k:Nat) (e:TypeId) (enc:α→List Value) (n:Nat) (W:World) (a:Option Addr) (xs:List α):Prop :=
 xs.length≤maxLen∧((xs=[]∧a=none)∨∃b cs,a=some ⟨b,0,none⟩∧n≤b∧Blk W b e cs∧∀i (hi:i<xs.length) j,j<k→cs[i*k+j]?=(enc xs[i])[j]?)
theorem OwnR.row {α:Type} {k:Nat} {e:TypeId} {enc:α→List Value} {n:Nat} {W:World} {a:Option Addr} {xs:List α} (h:OwnR k e enc n W a xs):Ar k enc W a xs:=by
 obtain ⟨hl,h⟩:=h
 refine ⟨hl,?_⟩
 rcases h with ⟨rfl,rfl⟩|⟨b,cs,rfl,_,hb,hc⟩
 ·exact .inl rfl
 ·exact .inr ⟨b,0,rfl,hb.lt,fun i hi j hj=>by rw [Nat.zero_add,hb.cell];exact hc i hi j hj⟩
theorem Kh {α:Type} {P:Program} (t e:TypeId) (k bytes:Nat) (z:Value) (enc:α→List Value) (hu:P.underlying t=some (.slice e)) (hinfo:(P.info? e).map (fun i=>(i.zero,i.size,i.bytes))=some (some z,k,bytes))
 (hz:z.cells.size=k) (hk:0<k) (hby:bytes≤64) (he:∀x,(enc x).length=k) (hone:∀x,∀u∈enc x,u.oneCell'=true) {W:World} (n:Nat) {a:Option Addr} {cap:Nat} {xs:List α} (hn:Blk W n e #[]) (hx:Ar k enc W a xs) (hl:xs.length≤1000000) :
 ∃g c cur W',(Builtin.append_ #[t,t] t #[.slice (some ⟨n,0,none⟩) 0 0,.slice a xs.length cap]).run P W=.ok (.slice (some ⟨g,0,none⟩) xs.length c) W' ∧
  n≤g∧Blk W' g e cur∧(∀i (hi:i<xs.length) j,j<k→cur[i*k+j]?=(enc xs[i])[j]?)∧Below n W W':=by
 obtain ⟨i0,hi0,hz0,hz1,hz2⟩:=info_parts hinfo
 have hlt:=hn.lt
 have hown:W.ownsRow n e k (.slice (some ⟨n,0,none⟩) 0 0) 0 []:=⟨by simp,.inr ⟨n,0,#[],rfl,Nat.le_refl _,hn,Nat.le_refl _,by unfold maxLen;omega,by simp,by simp⟩⟩
 by_cases hxe:xs=[]
 ·subst hxe
  have hsrc:Src P i0.size t (.slice a 0 cap) 0 [] W:=by
   cases a with
   | none=>exact Src.ofNil (w:=W) hu cap
   | some p=>exact Src.ofSlice W hu p 0 cap [] (by simp) (by simp) (by simp)
  exact ⟨n,0,#[],W,run_append_nothing W t t t e i0 hu hi0 (some ⟨n,0,none⟩) 0 0 lr0 _ hsrc,Nat.le_refl _,hn,fun i hi=>absurd hi (by simp),Below.refl _ _⟩
 ·rcases hx.2 with h|⟨b,off,rfl,hb2,hc⟩
  ·exact absurd h hxe
  ·have hmem:∀j u,(xs.flatMap enc)[j]?=some u→W.cell? ((⟨b,off,none⟩:Addr).add j)=some u:=by
    intro j u hj
    have hjl:j<xs.length*k:=by rw [←Ns he xs];exact (List.getElem?_eq_some_iff.1 hj).1
    have hdiv:j / k<xs.length:=(Nat.div_lt_iff_lt_mul hk).2 hjl
    have hmod:j%k<k:=Nat.mod_lt _ hk
    have e1:j / k*k+j%k=j:=by rw [Nat.mul_comm];exact Nat.div_add_mod j k
    have e2:=Ji he xs (j / k) hdiv (j%k) hmod
    rw [e1,hj] at e2
    have e3:=hc (j / k) hdiv (j%k) hmod
    rw [show off+j / k*k+j%k=off+j by omega,←e2] at e3
    by_cases h0:j=0<;>simp [Addr.add,h0] at e3 ⊢<;>exact e3
   obtain ⟨v',W',hr,h1,h2,-⟩:=run_append_own (P:=P) W n t t e i0 z k bytes hu hi0 hz0 hz1 hz2 hz hk _ 0 [] hown ⟨b,off,none⟩ xs.length cap (xs.flatMap enc) (Ns he xs) hmem
    (fun u hu=>by obtain ⟨x,_,h⟩:=List.mem_flatMap.1 hu;exact hone x u h) (by unfold maxLen;omega) (Nat.le_trans (Nat.mul_le_mul (show 0+xs.length≤1000000 by omega) hby) (by decide)) (by omega)
   have hp:0<xs.length:=List.length_pos_iff.2 hxe
   rcases h1.2 with ⟨_,h0⟩|⟨g,c,cur,rfl,hg,hh,hcap,_,hsz,htk⟩
   ·omega
   ·refine ⟨g,c,cur,W',by rw [hr,Nat.zero_add],hg,hh,fun i hi j hj=>?_,(Below.refl _ _).grown h2 (by omega) (fun q hq=>by have:=(hown.lt q hq).1;exact this)⟩
    have e:(cur.toList.take ((0+xs.length)*k))[i*k+j]?=(([]++xs.flatMap enc):List Value)[i*k+j]?:=by rw [htk]
    have hlt2:i*k+j<xs.length*k:=by
     have:(i+1)*k≤xs.length*k:=Nat.mul_le_mul (by omega) lr0
     rw [Nat.add_mul,Nat.one_mul] at this
     omega
    rw [List.getElem?_take,if_pos (by rw [Nat.zero_add];exact hlt2),List.nil_append,Ji he xs i hi j hj] at e
    simpa using e
theorem Dl0 (x:Ex):(exC x).length=4:=rfl
theorem Ni (x:Pl):(plC x).length=2:=rfl
theorem Dl7 (x:Bool):(blC x).length=1:=rfl
theorem Jl (x:Int):(inC x).length=1:=rfl
theorem Dk9 (x:Ex):∀u∈exC x,u.oneCell'=true:=by intro u hu;simp [exC] at hu;rcases hu with rfl|rfl|rfl|rfl<;>rfl
theorem Zk (x:Pl):∀u∈plC x,u.oneCell'=true:=by intro u hu;simp [plC] at hu;rcases hu with rfl|rfl<;>rfl
theorem Dl6 (x:Bool):∀u∈blC x,u.oneCell'=true:=by intro u hu;simp [blC] at hu;subst hu;rfl
theorem Py (x:Int):∀u∈inC x,u.oneCell'=true:=by intro u hu;simp [inC] at hu;subst hu;rfl
theorem Bw7:(prog.info? 4).map (fun i=>(i.zero,i.size,i.bytes))=some (some (.bool false),1,1):=by kernel_rfl
theorem Co9 (c:Nat) (w:World):(binOp .eql 23 (.slice none 0 c) (.slice none 0 0)).run prog w=.ok (.bool true) w:=by kernel_rfl
theorem Bu0 (p:Addr) (l c:Nat) (w:World):(binOp .eql 23 (.slice (some p) l c) (.slice none 0 0)).run prog w=.ok (.bool false) w:=by kernel_rfl
theorem Gv (a:Option Addr) (c:Nat) (xs:List Int) (w:World) (h:Ar 1 inC w a xs) (hl:xs.length≤1000000) :
 Calls prog 33 #[.slice a xs.length c] w fun e w'=>∃g gc,e=.returned (.slice g xs.length gc)∧OwnR 1 3 inC w.heap.size w' g xs∧Below w.heap.size w w':=by
 cases a with
 | none =>
   have hx:xs=[]:=by
    rcases h.2 with h|⟨b,off,h,_⟩
    ·exact h
    ·cases h
   subst hx
   clear h
   have hq:=Co9 c
   go_enter func33,ntmps33
   go_wp2_with fail
   go_ret
   exact ⟨none,0,rfl,⟨by simp,.inl ⟨rfl,rfl⟩⟩,Below.refl _ _⟩
 | some p =>
   obtain ⟨g,gc,cur,w2,hr,hg,hb,hc,hl2⟩:=Kh 23 3 1 8 (.int .i64 0) inC underlying23 Fj rfl (by decide) (by decide) Jl Py (cap:=c) (xs:=xs) w.heap.size (Blk.new w 3 #[]) (h.alloc _) hl
   have HR:=hid hr
   have HC:=hid hc
   have HB:=hid hb
   have HM:=hid h.1
   have H2:=hid (((Below.refl w.heap.size w).alloc lr0 (.cells #[] 3)).trans hl2)
   clear hr hc hb hl2 h
   have hq:=Bu0 p xs.length c
   go_enter func33,ntmps33
   go_wp2_with (at_builtin;refine Bb rfl (.tmp 5) (.tmp 6) 23 rfl _ _ _ w2 rfl rfl HR.out ?_)
   go_wp2_with fail
   go_ret
   exact ⟨_,_,rfl,⟨HM.out,.inr ⟨g,cur,rfl,hg,HB.out,HC.out⟩⟩,H2.out⟩
theorem Bh3 (c:Nat) (w:World):(binOp .eql 32 (.slice none 0 c) (.slice none 0 0)).run prog w=.ok (.bool true) w:=by kernel_rfl
theorem Av2 (p:Addr) (l c:Nat) (w:World):(binOp .eql 32 (.slice (some p) l c) (.slice none 0 0)).run prog w=.ok (.bool false) w:=by kernel_rfl
theorem Ze (a:Option Addr) (c:Nat) (xs:List Pl) (w:World) (h:Ar 2 plC w a xs) (hl:xs.length≤1000000) :
 Calls prog 40 #[.slice a xs.length c] w fun e w'=>∃g gc,e=.returned (.slice g xs.length gc)∧OwnR 2 57 plC w.heap.size w' g xs∧Below w.heap.size w w':=by
 cases a with
 | none =>
   have hx:xs=[]:=by
    rcases h.2 with h|⟨b,off,h,_⟩
    ·exact h
    ·cases h
   subst hx
   clear h
   have hq:=Bh3 c
   go_enter func40,ntmps40
   go_wp2_with fail
   go_ret
   exact ⟨none,0,rfl,⟨by simp,.inl ⟨rfl,rfl⟩⟩,Below.refl _ _⟩
 | some p =>
   obtain ⟨g,gc,cur,w2,hr,hg,hb,hc,hl2⟩:=Kh 32 57 2 16 (.agg #[.int .i64 0,.int .i64 0]) plC underlying32 Qh rfl (by decide) (by decide) Ni Zk (cap:=c) (xs:=xs) w.heap.size (Blk.new w 57 #[]) (h.alloc _) hl
   have HR:=hid hr
   have HC:=hid hc
   have HB:=hid hb
   have HM:=hid h.1
   have H2:=hid (((Below.refl w.heap.size w).alloc lr0 (.cells #[] 57)).trans hl2)
   clear hr hc hb hl2 h
   have hq:=Av2 p xs.length c
   go_enter func40,ntmps40
   go_wp2_with (at_builtin;refine Bb rfl (.tmp 5) (.tmp 6) 32 rfl _ _ _ w2 rfl rfl HR.out ?_)
   go_wp2_with fail
   go_ret
   exact ⟨_,_,rfl,⟨HM.out,.inr ⟨g,cur,rfl,hg,HB.out,HC.out⟩⟩,H2.out⟩
end
section
section
variable {α:Type} {k:Nat} {e:TypeId} {enc:α→List Value} {n:Nat} {W W':World} {a:Option Addr} {xs:List α}
theorem OwnR.keep (h:OwnR k e enc n W a xs) (hb:∀b,n≤b→b<W.heap.size→W'.heap[b]?=W.heap[b]?):OwnR k e enc n W' a xs:=by
 obtain ⟨hl,h⟩:=h
 refine ⟨hl,h.imp id ?_⟩
 rintro ⟨b,cs,rfl,hn,hB,hc⟩
 exact ⟨b,cs,rfl,hn,(hb b hn hB.lt).trans hB,hc⟩
theorem OwnR.call (h:OwnR k e enc n W a xs) (hb:Below W.heap.size W W'):OwnR k e enc n W' a xs:=h.keep (fun b _ hl=>hb.block b hl)
theorem OwnR.alloc (h:OwnR k e enc n W a xs) (o:Obj):OwnR k e enc n (W.alloc o) a xs:=h.call (b_a _)
theorem OwnR.drew (h:OwnR k e enc n W a xs):OwnR k e enc n W.drew a xs:=h
theorem OwnR.set (h:OwnR k e enc n W a xs) {q:Nat} (hq:q<n) (i:Nat) (u:Value):OwnR k e enc n (W.setCell ⟨q,i,none⟩ u) a xs :=
 h.keep (fun b hn _=>Below.heap_setCell W _ u b (by show b≠q;omega))
theorem OwnR.less (h:OwnR k e enc n W a xs) {m:Nat} (hm:m≤n):OwnR k e enc m W a xs:=by
 obtain ⟨hl,h⟩:=h
 refine ⟨hl,h.imp id ?_⟩
 rintro ⟨b,cs,rfl,hn,hB,hc⟩
 exact ⟨b,cs,rfl,by omega,hB,hc⟩
end
def FewD (d:Ds):Prop:=d.exits.length≤1000000∧d.players.length≤1000000∧d.coins.length≤1000000∧d.items.length≤1000000∧d.boxes.length≤1000000
structure Two (t u:TypeId) (w v:World) (cs z:Array Value):Prop where
 a:Blk v w.heap.size t cs
 r:Blk v (w.heap.size+1) u z
 b:Below w.heap.size w v
section
variable {t s:TypeId} {w v v1:World} {cs z:Array Value}
theorem Two.rr (h:Two t s w v cs z):(∀i,v.cell? ⟨w.heap.size+1,i,none⟩=z[i]?)∧(∀i,v.frozen? ⟨w.heap.size+1,i,none⟩=false)∧w.heap.size+1<v.heap.size:=⟨h.r.cell,h.r.frozen,h.r.lt⟩
theorem Two.start (t s:TypeId) (w:World) (cs z:Array Value):Two t s w ((w.alloc (.cells cs t)).alloc (.cells z s)) cs z :=
 ⟨(Blk.new w _ cs).alloc _,Blk.newn _ _ _ (by simp),(b_a _).alloc (by simp) _⟩
theorem Two.call (h:Two t s w v cs z) (hb:Below v.heap.size v v1):Two t s w v1 cs z:=⟨h.a.call hb,h.r.call hb,bl h.b (hb.mono lr0)⟩
theorem Two.drew (h:Two t s w v cs z):Two t s w v.drew cs z:=⟨h.a,h.r,⟨h.b.os,h.b.tape,h.b.output,h.b.size,h.b.block⟩⟩
theorem Two.set (h:Two t s w v cs z) (i:Nat) (u:Value):Two t s w (v.setCell ⟨w.heap.size,i,none⟩ u) (cs.setIfInBounds i u) z :=
 ⟨h.a.set_ i u,h.r.far (by show w.heap.size+1≠w.heap.size;omega) u,h.b.setCell lr0 u⟩
theorem Two.set2 (h:Two t s w v cs z) (i:Nat) (u:Value):Two t s w (v.setCell ⟨w.heap.size+1,i,none⟩ u) cs (z.setIfInBounds i u) :=
 ⟨h.a.far (by show w.heap.size≠w.heap.size+1;omega) u,h.r.set_ i u,h.b.setCell (by show w.heap.size≤w.heap.size+1;omega) u⟩
theorem Two.alloc (h:Two t s w v cs z) (o:Obj):Two t s w (v.alloc o) cs z:=⟨h.a.alloc o,h.r.alloc o,h.b.alloc h.b.size o⟩
theorem Two.size (h:Two t s w v cs z):w.heap.size+2≤v.heap.size:=h.r.lt
end
end
section
theorem OwnR.in_ {α:Type} {k:Nat} {e:TypeId} {enc:α→List Value} {n:Nat} {W:World} {a:Option Addr} {xs:List α} (h:OwnR k e enc n W a xs) {q:Addr} (hq:a=some q):q.block<W.heap.size:=by
 rcases h.2 with ⟨_,h⟩|⟨b,cs,h,_,hb,_⟩
 ·rw [h] at hq;cases hq
 ·rw [h] at hq;cases hq;exact hb.lt
def FewW (x:Wd):Prop:=FewD x.d∧x.at_.length≤1000000∧x.coins.length≤1000000∧x.wher.length≤1000000
def TwoE (t s:TypeId) (w v:World) (cs:Array Value):Prop:=∃z,Two t s w v cs z
theorem TwoE.mk {t s:TypeId} {w v:World} {cs z:Array Value} (h:Two t s w v cs z):TwoE t s w v cs:=⟨z,h⟩
theorem TwoE.set2 {t s:TypeId} {w v:World} {cs:Array Value} (h:TwoE t s w v cs) (i:Nat) (u:Value):TwoE t s w (v.setCell ⟨w.heap.size+1,i,none⟩ u) cs:=h.elim fun _ h=>⟨_,h.set2 i u⟩
theorem Ry {t s:TypeId} {w v:World} {cs:Array Value} (h:TwoE t s w v cs):Below w.heap.size w v∧w.heap.size<v.heap.size∧(∀i,v.cell? ⟨w.heap.size,i,none⟩=cs[i]?)∧w.heap.size+1<v.heap.size:=h.elim fun _ h=>⟨h.b,h.a.lt,h.a.cell,h.r.lt⟩
end
end Go.Proofs.YtaeclpjofclbeaaDoor
